import PyProof.Rows.All
import Wide.All
import OpenK.AllK
import Wide.FinOn
import HandS.ForList
import HandS.HeadEnd
import HandS.Base
import HandS.Call
import HandS.List
import HandS.Dict
import HandS.ExcInit
import HandS.ExcField
import KE.KExcInit
import KE.KExcIs
import HandS.IsInst
import HandS.ForMost
import HandS.Style
import HandS.RevRange
import HandS.Zip
import HandS.Conv
import HandS.TupAny
import HandS.Flow
import HandS.AnyAll
import KE.GoesMore
import KE.GoesEnum
import KE.KDictZip
import HandS.Keys
import OpenK.KMore
import HandS.TupSets
import HandS.Set
import KE.KeyNested
import KE.SortCalls
import HandS.Deep
import KE.KDictDisplayH
import PyProof.GenCompD
import PyProof.WalksMore
import HandS.EndTab
import KE.KNest
import PySem.Challenge.RW_notinvain_k55_across_calls_never_lessen
set_option Elab.async false
set_option linter.all false
set_option maxRecDepth 100000
set_option maxHeartbeats 4000000
/-! own dicts whose keys are tuples of ints that may be written ones: told by the dict's one object, the keys beside -/
namespace L2
open PySem PySem.Spec PyProof.Rows

abbrev En := List Int × Addr × V
abbrev Er := List Int × Addr × Value
def kh (ks : List Int) : Int := reduceHash (Builtin.Tuple.tupleHashOf (ks.map hashInt))
def enR : En → Er → Prop := fun p q => p.1 = q.1 ∧ p.2.1 = q.2.1 ∧ RelV p.2.2 q.2.2
def dxP (a : Addr) (ws : List En) (h : Heap) : Prop := ws.length ≤ sizeLine ∧ (a == sysModules) = false ∧ ∃ xs : List Er, Paired enR ws xs ∧
  ∃ o es ep, h.get? a = some o ∧ o.ExactDict ∧ o.data = .dict es ep ∧ es.toList = xs.map (fun x => (⟨kh x.1, .ref x.2.1, x.2.2⟩ : DictEntry)) ∧ (xs.map (·.1)).Nodup
def dto (a : Addr) (ws : List En) : HO := .ext (dxP a ws)
theorem dto_ok {P : Program} {w : World} {H : Hp} {h : Heap} {a : Addr} {ws : List En} (x : dxP a ws h) : ObjOk P w H h a (dto a ws) := by
  refine ⟨x, ?_, fun h1 h2 z k => ?_⟩
  · obtain ⟨_, _, _, _, o, _, _, e, _⟩ := x
    exact ⟨o, e⟩
  · obtain ⟨n, d, xs, r, o, es, ep, e, q⟩ := z
    exact ⟨n, d, xs, r, o, es, ep, k o e, q⟩
theorem dto_at {P : Program} {w : World} {H : Hp} {h : Heap} {a : Addr} {ws : List En} (ok : HOk P w H h) (e : H a = some (dto a ws)) : dxP a ws h := by
  have x : ObjOk P w H h a (.ext (dxP a ws)) := ok a _ e
  exact x.1
theorem dto_tbl {a : Addr} {ws : List En} {ps : Array Value} : dto a ws ≠ .tbl ps := fun z => nomatch (show HO.ext _ = HO.tbl ps from z)
theorem dto_tup {a : Addr} {ws : List En} {ps : List V} : dto a ws ≠ .tup ps := fun z => nomatch (show HO.ext _ = HO.tup ps from z)
theorem dto_lst {a : Addr} {ws : List En} {ps : List V} : dto a ws ≠ .lst ps := fun z => nomatch (show HO.ext _ = HO.lst ps from z)
theorem dto_frz {a : Addr} {ws : List En} {o : Obj} {u : HO} : dto a ws ≠ .frz o u := fun z => nomatch (show HO.ext _ = HO.frz o u from z)
theorem dto_own {a x : Addr} {ws : List En} : dto a ws ≠ .own x := fun z => nomatch (show HO.ext _ = HO.own x from z)

/-! ### what a key holds, and its writing -/
def enV (ws : List En) (k : List Int) : Option V := (ws.find? fun p => decide (p.1 = k)).map (·.2.2)
def enPut (ws : List En) (k : List Int) (b : Addr) (y : V) : List En :=
  if (ws.any fun p => decide (p.1 = k)) then ws.map (fun p => if p.1 = k then (p.1, p.2.1, y) else p) else ws ++ [(k, b, y)]
theorem enR_val {ws : List En} {xs : List Er} (r : Paired enR ws xs) (k : List Int) : RelO (enV ws k) ((atKey xs k).map (·.2)) := by
  induction r with
  | nil => exact True.intro
  | @cons p q ps qs h t ih =>
    obtain ⟨h1, _, h2⟩ := h
    unfold enV atKey at ih ⊢
    simp only [List.find?_cons, ← h1]
    cases decide (p.1 = k) with
    | true => exact h2
    | false => exact ih
theorem enR_any {ws : List En} {xs : List Er} (r : Paired enR ws xs) (k : List Int) : (ws.any fun p => decide (p.1 = k)) = (atKey xs k).isSome := by
  induction r with
  | nil => rfl
  | @cons p q ps qs h t ih =>
    unfold atKey at ih ⊢
    simp only [List.find?_cons, List.any_cons, ← h.1, ih]
    cases decide (p.1 = k) <;> simp
theorem enR_put {ws : List En} {xs : List Er} (r : Paired enR ws xs) (k : List Int) {b : Addr} {y : V} {u : Value} (ry : RelV y u) : Paired enR (enPut ws k b y) (storedH xs k b u) := by
  unfold enPut storedH
  rw [enR_any r k]
  by_cases z : (atKey xs k).isSome = true
  · rw [if_pos z, if_pos z]
    clear z
    induction r with
    | nil => exact .nil
    | @cons p q ps qs h t ih =>
      refine .cons ?_ ih
      obtain ⟨h1, h2, h3⟩ := h
      unfold putAt
      dsimp only
      by_cases e : p.1 = k
      · rw [if_pos e, if_pos (h1.symm.trans e)]; exact ⟨h1, h2, ry⟩
      · rw [if_neg e, if_neg fun y => e (h1.trans y)]; exact ⟨h1, h2, h3⟩
  · rw [if_neg z, if_neg z]
    exact Paired.snoc r ⟨rfl, rfl, ry⟩
theorem length_enPut (ws : List En) (k : List Int) (b : Addr) (y : V) : (enPut ws k b y).length ≤ ws.length + 1 := by
  unfold enPut
  split
  · rw [List.length_map]; omega
  · rw [List.length_append]; exact Nat.le_refl _

/-! ### keys -/
theorem int_items {P : Program} {w : World} : ∀ {ks : List Int} {us : List Value}, Vals (ks.map V.int) us → ItemsAre (intKind P w) ks us
  | [], _, r => by cases r; exact .nil
  | k :: ks, _, r => by
    cases r with
    | cons h t =>
      obtain ⟨z, rfl⟩ := h
      exact .cons (by simp [PySem.intKind, Value.isInt]) (int_items t)
theorem tup_key {P : Program} {w : World} {K : PySem.W.Frag} {H : Hp} {h : Heap} {b : Addr} {ks : List Int} (X : K.In h) (ok : HOk P w H h) (e : SqT K H b (ks.map V.int)) : (tupleKind (intKind P w)).is h ks b := by
  rcases e with e | ⟨o, its, n, e1, e2, e3, _, r⟩
  · obtain ⟨_, its, r, o, h1, h2, n, h3⟩ := (show ObjOk P w H h b (.tup (ks.map V.int)) from e.ok ok)
    exact ⟨o, its.toArray, n, h1, h2, h3, by simpa using int_items r⟩
  · exact ⟨o, its, n, X _ _ e1, e2, e3, int_items r⟩
abbrev EnK (K : PySem.W.Frag) (H : Hp) (ws : List En) : Prop := ∀ p ∈ ws, SqT K H p.2.1 (p.1.map V.int)
theorem dto_of {P : Program} {w : World} {K : PySem.W.Frag} {H : Hp} {h : Heap} {a : Addr} {ws : List En} (X : K.In h) (ok : HOk P w H h) (e : H a = some (dto a ws)) (hk : EnK K H ws) :
    ws.length ≤ sizeLine ∧ (a == sysModules) = false ∧ ∃ xs, Paired enR ws xs ∧ h.DictOfH (tupleKind (intKind P w)) a xs := by
  obtain ⟨n, d, xs, r, o, es, ep, h1, h2, h3, h4, h5⟩ := dto_at ok e
  refine ⟨n, d, xs, r, o, es, ep, h1, h2, h3, h4, ?_, h5⟩
  clear h4 h5 n e
  induction r with
  | nil => intro x hx; cases hx
  | @cons p q ps qs hq t ih =>
    intro x hx
    rcases List.mem_cons.mp hx with z | hx
    · subst z
      have y := hk p List.mem_cons_self
      rw [hq.1, hq.2.1] at y
      exact tup_key X ok y
    · exact ih (fun p hp => hk p (List.mem_cons_of_mem _ hp)) x hx

section
variable {X : Cx} {pins : List (Addr × Obj)} {σ : St} {H : Hp} {s : Shared} {a b : Addr} {ws : List En} {k : List Int} {u r : Value} {v : V} {A : Around} {E : Value → Shared → Prop}
theorem dto_getItem {Q : Value → Shared → Prop} (hu : A.units + 1 < cLine) (I : Inv X pins σ H s) (e : H a = some (dto a ws)) (hk : EnK X.K H ws) (eb : SqT X.K H b (k.map V.int)) (l : enV ws k = some v) (h : ∀ w' s', Inv X pins σ H s' → RelV v w' → Q w' s') :
    wpAny (model X.prog X.w) A (getItem (.ref a) (.ref b)) Q E s := by
  obtain ⟨_, _, xs, rel, dd⟩ := dto_of (P := X.prog) (w := X.w) I.kIn I.hok e hk
  obtain ⟨w', hw, rw'⟩ := RelO.some_of (v := v) (o := (atKey xs k).map (·.2)) (by rw [← l]; exact enR_val rel k)
  obtain ⟨p, hp, rfl⟩ := Option.map_eq_some_iff.mp hw
  exact wpAny_getItem_heap (tupleKind_room_in1 hu) (tup_key I.kIn I.hok eb) dd hp (h _ _ (I.tok _) rw')
theorem dto_isSome {ws : List En} {xs : List Er} (r : Paired enR ws xs) (k : List Int) : (atKey xs k).isSome = (enV ws k).isSome := by
  rw [← enR_any r k]
  unfold enV
  rw [Option.isSome_map]
  clear r
  induction ws with
  | nil => rfl
  | cons p ps ih =>
    simp only [List.find?_cons, List.any_cons, ih]
    cases decide (p.1 = k) <;> simp
theorem dto_in {Q : Value → Shared → Prop} (hu : A.units + 1 < cLine) (I : Inv X pins σ H s) (e : H a = some (dto a ws)) (hk : EnK X.K H ws) (eb : SqT X.K H b (k.map V.int)) (h : ∀ s', Inv X pins σ H s' → Q (.bool (enV ws k).isSome) s') :
    wpAny (model X.prog X.w) A (compareOp .In (.ref b) (.ref a)) Q E s := by
  obtain ⟨_, hd, xs, rel, dd⟩ := dto_of (P := X.prog) (w := X.w) I.kIn I.hok e hk
  refine wpAny_in_heap (tupleKind_room_in1 hu) (tup_key I.kIn I.hok eb) hd dd ?_
  rw [dto_isSome rel k]
  exact h _ (I.tok _)
theorem dto_notIn {Q : Value → Shared → Prop} (hu : A.units + 1 < cLine) (I : Inv X pins σ H s) (e : H a = some (dto a ws)) (hk : EnK X.K H ws) (eb : SqT X.K H b (k.map V.int)) (h : ∀ s', Inv X pins σ H s' → Q (.bool (!(enV ws k).isSome)) s') :
    wpAny (model X.prog X.w) A (compareOp .NotIn (.ref b) (.ref a)) Q E s := by
  obtain ⟨_, hd, xs, rel, dd⟩ := dto_of (P := X.prog) (w := X.w) I.kIn I.hok e hk
  refine wpAny_notIn_heap (tupleKind_room_in1 hu) (tup_key I.kIn I.hok eb) hd dd ?_
  rw [dto_isSome rel k]
  exact h _ (I.tok _)
theorem dto_setItem {Q : Unit → Shared → Prop} (hu : A.units + 1 < cLine) (I : Inv X pins σ H s) (e : H a = some (dto a ws)) (hk : EnK X.K H ws) (eb : SqT X.K H b (k.map V.int)) (rv : RelV v r) (hl : ws.length < sizeLine)
    (h : ∀ s', Inv X pins σ (upd H a (dto a (enPut ws k b v))) s' → Q () s') : wpAny (model X.prog X.w) A (setItem (.ref a) (.ref b) r) Q E s := by
  obtain ⟨_, hd, xs, rel, dd⟩ := dto_of (P := X.prog) (w := X.w) I.kIn I.hok e hk
  have hz : xs.length ≤ sizeLine := by rw [← Paired.length rel]; omega
  refine wpAny_setItem_heap (hsz := hz) (tupleKind_room_in1 hu) (tup_key I.kIn I.hok eb) dd fun h' dd' hs => h _ ?_
  obtain ⟨o, es, ep, h1, h2, h3, h4, _, h5⟩ := dd'
  have hl2 : (enPut ws k b v).length ≤ sizeLine := by have := length_enPut ws k b v; omega
  exact d_write I (by rw [e]; exact True.intro) hs ⟨o, h1⟩ (dto_ok ⟨hl2, hd, _, enR_put rel k rv, o, es, ep, h1, h2, h3, h4, h5⟩)
end
theorem dto_empty {P : Program} {w : World} {H : Hp} (h : Heap) (hb : sysModules < h.objs.size) : ObjOk P w H (h.push { cls := .type "dict", data := .dict #[] }) h.objs.size (dto h.objs.size []) :=
  dto_ok ⟨Nat.zero_le _, beq_eq_false_iff_ne.mpr (Ne.symm (Nat.ne_of_lt hb)), [], .nil, _, #[], 0, Heap.get?_push_size _ rfl, ⟨rfl, rfl, rfl⟩, rfl, rfl, List.nodup_nil⟩
end L2

/-! own exceptions as values: made by a call, one field stored by __init__, the field read; under any built-in base -/
namespace L2
open PySem PySem.Spec PyProof.Rows
/-- what the written part says of an exception class of one's own -/
structure XC (K : PySem.W.Frag) (tl : List Value) (newId : String) (C : Addr) : Prop where
  ini : PySem.W.excInitIn K C tl newId = true
  over : PySem.W.excOver K C tl = true
  sa : PySem.W.findIn K (.ref C) "__setattr__" = some (some (.builtin "object.__setattr__"))
  ga : PySem.W.findIn K (.ref C) "__getattribute__" = some (some (.builtin "BaseException.__getattribute__"))
  gg : PySem.W.findIn K (.ref C) "__getattr__" = some none
  exC : PySem.W.subIn K (.ref C) (.type "BaseException") = some true
  hdC : PySem.W.hasDictIn K C = true
  kC : PySem.W.keepIn K (.ref C) = true
  tyC : PySem.W.typeIn K (.ref C) = some (.type "type")
abbrev exOf (C t1 : Addr) (d : Option Addr) : Obj := { cls := .ref C, dict := d, data := .fields #[.ref t1, .none, .none, .none, .bool false, .none] }
section
variable {X : Cx} {pins : List (Addr × Obj)} {σ : St} {H : Hp} {s : Shared} {a C : Addr} {f : Str} {y : V} {u : Value} {Q : Unit → Shared → Prop} {E : Value → Shared → Prop} {A : Around} {tl : List Value} {B newId : String}
/-- behind self.f = y, the first store -/
def stored1 (H : Hp) (a C dx : Addr) (f : Str) (y : V) : Hp := upd (upd (upd H dx (exd dx [])) a (exo a C (some dx))) dx (exd dx [(f, y)])
theorem xst_new (SF : StoreFacts B tl "object.__setattr__" "object") (T : XC X.K tl newId C) (I : Inv X pins σ H s) (e : H a = some (exo a C none)) (hno : PySem.W.findIn X.K (.ref C) f = some none) (ry : RelV y u)
    (h : ∀ dx s', H dx = none → dx ≠ a → Inv X pins σ (stored1 H a C dx f y) s' → Q () s') : wpAny (model X.prog X.w) A (setAttr (.ref a) f u) Q E s := by
  obtain ⟨t1, ho⟩ := exo_at I.hok e
  obtain ⟨hp, g, d, t, os⟩ := s
  have hs : hp.objs.size ≤ hp.objs.size := Nat.le_refl _
  have nn : H hp.objs.size = none := I.hok.fresh hs
  have na : hp.objs.size ≠ a := fun z => by rw [z, e] at nn; cases nn
  obtain ⟨cd, hc, hd⟩ : ∃ cd, PySem.W.clsIn X.K C = some cd ∧ cd.hasDict = true := by
    exact PySem.W.any_some T.hdC
  refine PySem.W.set_plain I.kIn (ox := exOf C t1 none) (od := none) ⟨ho, rfl, rfl, trivial⟩ T.sa ?_
  refine PySem.W.osa_openX (od := none) (ox := exOf C t1 none) (r := none) SF I.kIn ⟨ho, rfl, rfl, trivial⟩ T.over (by unfold PySem.W.takerIn; rw [hno]; rfl) fun b => ?_
  refine wpAny_bind (wpAny_pure (wpAny_bind (PySem.W.instanceDict_exc (t := t1) (c2 := .none) ho (PySem.W.looks_clsIn I.kIn hc) hd ?_)))
  -- the new dict
  have J1 : Inv X pins σ (upd H hp.objs.size (exd hp.objs.size [])) ⟨hp.push { cls := .type "dict", data := .dict #[] }, g, d, t, os⟩ :=
    I.laid (t' := t) (a := hp.objs.size) (o := exd hp.objs.size []) (fun _ _ q => Heap.get?_push_of_some _ q) hs
      (exd_ok (mA := fun _ => none) ⟨_, #[], _, Heap.get?_push_at rfl rfl, rfl, fun e he => absurd he (by simp), List.Pairwise.nil, fun _ => rfl⟩ fun _ => True.intro)
  have ea : upd H hp.objs.size (exd hp.objs.size []) a = some (exo a C none) := by rw [upd_ne (Ne.symm na)]; exact e
  have hg1 : (hp.push { cls := .type "dict", data := .dict #[] }).get? a = some (exOf C t1 none) := Heap.get?_push_of_some _ ho
  have hg2 := Heap.get?_update_self (fun o => ({ o with dict := some hp.objs.size } : Obj)) hg1 rfl
  have k2 : ∀ b u, b ≠ a → (hp.push { cls := .type "dict", data := .dict #[] }).get? b = some u → ((hp.push { cls := .type "dict", data := .dict #[] }).update a fun o => { o with dict := some hp.objs.size }).get? b = some u :=
    fun b u hb q => by rw [Heap.get?_update_other _ _ (Ne.symm hb)]; exact q
  have J2 := J1.write (t' := t) (x := a) (e := a) (o := exo a C (some hp.objs.size)) (by rw [ea]; exact True.intro) (.inl rfl) k2 ⟨_, hg2⟩ (exo_ok hg2)
  have ed : upd (upd H hp.objs.size (exd hp.objs.size [])) a (exo a C (some hp.objs.size)) hp.objs.size = some (exd hp.objs.size []) := by rw [upd_ne na, upd_same]
  obtain ⟨mA, hns, rel⟩ := exd_at J2.hok ed
  refine PySem.OEX.store_in_old (m0 := mA) (ns := []) hns (within_of rel) (by decide) fun h' tk' hn' hsb => ?_
  have J3 := J2.write (t' := tk') (x := hp.objs.size) (e := hp.objs.size) (o := exd hp.objs.size [(f, y)]) (by rw [ed]; exact True.intro) (.inl rfl) (fun b o hb q => (hsb.2 b hb).trans q)
    (by obtain ⟨o, _, _, e', _⟩ := hn'; exact ⟨o, e'⟩) (exd_ok hn' (relO_put (fs := []) ry rel))
  exact h _ _ nn na J3
end
end L2
namespace L2
open PySem PySem.Spec PyProof.Rows
section
variable {X : Cx} {pins : List (Addr × Obj)} {σ : St} {H : Hp} {s : Shared} {a C : Addr} {E : Value → Shared → Prop} {A : Around} {tl : List Value} {B newId initId : String}
theorem exo_same (e : H a = some (exo a C none)) : upd H a (exo a C none) = H := by
  funext b
  by_cases hb : b = a
  · rw [hb, upd_same, e]
  · rw [upd_ne hb]
/-- the base's own __init__: nothing of it is told -/
theorem xinit_ok {us : List Value} {Q : Value → Shared → Prop} (FB : ExcBaseFacts B newId initId tl) (T : XC X.K tl newId C) (I : Inv X pins σ H s) (e : H a = some (exo a C none)) (hl : us.length ≤ sizeLine) (h : ∀ s', Inv X pins σ H s' → Q .none s') :
    wpAny (model X.prog X.w) A (call (.builtin initId) (.ref a :: us)) Q E s := by
  obtain ⟨nm, N, qn, bs, bm, hdct, sn, sub, ab, col, dd, k0, k1, k2, k3, k5, hC, hT⟩ := PySem.W.excInit_of I.kIn T.ini
  obtain ⟨t1, ho⟩ := exo_at I.hok e
  obtain ⟨hp, g, d, t, os⟩ := s
  refine wpAny_call (PySem.HandSPX.init_base FB hT hC ho hl fun h' t2 k hx => ?_)
  have J := I.write (t' := t) (x := a) (e := a) (o := exo a C none) (by rw [e]; exact True.intro) (.inl rfl) k ⟨_, hx⟩ (exo_ok hx)
  rw [exo_same e] at J
  exact h _ J
/-- Base.__init__(self, ..) -/
def tXInit (K : PySem.W.Frag) (tl : List Value) (newId : String) (ta : TA) : TE := fun σ H Q => ta σ H fun vs H1 => ∃ (a C : Addr) (ws : List V), vs = .ref a :: ws ∧ ws.length ≤ 1000 ∧ XC K tl newId C ∧ H1 a = some (exo a C none) ∧ Q .non H1
theorem pe_xinit {bn : Str} {e : Expr} {es : List Expr} {ta : TA} {p1 p2 pos : Pos} {pl : Sem Bool} (FB : ExcBaseFacts B newId initId tl) (hb : bootBuiltins bn = some (.type B)) (hty : typeOf (.type B) = pure (.type "type")) (hst : Manifest.isStub B = false) (hhd : PySem.W.handedIn (.builtin initId) = true)
    (hg : Gl X bn) (hm : X.mg bn = none) (vV : PySem.W.findCls X.K (.type B) (.type "type") "__init__" = some (.val (.builtin initId))) (ha : PA X (e :: es) ta) (h1 : bn ≠ "__name__") (h2 : (bn == ("__debug__" : Str)) = false)
    (hc : eval (.Call (.Attribute (.Name bn p1) "__init__" p2) (e :: es) [] pos) X.env = (do
      let ov ← eval (.Name bn p1) X.env
      standAt p2.atName
      let (f, first) ← holding [ov] (getMethod ov "__init__" pl)
      callWith pos f first (backTo pos (starEach (e :: es) X.env)) (backToKw pos (keywordEach [] X.env))) := by rfl)
    (he : starEach (e :: es) X.env = (false, eval e X.env) :: starEach es X.env := by rfl) (hpl : (backTo pos (starEach es X.env)).any (·.1) = false := by rfl) :
    PE X (.Call (.Attribute (.Name bn p1) "__init__" p2) (e :: es) [] pos) (tXInit X.K tl newId ta) := by
  refine ⟨fun pins s σ H Q I h => PySem.W.methodCall_KW (ld_blt I hg hm hb ?_ h1 h2) hc⟩
  obtain ⟨m, fr⟩ := I.fr
  refine PySem.W.method_type fr I.ok.mod.kin hty hst vV hhd ?_
  show wpAny _ _ (callWith pos (Value.builtin initId) [] (backTo pos (starEach (e :: es) X.env)) []) _ _ _
  refine PyProof.Rows.callWith_method1 (thn (ha.run pos pins _ σ H _ (I.tok _) h) fun us s1 ⟨vs, H1, I1, r1, a, C, ws, ev, hl, T, ea, q⟩ => ?_) he hpl
  subst ev
  cases r1 with
  | @cons _ u0 _ ur ra rw' =>
    cases ra
    have hlen : ur.length ≤ sizeLine := by
      have := Paired.length rw'
      rw [sizeLine_eq]
      omega
    exact xinit_ok FB T I1 ea hlen fun s' J => ⟨.non, H1, J, rfl, q⟩
/-- self.f = e, the first store -/
def tXst (K : PySem.W.Frag) (tl : List Value) (newId : String) (f : Str) (to te : TE) : TS := fun D σ H => te σ H fun y H1 => to σ H1 fun x H2 => ∃ a C : Addr, x = .ref a ∧ XC K tl newId C ∧ PySem.W.findIn K (.ref C) f = some none ∧
  H2 a = some (exo a C none) ∧ ∀ dx, H2 dx = none → dx ≠ a → D.nx σ (stored1 H2 a C dx f y)
theorem ps_xst {o e : Expr} {to te : TE} {f : Str} {p' pos : Pos} (SF : StoreFacts B tl "object.__setattr__" "object") (ho : PE X o to) (he : PE X e te) (hs : swapsWith e (some (.Attribute o f p')) pos.line X.env = pure false := by rfl) :
    PS X (.Assign [.Attribute o f p'] e pos) (tXst X.K tl newId f to te) := by
  refine ⟨fun pins s σ H D I h => plainObj_wpAny_Assign_Attribute (thn (he.run pins s σ H _ I h) fun v s1 ⟨y, H1, I1, r1, q1⟩ => thn (ho.run pins s1 σ H1 _ I1 q1) fun u s2 ⟨x, H2, I2, r2, a, C, ex, T, hno, ea, q⟩ => ?_) hs⟩
  subst ex
  cases r2
  exact xst_new SF T I2 ea hno r1 fun dx s' n ne J => ⟨σ, _, J, q dx n ne⟩
/-- the exception is made, its own __init__ has run -/
theorem xmk_call {CX : CXT} {fI : Addr} {k : Nat} {fd : FuncData} {ps : List Str} {sp : Sp} {vs : List V} {us : List Value} {Q : VK} (FB : ExcBaseFacts B newId initId tl) (T : XC X.K tl newId C)
    (iC : PySem.W.findIn X.K (.ref C) "__init__" = some (some (.ref fI))) (tI : PySem.W.typeIn X.K (.ref fI) = some (.type "function"))
    (F1 : FnOk X.prog X.w X.K X.mg X.base CX k fI fd ps sp) (hr : Room (k + 1) X.A) (hb : Binds X.K fd ps []) (hx : Passes CX X (fun _ _ _ => False)) (I : Inv X pins σ H s) (r1 : Vals vs us) (hz : vs.length ≤ 1000)
    (q1 : ∀ a, H a = none → sp (.ref a :: vs) (upd H a (exo a C none)) (fun v H2 => v = .non ∧ Q (.ref a) H2) fun _ _ _ => False) :
    wpAny (model X.prog X.w) X.A (call (.ref C) us) (EP X pins σ Q) X.xe s := by
  obtain ⟨nm, N, qn, bs, bm, hdct, sn, sub, ab, col, dd, k0, k1, k2, k3, k5, hC, hT⟩ := PySem.W.excInit_of I.kIn T.ini
  obtain ⟨hp, g, dr, tk, os⟩ := s
  have hsz : hp.objs.size ≤ hp.objs.size + 1 := Nat.le_succ _
  have hq := q1 (hp.objs.size + 1) (I.hok.fresh hsz)
  have kk : ∀ b o, hp.get? b = some o → ((hp.push (PySem.W.kdv_tup us)).push (PySem.HandSPX.excO C hp.objs.size)).get? b = some o := fun b o e => Heap.get?_push_of_some _ (Heap.get?_push_of_some _ e)
  have hget : ((hp.push (PySem.W.kdv_tup us)).push (PySem.HandSPX.excO C hp.objs.size)).get? (hp.objs.size + 1) = some (PySem.HandSPX.excO C hp.objs.size) := by heap_get
  have I2 := I.laid (t' := tk) (a := hp.objs.size + 1) (o := exo (hp.objs.size + 1) C none) kk hsz (exo_ok hget)
  have r2 : Vals (V.ref (hp.objs.size + 1) :: vs) (Value.ref (hp.objs.size + 1) :: us) := .cons rfl r1
  have hl : (Value.ref (hp.objs.size + 1) :: us).length = ps.length := r2.length.symm.trans (F1.len _ _ _ _ hq)
  have hus : us.length ≤ sizeLine := by
    have := Paired.length r1
    rw [sizeLine_eq]
    omega
  refine wpAny_call (PySem.HandSPX.call_own FB hT hC (PySem.W.looks_findIn I.kIn iC) (fun self => PySem.W.bind_fn I.kIn self tI) hus (codeAny_mono (F1.run _ X.stack _ _ ⟨Value.ref (hp.objs.size + 1) :: us, []⟩ _ _ _ (fun _ _ _ => False)
    (hr.make C us []) (I2.env0.make C us []) (by simpa using hb _ (Value.ref (hp.objs.size + 1) :: us) I2.kIn (by simpa using hl)) r2 hq) fun r s' hq' => ?_))
  cases r with
  | error er => exact hx pins σ _ _ er s' I2 hq'
  | ok fl =>
    cases fl with
    | ret u =>
      obtain ⟨v, H2, os2, bare2, un2, hok2, rv, ev, q2⟩ := hq'
      subst ev
      cases rv
      exact ⟨rfl, .ref (hp.objs.size + 1), H2, I2.call' (ch := []) os2 un2 hok2 bare2 (fun b z => absurd z (by simp)), rfl, q2⟩
    | next => exact hq'.elim
    | brk => exact hq'.elim
    | cont => exact hq'.elim
def tXMk (C : Addr) (sp : Sp) (ta : TA) : TE := fun σ H Q => ta σ H fun vs H1 => vs.length ≤ 1000 ∧ ∀ a, H1 a = none → sp (.ref a :: vs) (upd H1 a (exo a C none)) (fun v H2 => v = .non ∧ Q (.ref a) H2) fun _ _ _ => False
theorem pe_xmk {CX : CXT} {x : Str} {fI : Addr} {k : Nat} {fd : FuncData} {ps : List Str} {sp : Sp} {e : Expr} {es : List Expr} {ta : TA} {p pos : Pos} (FB : ExcBaseFacts B newId initId tl) (T : XC X.K tl newId C)
    (iC : PySem.W.findIn X.K (.ref C) "__init__" = some (some (.ref fI))) (tI : PySem.W.typeIn X.K (.ref fI) = some (.type "function"))
    (F1 : FnOk X.prog X.w X.K X.mg X.base CX k fI fd ps sp) (hr : Room (k + 1) X.A) (hb : Binds X.K fd ps []) (hx : Passes CX X (fun _ _ _ => False)) (hg : Gl X x) (hm : X.mg x = some (.ref C)) (ha : PA X (e :: es) ta)
    (hdb : (x == ("__debug__" : Str)) = false := by decide) (he : starEach (e :: es) X.env = (false, eval e X.env) :: starEach es X.env := by rfl) (hpl : (backTo pos (starEach es X.env)).any (·.1) = false := by rfl) :
    PE X (.Call (.Name x p) (e :: es) [] pos) (tXMk C sp ta) :=
  ⟨fun pins s σ H Q I h => wpAny_Call_Name_kw (ld_glob I hg hm (PySem.W.callWith_K (h₀ := X.base) I.ok.mod.kin T.kC (thn (ha.run pos pins s σ H _ I h) fun us s1 ⟨vs, H1, I1, r1, hz, q1⟩ =>
    ⟨I1.kIn, xmk_call FB T iC tI F1 hr hb hx I1 r1 hz q1⟩) he hpl) hdb)⟩
theorem pe_xmk0 {CX : CXT} {x : Str} {fI : Addr} {k : Nat} {fd : FuncData} {ps : List Str} {sp : Sp} {p pos : Pos} (FB : ExcBaseFacts B newId initId tl) (T : XC X.K tl newId C)
    (iC : PySem.W.findIn X.K (.ref C) "__init__" = some (some (.ref fI))) (tI : PySem.W.typeIn X.K (.ref fI) = some (.type "function"))
    (F1 : FnOk X.prog X.w X.K X.mg X.base CX k fI fd ps sp) (hr : Room (k + 1) X.A) (hb : Binds X.K fd ps []) (hx : Passes CX X (fun _ _ _ => False)) (hg : Gl X x) (hm : X.mg x = some (.ref C)) (hdb : (x == ("__debug__" : Str)) = false := by decide) :
    PE X (.Call (.Name x p) [] [] pos) (tXMk C sp fun _ H Q => Q [] H) :=
  ⟨fun pins s σ H Q I h => wpAny_Call_Name_kw (ld_glob I hg hm (PySem.W.callWith_K0 I.kIn T.kC (xmk_call (us := []) FB T iC tI F1 hr hb hx I .nil h.1 h.2)) hdb)⟩
/-- err.f -/
def tXGet (K : PySem.W.Frag) (f : Str) (te : TE) : TE := fun σ H Q => te σ H fun x H1 => ∃ (a C dd : Addr) (fs : List (Str × V)) (v : V), x = .ref a ∧ XfC K C ∧ PySem.W.findIn K (.ref C) f = some none ∧ H1 a = some (exo a C (some dd)) ∧ H1 dd = some (exd dd fs) ∧
  fs.lookup f = some v ∧ Q v H1
theorem pe_xget {e : Expr} {te : TE} {pos : Pos} {f : Str} (he : PE X e te) (hb : attributeBase e f X.env (eval e X.env) = eval e X.env := by rfl) : PE X (.Attribute e f pos) (tXGet X.K f te) := by
  refine ⟨fun pins s σ H Q I h => attr_of hb (thn (he.run pins s σ H _ I h) fun u s1 ⟨x, H1, I1, rx, a, C, dd, fs, v, ex, T, hno, ea, ed, l, q⟩ => ?_)⟩
  subst ex
  cases rx
  obtain ⟨t1, ho⟩ := exo_at I1.hok ea
  obtain ⟨mA, hns, hr⟩ := exd_at I1.hok ed
  obtain ⟨od, hd, hl⟩ := lookIn_ns hns
  obtain ⟨u, hu, ru⟩ := RelO.some_of (v := v) (o := mA f) (by rw [← l]; exact hr f)
  exact HandSPX.exc_get I1.kIn (ox := exOf C t1 (some dd)) (od := some od) ⟨ho, rfl, rfl, hd⟩ T.ga T.gg T.exC (PySem.W.findObj_own T.hdC hno rfl (by rw [hl, hu])) (handed_of ru) ⟨v, H1, I1.tok _, ru, q⟩
end
end L2

/-! isinstance of an own exception that is held as a value -/
namespace L2
open PySem PySem.Spec PyProof.Rows
structure XI (K : PySem.W.Frag) (C : Addr) : Prop where
  cl : (PySem.W.clsIn K C).isSome = true
  ga : PySem.W.findIn K (.ref C) "__getattribute__" = some (some (.builtin "BaseException.__getattribute__"))
  gg : PySem.W.findIn K (.ref C) "__getattr__" = some none
  exC : PySem.W.subIn K (.ref C) (.type "BaseException") = some true
  ca : PySem.W.findIn K (.ref C) "__class__" = some (some (.builtin "object.__class__"))
  cg : PySem.W.specialIn K (.builtin "object.__class__") "__get__" = some (some (.builtin "getset_descriptor.__get__"))
  ct : PySem.W.takesIn K (.builtin "object.__class__") = some true
  mo : PySem.W.mroIn K C (.type "object") = some true
/-- at a: an exception of the class at C, with the fields fs -/
def ExAt (H : Hp) (a C : Addr) (fs : List (Str × V)) : Prop := (fs = [] ∧ H a = some (exo a C none)) ∨ ∃ dd, H a = some (exo a C (some dd)) ∧ H dd = some (exd dd fs)
theorem ExAt.obj {X : Cx} {pins : List (Addr × Obj)} {σ : St} {H : Hp} {s : Shared} {a C : Addr} {fs : List (Str × V)} (I : Inv X pins σ H s) (e : ExAt H a C fs) : ∃ ox od, PySem.W.InstAt s.heap a ox C od := by
  rcases e with ⟨_, e⟩ | ⟨dd, e, ed⟩
  · obtain ⟨t1, ho⟩ := exo_at I.hok e
    exact ⟨_, none, ho, rfl, rfl, trivial⟩
  · obtain ⟨t1, ho⟩ := exo_at I.hok e
    obtain ⟨mA, ⟨o, es, ep, h1, _⟩, _⟩ := exd_at I.hok ed
    exact ⟨_, some o, ho, rfl, rfl, h1⟩
def rIsX (K : PySem.W.Frag) : List V → Hp → VK → Prop := fun xs H Q => ∃ (a C : Addr) (fs : List (Str × V)) (c : V) (u : Value) (b : Bool), xs = [.ref a, c] ∧ ClsV c u ∧ XI K C ∧ ExAt H a C fs ∧ PySem.W.kitOne K (.ref C) u = some b ∧ Q (.bl b) H
theorem call_isX {X : Cx} : CallR X (.builtin "isinstance") (rIsX X.K) := by
  intro pins s σ H xs us Q I r h
  obtain ⟨a, C, fs, c, u, b, rfl, k, T, ea, e, q⟩ := h
  obtain ⟨u1, u2, rfl, r1, r2⟩ := vals2 r
  have e2 := k.eq r2
  subst e2
  cases r1
  obtain ⟨ox, od, J⟩ := ea.obj I
  exact PySem.W.kia_one (PySem.W.kitx_exc T.cl T.ga T.gg T.exC T.ca T.cg T.ct T.mo) I.kIn J e (fun z => nomatch z) fun tk => ⟨.bl b, H, I.tok tk, rfl, q⟩
end L2

namespace DL
open PySem L2

/-! ## slots -/
/-- what a slot holds: nothing known; a value that no one changes; an own list; an own dict (keys: tuples) -/
inductive SV where
  | no
  | d (x : PyData)
  | m (xs : List PyData)
  | t (kvs : List (List Int × PyData))

mutual
inductive Dt (K : PySem.W.Frag) (H : Hp) : V → PyData → Prop
  | non : Dt K H .non .none
  | bl (b : Bool) : Dt K H (.bl b) (.bool b)
  | int (i : Int) : Dt K H (.int i) (.int i)
  | str (x : Str) : Dt K H (.str x) (.str x)
  | lst {a : Addr} {xs : List V} {ds : List PyData} : H a = some (.lst xs) → DtAll K H xs ds → Dt K H (.ref a) (.list ds)
  | tup {a : Addr} {xs : List V} {ds : List PyData} : SqT K H a xs → DtAll K H xs ds → Dt K H (.ref a) (.tuple ds)
  | scr {a : Addr} {xs : List V} {ds : List PyData} : SqL K H a xs → DtAll K H xs ds → Dt K H (.ref a) (.dict [(.list ds, .none)])
  | exc0 {a C : Addr} : H a = some (exo a C none) → Dt K H (.ref a) (.dict [(.int C, .none)])
  | exc1 {a C dd : Addr} {f : Str} {v : V} {d : PyData} : H a = some (exo a C (some dd)) → H dd = some (exd dd [(f, v)]) → Dt K H v d → Dt K H (.ref a) (.dict [(.int C, .none), (.str f, d)])
inductive DtAll (K : PySem.W.Frag) (H : Hp) : List V → List PyData → Prop
  | nil : DtAll K H [] []
  | cons {v : V} {vs : List V} {d : PyData} {ds : List PyData} : Dt K H v d → DtAll K H vs ds → DtAll K H (v :: vs) (d :: ds)
end
/-- less known, the same content -/
def Le (H H' : Hp) : Prop := ∀ a o, H a = some o → H' a = some o
theorem Le.refl (H : Hp) : Le H H := fun _ _ h => h
theorem Le.trans {H H1 H2 : Hp} (a : Le H H1) (b : Le H1 H2) : Le H H2 := fun x o h => b x o (a x o h)
theorem Le.sqL {K : PySem.W.Frag} {H H' : Hp} {a : Addr} {xs : List V} (e : Le H H') (h : SqL K H a xs) : SqL K H' a xs := by
  rcases h with (h | ⟨ow, h⟩) | h
  · exact .inl (.inl (e _ _ h))
  · exact .inl (.inr ⟨ow, e _ _ h⟩)
  · exact .inr h
theorem Le.sqT {K : PySem.W.Frag} {H H' : Hp} {a : Addr} {xs : List V} (e : Le H H') (h : SqT K H a xs) : SqT K H' a xs := by
  rcases h with (h | ⟨ow, h⟩) | h
  · exact .inl (.inl (e _ _ h))
  · exact .inl (.inr ⟨ow, e _ _ h⟩)
  · exact .inr h
mutual
theorem Dt.le {K : PySem.W.Frag} {H H' : Hp} (e : Le H H') : ∀ {v : V} {d : PyData}, Dt K H v d → Dt K H' v d
  | _, _, .non => .non
  | _, _, .bl b => .bl b
  | _, _, .int i => .int i
  | _, _, .str x => .str x
  | _, _, .lst h r => .lst (e _ _ h) (DtAll.le e r)
  | _, _, .tup h r => .tup (e.sqT h) (DtAll.le e r)
  | _, _, .scr h r => .scr (e.sqL h) (DtAll.le e r)
  | _, _, .exc0 h => .exc0 (e _ _ h)
  | _, _, .exc1 h h2 r => .exc1 (e _ _ h) (e _ _ h2) (Dt.le e r)
theorem DtAll.le {K : PySem.W.Frag} {H H' : Hp} (e : Le H H') : ∀ {vs : List V} {ds : List PyData}, DtAll K H vs ds → DtAll K H' vs ds
  | _, _, .nil => .nil
  | _, _, .cons h r => .cons (Dt.le e h) (DtAll.le e r)
end
mutual
theorem Dt.le2 {K : PySem.W.Frag} {H H' : Hp} (e : ∀ a xs, H a = some (.lst xs) → H' a = some (.lst xs)) (e2 : ∀ a xs, SqT K H a xs → SqT K H' a xs) (e3 : ∀ a xs, SqL K H a xs → SqL K H' a xs) (e4 : ∀ a φ, H a = some (.ext φ) → H' a = some (.ext φ)) : ∀ {v : V} {d : PyData}, Dt K H v d → Dt K H' v d
  | _, _, .non => .non
  | _, _, .bl b => .bl b
  | _, _, .int i => .int i
  | _, _, .str x => .str x
  | _, _, .lst h r => .lst (e _ _ h) (DtAll.le2 e e2 e3 e4 r)
  | _, _, .tup h r => .tup (e2 _ _ h) (DtAll.le2 e e2 e3 e4 r)
  | _, _, .scr h r => .scr (e3 _ _ h) (DtAll.le2 e e2 e3 e4 r)
  | _, _, .exc0 h => .exc0 (e4 _ _ h)
  | _, _, .exc1 h h2 r => .exc1 (e4 _ _ h) (e4 _ _ h2) (Dt.le2 e e2 e3 e4 r)
theorem DtAll.le2 {K : PySem.W.Frag} {H H' : Hp} (e : ∀ a xs, H a = some (.lst xs) → H' a = some (.lst xs)) (e2 : ∀ a xs, SqT K H a xs → SqT K H' a xs) (e3 : ∀ a xs, SqL K H a xs → SqL K H' a xs) (e4 : ∀ a φ, H a = some (.ext φ) → H' a = some (.ext φ)) : ∀ {vs : List V} {ds : List PyData}, DtAll K H vs ds → DtAll K H' vs ds
  | _, _, .nil => .nil
  | _, _, .cons h r => .cons (Dt.le2 e e2 e3 e4 h) (DtAll.le2 e e2 e3 e4 r)
end
-- no dict in it
mutual
def noD : PyData → Bool
  | .list xs => noDs xs
  | .tuple xs => noDs xs
  | .dict _ => false
  | _ => true
def noDs : List PyData → Bool
  | [] => true
  | x :: r => noD x && noDs r
end
mutual
theorem noD_lay : ∀ d : PyData, d.canLay0 = true → noD d = true
  | .list xs, h => by simp only [PyData.canLay0] at h; simp only [noD]; exact noDs_lay xs h
  | .tuple xs, h => by simp only [PyData.canLay0] at h; simp only [noD]; exact noDs_lay xs h
  | .dict _, h => by simp [PyData.canLay0] at h
  | .none, _ => rfl
  | .bool _, _ => rfl
  | .int _, _ => rfl
  | .str _, _ => rfl
theorem noDs_lay : ∀ ds : List PyData, PyData.canLayAll0 ds = true → noDs ds = true
  | [], _ => rfl
  | x :: r, h => by
    simp only [PyData.canLayAll0, Bool.and_eq_true] at h
    simp only [noDs, Bool.and_eq_true]
    exact ⟨noD_lay x h.1, noDs_lay r h.2⟩
end
mutual
theorem Dt.dp {K : PySem.W.Frag} {H : Hp} : ∀ {v : V} {d : PyData}, Dt K H v d → noD d = true → Dp K H v d
  | _, _, .non, _ => .non
  | _, _, .bl b, _ => .bl b
  | _, _, .int i, _ => .int i
  | _, _, .str x, _ => .str x
  | _, _, .lst h r, n => .lst (SqL.of h) (DtAll.dp r (by simpa only [noD] using n))
  | _, _, .tup h r, n => .tup h (DtAll.dp r (by simpa only [noD] using n))
  | _, _, .scr _ _, n => by simp [noD] at n
  | _, _, .exc0 _, n => by simp [noD] at n
  | _, _, .exc1 _ _ _, n => by simp [noD] at n
theorem DtAll.dp {K : PySem.W.Frag} {H : Hp} : ∀ {vs : List V} {ds : List PyData}, DtAll K H vs ds → noDs ds = true → DpAll K H vs ds
  | _, _, .nil, _ => .nil
  | _, _, .cons h r, n => by
    simp only [noDs, Bool.and_eq_true] at n
    exact .cons (Dt.dp h n.1) (DtAll.dp r n.2)
end
section
variable {K : PySem.W.Frag} {H H' : Hp} {vs ws : List V} {ds es : List PyData}
theorem DtAll.length : ∀ {vs : List V} {ds : List PyData}, DtAll K H vs ds → vs.length = ds.length
  | _, _, .nil => rfl
  | _, _, .cons _ r => by rw [List.length_cons, List.length_cons, DtAll.length r]
theorem DtAll.append : ∀ {vs : List V} {ds : List PyData}, DtAll K H vs ds → DtAll K H ws es → DtAll K H (vs ++ ws) (ds ++ es)
  | _, _, .nil, s => s
  | _, _, .cons h r, s => .cons h (DtAll.append r s)
theorem DtAll.get : ∀ {vs : List V} {ds : List PyData} {i : Nat} {d : PyData}, DtAll K H vs ds → ds[i]? = some d → ∃ v, vs[i]? = some v ∧ Dt K H v d
  | _, _, _, _, .nil, eg => by simp at eg
  | _, _, 0, _, .cons h _, e => by simp at e; subst e; exact ⟨_, rfl, h⟩
  | _, _, i + 1, d, .cons _ r, e => by
    obtain ⟨v, h1, h2⟩ := DtAll.get (i := i) r (by simpa using e)
    exact ⟨v, by simpa using h1, h2⟩
theorem DtAll.getV : ∀ {vs : List V} {ds : List PyData} {i : Nat} {v : V}, DtAll K H vs ds → vs[i]? = some v → ∃ d, ds[i]? = some d ∧ Dt K H v d
  | _, _, _, _, .nil, eg => by simp at eg
  | _, _, 0, _, .cons h _, e => by simp at e; subst e; exact ⟨_, rfl, h⟩
  | _, _, i + 1, d, .cons _ r, e => by
    obtain ⟨v, h1, h2⟩ := DtAll.getV (i := i) r (by simpa using e)
    exact ⟨v, by simpa using h1, h2⟩
theorem DtAll.set : ∀ {vs : List V} {ds : List PyData} (i : Nat) {v : V} {d : PyData}, Dt K H v d → DtAll K H vs ds → DtAll K H (vs.set i v) (ds.set i d)
  | _, _, _, _, _, _, .nil => .nil
  | _, _, 0, _, _, h, .cons _ r => .cons h r
  | _, _, i + 1, _, _, h, .cons q r => .cons q (DtAll.set i h r)
theorem DtAll.take : ∀ {vs : List V} {ds : List PyData} (n : Nat), DtAll K H vs ds → DtAll K H (vs.take n) (ds.take n)
  | _, _, 0, _ => .nil
  | _, _, _ + 1, .nil => .nil
  | _, _, n + 1, .cons h r => .cons h (DtAll.take n r)
theorem DtAll.drop : ∀ {vs : List V} {ds : List PyData} (n : Nat), DtAll K H vs ds → DtAll K H (vs.drop n) (ds.drop n)
  | _, _, 0, r => r
  | _, _, _ + 1, .nil => .nil
  | _, _, n + 1, .cons _ r => DtAll.drop n r
theorem DtAll.reverse : ∀ {vs : List V} {ds : List PyData}, DtAll K H vs ds → DtAll K H vs.reverse ds.reverse
  | _, _, .nil => .nil
  | _, _, .cons h r => by
    repeat rw [List.reverse_cons]
    exact DtAll.append (DtAll.reverse r) (.cons h .nil)
theorem DtAll.eraseIdx : ∀ {vs : List V} {ds : List PyData} (i : Nat), DtAll K H vs ds → DtAll K H (vs.eraseIdx i) (ds.eraseIdx i)
  | _, _, _, .nil => .nil
  | _, _, 0, .cons _ r => r
  | _, _, i + 1, .cons q r => .cons q (DtAll.eraseIdx i r)
theorem DtAll.dropLast {vs : List V} {ds : List PyData} (r : DtAll K H vs ds) : DtAll K H vs.dropLast ds.dropLast := by
  rw [List.dropLast_eq_take, List.dropLast_eq_take, r.length]
  exact r.take _
/-- ints alone -/
theorem DtAll.ints (ns : List Int) : DtAll K H (ns.map V.int) (ns.map PyData.int) := by
  induction ns with
  | nil => exact .nil
  | cons n r ih => exact .cons (.int n) ih
end

/-! ## what is held -/
abbrev Sl := Option V × SV
def ads : List Sl → List Addr
  | [] => []
  | (some (.ref a), .m _) :: r => a :: ads r
  | (some (.ref a), .t _) :: r => a :: ads r
  | _ :: r => ads r
def adr : Sl → Option Addr
  | (some (.ref a), .m _) => some a
  | (some (.ref a), .t _) => some a
  | _ => none
theorem ads_eq : ∀ ps : List Sl, ads ps = ps.filterMap adr
  | [] => rfl
  | p :: r => by
    have ih := ads_eq r
    obtain ⟨o, s⟩ := p
    cases o with
    | none => exact ih
    | some v => cases v <;> cases s <;> first | exact ih | (show _ :: ads r = _ :: _; rw [ih])
def hid (ms : List Addr) (H : Hp) : Hp := fun b => if b ∈ ms then none else H b
theorem hid_eq {ms ns : List Addr} {H : Hp} (h : ∀ b, b ∈ ms ↔ b ∈ ns) : hid ms H = hid ns H := by
  funext b; unfold hid; simp only [h b]
theorem hid_le {ms ns : List Addr} {H : Hp} (h : ∀ b, b ∈ ns → b ∈ ms) : Le (hid ms H) (hid ns H) := fun a o e => by
  unfold hid at e ⊢
  by_cases q : a ∈ ms
  · rw [if_pos q] at e; cases e
  · rw [if_neg q] at e; rw [if_neg (fun z => q (h a z))]; exact e
theorem hid_sub {ms : List Addr} {H : Hp} : Le (hid ms H) H := fun a o e => by
  unfold hid at e
  split at e
  · cases e
  · exact e
theorem hid_mono {ms : List Addr} {H H' : Hp} (h : ∀ b o, b ∉ ms → H b = some o → H' b = some o) : Le (hid ms H) (hid ms H') := fun a o e => by
  unfold hid at e ⊢
  by_cases q : a ∈ ms
  · rw [if_pos q] at e; cases e
  · rw [if_neg q] at e ⊢; exact h a o q e
theorem hid_of {ms : List Addr} {H : Hp} {a : Addr} {o : HO} (h : H a = some o) (q : a ∉ ms) : hid ms H a = some o := by
  unfold hid; rw [if_neg q]; exact h

def KvD (K : PySem.W.Frag) (H : Hp) : List En → List (List Int × PyData) → Prop := Paired fun p q => p.1 = q.1 ∧ SqT K H p.2.1 (p.1.map V.int) ∧ Dt K H p.2.2 q.2
theorem KvD.le {K : PySem.W.Frag} {H H' : Hp} {ws : List En} {kvs : List (List Int × PyData)} (h : KvD K H ws kvs) (e : Le H H') : KvD K H' ws kvs := Paired.mapP h fun p q z => ⟨z.1, e.sqT z.2.1, z.2.2.le e⟩
def Ok (K : PySem.W.Frag) (H Hd : Hp) : Sl → Prop
  | (_, .no) => True
  | (some v, .d x) => Dt K Hd v x
  | (some (.ref a), .m xs) => ∃ vs, H a = some (.lst vs) ∧ DtAll K Hd vs xs
  | (some (.ref a), .t kvs) => ∃ ws, H a = some (dto a ws) ∧ KvD K Hd ws kvs
  | _ => False
-- the written part, and the tables of the defs that hold generator expressions
/-- .. and what stands at some addresses, whatever is done -/
abbrev Tbs := List Addr × List (Addr × HO)
abbrev KF := PySem.W.Frag × Tbs
structure Hs (K : KF) (H : Hp) (ps : List Sl) : Prop where
  nd : (ads ps).Nodup
  ok : ∀ p ∈ ps, Ok K.1 H (hid (ads ps) H) p
  tb : ∀ P ∈ K.2.1, GxR.TabG H P
  pn : ∀ q ∈ K.2.2, H q.1 = some q.2 ∧ q.1 ∉ ads ps ∧ ∀ z, q.2 ≠ .tbl z
section
variable {K : KF} {H H' : Hp} {ps qs : List Sl} {p : Sl}
theorem Ok.le {Hd Hd' : Hp} (h : Ok K.1 H Hd p) (e : Le Hd Hd') (k : ∀ a o, adr p = some a → H a = some o → H' a = some o) : Ok K.1 H' Hd' p := by
  obtain ⟨o, s⟩ := p
  cases s with
  | no => trivial
  | d x => cases o with
    | none => exact h
    | some v => exact Dt.le e h
  | m xs => cases o with
    | none => exact h
    | some v => cases v with
      | ref a =>
        obtain ⟨vs, h1, h2⟩ := h
        exact ⟨vs, k a _ rfl h1, h2.le e⟩
      | _ => exact h
  | t kvs => cases o with
    | none => exact h
    | some v => cases v with
      | ref a =>
        obtain ⟨ws, h1, h2⟩ := h
        exact ⟨ws, k a _ rfl h1, KvD.le h2 e⟩
      | _ => exact h
theorem mem_ads {a : Addr} : a ∈ ads ps ↔ ∃ p ∈ ps, adr p = some a := by
  rw [ads_eq]; exact List.mem_filterMap
theorem Hs.perm (h : Hs K H ps) (e : ps.Perm qs) : Hs K H qs := by
  have ea : (ads ps).Perm (ads qs) := by rw [ads_eq, ads_eq]; exact e.filterMap _
  refine ⟨ea.nodup_iff.mp h.nd, fun p hp => ?_, h.tb, fun q hq => ⟨(h.pn q hq).1, fun z => (h.pn q hq).2.1 (ea.mem_iff.mpr z), (h.pn q hq).2.2⟩⟩
  have := h.ok p (e.mem_iff.mpr hp)
  rw [hid_eq (ns := ads qs) fun b => ea.mem_iff] at this
  exact this
theorem Hs.tail (h : Hs K H (p :: ps)) : Hs K H ps := by
  have hs : ∀ b, b ∈ ads ps → b ∈ ads (p :: ps) := fun b hb => by
    obtain ⟨q, hq, e⟩ := mem_ads.mp hb
    exact mem_ads.mpr ⟨q, List.mem_cons_of_mem _ hq, e⟩
  have nd : (ads ps).Nodup := by
    have := h.nd
    rw [ads_eq] at this ⊢
    rw [List.filterMap_cons] at this
    split at this
    · exact this
    · exact (List.nodup_cons.mp this).2
  exact ⟨nd, fun q hq => (h.ok q (List.mem_cons_of_mem _ hq)).le (hid_le hs) fun _ _ _ e => e, h.tb, fun q hq => ⟨(h.pn q hq).1, fun z => (h.pn q hq).2.1 (hs _ z), (h.pn q hq).2.2⟩⟩
theorem Hs.cons_no {o : Option V} (h : Hs K H ps) : Hs K H ((o, .no) :: ps) := by
  have e : ads ((o, .no) :: ps) = ads ps := by
    rw [ads_eq, ads_eq, List.filterMap_cons]
    have : adr (o, SV.no) = none := by cases o with
      | none => rfl
      | some v => cases v <;> rfl
    rw [this]
  refine ⟨by rw [e]; exact h.nd, fun q hq => ?_, h.tb, by rw [e]; exact h.pn⟩
  rw [e]
  rcases List.mem_cons.mp hq with z | hq
  · subst z; exact True.intro
  · exact h.ok q hq
/-- the heap grows -/
theorem Hs.grow (h : Hs K H ps) (e : Le H H') : Hs K H' ps :=
  ⟨h.nd, fun p hp => (h.ok p hp).le (hid_mono fun b o _ q => e b o q) fun a o _ q => e a o q, fun P hP => let ⟨ts, e1, t⟩ := h.tb P hP; ⟨ts, e _ _ e1, t⟩, fun q hq => ⟨e _ _ (h.pn q hq).1, (h.pn q hq).2⟩⟩
theorem Hs.cons_d {v : V} {x : PyData} (h : Hs K H ps) (q : Dt K.1 (hid (ads ps) H) v x) : Hs K H ((some v, .d x) :: ps) := by
  have e : ads ((some v, .d x) :: ps) = ads ps := by
    rw [ads_eq, ads_eq, List.filterMap_cons]
    have : adr (some v, SV.d x) = none := by cases v <;> rfl
    rw [this]
  refine ⟨by rw [e]; exact h.nd, fun p hp => ?_, h.tb, by rw [e]; exact h.pn⟩
  rw [e]
  rcases List.mem_cons.mp hp with (z | hp)
  · subst z; exact q
  · exact h.ok p hp
theorem Hs.get_d {v : V} {x : PyData} (h : Hs K H ((some v, .d x) :: ps)) : Dt K.1 (hid (ads ps) H) v x := by
  have e : ads ((some v, .d x) :: ps) = ads ps := by
    rw [ads_eq, ads_eq, List.filterMap_cons]
    have : adr (some v, SV.d x) = none := by cases v <;> rfl
    rw [this]
  have := h.ok _ List.mem_cons_self
  rw [e] at this
  exact this
/-- an own list that stands -/
theorem Hs.get_m {v : V} {xs : List PyData} (h : Hs K H ((some v, .m xs) :: ps)) : ∃ a vs, v = .ref a ∧ H a = some (.lst vs) ∧ DtAll K.1 (hid (a :: ads ps) H) vs xs ∧ a ∉ ads ps := by
  have q := h.ok _ List.mem_cons_self
  cases v with
  | ref a =>
    obtain ⟨vs, h1, h2⟩ := q
    exact ⟨a, vs, rfl, h1, h2, (List.nodup_cons.mp h.nd).1⟩
  | _ => exact q.elim
theorem Hs.get_t {v : V} {kvs : List (List Int × PyData)} (h : Hs K H ((some v, .t kvs) :: ps)) : ∃ a ws, v = .ref a ∧ H a = some (dto a ws) ∧ KvD K.1 (hid (a :: ads ps) H) ws kvs ∧ a ∉ ads ps := by
  have q := h.ok _ List.mem_cons_self
  cases v with
  | ref a =>
    obtain ⟨vs, h1, h2⟩ := q
    exact ⟨a, vs, rfl, h1, h2, (List.nodup_cons.mp h.nd).1⟩
  | _ => exact q.elim
theorem Hs.cons_m {a : Addr} {vs : List V} {xs : List PyData} (h : Hs K H ps) (e : H a = some (.lst vs)) (q : DtAll K.1 (hid (a :: ads ps) H) vs xs) (n : a ∉ ads ps)
    (hu : ∀ p ∈ ps, Ok K.1 H (hid (a :: ads ps) H) p) (np : ∀ q ∈ K.2.2, q.1 ≠ a) : Hs K H ((some (.ref a), .m xs) :: ps) :=
  ⟨List.nodup_cons.mpr ⟨n, h.nd⟩, fun p hp => by
    rcases List.mem_cons.mp hp with (z | hp)
    · subst z; exact ⟨vs, e, q⟩
    · exact hu p hp, h.tb, fun q hq => ⟨(h.pn q hq).1, fun z => (List.mem_cons.mp z).elim (np q hq) (h.pn q hq).2.1, (h.pn q hq).2.2⟩⟩
theorem Hs.free_ads (h : Hs K H ps) {a : Addr} (n : H a = none) : a ∉ ads ps := fun hm => by
  obtain ⟨p, hp, e⟩ := mem_ads.mp hm
  have q := h.ok p hp
  obtain ⟨o, s⟩ := p
  cases o with
  | none => cases e
  | some v => cases v with
    | ref b => cases s with
      | m xs =>
        cases e
        obtain ⟨vs, h1, _⟩ := q
        rw [n] at h1; cases h1
      | t xs =>
        cases e
        obtain ⟨vs, h1, _⟩ := q
        rw [n] at h1; cases h1
      | _ => cases e
    | _ => cases s <;> cases e
theorem le_upd {a : Addr} {o : HO} (n : H a = none) : Le H (upd H a o) := fun b u e => by
  rw [upd_ne (ne_of_none e n)]; exact e
/-- a new list -/
theorem Hs.new_m {a : Addr} {vs : List V} {xs : List PyData} (h : Hs K H ps) (n : H a = none) (q : DtAll K.1 (hid (ads ps) H) vs xs) : Hs K (upd H a (.lst vs)) ((some (.ref a), .m xs) :: ps) := by
  have na := h.free_ads n
  have le : Le (hid (ads ps) H) (hid (a :: ads ps) (upd H a (.lst vs))) := fun b o e => by
    have hb : b ∉ ads ps := fun z => by unfold hid at e; rw [if_pos z] at e; cases e
    have eb : H b = some o := hid_sub b o e
    have ne : b ≠ a := ne_of_none eb n
    unfold hid
    rw [if_neg (fun z => (List.mem_cons.mp z).elim ne hb), upd_ne ne]
    exact eb
  refine (h.grow (le_upd n)).cons_m upd_same (q.le le) na (fun p hp => (h.ok p hp).le le fun b o e q => ?_) fun q hq z => ?_
  · rw [upd_ne (ne_of_none q n)]; exact q
  · have := (h.pn q hq).1
    rw [z, n] at this
    cases this
theorem Hs.new_t {a : Addr} {ws : List En} {kvs : List (List Int × PyData)} (h : Hs K H ps) (n : H a = none) (q : KvD K.1 (hid (ads ps) H) ws kvs) : Hs K (upd H a (dto a ws)) ((some (.ref a), .t kvs) :: ps) := by
  have na := h.free_ads n
  have le : Le (hid (ads ps) H) (hid (a :: ads ps) (upd H a (dto a ws))) := fun b o e => by
    have hb : b ∉ ads ps := fun z => by unfold hid at e; rw [if_pos z] at e; cases e
    have eb : H b = some o := hid_sub b o e
    have ne : b ≠ a := ne_of_none eb n
    unfold hid
    rw [if_neg (fun z => (List.mem_cons.mp z).elim ne hb), upd_ne ne]
    exact eb
  refine ⟨List.nodup_cons.mpr ⟨na, h.nd⟩, fun p hp => ?_, (h.grow (le_upd n)).tb, fun q hq => ⟨((h.grow (le_upd n)).pn q hq).1, fun z => (List.mem_cons.mp z).elim (fun z => ?_) (h.pn q hq).2.1, (h.pn q hq).2.2⟩⟩
  rotate_left
  · have := (h.pn q hq).1
    have z' : q.1 = a := z
    rw [z', n] at this
    cases this
  rcases List.mem_cons.mp hp with (z | hp)
  · subst z; exact ⟨ws, upd_same, q.le le⟩
  · exact (h.ok p hp).le le fun b o e q => by rw [upd_ne (ne_of_none q n)]; exact q
/-- a new tuple -/
theorem Hs.new_tup {a : Addr} {vs : List V} {xs : List PyData} (h : Hs K H ps) (n : H a = none) (q : DtAll K.1 (hid (ads ps) H) vs xs) : Hs K (upd H a (.tup vs)) ((some (.ref a), .d (.tuple xs)) :: ps) := by
  have na := h.free_ads n
  refine (h.grow (le_upd n)).cons_d (.tup (SqT.of (hid_of upd_same na)) (q.le (hid_mono fun b o _ e => ?_)))
  rw [upd_ne (ne_of_none e n)]; exact e
/-- an own list is let go: from now on no one changes it -/
theorem Hs.freeze {v : V} {xs : List PyData} (h : Hs K H ((some v, .m xs) :: ps)) : Hs K H ((some v, .d (.list xs)) :: ps) := by
  obtain ⟨a, vs, rfl, h1, h2, n⟩ := h.get_m
  exact h.tail.cons_d (.lst (hid_of h1 n) (h2.le (hid_le fun b hb => List.mem_cons_of_mem _ hb)))
/-- an own list is changed -/
theorem Hs.write {v : V} {a : Addr} {vs' : List V} {xs xs' : List PyData} (h : Hs K H ((some (.ref a), .m xs) :: ps)) (q : DtAll K.1 (hid (a :: ads ps) H) vs' xs') : Hs K (upd H a (.lst vs')) ((some (.ref a), .m xs') :: ps) := by
  obtain ⟨b, vs, e, h1, h2, n⟩ := h.get_m
  cases e
  have le : Le (hid (a :: ads ps) H) (hid (a :: ads ps) (upd H a (.lst vs'))) := hid_mono fun b o nb e => by
    rw [upd_ne (fun z => nb (by rw [z]; exact List.mem_cons_self))]; exact e
  refine ⟨h.nd, fun p hp => ?_, fun P hP => ?_, fun q hq => ⟨?_, (h.pn q hq).2⟩⟩
  rotate_left
  · obtain ⟨ts, e1, t⟩ := h.tb P hP
    exact ⟨ts, by rw [upd_ne (ne_of e1 h1 (by intro z; cases z))]; exact e1, t⟩
  · rw [upd_ne (fun z => (h.pn q hq).2.1 (List.mem_cons.mpr (.inl z)))]
    exact (h.pn q hq).1
  rcases List.mem_cons.mp hp with (z | hp)
  · subst z; exact ⟨vs', upd_same, q.le le⟩
  · refine (h.ok p (List.mem_cons_of_mem _ hp)).le le fun b o e z => ?_
    rw [upd_ne (fun (y : b = a) => n (by rw [← y]; exact mem_ads.mpr ⟨p, hp, e⟩))]; exact z
/-- an own dict is changed -/
theorem Hs.writeT {a : Addr} {ws' : List En} {kvs kvs' : List (List Int × PyData)} (h : Hs K H ((some (.ref a), .t kvs) :: ps)) (q : KvD K.1 (hid (a :: ads ps) H) ws' kvs') : Hs K (upd H a (dto a ws')) ((some (.ref a), .t kvs') :: ps) := by
  obtain ⟨b, vs, e, h1, h2, n⟩ := h.get_t
  cases e
  have le : Le (hid (a :: ads ps) H) (hid (a :: ads ps) (upd H a (dto a ws'))) := hid_mono fun b o nb e => by
    rw [upd_ne (fun z => nb (by rw [z]; exact List.mem_cons_self))]; exact e
  refine ⟨h.nd, fun p hp => ?_, fun P hP => ?_, fun q hq => ⟨?_, (h.pn q hq).2⟩⟩
  rotate_left
  · obtain ⟨ts, e1, t⟩ := h.tb P hP
    exact ⟨ts, by rw [upd_ne (ne_of e1 h1 (by intro z; cases z))]; exact e1, t⟩
  · rw [upd_ne (fun z => (h.pn q hq).2.1 (List.mem_cons.mpr (.inl z)))]
    exact (h.pn q hq).1
  rcases List.mem_cons.mp hp with (z | hp)
  · subst z; exact ⟨ws', upd_same, q.le le⟩
  · refine (h.ok p (List.mem_cons_of_mem _ hp)).le le fun b o e z => ?_
    rw [upd_ne (fun (y : b = a) => n (by rw [← y]; exact mem_ads.mpr ⟨p, hp, e⟩))]; exact z
/-- a table has grown -/
theorem Hs.tabbed {P : Addr} (h : Hs K H ps) (hP : P ∈ K.2.1) (t : GxR.Tabbed P H H') : Hs K H' ps := by
  obtain ⟨ts, e1, _⟩ := h.tb P hP
  have nP : ∀ b o, H b = some o → (∀ q, o ≠ .tbl q) → H' b = some o := fun b o e q => by
    rw [t.2 b (fun z => by rw [z, e1] at e; exact q ts (Option.some.inj e).symm)]; exact e
  have sq : ∀ {ms : List Addr} {a : Addr} {xs : List V}, SqT K.1 (hid ms H) a xs → SqT K.1 (hid ms H') a xs := fun {ms a xs} e => by
    rcases e with (e | ⟨o, e⟩) | e
    · have hb : a ∉ ms := fun z => by unfold hid at e; rw [if_pos z] at e; cases e
      exact .inl (.inl (hid_of (nP a _ (hid_sub a _ e) fun q z => by cases z) hb))
    · have hb : a ∉ ms := fun z => by unfold hid at e; rw [if_pos z] at e; cases e
      exact .inl (.inr ⟨o, hid_of (nP a _ (hid_sub a _ e) fun q z => by cases z) hb⟩)
    · exact .inr e
  have dt : ∀ {ms : List Addr}, (∀ v d, Dt K.1 (hid ms H) v d → Dt K.1 (hid ms H') v d) := fun {ms} v d q => by
    refine Dt.le2 (H := hid ms H) (fun a xs e => ?_) (fun a xs e => ?_) (fun a xs e => ?_) (fun a φ e => ?_) q
    rotate_left 3
    · have hb : a ∉ ms := fun z => by unfold hid at e; rw [if_pos z] at e; cases e
      exact hid_of (nP a _ (hid_sub a _ e) fun q z => by cases z) hb
    rotate_left 2
    · rcases e with (e | ⟨o, e⟩) | e
      · have hb : a ∉ ms := fun z => by unfold hid at e; rw [if_pos z] at e; cases e
        exact .inl (.inl (hid_of (nP a _ (hid_sub a _ e) fun q z => by cases z) hb))
      · have hb : a ∉ ms := fun z => by unfold hid at e; rw [if_pos z] at e; cases e
        exact .inl (.inr ⟨o, hid_of (nP a _ (hid_sub a _ e) fun q z => by cases z) hb⟩)
      · exact .inr e
    · have hb : a ∉ ms := fun z => by unfold hid at e; rw [if_pos z] at e; cases e
      exact hid_of (nP a _ (hid_sub a _ e) fun q z => by cases z) hb
    · rcases e with (e | ⟨o, e⟩) | e
      · have hb : a ∉ ms := fun z => by unfold hid at e; rw [if_pos z] at e; cases e
        exact .inl (.inl (hid_of (nP a _ (hid_sub a _ e) fun q z => by cases z) hb))
      · have hb : a ∉ ms := fun z => by unfold hid at e; rw [if_pos z] at e; cases e
        exact .inl (.inr ⟨o, hid_of (nP a _ (hid_sub a _ e) fun q z => by cases z) hb⟩)
      · exact .inr e
  have dts : ∀ {ms : List Addr} {vs : List V} {ds : List PyData}, DtAll K.1 (hid ms H) vs ds → DtAll K.1 (hid ms H') vs ds := fun {ms vs ds} q => by
    induction vs generalizing ds with -- by the values
    | nil => cases q; exact .nil
    | cons v vs ih => cases q with
      | cons a b => exact .cons (dt _ _ a) (ih b)
  refine ⟨h.nd, fun p hp => ?_, fun Q hQ => ?_, fun q hq => ⟨nP _ _ (h.pn q hq).1 (h.pn q hq).2.2, (h.pn q hq).2⟩⟩
  · have q := h.ok p hp
    obtain ⟨o, s⟩ := p
    cases s with
    | no => trivial
    | d x => cases o with
      | none => exact q
      | some v => exact dt v x q
    | m xs => cases o with
      | none => exact q
      | some v => cases v with
        | ref a =>
          obtain ⟨vs, h1, h2⟩ := q
          exact ⟨vs, nP a _ h1 (fun q z => by cases z), dts h2⟩
        | _ => exact q
    | t kvs => cases o with
      | none => exact q
      | some v => cases v with
        | ref a =>
          obtain ⟨ws, h1, h2⟩ := q
          exact ⟨ws, nP a _ h1 (fun q z => dto_tbl z), Paired.mapP h2 fun p q z => ⟨z.1, sq z.2.1, dt _ _ z.2.2⟩⟩
        | _ => exact q
  · by_cases e : Q = P
    · rw [e]; exact t.1
    · obtain ⟨us, e2, t2⟩ := h.tb Q hQ
      exact ⟨us, by rw [t.2 Q e]; exact e2, t2⟩
end
end DL

namespace DL
open PySem L2

/-! ## lists of slots -/
section
variable {α : Type}
theorem perm_at : ∀ {l : List α} {i : Nat} {p : α}, l[i]? = some p → l.Perm (p :: l.eraseIdx i)
  | [], _, _, h => by simp at h
  | a :: r, 0, p, h => by simp at h; subst h; exact List.Perm.refl _
  | a :: r, i + 1, p, h => by
    have ih := perm_at (l := r) (i := i) (p := p) (by simpa using h)
    exact (ih.cons a).trans (List.Perm.swap p a _)
theorem perm_set : ∀ {l : List α} {i : Nat} {p q : α}, l[i]? = some p → (l.set i q).Perm (q :: l.eraseIdx i)
  | [], _, _, _, hg => by simp at hg
  | a :: r, 0, p, q, h => List.Perm.refl _
  | a :: r, i + 1, p, q, h => by
    have ih := perm_set (l := r) (i := i) (p := p) (q := q) (by simpa using h)
    exact (ih.cons a).trans (List.Perm.swap q a _)
end
theorem zip_set : ∀ {σ : List (Option V)} {Γ : List SV} {i : Nat} {o : Option V} {s : SV}, (σ.set i o).zip (Γ.set i s) = (σ.zip Γ).set i (o, s)
  | [], _, _, _, _ => by simp
  | _ :: _, [], i, _, _ => by cases i <;> simp
  | a :: r, b :: t, 0, o, s => rfl
  | a :: r, b :: t, i + 1, o, s => by
    show (a, b) :: (r.set i o).zip (t.set i s) = (a, b) :: (r.zip t).set i (o, s)
    rw [zip_set]
theorem zip_at {σ : List (Option V)} {Γ : List SV} {i : Nat} {s : SV} (hl : σ.length = Γ.length) (h : Γ[i]? = some s) : ∃ o, σ[i]? = some o ∧ (σ.zip Γ)[i]? = some (o, s) := by
  have hi := (List.getElem?_eq_some_iff.mp h).1
  have hi' : i < σ.length := by omega
  refine ⟨σ[i], List.getElem?_eq_getElem hi', ?_⟩
  rw [List.getElem?_zip_eq_some]
  exact ⟨List.getElem?_eq_getElem hi', h⟩

section
variable {K : KF} {H : Hp} {l ex : List Sl} {i : Nat} {p q : Sl}
theorem Hs.out (h : Hs K H (l ++ ex)) (e : l[i]? = some p) : Hs K H (p :: (l.eraseIdx i ++ ex)) := h.perm ((perm_at e).append_right ex)
theorem Hs.into (e : l[i]? = some p) (h : Hs K H (q :: (l.eraseIdx i ++ ex))) : Hs K H (l.set i q ++ ex) := h.perm ((perm_set e).symm.append_right ex)
theorem Hs.front {a b : List Sl} (h : Hs K H (a ++ p :: b)) : Hs K H (p :: (a ++ b)) := h.perm List.perm_middle
theorem Hs.mid {a b : List Sl} (h : Hs K H (p :: (a ++ b))) : Hs K H (a ++ p :: b) := h.perm List.perm_middle.symm
theorem Hs.drops {a b : List Sl} (h : Hs K H (a ++ b)) : Hs K H b := by
  induction a with
  | nil => exact h
  | cons x r ih => exact ih h.tail
theorem Hs.swap2 {a b : Sl} {r : List Sl} (h : Hs K H (a :: b :: r)) : Hs K H (b :: a :: r) := h.perm (List.Perm.swap b a r)
/-- of a value that no one changes there may be two -/
theorem Hs.copy {v : V} {x : PyData} (h : Hs K H ((some v, .d x) :: ex)) : Hs K H ((some v, .d x) :: (some v, .d x) :: ex) := by
  refine h.cons_d ?_
  have := h.ok _ List.mem_cons_self
  exact this
end

/-! ## the judgements -/
abbrev G := List SV
/-- a result, and the slot from which it was taken (an own list that is lent) -/
abbrev R := SV × Option Nat
abbrev TD := G → (R → G → Prop) → Prop
abbrev TDA := G → (List R → G → Prop) → Prop
abbrev TDT := G → (Bool → G → Prop) → Prop
structure ED where
  nx : G → Prop
  rt : SV → G → Prop
  bk : G → Prop := fun _ => False
  ct : G → Prop := fun _ => False
abbrev TDS := ED → G → Prop
structure HE (K : KF) (H : Hp) (σ : St) (Γ : G) (ex : List Sl) : Prop where
  len : σ.length = Γ.length
  hs : Hs K H (σ.zip Γ ++ ex)
def Og (σ : St) (v : V) (r : R) : Prop := ∀ i, r.2 = some i → σ[i]? = some (some v)
theorem Og.none {σ : St} {v : V} {s : SV} : Og σ v (s, none) := fun i e => by cases e
def Ogs (σ : St) (vs : List V) (rs : List R) : Prop := Paired (Og σ) vs rs
def tmp (vs : List V) (rs : List R) : List Sl := (vs.map some).zip (rs.map (·.1))
def tmpS (vs : List V) (ss : List SV) : List Sl := (vs.map some).zip ss

def DE (T : Tbs) (X : Cx) (e : Expr) (t : TD) : Prop := ∃ te, PE X e te ∧ ∀ σ H Γ ex (P : R → G → Prop) (Q : VK), HE (X.K, T) H σ Γ ex → t Γ P →
  (∀ v H' r Γ', HE (X.K, T) H' σ Γ' ((some v, r.1) :: ex) → Og σ v r → P r Γ' → Q v H') → te σ H Q
def DA (T : Tbs) (X : Cx) (es : List Expr) (t : TDA) : Prop := ∃ ta, PA X es ta ∧ ∀ σ H Γ ex (P : List R → G → Prop) (Q : List V → Hp → Prop), HE (X.K, T) H σ Γ ex → t Γ P →
  (∀ vs H' rs Γ', HE (X.K, T) H' σ Γ' (tmp vs rs ++ ex) → Ogs σ vs rs → P rs Γ' → Q vs H') → ta σ H Q
def DT (T : Tbs) (X : Cx) (e : Expr) (t : TDT) : Prop := ∃ tt, PT X e tt ∧ ∀ σ H Γ ex (P : Bool → G → Prop) (Q : Bool → Hp → Prop), HE (X.K, T) H σ Γ ex → t Γ P →
  (∀ b H' Γ', HE (X.K, T) H' σ Γ' ex → P b Γ' → Q b H') → tt σ H Q
/-- .. whatever the whole of it is (and, or) -/
def DW (T : Tbs) (X : Cx) (e : Expr) (t : TDT) : Prop := ∃ tt, PW X e tt ∧ ∀ σ H Γ ex (P : Bool → G → Prop) (Q : Bool → Hp → Prop), HE (X.K, T) H σ Γ ex → t Γ P →
  (∀ b H' Γ', HE (X.K, T) H' σ Γ' ex → P b Γ' → Q b H') → tt σ H Q
structure HS (K : KF) (fx : List Nat) (ρ : Nat → V) (H : Hp) (σ : St) (Γ : G) (ex : List Sl) : Prop where
  he : HE K H σ Γ ex
  fix : ∀ i ∈ fx, σ[i]? = some (some (ρ i))
structure Cmp (K : KF) (fx : List Nat) (ρ : Nat → V) (ex : List Sl) (E : ED) (D : Ends) : Prop where
  nx : ∀ σ H Γ, HS K fx ρ H σ Γ ex → E.nx Γ → D.nx σ H
  rt : ∀ v s σ H Γ, HS K fx ρ H σ Γ ((some v, s) :: ex) → E.rt s Γ → D.rt v H
  bk : ∀ σ H Γ, HS K fx ρ H σ Γ ex → E.bk Γ → D.bk σ H
  ct : ∀ σ H Γ, HS K fx ρ H σ Γ ex → E.ct Γ → D.ct σ H
def DS (T : Tbs) (X : Cx) (fx : List Nat) (st : Stmt) (t : TDS) : Prop := ∃ ts, PS X st ts ∧ ∀ ρ σ H Γ ex E D, HS (X.K, T) fx ρ H σ Γ ex → t E Γ → Cmp (X.K, T) fx ρ ex E D → ts D σ H
def DSs (T : Tbs) (X : Cx) (fx : List Nat) (st : List Stmt) (t : TDS) : Prop := ∃ ts, PSs X st ts ∧ ∀ ρ σ H Γ ex E D, HS (X.K, T) fx ρ H σ Γ ex → t E Γ → Cmp (X.K, T) fx ρ ex E D → ts D σ H

/-! ## lending -/
def back : List R → List SV → G → G
  | r :: rs, s :: ss, Γ => back rs ss (match r.2 with | some i => Γ.set i s | none => Γ)
  | _, _, Γ => Γ
section
variable {K : KF} {H : Hp} {σ : St} {Γ : G} {ex : List Sl} {v : V} {s : SV}
theorem HE.put {i : Nat} (h : HE K H σ Γ ((some v, s) :: ex)) (e : σ[i]? = some (some v)) : HE K H σ (Γ.set i s) ex := by
  refine ⟨by rw [List.length_set]; exact h.len, ?_⟩
  obtain ⟨hi, _⟩ := List.getElem?_eq_some_iff.mp e
  have hi' : i < Γ.length := by rw [← h.len]; exact hi
  obtain ⟨o, h1, h2⟩ := zip_at h.len (List.getElem?_eq_getElem hi')
  have e2 : σ.set i (some v) = σ := by
    refine List.ext_getElem? (fun j => ?_)
    rw [List.getElem?_set]
    split
    · rename_i q; subst q; first | exact e.symm | (rw [if_pos hi, e])
    · rfl
  have hz : σ.zip (Γ.set i s) = (σ.zip Γ).set i (some v, s) := by rw [← zip_set, e2]
  rw [hz]
  refine Hs.into h2 ?_
  have h3 := h.hs.front
  exact (Hs.out h3.tail h2).tail |> fun _ => by
    have h4 : Hs K H ((some v, s) :: ((σ.zip Γ) ++ ex)) := h3
    have h5 : Hs K H (((some v, s) :: (σ.zip Γ)) ++ ex) := h4
    have h6 : Hs K H ((o, Γ[i]) :: (((some v, s) :: (σ.zip Γ)).eraseIdx (i + 1) ++ ex)) := Hs.out (i := i + 1) h5 (by simpa using h2)
    exact h6.tail
theorem HE.dropx {p : Sl} (h : HE K H σ Γ (p :: ex)) : HE K H σ Γ ex := ⟨h.len, h.hs.front.tail⟩
theorem HE.perm {ex' : List Sl} (h : HE K H σ Γ ex) (e : ex.Perm ex') : HE K H σ Γ ex' := ⟨h.len, h.hs.perm (e.append_left _)⟩
theorem HE.back : ∀ {rs : List R} {ss : List SV} {vs : List V} {Γ : G}, ss.length = rs.length → Ogs σ vs rs → HE K H σ Γ (tmpS vs ss ++ ex) → HE K H σ (back rs ss Γ) ex
  | [], ss, vs, Γ, hl, og, h => by
    cases og
    cases ss with
    | nil => exact h
    | cons _ _ => cases hl
  | r :: rs, [], _, _, hl, _, _ => by cases hl
  | r :: rs, s :: ss, _, Γ, hl, og, h => by
    cases og with
    | cons o og =>
      rename_i v vs
      have h1 : HE K H σ Γ ((some v, s) :: (tmpS vs ss ++ ex)) := h
      show HE K H σ (DL.back rs ss (match r.2 with | some i => Γ.set i s | none => Γ)) ex
      refine HE.back (by simpa using hl) og ?_
      cases e : r.2 with
      | none => exact h1.dropx
      | some i => exact h1.put (o i e)
end

/-! ## operations by values -/
abbrev CT := List SV → (SV → List SV → Prop) → Prop
def Snd (K : KF) (r : List V → Hp → VK → Prop) (c : CT) : Prop := ∀ vs H ss ex (P : SV → List SV → Prop) (Q : VK), vs.length = ss.length → Hs K H (tmpS vs ss ++ ex) → c ss P →
  (∀ s ss' v H', P s ss' → ss'.length = ss.length → Hs K H' ((some v, s) :: (tmpS vs ss' ++ ex)) → Q v H') → r vs H Q
def Snd2 (K : KF) (r : R2) (c : CT) : Prop := ∀ x y H s1 s2 ex (P : SV → List SV → Prop) (Q : VK), Hs K H ((some x, s1) :: (some y, s2) :: ex) → c [s1, s2] P →
  (∀ s s1' s2' v H', P s [s1', s2'] → Hs K H' ((some v, s) :: (some x, s1') :: (some y, s2') :: ex) → Q v H') → r x y H Q
/-- a method's: the receiver, the arguments -/
def SndM (K : KF) (r : V → List V → Hp → VK → Prop) (c : CT) : Prop := ∀ x vs H s ss ex (P : SV → List SV → Prop) (Q : VK), vs.length = ss.length → Hs K H ((some x, s) :: (tmpS vs ss ++ ex)) → c (s :: ss) P →
  (∀ z s' ss' v H', P z (s' :: ss') → ss'.length = ss.length → Hs K H' ((some v, z) :: (some x, s') :: (tmpS vs ss' ++ ex)) → Q v H') → r x vs H Q
def tAp (ta : TDA) (c : CT) : TD := fun Γ P => ta Γ fun rs Γ1 => c (rs.map (·.1)) fun s ss => P (s, none) (back rs ss Γ1)
def tAp2 (ta tb : TD) (c : CT) : TD := fun Γ P => ta Γ fun r1 Γ1 => tb Γ1 fun r2 Γ2 => c [r1.1, r2.1] fun s ss => P (s, none) (back [r1, r2] ss Γ2)

section
variable {T : Tbs} {X : Cx} {a b e : Expr} {es : List Expr} {ta tb t : TD} {pos : Pos} {u : TDA} {c : CT}
theorem vals_len {σ : St} {vs : List V} {rs : List R} (h : Ogs σ vs rs) : vs.length = rs.length := Paired.length h
theorem tmp_S {vs : List V} {rs : List R} : tmp vs rs = tmpS vs (rs.map (·.1)) := rfl
def tdNil : TDA := fun Γ P => P [] Γ
def tdCons (t : TD) (u : TDA) : TDA := fun Γ P => t Γ fun r Γ1 => u Γ1 fun rs Γ2 => P (r :: rs) Γ2
theorem da_nil : DA T X [] tdNil := ⟨_, pa_nil, fun σ H Γ ex P Q h p q => q [] H [] Γ h .nil p⟩
theorem da_cons (ha : DE T X e t) (hr : DA T X es u) (hs : starEach (e :: es) X.env = (false, eval e X.env) :: starEach es X.env := by rfl) : DA T X (e :: es) (tdCons t u) := by
  obtain ⟨te, h1, h2⟩ := ha
  obtain ⟨tr, h3, h4⟩ := hr
  refine ⟨_, pa_cons h1 h3 hs, fun σ H Γ ex P Q h p q => ?_⟩
  refine h2 σ H Γ ex _ _ h p fun v H1 r Γ1 he og p1 => ?_
  refine h4 σ H1 Γ1 _ _ _ he p1 fun vs H2 rs Γ2 he2 ogs p2 => ?_
  refine q (v :: vs) H2 (r :: rs) Γ2 (he2.perm ?_) (.cons og ogs) p2
  exact List.perm_middle
/-- what a reading makes of an expression -/
def Sound (K : KF) (te : TE) (t : TD) : Prop := ∀ σ H Γ ex (P : R → G → Prop) (Q : VK), HE K H σ Γ ex → t Γ P → (∀ v H' r Γ', HE K H' σ Γ' ((some v, r.1) :: ex) → Og σ v r → P r Γ' → Q v H') → te σ H Q
theorem op2_sound {K : KF} {r : R2} {te tr : TE} (hs : Snd2 K r c) (h2 : Sound K te ta) (h4 : Sound K tr tb) : Sound K (tOp r te tr) (tAp2 ta tb c) := by
  intro σ H Γ ex P Q h p q
  refine h2 σ H Γ ex _ _ h p fun v H1 r Γ1 he og p1 => ?_
  refine h4 σ H1 Γ1 _ _ _ he p1 fun w H2 r' Γ2 he2 og2 p2 => ?_
  have hx : Hs K H2 ((some v, r.1) :: (some w, r'.1) :: (σ.zip Γ2 ++ ex)) := by
    have := he2.hs
    refine this.perm ?_
    refine (List.perm_middle (a := (some w, r'.1)) (l₁ := σ.zip Γ2) (l₂ := (some v, r.1) :: ex)).trans ?_
    refine ((List.perm_middle (a := (some v, r.1)) (l₁ := σ.zip Γ2) (l₂ := ex)).cons _).trans ?_
    exact List.Perm.swap _ _ _
  refine hs v w H2 r.1 r'.1 _ _ _ hx p2 fun s s1 s2 z H3 p3 h5 => ?_
  have h6 : HE K H3 σ Γ2 (tmpS [v, w] [s1, s2] ++ ((some z, s) :: ex)) := by
    refine ⟨he2.len, h5.perm ?_⟩
    show List.Perm ((some z, s) :: (some v, s1) :: (some w, s2) :: (σ.zip Γ2 ++ ex)) (σ.zip Γ2 ++ ((some v, s1) :: (some w, s2) :: (some z, s) :: ex))
    have p1 : List.Perm ((some z, s) :: (some v, s1) :: (some w, s2) :: (σ.zip Γ2 ++ ex)) ([(some v, s1), (some w, s2), (some z, s)] ++ (σ.zip Γ2 ++ ex)) :=
      (List.perm_middle (a := ((some z, s) : Sl)) (l₁ := [(some v, s1), (some w, s2)]) (l₂ := σ.zip Γ2 ++ ex)).symm.trans (List.Perm.refl _)
    refine p1.trans ?_
    rw [← List.append_assoc]
    refine (List.Perm.append_right ex List.perm_append_comm).trans ?_
    rw [List.append_assoc]
    exact List.Perm.refl _
  exact q z H3 (s, none) _ (HE.back (rs := [r, r']) (vs := [v, w]) rfl (.cons og (.cons og2 .nil)) h6) Og.none p3
/-- two operands -/
theorem de_op2 {r : R2} {pe : TE → TE → TE} {mk : Expr} (hp : ∀ ta tb, PE X a ta → PE X b tb → PE X mk (tOp r ta tb)) (hs : Snd2 (X.K, T) r c) (ha : DE T X a ta) (hb : DE T X b tb) : DE T X mk (tAp2 ta tb c) := by
  obtain ⟨te, h1, h2⟩ := ha
  obtain ⟨tr, h3, h4⟩ := hb
  exact ⟨_, hp _ _ h1 h3, op2_sound hs h2 h4⟩
/-- .. as a test -/
def tdTest (t : TD) : TDT := fun Γ P => t Γ fun r Γ1 => ∃ k, r.1 = .d (.bool k) ∧ P k Γ1
theorem Sound.test {K : KF} {te : TE} {t : TD} (h : Sound K te t) : ∀ σ H Γ ex (P : Bool → G → Prop) (Q : Bool → Hp → Prop), HE K H σ Γ ex → tdTest t Γ P → (∀ b H' Γ', HE K H' σ Γ' ex → P b Γ' → Q b H') → tTest te σ H Q := by
  intro σ H Γ ex P Q hh p q
  refine h σ H Γ ex _ _ hh p fun v H' r Γ' he og p1 => ?_
  obtain ⟨k, e, p1⟩ := p1
  obtain ⟨s, o⟩ := r
  cases e
  have d := he.hs.front.get_d
  cases d
  exact ⟨k, rfl, q k H' Γ' ⟨he.len, he.hs.front.tail⟩ p1⟩
theorem dt_op2 {r : R2} {mk : Expr} (hp : ∀ ta tb, PE X a ta → PE X b tb → PT X mk (tTest (tOp r ta tb))) (hs : Snd2 (X.K, T) r c) (ha : DE T X a ta) (hb : DE T X b tb) : DT T X mk (tdTest (tAp2 ta tb c)) := by
  obtain ⟨te, h1, h2⟩ := ha
  obtain ⟨tr, h3, h4⟩ := hb
  exact ⟨_, hp _ _ h1 h3, (op2_sound hs h2 h4).test⟩
theorem dt_cmp {op : CmpOp} {r : R2} (ho : OpR X (compareOp op) r) (hs : Snd2 (X.K, T) r c) (ha : DE T X a ta) (hb : DE T X b tb) (hm : behindInMarks op b = false) : DT T X (.Compare a [op] [b] pos) (tdTest (tAp2 ta tb c)) := dt_op2 (fun _ _ h1 h2 => pt_cmpR ho h1 h2 hm) hs ha hb
theorem de_bin {op : Operator} {r : R2} (ho : OpR X (binaryOp op) r) (hs : Snd2 (X.K, T) r c) (ha : DE T X a ta) (hb : DE T X b tb) : DE T X (.BinOp a op b pos) (tAp2 ta tb c) := de_op2 (pe := tOp r) (fun _ _ h1 h2 => pe_op ho h1 h2) hs ha hb
theorem de_cmp {op : CmpOp} {r : R2} (ho : OpR X (compareOp op) r) (hs : Snd2 (X.K, T) r c) (ha : DE T X a ta) (hb : DE T X b tb) (hm : behindInMarks op b = false) : DE T X (.Compare a [op] [b] pos) (tAp2 ta tb c) := de_op2 (pe := tOp r) (fun _ _ h1 h2 => pe_cmpR ho h1 h2 hm) hs ha hb
theorem de_ix {r : R2} (hr : IxR X r) (hs : Snd2 (X.K, T) r c) (ha : DE T X a ta) (hb : DE T X b tb) (hp : PlainIx b) : DE T X (.Subscript a b pos) (tAp2 ta tb c) := de_op2 (pe := tOp r) (fun _ _ h1 h2 => pe_ix hr h1 h2 hp) hs ha hb
/-- arguments, then an operation -/
theorem de_ap {r : List V → Hp → VK → Prop} {mk : Expr} (hp : ∀ ta, PA X es ta → ∃ te, PE X mk te ∧ ∀ σ H Q, ta σ H (fun vs H1 => r vs H1 Q) → te σ H Q) (hs : Snd (X.K, T) r c) (ha : DA T X es u) : DE T X mk (tAp u c) := by
  obtain ⟨ta, h1, h2⟩ := ha
  obtain ⟨te, h3, h4⟩ := hp ta h1
  refine ⟨te, h3, fun σ H Γ ex P Q h p q => h4 σ H Q ?_⟩
  refine h2 σ H Γ ex _ _ h p fun vs H1 rs Γ1 he og p1 => ?_
  have hl := vals_len og
  have hx : Hs (X.K, T) H1 (tmpS vs (rs.map (·.1)) ++ (σ.zip Γ1 ++ ex)) := by
    have := he.hs
    rw [← List.append_assoc] at this ⊢
    exact this.perm (List.Perm.append_right ex List.perm_append_comm)
  refine hs vs H1 (rs.map (·.1)) _ _ _ (by rw [List.length_map]; exact hl) hx p1 fun s ss v H2 p2 l2 h5 => ?_
  have h6 : HE (X.K, T) H2 σ Γ1 (tmpS vs ss ++ ((some v, s) :: ex)) := by
    refine ⟨he.len, h5.perm ?_⟩
    repeat rw [← List.append_assoc]
    refine (List.perm_middle (a := ((some v, s) : Sl)) (l₁ := tmpS vs ss ++ σ.zip Γ1) (l₂ := ex)).symm.trans ?_
    exact (List.perm_append_comm).append_right _
  exact q v H2 (s, none) _ (HE.back (rs := rs) (vs := vs) (by rw [l2, List.length_map]) og h6) Og.none p2

/-! ## names, constants -/
def tdVar (i : Nat) : TD := fun Γ P => match Γ[i]? with
  | some (.d x) => P (.d x, none) Γ
  | some (.m xs) => P (.m xs, some i) (Γ.set i .no)
  | some (.t kvs) => P (.t kvs, some i) (Γ.set i .no)
  | _ => False
theorem set_no {σ : St} {Γ : G} {ex : List Sl} {i : Nat} {o : Option V} {s : SV} {K : KF} {H : Hp} (h : HE K H σ Γ ex) (e : σ[i]? = some o) (hz : (σ.zip Γ)[i]? = some (o, s)) : HE K H σ (Γ.set i .no) ((o, s) :: ex) := by
  refine ⟨by rw [List.length_set]; exact h.len, ?_⟩
  have e2 : σ.set i o = σ := by
    refine List.ext_getElem? (fun j => ?_)
    rw [List.getElem?_set]
    split
    · rename_i q; subst q
      obtain ⟨hi, _⟩ := List.getElem?_eq_some_iff.mp e
      first | exact e.symm | (rw [if_pos hi, e])
    · rfl
  have hzz : σ.zip (Γ.set i .no) = (σ.zip Γ).set i (o, .no) := by rw [← zip_set, e2]
  rw [hzz]
  refine Hs.into (p := (o, s)) hz ?_
  refine Hs.cons_no ?_
  exact (Hs.out h.hs hz).mid
theorem Ok.some {K : KF} {H Hd : Hp} {o : Option V} {s : SV} (h : Ok K.1 H Hd (o, s)) (n : s ≠ .no) : ∃ v, o = Option.some v := by
  cases o with
  | some v => exact ⟨v, rfl⟩
  | none => cases s with
    | no => exact absurd rfl n
    | _ => exact h.elim
theorem de_var (i : Nat) {x : Str} {pos : Pos} (hv : PE X (.Name x pos) (tVar i)) : DE T X (.Name x pos) (tdVar i) := by
  refine ⟨_, hv, fun σ H Γ ex P Q h p q => ?_⟩
  unfold tdVar at p
  cases e : Γ[i]? with
  | none => rw [e] at p; exact p.elim
  | some s =>
    rw [e] at p
    obtain ⟨o, e1, e2⟩ := zip_at h.len e
    have ok := h.hs.ok _ (List.mem_append_left _ (List.mem_of_getElem? e2))
    cases s with
    | no => exact p.elim
    | d x =>
      obtain ⟨v, rfl⟩ := ok.some (by intro z; cases z)
      refine ⟨v, e1, q v H (.d x, none) Γ ⟨h.len, ?_⟩ Og.none p⟩
      exact (h.hs.cons_d ok).mid
    | m xs =>
      obtain ⟨v, rfl⟩ := ok.some (by intro z; cases z)
      exact ⟨v, e1, q v H (.m xs, some i) _ (set_no h e1 e2) (fun j z => by cases z; exact e1) p⟩
    | t xs =>
      obtain ⟨v, rfl⟩ := ok.some (by intro z; cases z)
      exact ⟨v, e1, q v H (.t xs, some i) _ (set_no h e1 e2) (fun j z => by cases z; exact e1) p⟩
def tdC (x : PyData) : TD := fun Γ P => P (.d x, none) Γ
theorem HE.addd {K : KF} {H : Hp} {σ : St} {Γ : G} {ex : List Sl} {v : V} {x : PyData} (h : HE K H σ Γ ex) (q : Dt K.1 (hid (ads (σ.zip Γ ++ ex)) H) v x) : HE K H σ Γ ((some v, .d x) :: ex) := ⟨h.len, (h.hs.cons_d q).mid⟩
theorem de_c {v : V} {x : PyData} (hp : PE X e (tC v)) (hd : ∀ H, Dt X.K H v x) : DE T X e (tdC x) := ⟨_, hp, fun σ H Γ ex P Q h p q => q v H (.d x, none) Γ (h.addd (hd _)) Og.none p⟩
theorem de_int {i j pos} : DE T X (.Constant (.int i) j pos) (tdC (.int i)) := de_c pe_int fun _ => .int i
theorem de_bl {b j pos} : DE T X (.Constant (.bool b) j pos) (tdC (.bool b)) := de_c pe_bl fun _ => .bl b
theorem de_non {j pos} : DE T X (.Constant .none j pos) (tdC .none) := de_c pe_non fun _ => .non
theorem de_str {x j pos} : DE T X (.Constant (.str x) j pos) (tdC (.str x)) := de_c pe_str fun _ => .str x
end
end DL

namespace DL
open PySem L2

/-! ## tests -/
def truthS : SV → Option Bool
  | .d .none => some false
  | .d (.bool b) => some b
  | .d (.int i) => some (i != 0)
  | .d (.list xs) => some (!xs.isEmpty)
  | .d (.tuple xs) => some (!xs.isEmpty)
  | .m xs => some (!xs.isEmpty)
  | _ => none
theorem DtAll.isEmpty {K : KF} {H : Hp} {vs : List V} {ds : List PyData} (h : DtAll K.1 H vs ds) : vs.isEmpty = ds.isEmpty := by cases h <;> rfl
theorem Hs.truth {K : KF} {H : Hp} {v : V} {s : SV} {ps : List Sl} {b : Bool} (h : Hs K H ((some v, s) :: ps)) (e : truthS s = some b) : TruV K.1 v H b := by
  cases s with
  | d x =>
    have q := h.get_d.le hid_sub
    cases q with
    | non => cases e; rfl
    | bl b => cases e; rfl
    | int i => cases e; rfl
    | str x => cases e
    | lst h1 h2 => cases e; exact .inl ⟨_, SqL.of h1, by rw [h2.isEmpty]⟩
    | tup h1 h2 => cases e; exact .inr (.inl ⟨_, h1, by rw [h2.isEmpty]⟩)
    | scr h1 h2 => cases e
    | exc0 _ => cases e
    | exc1 _ _ _ => cases e
  | m xs =>
    obtain ⟨a, vs, rfl, h1, h2, _⟩ := h.get_m
    cases e
    exact .inl ⟨_, SqL.of h1, by rw [h2.isEmpty]⟩
  | no => cases e
  | t _ => cases e
def tdTruth (t : TD) : TDT := fun Γ P => t Γ fun r Γ1 => ∃ b, truthS r.1 = some b ∧ P b (back [r] [r.1] Γ1)
section
variable {T : Tbs} {X : Cx} {a b e : Expr} {es rest : List Expr} {t ta tb : TD} {u u' : TDT} {pos : Pos} {fx : List Nat}
theorem HE.back1 {K : KF} {H : Hp} {σ : St} {Γ : G} {ex : List Sl} {v : V} {r : R} (og : Og σ v r) (h : HE K H σ Γ ((some v, r.1) :: ex)) : HE K H σ (DL.back [r] [r.1] Γ) ex := HE.back (rs := [r]) (vs := [v]) rfl (.cons og .nil) h
theorem dt_truth (h : DE T X e t) (he : ∀ whole, isTrue e X.env whole = (do let v ← whole; standAt e.pos; holding [v] (truthy v)) := by intro _; rfl) : DT T X e (tdTruth t) := by
  obtain ⟨te, h1, h2⟩ := h
  refine ⟨_, pt_truth h1 he, fun σ H Γ ex P Q h p q => ?_⟩
  refine h2 σ H Γ ex _ _ h p fun v H' r Γ' he og p1 => ?_
  obtain ⟨b, e, p1⟩ := p1
  exact ⟨b, he.hs.front.truth e, q b H' _ (he.back1 og) p1⟩
def tdNot (t : TDT) : TDT := fun Γ P => t Γ fun b Γ1 => P (!b) Γ1
theorem dt_not (h : DT T X a u) : DT T X (.UnaryOp .Not a pos) (tdNot u) := by
  obtain ⟨tt, h1, h2⟩ := h
  exact ⟨_, pt_not h1, fun σ H Γ ex P Q h p q => h2 σ H Γ ex _ _ h p fun b H' Γ' he p1 => q (!b) H' Γ' he p1⟩
def tdAnd (t u : TDT) : TDT := fun Γ P => t Γ fun b Γ1 => if b = true then u Γ1 P else P false Γ1
def tdOr (t u : TDT) : TDT := fun Γ P => t Γ fun b Γ1 => if b = true then P true Γ1 else u Γ1 P
theorem dw_and1 (h : DT T X a u) : DW T X (.BoolOp .And [a] pos) u := by
  obtain ⟨tt, h1, h2⟩ := h
  exact ⟨_, pw_and1 h1, h2⟩
theorem dw_or1 (h : DT T X a u) : DW T X (.BoolOp .Or [a] pos) u := by
  obtain ⟨tt, h1, h2⟩ := h
  exact ⟨_, pw_or1 h1, h2⟩
theorem dw_and (h : DT T X a u) (k : DW T X (.BoolOp .And (b :: rest) pos) u') : DW T X (.BoolOp .And (a :: b :: rest) pos) (tdAnd u u') := by
  obtain ⟨tt, h1, h2⟩ := h
  obtain ⟨tw, h3, h4⟩ := k
  refine ⟨_, pw_and h1 h3, fun σ H Γ ex P Q h p q => h2 σ H Γ ex _ _ h p fun b H' Γ' he p1 => ?_⟩
  cases b with
  | true => rw [if_pos rfl] at p1 ⊢; exact h4 σ H' Γ' ex _ _ he p1 q
  | false => rw [if_neg Bool.false_ne_true] at p1 ⊢; exact q false H' Γ' he p1
theorem dw_or (h : DT T X a u) (k : DW T X (.BoolOp .Or (b :: rest) pos) u') : DW T X (.BoolOp .Or (a :: b :: rest) pos) (tdOr u u') := by
  obtain ⟨tt, h1, h2⟩ := h
  obtain ⟨tw, h3, h4⟩ := k
  refine ⟨_, pw_or h1 h3, fun σ H Γ ex P Q h p q => h2 σ H Γ ex _ _ h p fun b H' Γ' he p1 => ?_⟩
  cases b with
  | true => rw [if_pos rfl] at p1 ⊢; exact q true H' Γ' he p1
  | false => rw [if_neg Bool.false_ne_true] at p1 ⊢; exact h4 σ H' Γ' ex _ _ he p1 q
theorem dw_pt (h : DW T X e u) : DT T X e u := by
  obtain ⟨tt, h1, h2⟩ := h
  exact ⟨_, h1.pt, h2⟩

/-! ## values by tests -/
def tdIfE (t : TDT) (ta tb : TD) : TD := fun Γ P => t Γ fun b Γ1 => if b = true then ta Γ1 P else tb Γ1 P
theorem de_ifExp {c : Expr} (hc : DT T X c u) (ha : DE T X a ta) (hb : DE T X b tb) : DE T X (.IfExp c a b pos) (tdIfE u ta tb) := by
  obtain ⟨tt, h1, h2⟩ := hc
  obtain ⟨t1, h3, h4⟩ := ha
  obtain ⟨t2, h5, h6⟩ := hb
  refine ⟨_, pe_ifExp h1 h3 h5, fun σ H Γ ex P Q h p q => h2 σ H Γ ex _ _ h p fun b H' Γ' he p1 => ?_⟩
  cases b with
  | true => rw [if_pos rfl] at p1 ⊢; exact h4 σ H' Γ' ex _ _ he p1 q
  | false => rw [if_neg Bool.false_ne_true] at p1 ⊢; exact h6 σ H' Γ' ex _ _ he p1 q
/-- x or y, x and y of any values -/
def tdOrE (ta tb : TD) : TD := fun Γ P => ta Γ fun r Γ1 => ∃ k, truthS r.1 = some k ∧ if k = true then P r Γ1 else tb (back [r] [r.1] Γ1) P
def tdAndE (ta tb : TD) : TD := fun Γ P => ta Γ fun r Γ1 => ∃ k, truthS r.1 = some k ∧ if k = true then tb (back [r] [r.1] Γ1) P else P r Γ1
theorem de_one {op} (h : DE T X a t) : DE T X (.BoolOp op [a] pos) t := by
  obtain ⟨te, h1, h2⟩ := h
  exact ⟨te, pe_one h1, h2⟩
theorem de_or (ha : DE T X a ta) (hb : DE T X (.BoolOp .Or (b :: rest) pos) tb) : DE T X (.BoolOp .Or (a :: b :: rest) pos) (tdOrE ta tb) := by
  obtain ⟨t1, h1, h2⟩ := ha
  obtain ⟨t2, h3, h4⟩ := hb
  refine ⟨_, pe_orT h1 h3, fun σ H Γ ex P Q h p q => h2 σ H Γ ex _ _ h p fun v H' r Γ' he og p1 => ?_⟩
  obtain ⟨k, e, p1⟩ := p1
  refine ⟨k, he.hs.front.truth e, ?_⟩
  cases k with
  | true => rw [if_pos rfl] at p1 ⊢; exact q v H' r Γ' he og p1
  | false => rw [if_neg Bool.false_ne_true] at p1 ⊢; exact h4 σ H' _ ex _ _ (he.back1 og) p1 q
theorem de_and (ha : DE T X a ta) (hb : DE T X (.BoolOp .And (b :: rest) pos) tb) : DE T X (.BoolOp .And (a :: b :: rest) pos) (tdAndE ta tb) := by
  obtain ⟨t1, h1, h2⟩ := ha
  obtain ⟨t2, h3, h4⟩ := hb
  refine ⟨_, pe_andT h1 h3, fun σ H Γ ex P Q h p q => h2 σ H Γ ex _ _ h p fun v H' r Γ' he og p1 => ?_⟩
  obtain ⟨k, e, p1⟩ := p1
  refine ⟨k, he.hs.front.truth e, ?_⟩
  cases k with
  | true => rw [if_pos rfl] at p1 ⊢; exact h4 σ H' _ ex _ _ (he.back1 og) p1 q
  | false => rw [if_neg Bool.false_ne_true] at p1 ⊢; exact q v H' r Γ' he og p1
def tdNotE (ta : TD) : TD := fun Γ P => ta Γ fun r Γ1 => ∃ k, truthS r.1 = some k ∧ P (.d (.bool (!k)), none) (back [r] [r.1] Γ1)
theorem de_not (ha : DE T X a ta) : DE T X (.UnaryOp .Not a pos) (tdNotE ta) := by
  obtain ⟨t1, h1, h2⟩ := ha
  refine ⟨_, pe_notT h1, fun σ H Γ ex P Q h p q => h2 σ H Γ ex _ _ h p fun v H' r Γ' he og p1 => ?_⟩
  obtain ⟨k, e, p1⟩ := p1
  exact ⟨k, he.hs.front.truth e, q _ H' (.d (.bool (!k)), none) _ ((he.back1 og).addd (.bl _)) Og.none p1⟩

/-! ## statements -/
theorem HE.setv {K : KF} {H : Hp} {σ : St} {Γ : G} {ex : List Sl} {v : V} {s : SV} {i : Nat} (h : HE K H σ Γ ((some v, s) :: ex)) : HE K H (σ.set i (some v)) (Γ.set i s) ex := by
  refine ⟨by rw [List.length_set, List.length_set]; exact h.len, ?_⟩
  by_cases hi : i < Γ.length
  · obtain ⟨o, h1, h2⟩ := zip_at h.len (List.getElem?_eq_getElem hi)
    rw [zip_set]
    refine Hs.into h2 ?_
    have h3 : Hs K H (((some v, s) :: (σ.zip Γ)) ++ ex) := h.hs.front
    have h6 : Hs K H ((o, Γ[i]) :: (((some v, s) :: (σ.zip Γ)).eraseIdx (i + 1) ++ ex)) := Hs.out (i := i + 1) h3 (by simpa using h2)
    exact h6.tail
  · have e1 : Γ.set i s = Γ := List.set_eq_of_length_le (by omega)
    have e2 : σ.set i (some v) = σ := List.set_eq_of_length_le (by rw [h.len]; omega)
    rw [e1, e2]
    exact h.hs.front.tail
theorem HS.setv {K : KF} {ρ : Nat → V} {H : Hp} {σ : St} {Γ : G} {ex : List Sl} {v : V} {s : SV} {i : Nat} (h : HS K fx ρ H σ Γ ((some v, s) :: ex)) (ni : i ∉ fx) : HS K fx ρ H (σ.set i (some v)) (Γ.set i s) ex :=
  ⟨h.he.setv, fun j hj => by rw [List.getElem?_set_ne (fun (z : i = j) => ni (by rw [z]; exact hj))]; exact h.fix j hj⟩
def tdSet (i : Nat) (t : TD) : TDS := fun E Γ => t Γ fun r Γ1 => E.nx (Γ1.set i r.1)
theorem ds_set {i : Nat} {st : Stmt} (hp : ∀ te, PE X e te → PS X st (tAsg te (gName i))) (he : DE T X e t) (ni : i ∉ fx := by decide) : DS T X fx st (tdSet i t) := by
  obtain ⟨te, h1, h2⟩ := he
  refine ⟨_, hp te h1, fun ρ σ H Γ ex E D h p c => ?_⟩
  refine h2 σ H Γ ex _ _ h.he p fun v H' r Γ' he og p1 => ?_
  exact c.nx _ _ _ (HS.setv ⟨he, h.fix⟩ ni) p1
def tdSeq (t u : TDS) : TDS := fun E Γ => t { E with nx := u E } Γ
theorem dss_nil : DSs T X fx [] (fun E Γ => E.nx Γ) := ⟨_, pss_nil, fun ρ σ H Γ ex E D h p c => c.nx _ _ _ h p⟩
theorem dss_cons {st : Stmt} {sts : List Stmt} {t u : TDS} (h1 : DS T X fx st t) (h2 : DSs T X fx sts u) : DSs T X fx (st :: sts) (tdSeq t u) := by
  obtain ⟨t1, h1, h2'⟩ := h1
  obtain ⟨t2, h3, h4⟩ := h2
  refine ⟨_, pss_cons h1 h3, fun ρ σ H Γ ex E D h p c => ?_⟩
  exact h2' ρ σ H Γ ex _ _ h p ⟨fun σ' H' Γ' h' p' => h4 ρ σ' H' Γ' ex E D h' p' c, c.rt, c.bk, c.ct⟩
theorem dss_one {st : Stmt} {t : TDS} (h1 : DS T X fx st t) : DSs T X fx [st] t := by
  obtain ⟨t1, h1, h2'⟩ := h1
  exact ⟨_, pss_one h1, h2'⟩
def tdIf (c : TDT) (t u : TDS) : TDS := fun E Γ => c Γ fun b Γ1 => if b = true then t E Γ1 else u E Γ1
theorem ds_if {c : Expr} {p q : List Stmt} {t v : TDS} (hc : DT T X c u) (ha : DSs T X fx p t) (hb : DSs T X fx q v) : DS T X fx (.If c p q pos) (tdIf u t v) := by
  obtain ⟨tt, h1, h2⟩ := hc
  obtain ⟨t1, h3, h4⟩ := ha
  obtain ⟨t2, h5, h6⟩ := hb
  refine ⟨_, ps_if h1 h3 h5, fun ρ σ H Γ ex E D h p cm => h2 σ H Γ ex _ _ h.he p fun b H' Γ' he p1 => ?_⟩
  cases b with
  | true => rw [if_pos rfl] at p1 ⊢; exact h4 ρ σ H' Γ' ex E D ⟨he, h.fix⟩ p1 cm
  | false => rw [if_neg Bool.false_ne_true] at p1 ⊢; exact h6 ρ σ H' Γ' ex E D ⟨he, h.fix⟩ p1 cm
def tdDrop (t : TD) : TDS := fun E Γ => t Γ fun _ Γ1 => E.nx Γ1
theorem ds_expr (he : DE T X e t) (hs : swapsWith e none pos.line X.env = pure false := by rfl) : DS T X fx (.Expr e pos) (tdDrop t) := by
  obtain ⟨te, h1, h2⟩ := he
  refine ⟨_, ps_expr h1 hs, fun ρ σ H Γ ex E D h p c => ?_⟩
  exact h2 σ H Γ ex _ _ h.he p fun v H' r Γ' he og p1 => c.nx _ _ _ ⟨he.dropx, h.fix⟩ p1
def tdRet (t : TD) : TDS := fun E Γ => t Γ fun r Γ1 => E.rt r.1 Γ1
theorem ds_ret (he : DE T X e t) : DS T X fx (.Return (some e) pos) (tdRet t) := by
  obtain ⟨te, h1, h2⟩ := he
  refine ⟨_, ps_ret h1, fun ρ σ H Γ ex E D h p c => ?_⟩
  exact h2 σ H Γ ex _ _ h.he p fun v H' r Γ' he og p1 => c.rt _ _ _ _ _ ⟨he, h.fix⟩ p1
theorem ds_pass : DS T X fx (.Pass pos) (fun E Γ => E.nx Γ) := ⟨_, ps_pass, fun ρ σ H Γ ex E D h p c => c.nx _ _ _ h p⟩
theorem ds_break : DS T X fx (.Break pos) (fun E Γ => E.bk Γ) := ⟨_, ps_break, fun ρ σ H Γ ex E D h p c => c.bk _ _ _ h p⟩
theorem ds_continue : DS T X fx (.Continue pos) (fun E Γ => E.ct Γ) := ⟨_, ps_continue, fun ρ σ H Γ ex E D h p c => c.ct _ _ _ h p⟩
/-- a, b = x, y: two own names -/
def tdPar (i j : Nat) (ta tb : TD) : TDS := fun E Γ => ta Γ fun r Γ1 => tb Γ1 fun r' Γ2 => E.nx ((Γ2.set i r.1).set j r'.1)
theorem ds_par {i j : Nat} {st : Stmt} (hp : ∀ ta tb, PE X a ta → PE X b tb → PS X st (tPar i j (tCons ta (tCons tb tNil)))) (ha : DE T X a ta) (hb : DE T X b tb) (ni : i ∉ fx := by decide) (nj : j ∉ fx := by decide) : DS T X fx st (tdPar i j ta tb) := by
  obtain ⟨t1, h1, h2⟩ := ha
  obtain ⟨t2, h3, h4⟩ := hb
  refine ⟨_, hp _ _ h1 h3, fun ρ σ H Γ ex E D h p c => ?_⟩
  refine h2 σ H Γ ex _ _ h.he p fun v H1 r Γ1 he og p1 => ?_
  refine h4 σ H1 Γ1 _ _ _ he p1 fun w H2 r' Γ2 he2 og2 p2 => ?_
  refine ⟨v, w, rfl, c.nx _ _ _ ?_ p2⟩
  have q1 : HS (X.K, T) fx ρ H2 σ Γ2 ((some v, r.1) :: (some w, r'.1) :: ex) := ⟨he2.perm (List.Perm.swap _ _ _), h.fix⟩
  exact (q1.setv ni).setv nj

/-! ## while -/
def tdWhile (c : TDT) (tb : TDS) : TDS := fun E Γ => ∃ W : Nat → G → Prop, (∃ m, W m Γ) ∧ ∀ m Γ, W m Γ → c Γ fun b Γ1 =>
  if b = true then tb { E with nx := fun Γ' => ∃ m', m' < m ∧ W m' Γ', ct := fun Γ' => ∃ m', m' < m ∧ W m' Γ', bk := E.nx } Γ1 else E.nx Γ1
theorem ds_while {c : Expr} {body : List Stmt} {tb : TDS} (hp : PassesOwn (model X.prog X.w) X.A X.env X.xe) (hc : DT T X c u) (hb : DSs T X fx body tb) : DS T X fx (.While c body [] pos) (tdWhile u tb) := by
  obtain ⟨tt, h1, h2⟩ := hc
  obtain ⟨t1, h3, h4⟩ := hb
  refine ⟨_, ps_while hp h1 h3, fun ρ σ H Γ ex E D h p cm => ?_⟩
  obtain ⟨W, ⟨m0, w0⟩, turn⟩ := p
  refine ⟨fun m σ H => ∃ Γ, HS (X.K, T) fx ρ H σ Γ ex ∧ W m Γ, ⟨m0, Γ, h, w0⟩, ?_⟩
  rintro m σ1 H1 ⟨Γ1, hs1, w1⟩
  refine h2 σ1 H1 Γ1 ex _ _ hs1.he (turn m Γ1 w1) fun b H2 Γ2 he2 p2 => ?_
  cases b with
  | false => rw [if_neg Bool.false_ne_true] at p2 ⊢; exact cm.nx _ _ _ ⟨he2, hs1.fix⟩ p2
  | true =>
    rw [if_pos rfl] at p2 ⊢
    refine ⟨fun σ' H' => ∃ Γ', HS (X.K, T) fx ρ H' σ' Γ' ex ∧ ∃ m', m' < m ∧ W m' Γ', fun σ' H' ⟨Γ', a, m', b, c⟩ => ⟨m', b, Γ', a, c⟩, ?_⟩
    exact h4 ρ σ1 H2 Γ2 ex _ _ ⟨he2, hs1.fix⟩ p2 ⟨fun σ' H' Γ' h' p' => ⟨Γ', h', p'⟩, cm.rt, fun σ' H' Γ' h' p' => cm.nx _ _ _ h' p', fun σ' H' Γ' h' p' => ⟨Γ', h', p'⟩⟩

/-! ## what is walked -/
/-- from now on no one changes it -/
def frz : SV → SV
  | .m xs => .d (.list xs)
  | .d x => .d x
  | _ => .no
/-- the iterator J gives its, one after another, while held stands -/
def Walks (K : KF) (J : It) (held : List Sl) (its : List PyData) : Prop := ∀ i H rest, Hs K H (held ++ rest) →
  (∀ y, its[i]? = some y → J.go i H ∧ ∀ x H', J.yld i H x H' → Hs K H' ((some x, .d y) :: (held ++ rest))) ∧ (its.length ≤ i → J.stop i H)
abbrev TDI := G → (List PyData → List R → G → Prop) → Prop
def DI (T : Tbs) (X : Cx) (tg iter : Expr) (t : TDI) : Prop := ∃ wi, PI X tg iter wi ∧ ∀ σ H Γ ex (P : List PyData → List R → G → Prop) (Q : It → Hp → Prop), HE (X.K, T) H σ Γ ex → t Γ P →
  (∀ J H' vs rs its Γ', HE (X.K, T) H' σ Γ' (tmp vs rs ++ ex) → Ogs σ vs rs → Walks (X.K, T) J (tmpS vs (rs.map fun r => frz r.1)) its → P its rs Γ' → Q J H') → wi σ H Q
/-- targets -/
abbrev TDG := PyData → G → (G → Prop) → Prop
def Stores (ws : List Nat) (σ σ' : St) : Prop := σ'.length = σ.length ∧ ∀ j, j ∉ ws → σ'[j]? = σ[j]?
def DG (T : Tbs) (X : Cx) (fx : List Nat) (tg : Expr) (ws : List Nat) (t : TDG) : Prop := ∃ g, PG X tg g ∧ ∀ ρ x v σ H Γ ex (P : G → Prop) (Q : St → Hp → Prop), HS (X.K, T) fx ρ H σ Γ ((some v, .d x) :: ex) → t x Γ P →
  (∀ σ' H' Γ', HS (X.K, T) fx ρ H' σ' Γ' ex → Stores ws σ σ' → P Γ' → Q σ' H') → g v σ H Q
def tgName (i : Nat) : TDG := fun x Γ P => P (Γ.set i (.d x))
theorem dg_name {i : Nat} {x : Str} {pos : Pos} (h : PG X (.Name x pos) (gName i)) (ni : i ∉ fx := by decide) : DG T X fx (.Name x pos) [i] (tgName i) :=
  ⟨_, h, fun ρ x v σ H Γ ex P Q h p q => q _ _ _ (h.setv ni) ⟨List.length_set, fun j hj => List.getElem?_set_ne (fun z => hj (by rw [z]; exact List.mem_cons_self))⟩ p⟩
/-- several targets -/
abbrev TDGs := List PyData → G → (G → Prop) → Prop
def DGs (T : Tbs) (X : Cx) (fx : List Nat) (tgs : List Expr) (ws : List Nat) (t : TDGs) : Prop := ∃ g, PGs X tgs g ∧ ∀ ρ xs vs σ H Γ ex (P : G → Prop) (Q : St → Hp → Prop), HS (X.K, T) fx ρ H σ Γ ex → DtAll X.K (hid (ads (σ.zip Γ ++ ex)) H) vs xs → t xs Γ P →
  (∀ σ' H' Γ', HS (X.K, T) fx ρ H' σ' Γ' ex → Stores ws σ σ' → P Γ' → Q σ' H') → g vs σ H Q
def tgNil : TDGs := fun xs Γ P => xs = [] ∧ P Γ
def tgCons (t : TDG) (u : TDGs) : TDGs := fun xs Γ P => ∃ x r, xs = x :: r ∧ t x Γ fun Γ1 => u r Γ1 P
theorem dgs_nil : DGs T X fx [] [] tgNil := ⟨_, pgs_nil, fun ρ xs vs σ H Γ ex P Q h d p q => by
  obtain ⟨rfl, p⟩ := p
  cases d
  exact ⟨rfl, q σ H Γ h ⟨rfl, fun _ _ => rfl⟩ p⟩⟩
theorem ads_tmpd (ps : List Sl) : ∀ (vs : List V) (xs : List PyData), ads (tmpS vs (xs.map SV.d) ++ ps) = ads ps := by
  intro vs
  induction vs with
  | nil => intro xs; rfl
  | cons v vs ih =>
    intro xs
    cases xs with
    | nil => rfl
    | cons x xs =>
      show ads ((some v, SV.d x) :: (tmpS vs (xs.map SV.d) ++ ps)) = ads ps
      cases v <;> exact ih xs
theorem slots_d : ∀ {vs : List V} {xs : List PyData} {K : KF} {H : Hp} {ps : List Sl}, Hs K H ps → DtAll K.1 (hid (ads ps) H) vs xs → Hs K H (tmpS vs (xs.map SV.d) ++ ps)
  | _, _, _, _, _, h, .nil => h
  | _, _, K, H, ps, h, .cons (vs := vs) (ds := ds) q r => by
    have ih := slots_d h r
    refine Hs.cons_d ih (q.le ?_)
    have := ads_tmpd ps vs ds
    show Le (hid (ads ps) H) (hid (ads (tmpS vs (ds.map SV.d) ++ ps)) H)
    rw [this]
    exact Le.refl _
theorem dgs_cons {tg : Expr} {tgs : List Expr} {g : TDG} {gs : TDGs} {ws ws' : List Nat} (h1 : DG T X fx tg ws g) (h2 : DGs T X fx tgs ws' gs)
    (hs : (assignEach (tg :: tgs) X.env).map (·.2) = assign tg X.env :: (assignEach tgs X.env).map (·.2) := by rfl) : DGs T X fx (tg :: tgs) (ws ++ ws') (tgCons g gs) := by
  obtain ⟨g1, p1, q1⟩ := h1
  obtain ⟨g2, p2, q2⟩ := h2
  refine ⟨_, pgs_cons p1 p2 hs, fun ρ xs vs σ H Γ ex P Q h d p q => ?_⟩
  obtain ⟨x, r, rfl, p⟩ := p
  cases d with
  | cons dx dr =>
    rename_i v vs
    refine ⟨v, vs, rfl, ?_⟩
    have e := slots_d h.he.hs (.cons dx dr)
    have hh : HS (X.K, T) fx ρ H σ Γ ((some v, .d x) :: (tmpS vs (r.map SV.d) ++ ex)) := by
      refine ⟨⟨h.he.len, ?_⟩, h.fix⟩
      have e' : Hs (X.K, T) H ((some v, SV.d x) :: (tmpS vs (r.map SV.d) ++ (σ.zip Γ ++ ex))) := e
      refine e'.perm ?_
      have pp : List.Perm (tmpS vs (r.map SV.d) ++ (σ.zip Γ ++ ex)) (σ.zip Γ ++ (tmpS vs (r.map SV.d) ++ ex)) := by
        repeat rw [← List.append_assoc]
        exact (List.perm_append_comm).append_right _
      exact (pp.cons _).trans List.perm_middle.symm
    refine q1 ρ x v σ H Γ _ _ _ hh p fun σ1 H1 Γ1 h1 st1 p1' => ?_
    -- the rest is still held
    have hx : ∀ (ws : List V) (ys : List PyData) (ps : List Sl), DtAll X.K H ws ys ∨ True → Hs (X.K, T) H1 (tmpS ws (ys.map SV.d) ++ ps) → ws.length = ys.length → DtAll X.K (hid (ads ps) H1) ws ys := by
      intro ws
      induction ws with
      | nil =>
        intro ys ps _ _ hl
        cases ys with
        | nil => exact .nil
        | cons _ _ => cases hl
      | cons w ws ih =>
        intro ys ps o hh hl
        cases ys with
        | nil => cases hl
        | cons y ys =>
          have hh' : Hs (X.K, T) H1 ((some w, SV.d y) :: (tmpS ws (ys.map SV.d) ++ ps)) := hh
          have hd := hh'.get_d
          have tl := ih ys ps (.inr True.intro) hh'.tail (by simpa using hl)
          refine .cons (hd.le (hid_le fun b hb => ?_)) tl
          obtain ⟨p, hp, e⟩ := mem_ads.mp hb
          exact mem_ads.mpr ⟨p, List.mem_append_right _ hp, e⟩
    have h1' : Hs (X.K, T) H1 (tmpS vs (r.map SV.d) ++ (σ1.zip Γ1 ++ ex)) := by
      have := h1.he.hs
      rw [← List.append_assoc] at this ⊢
      exact this.perm (List.Perm.append_right _ List.perm_append_comm)
    have dr' := hx vs r _ (.inr True.intro) h1' dr.length
    refine q2 ρ r vs σ1 H1 Γ1 ex P Q ⟨⟨h1.he.len, h1'.drops⟩, h1.fix⟩ dr' p1' fun σ2 H2 Γ2 h2 st2 p2 => q σ2 H2 Γ2 h2 ⟨st2.1.trans st1.1, fun j hj => (st2.2 j fun z => hj (List.mem_append_right _ z)).trans (st1.2 j fun z => hj (List.mem_append_left _ z))⟩ p2
def tgTup (n : Nat) (t : TDGs) : TDG := fun x Γ P => ∃ xs, x = .tuple xs ∧ xs.length = n ∧ t xs Γ P
/-- (a, b, ..): a tuple taken apart -/
theorem dg_tup {es : List Expr} {k : Nat} {g : TDGs} {n : Nat} {ws : List Nat} (hc : X.calm = true) (h : DGs T X fx es ws g)
    (hn : (assignEach es X.env).length = n := by rfl) (hst : (assignEach es X.env).findIdx? (·.1) = none := by rfl) : DG T X fx (.Tuple es k pos) ws (tgTup n g) := by
  obtain ⟨g1, p1, q1⟩ := h
  refine ⟨_, pg_tup hc p1 hn hst, fun ρ x v σ H Γ ex P Q h p q => ?_⟩
  obtain ⟨xs, rfl, hl, p⟩ := p
  have d := h.he.hs.front.get_d
  cases d with
  | tup h1 h2 => exact ⟨_, _, rfl, h1.imp (fun z => by
      rcases z with z | ⟨o, z⟩
      · exact .inl (hid_sub _ _ z)
      · exact .inr ⟨o, hid_sub _ _ z⟩) id, by rw [h2.length]; exact hl, q1 ρ xs _ σ H Γ ex P Q ⟨h.he.dropx, h.fix⟩ h2 p q⟩
end
end DL

namespace DL
open PySem L2 RZ

section
variable {K : KF} {H : Hp} {σ : St} {Γ : G} {ex a : List Sl} {fx : List Nat} {ρ : Nat → V}
theorem HE.outs (h : HE K H σ Γ (a ++ ex)) : Hs K H (a ++ (σ.zip Γ ++ ex)) := by
  have := h.hs
  rw [← List.append_assoc] at this ⊢
  exact this.perm (List.Perm.append_right _ List.perm_append_comm)
theorem HE.ins (hl : σ.length = Γ.length) (h : Hs K H (a ++ (σ.zip Γ ++ ex))) : HE K H σ Γ (a ++ ex) := ⟨hl, by
  rw [← List.append_assoc] at h ⊢
  exact h.perm (List.Perm.append_right _ List.perm_append_comm)⟩
theorem HE.drops (h : HE K H σ Γ (a ++ ex)) : HE K H σ Γ ex := ⟨h.len, h.outs.drops⟩
theorem Hs.frz {v : V} {s : SV} {ps : List Sl} (h : Hs K H ((some v, s) :: ps)) : Hs K H ((some v, frz s) :: ps) := by
  cases s with
  | m xs => exact h.freeze
  | d x => exact h
  | no => exact h.tail.cons_no
  | t _ => exact h.tail.cons_no
theorem Hs.dup {v : V} {s : SV} {ps : List Sl} (h : Hs K H ((some v, DL.frz s) :: ps)) : Hs K H ((some v, DL.frz s) :: (some v, DL.frz s) :: ps) := by
  cases s with
  | m xs => exact h.copy
  | d x => exact h.copy
  | no => exact h.cons_no
  | t _ => exact h.cons_no
theorem HE.frzAll : ∀ {rs : List R} {vs : List V} {Γ : G} {ex : List Sl}, Ogs σ vs rs → HE K H σ Γ (tmp vs rs ++ ex) → HE K H σ (DL.back rs (rs.map fun r => frz r.1) Γ) (tmpS vs (rs.map fun r => frz r.1) ++ ex)
  | [], vs, Γ, ex, og, h => by cases og; exact h
  | r :: rs, _, Γ, ex, og, h => by
    cases og with
    | cons o og =>
      rename_i v vs
      have h1 : HE K H σ Γ ((some v, r.1) :: (tmp vs rs ++ ex)) := h
      have h2 : HE K H σ Γ ((some v, frz r.1) :: (some v, frz r.1) :: (tmp vs rs ++ ex)) := ⟨h.len, (h1.hs.front.frz.dup.swap2.perm (by
        exact (List.perm_middle (a := ((some v, frz r.1) : Sl)) (l₁ := (some v, frz r.1) :: σ.zip Γ) (l₂ := tmp vs rs ++ ex)).symm.trans (List.perm_middle (a := ((some v, frz r.1) : Sl)) (l₁ := σ.zip Γ) (l₂ := (some v, frz r.1) :: (tmp vs rs ++ ex))).symm))⟩
      show HE K H σ (DL.back rs (rs.map fun r => frz r.1) (match r.2 with | some i => Γ.set i (frz r.1) | none => Γ)) ((some v, frz r.1) :: (tmpS vs (rs.map fun r => frz r.1) ++ ex))
      have h3 : HE K H σ (match r.2 with | some i => Γ.set i (frz r.1) | none => Γ) ((some v, frz r.1) :: (tmp vs rs ++ ex)) := by
        cases e : r.2 with
        | none => exact h2.dropx
        | some i => exact h2.put (o i e)
      have h4 : HE K H σ (match r.2 with | some i => Γ.set i (frz r.1) | none => Γ) (tmp vs rs ++ ((some v, frz r.1) :: ex)) := h3.perm List.perm_middle.symm
      exact (HE.frzAll og h4).perm List.perm_middle
theorem HS.drops (h : HS K fx ρ H σ Γ (a ++ ex)) : HS K fx ρ H σ Γ ex := ⟨h.he.drops, h.fix⟩
end
/-- the loop's word: W, what holds between two turns -/
def ForOk (g : TDG) (tb : TDS) (E : ED) (its : List PyData) (Γ0 : G) : Prop := ∃ W : Nat → G → Prop, W 0 Γ0 ∧
  (∀ i x Γ, its[i]? = some x → W i Γ → g x Γ fun Γ1 => tb { E with nx := W (i + 1), ct := W (i + 1), bk := E.nx } Γ1) ∧ ∀ Γ, W its.length Γ → E.nx Γ
def tdFor (ti : TDI) (g : TDG) (tb : TDS) : TDS := fun E Γ => ti Γ fun its rs Γ0 => ForOk g tb E its (back rs (rs.map fun r => frz r.1) Γ0)
section
variable {T : Tbs} {X : Cx} {tg iter e e2 : Expr} {t t2 : TD} {fx : List Nat} {pos : Pos}
theorem ds_for {body : List Stmt} {ti : TDI} {g : TDG} {tb : TDS} {ws : List Nat} (hp : PassesOwn (model X.prog X.w) X.A X.env X.xe) (hc : X.calm = true) (hi : DI T X tg iter ti) (hg : DG T X fx tg ws g) (hb : DSs T X fx body tb)
    (hs : ∀ x, foldedSetIterable iter X.env x = pure x := by intro _; rfl) : DS T X fx (.For tg iter body [] pos) (tdFor ti g tb) := by
  obtain ⟨wi, h1, h2⟩ := hi
  obtain ⟨gg, h3, h4⟩ := hg
  obtain ⟨tt, h5, h6⟩ := hb
  refine ⟨_, ps_for hp hc h1 h3 h5 hs, fun ρ σ H Γ ex E D h p cm => ?_⟩
  refine h2 σ H Γ ex _ _ h.he p fun J H1 vs rs its Γ1 he og wk p1 => ?_
  obtain ⟨W, w0, turn, fin⟩ := p1
  have he' := HE.frzAll og he
  revert he' wk
  generalize tmpS vs (rs.map fun r => frz r.1) = held
  intro wk he'
  refine ⟨fun i m σ H => m = its.length - i ∧ i ≤ its.length ∧ ∃ Γ, HS (X.K, T) fx ρ H σ Γ (held ++ ex) ∧ W i Γ, ⟨its.length, by simp, Nat.zero_le _, _, ⟨he', h.fix⟩, w0⟩, ?_⟩
  rintro i m σ1 H1' ⟨rfl, hi, Γ2, hs2, w2⟩
  obtain ⟨k1, k2⟩ := wk i H1' (σ1.zip Γ2 ++ ex) hs2.he.outs
  by_cases hlt : i < its.length
  · have ey : its[i]? = some its[i] := List.getElem?_eq_getElem hlt
    obtain ⟨go, yl⟩ := k1 _ ey
    refine .inr ⟨go, fun σ' H' => ∃ Γ', HS (X.K, T) fx ρ H' σ' Γ' (held ++ ex) ∧ W (i + 1) Γ', fun σ' H' ⟨Γ', a, b⟩ => ⟨its.length - (i + 1), by omega, rfl, hlt, Γ', a, b⟩, fun x H' y => ?_⟩
    have q := yl x H' y
    have hx : HS (X.K, T) fx ρ H' σ1 Γ2 ((some x, .d its[i]) :: (held ++ ex)) := ⟨HE.ins (a := (some x, .d its[i]) :: held) hs2.he.len q, hs2.fix⟩
    refine h4 ρ _ x σ1 H' Γ2 _ _ _ hx (turn i _ Γ2 ey w2) fun σ3 H3 Γ3 hs3 _ p3 => ?_
    exact h6 ρ σ3 H3 Γ3 _ _ _ hs3 p3 ⟨fun σ' H' Γ' a b => ⟨Γ', a, b⟩, fun v s σ' H' Γ' a b => cm.rt v s σ' H' Γ' ⟨(a.he.perm (List.perm_middle (a := ((some v, s) : Sl)) (l₁ := held) (l₂ := ex)).symm).drops, a.fix⟩ b,
      fun σ' H' Γ' a b => cm.nx _ _ _ a.drops b, fun σ' H' Γ' a b => ⟨Γ', a, b⟩⟩
  · have e : i = its.length := by omega
    subst e
    exact .inl ⟨k2 (Nat.le_refl _), fin Γ2 w2 |> cm.nx _ _ _ hs2.drops⟩

/-! ## what is walked: lists and tuples, ranges, enumerate, zip -/
def seqS : SV → Option (List PyData)
  | .d (.list xs) => some xs
  | .d (.tuple xs) => some xs
  | .m xs => some xs
  | _ => none
def tdSeqI (t : TD) : TDI := fun Γ P => t Γ fun r Γ1 => ∃ xs, seqS r.1 = some xs ∧ P xs [r] Γ1
theorem held_list {K : KF} {H : Hp} {a : Addr} {xs : List PyData} {ps : List Sl} (h : Hs K H ps) (m : ((some (.ref a), .d (.list xs)) : Sl) ∈ ps) : ∃ vs, H a = some (.lst vs) ∧ DtAll K.1 (hid (ads ps) H) vs xs := by
  have q : Dt K.1 (hid (ads ps) H) (.ref a) (.list xs) := h.ok _ m
  cases q with
  | lst h1 h2 => exact ⟨_, hid_sub _ _ h1, h2⟩
theorem sqT_sub {K : KF} {H : Hp} {ms : List Addr} {a : Addr} {xs : List V} (h : SqT K.1 (hid ms H) a xs) : SqT K.1 H a xs := Le.sqT hid_sub h
theorem held_tup {K : KF} {H : Hp} {a : Addr} {xs : List PyData} {ps : List Sl} (h : Hs K H ps) (m : ((some (.ref a), .d (.tuple xs)) : Sl) ∈ ps) : ∃ vs, SqT K.1 H a vs ∧ DtAll K.1 (hid (ads ps) H) vs xs := by
  have q : Dt K.1 (hid (ads ps) H) (.ref a) (.tuple xs) := h.ok _ m
  cases q with
  | tup h1 h2 => exact ⟨_, sqT_sub h1, h2⟩
theorem walk_list {K : KF} {a : Addr} {xs : List PyData} : Walks K (Itl K.1 a) [(some (.ref a), .d (.list xs))] xs := by
  intro i H rest h
  obtain ⟨vs, h1, h2⟩ := held_list h List.mem_cons_self
  refine ⟨fun y ey => ?_, fun hl => ⟨vs, SqL.of h1, by rw [h2.length]; exact hl⟩⟩
  obtain ⟨v, e, d⟩ := h2.get ey
  refine ⟨⟨vs, v, SqL.of h1, e⟩, fun x H' ⟨e1, e2⟩ => ?_⟩
  subst e1
  have := e2 vs (SqL.of h1)
  rw [e] at this; cases this
  exact h.cons_d d
theorem walk_tup {K : KF} {a : Addr} {xs : List PyData} : Walks K (Itt K.1 a) [(some (.ref a), .d (.tuple xs))] xs := by
  intro i H rest h
  obtain ⟨vs, h1, h2⟩ := held_tup h List.mem_cons_self
  refine ⟨fun y ey => ?_, fun hl => ⟨vs, h1, by rw [h2.length]; exact hl⟩⟩
  obtain ⟨v, e, d⟩ := h2.get ey
  refine ⟨⟨vs, v, h1, e⟩, fun x H' ⟨e1, e2⟩ => ?_⟩
  subst e1
  have := e2 vs h1
  rw [e] at this; cases this
  exact h.cons_d d
/-- a list or a tuple, walked -/
def iSeq (K : PySem.W.Frag) (tl : TE) : TI := fun σ H R => tl σ H fun x H1 => ∃ a, x = .ref a ∧ (((∃ xs, SqL K H1 a xs) ∧ R (Itl K a) H1) ∨ ((∃ xs, SqT K H1 a xs) ∧ R (Itt K a) H1))
theorem pi_seq {l : Expr} {tl : TE} (hl : PE X l tl) : PI X tg l (iSeq X.K tl) := by
  refine ⟨fun pn sh σ H0 Rr J1 hr => ?_⟩
  refine thn (hl.run pn sh σ H0 _ J1 hr) fun vv sh1 ⟨xv, H2, J2, rr1, qq1⟩ => ?_
  obtain ⟨a, en, qq1⟩ := qq1
  subst en
  cases rr1
  rcases qq1 with ⟨⟨xs, kq⟩, q⟩ | ⟨⟨xs, kq⟩, q⟩
  · obtain ⟨us, rw1, pp, kz⟩ := J2.list kq
    refine wpAny_pyIter_list pp.isList ?_
    refine ⟨sh1.heap.objs.size, [sh1.heap.objs.size], _, _, H2, rfl, J2.kept (t' := sh1.toks) fun bb oo en => Heap.get?_push_of_some _ en, turn_list a _, ⟨_, Heap.get?_push_size _ rfl, rfl, rfl⟩, fun bb kb => ?_, q⟩
    have en : bb = sh1.heap.objs.size := by simpa using kb
    subst en
    exact J2.fpOk (Nat.le_refl _) (J2.hok.fresh (Nat.le_refl _))
  · obtain ⟨us, rw1, pp, kz⟩ := J2.tuple kq
    refine wpAny_pyIter_tuple (show sh1.heap.IsTuple a us.toArray from pp) ?_
    refine ⟨sh1.heap.objs.size, [sh1.heap.objs.size], _, _, H2, rfl, J2.kept (t' := sh1.toks) fun bb oo en => Heap.get?_push_of_some _ en, turn_tuple a _, ⟨_, Heap.get?_push_size _ rfl, rfl, rfl⟩, fun bb kb => ?_, q⟩
    have en : bb = sh1.heap.objs.size := by simpa using kb
    subst en
    exact J2.fpOk (Nat.le_refl _) (J2.hok.fresh (Nat.le_refl _))
theorem di_seq (he : DE T X e t) : DI T X tg e (tdSeqI t) := by
  obtain ⟨te, h1, h2⟩ := he
  refine ⟨_, pi_seq h1, fun σ H Γ ex P Q h p q => ?_⟩
  refine h2 σ H Γ ex _ _ h p fun v H' r Γ' he og p1 => ?_
  obtain ⟨xs, es, p1⟩ := p1
  obtain ⟨s, o⟩ := r
  have fin : ∀ J, Walks (X.K, T) J (tmpS [v] [frz s]) xs → Q J H' := fun J w => q J H' [v] [(s, o)] xs Γ' he (.cons og .nil) w p1
  cases s with
  | m ys =>
    cases es
    obtain ⟨a, vs, rfl, h3, h4, _⟩ := he.hs.front.get_m
    exact ⟨a, rfl, .inl ⟨⟨vs, SqL.of h3⟩, fin _ walk_list⟩⟩
  | d x =>
    cases x with
    | list ys =>
      cases es
      have d := he.hs.front.get_d
      cases d with
      | lst h3 h4 => exact ⟨_, rfl, .inl ⟨⟨_, SqL.of (hid_sub _ _ h3)⟩, fin _ walk_list⟩⟩
    | tuple ys =>
      cases es
      have d := he.hs.front.get_d
      cases d with
      | tup h3 h4 => exact ⟨_, rfl, .inr ⟨⟨_, sqT_sub h3⟩, fin _ walk_tup⟩⟩
    | _ => cases es
  | _ => cases es
/-- lo, lo + 1, .. -/
def rgD (lo : Int) (n : Nat) : List PyData := (List.range n).map fun (k : Nat) => .int (lo + (k : Int))
theorem rgD_len (lo : Int) (n : Nat) : (rgD lo n).length = n := by unfold rgD; rw [List.length_map, List.length_range]
theorem rgD_get {lo : Int} {n i : Nat} {y : PyData} (h : (rgD lo n)[i]? = some y) : i < n ∧ y = .int (lo + i) := by
  unfold rgD at h
  rw [List.getElem?_map] at h
  cases e : (List.range n)[i]? with
  | none => (rw [e] at h; cases h)
  | some k =>
    rw [e] at h
    obtain ⟨h1, h2⟩ := List.getElem?_eq_some_iff.mp e
    rw [List.getElem_range] at h2
    rw [List.length_range] at h1
    cases h
    subst h2
    exact ⟨h1, rfl⟩
theorem walk_range {K : KF} {held : List Sl} {lo : Int} {n : Nat} : Walks K (Itr lo n) held (rgD lo n) := by
  intro i H rest h
  refine ⟨fun y ey => ?_, fun hl => by rw [rgD_len] at hl; exact hl⟩
  obtain ⟨hi, rfl⟩ := rgD_get ey
  refine ⟨hi, fun x H' ⟨e1, e2⟩ => ?_⟩
  subst e1 e2
  exact h.cons_d (.int _)
def BigOk (i : Int) : Prop := -(2 ^ 62) ≤ i ∧ i < 2 ^ 62
def tdRange1 (t : TD) : TDI := fun Γ P => t Γ fun r Γ1 => ∃ j, r.1 = .d (.int j) ∧ BigOk j ∧ P (rgD 0 j.toNat) [(.no, none)] Γ1
theorem di_range1 {p : Pos} {a : Expr} (hg : Gl X "range") (hm : X.mg "range" = none) (ha : DE T X a t) (hs : starEach (a :: []) X.env = (false, eval a X.env) :: starEach [] X.env := by rfl) (hs2 : starEach [a] X.env = [(false, eval a X.env)] := by rfl) : DI T X tg (.Call (.Name "range" p) [a] [] pos) (tdRange1 t) := by
  obtain ⟨te, h1, h2⟩ := ha
  refine ⟨_, pi_range1 hg hm (pa_cons h1 pa_nil hs) hs2, fun σ H Γ ex P Q h p q => ?_⟩
  refine h2 σ H Γ ex _ _ h p fun v H' r Γ' he og p1 => ?_
  obtain ⟨j, e, ⟨b1, b2⟩, p1⟩ := p1
  obtain ⟨s, o⟩ := r
  cases e
  have d := he.hs.front.get_d
  cases d
  exact ⟨j, rfl, b1, b2, q _ H' [.non] [(.no, none)] _ Γ' (⟨he.len, he.dropx.hs |> fun z => (Hs.cons_no z).mid⟩) (.cons Og.none .nil) walk_range p1⟩
def tdRange2 (t u : TD) : TDI := fun Γ P => t Γ fun r Γ1 => u Γ1 fun r' Γ2 => ∃ i j, r.1 = .d (.int i) ∧ r'.1 = .d (.int j) ∧ BigOk i ∧ BigOk j ∧ P (rgD i (j - i).toNat) [(.no, none)] Γ2
theorem di_range2 {p : Pos} {a b : Expr} (hg : Gl X "range") (hm : X.mg "range" = none) (ha : DE T X a t) (hb : DE T X b t2) (hs : starEach (a :: [b]) X.env = (false, eval a X.env) :: starEach [b] X.env := by rfl) (hs1 : starEach (b :: []) X.env = (false, eval b X.env) :: starEach [] X.env := by rfl)
    (hs2 : starEach [a, b] X.env = [(false, eval a X.env), (false, eval b X.env)] := by rfl) (hs3 : starEach [b] X.env = [(false, eval b X.env)] := by rfl) : DI T X tg (.Call (.Name "range" p) [a, b] [] pos) (tdRange2 t t2) := by
  obtain ⟨te, h1, h2⟩ := ha
  obtain ⟨tu, h3, h4⟩ := hb
  refine ⟨_, pi_range2 hg hm (pa_cons h1 (pa_cons h3 pa_nil hs1) hs) hs2 hs3, fun σ H Γ ex P Q h p q => ?_⟩
  refine h2 σ H Γ ex _ _ h p fun v H' r Γ' he og p1 => ?_
  refine h4 σ H' Γ' _ _ _ he p1 fun w H2 r' Γ2 he2 og2 p2 => ?_
  obtain ⟨i, j, e, e', ⟨b1, b2⟩, ⟨b3, b4⟩, p2⟩ := p2
  obtain ⟨s, o⟩ := r
  obtain ⟨s', o'⟩ := r'
  cases e
  cases e'
  have d2 := he2.hs.front.get_d
  have d1 := he2.dropx.hs.front.get_d
  cases d1
  cases d2
  exact ⟨i, j, rfl, ⟨b1, b2, b3, b4⟩, q _ H2 [.non] [(.no, none)] _ Γ2 (⟨he2.len, he2.dropx.dropx.hs |> fun z => (Hs.cons_no z).mid⟩) (.cons Og.none .nil) walk_range p2⟩
/-- reversed(range(n)) -/
def tdRevRange1 (t : TD) : TDI := fun Γ P => t Γ fun r Γ1 => ∃ j, r.1 = .d (.int j) ∧ BigOk j ∧ P (rgD 0 j.toNat).reverse [(.no, none)] Γ1
theorem walk_rev {K : KF} {held : List Sl} {n : Nat} : Walks K (Itc (0 + (n : Int) - 1) (-1) n) held (rgD 0 n).reverse := by
  intro i H rest h
  refine ⟨fun y ey => ?_, fun hl => by rw [List.length_reverse, rgD_len] at hl; exact hl⟩
  have hi : i < n := by
    obtain ⟨h1, _⟩ := List.getElem?_eq_some_iff.mp ey
    rw [List.length_reverse, rgD_len] at h1; exact h1
  rw [List.getElem?_reverse (by rw [rgD_len]; exact hi), rgD_len] at ey
  obtain ⟨_, rfl⟩ := rgD_get ey
  refine ⟨hi, fun x H' ⟨e1, e2⟩ => ?_⟩
  subst e1 e2
  have e : (0 + (n : Int) - 1) + (i : Nat) * (-1) = 0 + ((n - 1 - i : Nat) : Int) := by omega
  rw [e]
  exact h.cons_d (.int _)
theorem di_revrange1 {p p2 pos2 : Pos} {a : Expr} (hgr : Gl X "reversed") (hmr : X.mg "reversed" = none) (hg : Gl X "range") (hm : X.mg "range" = none) (ha : DE T X a t) (hs1 : starEach [a] X.env = (false, eval a X.env) :: starEach [] X.env := by rfl)
    (hs : starEach [.Call (.Name "range" p) [a] [] pos] X.env = (false, eval (.Call (.Name "range" p) [a] [] pos) X.env) :: starEach [] X.env := by rfl) : DI T X tg (.Call (.Name "reversed" p2) [.Call (.Name "range" p) [a] [] pos] [] pos2) (tdRevRange1 t) := by
  obtain ⟨te, h1, h2⟩ := ha
  refine ⟨_, pi_revR hgr hmr (prg_1 hg hm h1 hs1) hs, fun σ H Γ ex P Q h p q => ?_⟩
  refine h2 σ H Γ ex _ _ h p fun v H' r Γ' he og p1 => ?_
  obtain ⟨j, e, ⟨b1, b2⟩, p1⟩ := p1
  obtain ⟨s, o⟩ := r
  cases e
  have d := he.hs.front.get_d
  cases d
  refine ⟨j, rfl, by omega, by omega, b1, b2, q _ H' [.non] [(.no, none)] _ Γ' (⟨he.len, he.dropx.hs |> fun z => (Hs.cons_no z).mid⟩) (.cons Og.none .nil) ?_ p1⟩
  have ej : (j - 0).toNat = j.toNat := by omega
  rw [ej]
  exact walk_rev
/-- zip of two lists, of two tuples -/
def zipD : List PyData → List PyData → List PyData
  | x :: xs, y :: ys => .tuple [x, y] :: zipD xs ys
  | _, _ => []
theorem zipD_get : ∀ {xs ys : List PyData} {i : Nat} {z : PyData}, (zipD xs ys)[i]? = some z → ∃ x y, xs[i]? = some x ∧ ys[i]? = some y ∧ z = .tuple [x, y]
  | [], ys, i, z, h => by cases ys <;> simp [zipD] at h
  | x :: xs, [], i, z, h => by simp [zipD] at h
  | x :: xs, y :: ys, 0, z, h => by
    have : z = .tuple [x, y] := by simpa [zipD] using h.symm
    exact ⟨x, y, rfl, rfl, this⟩
  | x :: xs, y :: ys, i + 1, z, h => by
    obtain ⟨a, b, h1, h2, h3⟩ := zipD_get (xs := xs) (ys := ys) (i := i) (z := z) (by simpa [zipD] using h)
    exact ⟨a, b, by simpa using h1, by simpa using h2, h3⟩
theorem zipD_len : ∀ (xs ys : List PyData), (zipD xs ys).length = min xs.length ys.length
  | [], ys => by cases ys <;> simp [zipD]
  | x :: xs, [] => by simp [zipD]
  | x :: xs, y :: ys => by
    show (zipD xs ys).length + 1 = _
    rw [zipD_len xs ys, List.length_cons, List.length_cons]; omega
theorem pair_new {K : KF} {H : Hp} {ps : List Sl} {T : Addr} {x y : V} {a b : PyData} (h : Hs K H ps) (n : H T = none) (hx : Dt K.1 (hid (ads ps) H) x a) (hy : Dt K.1 (hid (ads ps) H) y b) :
    Hs K (upd H T (.tup [x, y])) ((some (.ref T), .d (.tuple [a, b])) :: ps) := h.new_tup n (.cons hx (.cons hy .nil))
theorem walk_zipL {K : KF} {a b : Addr} {xs ys : List PyData} : Walks K (Itz K.1 a b) [(some (.ref a), .d (.list xs)), (some (.ref b), .d (.list ys))] (zipD xs ys) := by
  intro i H rest h
  obtain ⟨vs, h1, h2⟩ := held_list h List.mem_cons_self
  obtain ⟨ws, h3, h4⟩ := held_list h (List.mem_cons_of_mem _ List.mem_cons_self)
  refine ⟨fun z ez => ?_, fun hl => ⟨vs, ws, SqL.of h1, SqL.of h3, by rw [zipD_len] at hl; rw [h2.length, h4.length]; omega⟩⟩
  obtain ⟨x, y, ex, ey, rfl⟩ := zipD_get ez
  obtain ⟨v, e1, d1⟩ := h2.get ex
  obtain ⟨w, e2, d2⟩ := h4.get ey
  refine ⟨⟨vs, ws, v, w, SqL.of h1, SqL.of h3, e1, e2⟩, fun x' H' ⟨T, x1, y1, q1, q2, q3, q4, q5⟩ => ?_⟩
  subst q1 q3
  have z1 := q4 vs (SqL.of h1)
  have z2 := q5 ws (SqL.of h3)
  rw [e1] at z1; rw [e2] at z2; cases z1; cases z2
  exact pair_new h q2 d1 d2
theorem walk_zipT {K : KF} {a b : Addr} {xs ys : List PyData} : Walks K (ItzT K.1 a b) [(some (.ref a), .d (.tuple xs)), (some (.ref b), .d (.tuple ys))] (zipD xs ys) := by
  intro i H rest h
  obtain ⟨vs, h1, h2⟩ := held_tup h List.mem_cons_self
  obtain ⟨ws, h3, h4⟩ := held_tup h (List.mem_cons_of_mem _ List.mem_cons_self)
  refine ⟨fun z ez => ?_, fun hl => ⟨vs, ws, h1, h3, by rw [zipD_len] at hl; rw [h2.length, h4.length]; omega⟩⟩
  obtain ⟨x, y, ex, ey, rfl⟩ := zipD_get ez
  obtain ⟨v, e1, d1⟩ := h2.get ex
  obtain ⟨w, e2, d2⟩ := h4.get ey
  refine ⟨⟨vs, ws, v, w, h1, h3, e1, e2⟩, fun x' H' ⟨T, x1, y1, q1, q2, q3, q4, q5⟩ => ?_⟩
  subst q1 q3
  have z1 := q4 vs h1
  have z2 := q5 ws h3
  rw [e1] at z1; rw [e2] at z2; cases z1; cases z2
  exact pair_new h q2 d1 d2
/-- two lists (own ones among them), or two tuples -/
def zipS : SV → SV → Option (List PyData)
  | .d (.tuple xs), .d (.tuple ys) => some (zipD xs ys)
  | .d (.list xs), .d (.list ys) => some (zipD xs ys)
  | .m xs, .m ys => some (zipD xs ys)
  | .m xs, .d (.list ys) => some (zipD xs ys)
  | .d (.list xs), .m ys => some (zipD xs ys)
  | _, _ => none
def tdZip (t u : TD) : TDI := fun Γ P => t Γ fun r Γ1 => u Γ1 fun r' Γ2 => ∃ its, zipS r.1 r'.1 = some its ∧ P its [r, r'] Γ2
theorem Hs.asList {K : KF} {H : Hp} {v : V} {s : SV} {xs : List PyData} {ps : List Sl} (h : Hs K H ((some v, s) :: ps)) (e : DL.frz s = .d (.list xs)) : ∃ a vs, v = .ref a ∧ H a = some (.lst vs) ∧ DtAll K.1 (hid (ads ((some v, s) :: ps)) H) vs xs := by
  cases s with
  | m ys =>
    cases e
    obtain ⟨a, vs, rfl, h1, h2, _⟩ := h.get_m
    exact ⟨a, vs, rfl, h1, h2⟩
  | d x =>
    cases e
    have q : Dt K.1 (hid (ads ((some v, SV.d (.list xs)) :: ps)) H) v (.list xs) := h.ok _ List.mem_cons_self
    cases q with
    | lst h1 h2 => exact ⟨_, _, rfl, hid_sub _ _ h1, h2⟩
  | no => cases e
  | t _ => cases e
theorem Hs.asTup {K : KF} {H : Hp} {v : V} {xs : List PyData} {ps : List Sl} (h : Hs K H ((some v, .d (.tuple xs)) :: ps)) : ∃ a vs, v = .ref a ∧ SqT K.1 H a vs ∧ DtAll K.1 (hid (ads ((some v, SV.d (.tuple xs)) :: ps)) H) vs xs := by
  have q : Dt K.1 (hid (ads ((some v, SV.d (.tuple xs)) :: ps)) H) v (.tuple xs) := h.ok _ List.mem_cons_self
  cases q with
  | tup h1 h2 => exact ⟨_, _, rfl, sqT_sub h1, h2⟩
theorem zipS_cases {s s' : SV} {its : List PyData} (h : zipS s s' = some its) : (∃ xs ys, s = .d (.tuple xs) ∧ s' = .d (.tuple ys) ∧ its = zipD xs ys) ∨ (∃ xs ys, frz s = .d (.list xs) ∧ frz s' = .d (.list ys) ∧ its = zipD xs ys) := by
  unfold zipS at h
  split at h <;> first | (cases h; exact .inl ⟨_, _, rfl, rfl, rfl⟩) | (cases h; exact .inr ⟨_, _, rfl, rfl, rfl⟩) | cases h
theorem di_zip {p tpos : Pos} {a b : Expr} {elts : List Expr} {kk : Nat} (hg : Gl X "zip") (hm : X.mg "zip" = none) (ha : DE T X a t) (hb : DE T X b t2) (hs1 : starEach (b :: []) X.env = (false, eval b X.env) :: starEach [] X.env := by rfl)
    (hs : starEach (a :: [b]) X.env = (false, eval a X.env) :: starEach [b] X.env := by rfl) (hpl : (backTo pos (starEach [b] X.env)).any (·.1) = false := by rfl) : DI T X (.Tuple elts kk tpos) (.Call (.Name "zip" p) [a, b] [] pos) (tdZip t t2) := by
  obtain ⟨te, h1, h2⟩ := ha
  obtain ⟨tu, h3, h4⟩ := hb
  refine ⟨_, pi_zipA hg hm (pa_cons h1 (pa_cons h3 pa_nil hs1) hs) hs hpl, fun σ H Γ ex P Q h p q => ?_⟩
  refine h2 σ H Γ ex _ _ h p fun v H' r Γ' he og p1 => ?_
  refine h4 σ H' Γ' _ _ _ he p1 fun w H2 r' Γ2 he2 og2 p2 => ?_
  obtain ⟨its, e, p2⟩ := p2
  have he3 : HE (X.K, T) H2 σ Γ2 (tmp [v, w] [r, r'] ++ ex) := he2.perm (List.Perm.swap _ _ _)
  have fin : ∀ J, Walks (X.K, T) J (tmpS [v, w] [frz r.1, frz r'.1]) its → Q J H2 := fun J wk => q J H2 [v, w] [r, r'] its Γ2 he3 (.cons og (.cons og2 .nil)) wk p2
  rcases zipS_cases e with ⟨xs, ys, e1, e2, rfl⟩ | ⟨xs, ys, e1, e2, rfl⟩
  · rw [e1, e2] at fin
    have hx := he3.hs
    have hv : Hs (X.K, T) H2 ((some v, .d (.tuple xs)) :: (some w, .d (.tuple ys)) :: (σ.zip Γ2 ++ ex)) := by
      have := he3.outs
      have e3 : tmp [v, w] [r, r'] = [(some v, r.1), (some w, r'.1)] := rfl
      rw [e3, e1, e2] at this
      exact this
    obtain ⟨a, vs, rfl, k1, _⟩ := hv.asTup
    obtain ⟨b, ws, rfl, k2, _⟩ := hv.swap2.asTup
    exact ⟨a, b, vs, ws, rfl, .inr ⟨k1, k2, fin _ walk_zipT⟩⟩
  · rw [e1, e2] at fin
    have hv : Hs (X.K, T) H2 ((some v, r.1) :: (some w, r'.1) :: (σ.zip Γ2 ++ ex)) := he3.outs
    obtain ⟨a, vs, rfl, k1, _⟩ := hv.asList e1
    obtain ⟨b, ws, rfl, k2, _⟩ := hv.swap2.asList e2
    exact ⟨a, b, vs, ws, rfl, .inl ⟨SqL.of k1, SqL.of k2, fin _ walk_zipL⟩⟩
end
end DL

namespace DL
open PySem L2 RZ

/-! ## views -/
/-- as a value that no one changes -/
def dat : SV → Option PyData
  | .d x => some x
  | .m xs => some (.list xs)
  | _ => none
/-- as a list -/
def lis : SV → Option (List PyData)
  | .m xs => some xs
  | .d (.list xs) => some xs
  | _ => none
section
variable {K : KF} {H H' : Hp} {v x y z : V} {s s1 s2 : SV} {ps ex : List Sl} {d : PyData} {xs : List PyData}
theorem Hs.dt (h : Hs K H ps) (m : ((some v, s) : Sl) ∈ ps) (e : dat s = some d) : Dt K.1 H v d := by
  have q := h.ok _ m
  cases s with
  | d x => cases e; exact Dt.le hid_sub q
  | m xs =>
    cases e
    cases v with
    | ref a =>
      obtain ⟨vs, h1, h2⟩ := q
      exact .lst h1 (h2.le hid_sub)
    | _ => exact q.elim
  | no => cases e
  | t _ => cases e
theorem Hs.li (h : Hs K H ps) (m : ((some v, s) : Sl) ∈ ps) (e : lis s = some xs) : ∃ a vs, v = .ref a ∧ H a = some (.lst vs) ∧ DtAll K.1 (hid (ads ps) H) vs xs := by
  have q := h.ok _ m
  cases s with
  | d x =>
    cases x with
    | list ys =>
      cases e
      cases q with
      | lst h1 h2 => exact ⟨_, _, rfl, hid_sub _ _ h1, h2⟩
    | _ => cases e
  | m xs =>
    cases e
    cases v with
    | ref a =>
      obtain ⟨vs, h1, h2⟩ := q
      exact ⟨a, vs, rfl, h1, h2⟩
    | _ => exact q.elim
  | no => cases e
  | t _ => cases e
theorem Hs.tu (h : Hs K H ps) (m : ((some v, .d (.tuple xs)) : Sl) ∈ ps) : ∃ a vs, v = .ref a ∧ SqT K.1 H a vs ∧ DtAll K.1 (hid (ads ps) H) vs xs := by
  have q : Dt K.1 (hid (ads ps) H) v (.tuple xs) := h.ok _ m
  cases q with
  | tup h1 h2 => exact ⟨_, _, rfl, sqT_sub h1, h2⟩
theorem Hs.seq (h : Hs K H ps) (m : ((some v, s) : Sl) ∈ ps) (e : seqS s = some xs) : ∃ a vs, v = .ref a ∧ (H a = some (.lst vs) ∨ SqT K.1 H a vs) ∧ DtAll K.1 (hid (ads ps) H) vs xs := by
  cases s with
  | d x =>
    cases x with
    | list ys =>
      cases e
      obtain ⟨a, vs, h1, h2, h3⟩ := h.li m rfl
      exact ⟨a, vs, h1, .inl h2, h3⟩
    | tuple ys =>
      cases e
      obtain ⟨a, vs, h1, h2, h3⟩ := h.tu m
      exact ⟨a, vs, h1, .inr h2, h3⟩
    | _ => cases e
  | m ys =>
    cases e
    obtain ⟨a, vs, h1, h2, h3⟩ := h.li m rfl
    exact ⟨a, vs, h1, .inl h2, h3⟩
  | no => cases e
  | t _ => cases e
end
theorem OpR.or {X : Cx} {f : Value → Value → Sem Value} {r r' : R2} (h : OpR X f r) (h' : OpR X f r') : OpR X f (fun x y H Q => r x y H Q ∨ r' x y H Q) := by
  intro pins st σ H x y v u Q I rx ry q
  rcases q with q | q
  · exact h pins st σ H x y v u Q I rx ry q
  · exact h' pins st σ H x y v u Q I rx ry q
theorem CallR.or {X : Cx} {f : Value} {r r' : List V → Hp → VK → Prop} (h : CallR X f r) (h' : CallR X f r') : CallR X f (fun xs H Q => r xs H Q ∨ r' xs H Q) := by
  intro pins s σ H xs us Q I rx q
  rcases q with q | q
  · exact h pins s σ H xs us Q I rx q
  · exact h' pins s σ H xs us Q I rx q

/-! ## operators -/
/-- + of ints, tuples, lists -/
def cAdd : CT := fun ss P => match ss with
  | [.d (.int i), .d (.int j)] => P (.d (.int (i + j))) ss
  | [.d (.tuple xs), .d (.tuple ys)] => xs.length + ys.length ≤ sizeLine ∧ P (.d (.tuple (xs ++ ys))) ss
  | [a, b] => ∃ xs ys, lis a = some xs ∧ lis b = some ys ∧ xs.length + ys.length ≤ sizeLine ∧ P (.m (xs ++ ys)) ss
  | _ => False
def rAdd (K : PySem.W.Frag) : R2 := fun x y H Q => rI0 (fun i j => .int (i + j)) x y H Q ∨ (rCatA K x y H Q ∨ rCat x y H Q)
theorem op_addA {X : Cx} : OpR X (binaryOp .Add) (rAdd X.K) := OpR.or op_add (OpR.or op_catA op_cat)
section
variable {K : KF}
theorem DtAll.nil_iff {H : Hp} {vs : List V} {ds : List PyData} (h : DtAll K.1 H vs ds) : vs = [] ↔ ds = [] := by cases h <;> simp
theorem snd_add : Snd2 K (rAdd K.1) cAdd := by
  intro x y H s1 s2 ex P Q h c q
  have m1 : ((some x, s1) : Sl) ∈ (some x, s1) :: (some y, s2) :: ex := List.mem_cons_self
  have m2 : ((some y, s2) : Sl) ∈ (some x, s1) :: (some y, s2) :: ex := List.mem_cons_of_mem _ List.mem_cons_self
  have lists : (∃ xs ys, lis s1 = some xs ∧ lis s2 = some ys ∧ xs.length + ys.length ≤ sizeLine ∧ P (.m (xs ++ ys)) [s1, s2]) → rAdd K.1 x y H Q := fun ⟨xs, ys, e1, e2, hz, p⟩ => by
    obtain ⟨a, vs, rfl, h1, d1⟩ := h.li m1 e1
    obtain ⟨b, ws, rfl, h2, d2⟩ := h.li m2 e2
    exact .inr (.inr ⟨a, b, vs, ws, rfl, rfl, h1, h2, by rw [d1.length, d2.length]; exact hz, fun l hl => q _ _ _ _ _ p (h.new_m hl (d1.append d2))⟩)
  cases s1 with
  | d a =>
    cases s2 with
    | d b =>
      cases a with
      | int i =>
        cases b with
        | int j =>
          have d1 := h.dt m1 rfl
          have d2 := h.dt m2 rfl
          cases d1
          cases d2
          exact .inl ⟨i, j, rfl, rfl, q _ _ _ _ _ c (h.cons_d (.int _))⟩
        | _ => exact lists c
      | tuple xs =>
        cases b with
        | tuple ys =>
          obtain ⟨hz, p⟩ := c
          obtain ⟨a, vs, rfl, h1, d1⟩ := h.tu m1
          obtain ⟨b, ws, rfl, h2, d2⟩ := h.tu m2
          refine .inr (.inl ⟨a, b, vs, ws, rfl, rfl, h1, h2, by rw [d1.length, d2.length]; exact hz, fun e => ?_, fun n e => ?_, fun n1 n2 l hl => q _ _ _ _ _ p (h.new_tup hl (d1.append d2))⟩)
          · have e' := d1.nil_iff.mp e
            subst e'
            exact q _ _ _ _ _ p (h.cons_d (h.ok _ m2))
          · have e' := d2.nil_iff.mp e
            subst e'
            rw [List.append_nil] at p
            exact q _ _ _ _ _ p (h.cons_d (h.ok _ m1))
        | _ => exact lists c
      | _ => exact lists c
    | _ => exact lists (by cases a <;> exact c)
  | _ => exact lists (by cases s2 <;> first | exact c | (rename_i b; cases b <;> exact c))
/-- two ints in -/
def cII (C : Int → Int → Prop) (g : Int → Int → PyData) : CT := fun ss P => match ss with
  | [.d (.int i), .d (.int j)] => C i j ∧ P (.d (g i j)) ss
  | _ => False
theorem snd_II {C : Int → Int → Prop} {g : Int → Int → PyData} {gv : Int → Int → V} (hg : ∀ H i j, Dt K.1 H (gv i j) (g i j)) : Snd2 K (rI C gv) (cII C g) := by
  intro x y H s1 s2 ex P Q h c q
  have m1 : ((some x, s1) : Sl) ∈ (some x, s1) :: (some y, s2) :: ex := List.mem_cons_self
  have m2 : ((some y, s2) : Sl) ∈ (some x, s1) :: (some y, s2) :: ex := List.mem_cons_of_mem _ List.mem_cons_self
  unfold cII at c
  split at c
  · rename_i i j e
    cases e
    have d1 := h.dt m1 rfl
    have d2 := h.dt m2 rfl
    cases d1
    cases d2
    exact ⟨i, j, rfl, rfl, c.1, q _ _ _ _ _ c.2 (h.cons_d (hg _ _ _))⟩
  · exact c.elim
def rI0' (g : Int → Int → V) : R2 := rI (fun _ _ => True) g
theorem op_I0 {X : Cx} {f : Value → Value → Sem Value} {g : Int → Int → V} (h : OpR X f (rI0 g)) : OpR X f (rI0' g) := by
  intro pins s σ H x y v u Q I rx ry ⟨i, j, e1, e2, _, q⟩
  exact h pins s σ H x y v u Q I rx ry ⟨i, j, e1, e2, q⟩
def cI2 (g : Int → Int → PyData) : CT := cII (fun _ _ => True) g
/-- == and != -/
def cEq : CT := fun ss P => match ss with
  | [a, b] => ∃ x y, dat a = some x ∧ dat b = some y ∧ SeqAt.shaped x = true ∧ SeqAt.shaped y = true ∧ P (.d (.bool (PyData.eqv x y))) ss
  | _ => False
def cNe : CT := fun ss P => match ss with
  | [a, b] => ∃ x y, dat a = some x ∧ dat b = some y ∧ SeqAt.shaped x = true ∧ SeqAt.shaped y = true ∧ P (.d (.bool (!PyData.eqv x y))) ss
  | _ => False
theorem snd_eq : Snd2 K (rEqD K.1) cEq := by
  intro x y H s1 s2 ex P Q h ⟨a, b, e1, e2, h1, h2, p⟩ q
  have m1 : ((some x, s1) : Sl) ∈ (some x, s1) :: (some y, s2) :: ex := List.mem_cons_self
  have m2 : ((some y, s2) : Sl) ∈ (some x, s1) :: (some y, s2) :: ex := List.mem_cons_of_mem _ List.mem_cons_self
  exact ⟨a, b, (h.dt m1 e1).dp (noD_lay _ (SeqAt.canLay_of_shaped h1)), (h.dt m2 e2).dp (noD_lay _ (SeqAt.canLay_of_shaped h2)), h1, h2, q _ _ _ _ _ p (h.cons_d (.bl _))⟩
theorem snd_ne : Snd2 K (rNeD K.1) cNe := by
  intro x y H s1 s2 ex P Q h ⟨a, b, e1, e2, h1, h2, p⟩ q
  have m1 : ((some x, s1) : Sl) ∈ (some x, s1) :: (some y, s2) :: ex := List.mem_cons_self
  have m2 : ((some y, s2) : Sl) ∈ (some x, s1) :: (some y, s2) :: ex := List.mem_cons_of_mem _ List.mem_cons_self
  exact ⟨a, b, (h.dt m1 e1).dp (noD_lay _ (SeqAt.canLay_of_shaped h1)), (h.dt m2 e2).dp (noD_lay _ (SeqAt.canLay_of_shaped h2)), h1, h2, q _ _ _ _ _ p (h.cons_d (.bl _))⟩
/-- is None, is not None -/
def isN : SV → Option Bool
  | .d .none => some true
  | .d _ => some false
  | .m _ => some false
  | .t _ => some false
  | .no => none
theorem Hs.isN (h : Hs K H ps) (m : ((some v, s) : Sl) ∈ ps) (e : DL.isN s = some b) : decide (v = V.non) = b := by
  have q := h.ok _ m
  cases s with
  | d x =>
    have q' : Dt K.1 _ v x := q
    cases q' <;> (cases e; rfl)
  | m xs => cases v <;> first | (cases e; rfl) | exact q.elim
  | t xs => cases v <;> first | (cases e; rfl) | exact q.elim
  | no => cases e
def cIsN : CT := fun ss P => match ss with
  | [a, .d .none] => ∃ b, isN a = some b ∧ P (.d (.bool b)) ss
  | _ => False
def cNotN : CT := fun ss P => match ss with
  | [a, .d .none] => ∃ b, isN a = some b ∧ P (.d (.bool (!b))) ss
  | _ => False
theorem snd_isN : Snd2 K (fun x y H Q => y = .non ∧ Q (.bl (decide (x = .non))) H) cIsN := by
  intro x y H s1 s2 ex P Q h c q
  have m1 : ((some x, s1) : Sl) ∈ (some x, s1) :: (some y, s2) :: ex := List.mem_cons_self
  have m2 : ((some y, s2) : Sl) ∈ (some x, s1) :: (some y, s2) :: ex := List.mem_cons_of_mem _ List.mem_cons_self
  unfold cIsN at c
  split at c
  · rename_i a e
    cases e
    obtain ⟨b, e, p⟩ := c
    have d2 := h.dt m2 rfl
    cases d2
    refine ⟨rfl, q _ _ _ _ _ p ?_⟩
    rw [h.isN m1 e]
    exact h.cons_d (.bl _)
  · exact c.elim
theorem snd_notN : Snd2 K (fun x y H Q => y = .non ∧ Q (.bl (!decide (x = .non))) H) cNotN := by
  intro x y H s1 s2 ex P Q h c q
  have m1 : ((some x, s1) : Sl) ∈ (some x, s1) :: (some y, s2) :: ex := List.mem_cons_self
  have m2 : ((some y, s2) : Sl) ∈ (some x, s1) :: (some y, s2) :: ex := List.mem_cons_of_mem _ List.mem_cons_self
  unfold cNotN at c
  split at c
  · rename_i a e
    cases e
    obtain ⟨b, e, p⟩ := c
    have d2 := h.dt m2 rfl
    cases d2
    refine ⟨rfl, q _ _ _ _ _ p ?_⟩
    rw [h.isN m1 e]
    exact h.cons_d (.bl _)
  · exact c.elim
/-- xs[i] -/
def cIx : CT := fun ss P => match ss with
  | [a, .d (.int i)] => ∃ xs v, seqS a = some xs ∧ atI xs i = some v ∧ P (.d v) ss
  | _ => False
def rIxA (K : PySem.W.Frag) : R2 := fun x y H Q => rIxL K x y H Q ∨ rIxT K x y H Q
theorem ix_A {X : Cx} : IxR X (rIxA X.K) := ix_list.or ix_tup
theorem atI_dt {H : Hp} {vs : List V} {xs : List PyData} {i : Int} {d : PyData} (h : DtAll K.1 H vs xs) (e : atI xs i = some d) : ∃ v, atI vs i = some v ∧ Dt K.1 H v d := by
  unfold atI at e ⊢
  rw [h.length]
  cases q : ixN xs.length i with
  | none => (rw [q] at e; cases e)
  | some j =>
    rw [q] at e
    obtain ⟨v, h1, h2⟩ := h.get (i := j) e
    exact ⟨v, h1, h2⟩
theorem snd_ix : Snd2 K (rIxA K.1) cIx := by
  intro x y H s1 s2 ex P Q h c q
  have m1 : ((some x, s1) : Sl) ∈ (some x, s1) :: (some y, s2) :: ex := List.mem_cons_self
  have m2 : ((some y, s2) : Sl) ∈ (some x, s1) :: (some y, s2) :: ex := List.mem_cons_of_mem _ List.mem_cons_self
  unfold cIx at c
  split at c
  · rename_i a i e
    cases e
    obtain ⟨xs, d, e, ea, p⟩ := c
    have d2 := h.dt m2 rfl
    cases d2
    obtain ⟨b, vs, rfl, hh, ds⟩ := h.seq m1 e
    obtain ⟨v, ev, dv⟩ := atI_dt ds ea
    have fin := q _ _ _ _ _ p (h.cons_d dv)
    rcases hh with hh | hh
    · exact .inl ⟨b, vs, i, v, rfl, rfl, SqL.of hh, ev, fin⟩
    · exact .inr ⟨b, vs, i, v, rfl, rfl, hh, ev, fin⟩
  · exact c.elim
/-- x in xs of a list at any depth -/
def cIn : CT := fun ss P => match ss with
  | [a, b] => ∃ x xs, dat a = some x ∧ lis b = some xs ∧ SeqAt.shaped x = true ∧ SeqAt.shaped (.list xs) = true ∧ P (.d (.bool (xs.any fun z => PyData.eqv z x))) ss
  | _ => False
def cNotIn : CT := fun ss P => match ss with
  | [a, b] => ∃ x xs, dat a = some x ∧ lis b = some xs ∧ SeqAt.shaped x = true ∧ SeqAt.shaped (.list xs) = true ∧ P (.d (.bool (!xs.any fun z => PyData.eqv z x))) ss
  | _ => False
theorem lis_dat {s : SV} {xs : List PyData} (e : lis s = some xs) : dat s = some (.list xs) := by
  cases s with
  | d x => cases x <;> first | (cases e; rfl) | cases e
  | m ys => cases e; rfl
  | no => cases e
  | t _ => cases e

/-! ## displays -/
def dats : List SV → Option (List PyData)
  | [] => some []
  | s :: r => match dat s, dats r with
    | some x, some xs => some (x :: xs)
    | _, _ => none
theorem Hs.frzs : ∀ {vs : List V} {ss : List SV} {ex : List Sl} {H : Hp}, Hs K H (tmpS vs ss ++ ex) → vs.length = ss.length → Hs K H (tmpS vs (ss.map DL.frz) ++ ex)
  | [], [], _, _, h, _ => h
  | v :: vs, s :: ss, ex, H, h, hl => by
    have h1 : Hs K H ((some v, s) :: (tmpS vs ss ++ ex)) := h
    have h2 : Hs K H (tmpS vs ss ++ ((some v, DL.frz s) :: ex)) := h1.frz.mid
    have h3 := Hs.frzs h2 (by simpa using hl)
    exact h3.front
  | [], _ :: _, _, _, _, hl => by cases hl
  | _ :: _, [], _, _, _, hl => by cases hl
theorem dats_all : ∀ {vs : List V} {ss : List SV} {xs : List PyData} {Hd : Hp} {ps : List Sl}, (∀ p ∈ ps, Ok K.1 H Hd p) → (∀ v s, ((some v, s) : Sl) ∈ tmpS vs ss → ((some v, DL.frz s) : Sl) ∈ ps) → vs.length = ss.length → dats ss = some xs → DtAll K.1 Hd vs xs
  | [], [], xs, _, _, _, _, _, e => by cases e; exact .nil
  | v :: vs, s :: ss, xs, Hd, ps, h, m, hl, e => by
    unfold dats at e
    cases e1 : dat s with
    | none => rw [e1] at e; cases e
    | some x =>
      cases e2 : dats ss with
      | none => rw [e1, e2] at e; cases e
      | some ys =>
        rw [e1, e2] at e
        cases e
        have q := h _ (m v s List.mem_cons_self)
        have q' : Dt K.1 Hd v x := by
          cases s with
          | d z => cases e1; exact q
          | m zs => cases e1; exact q
          | no => cases e1
          | t _ => cases e1
        exact .cons q' (dats_all h (fun v' s' mm => m v' s' (List.mem_cons_of_mem _ mm)) (by simpa using hl) e2)
  | [], _ :: _, _, _, _, _, _, hl, _ => by cases hl
  | _ :: _, [], _, _, _, _, _, hl, _ => by cases hl
theorem Hs.dats {vs : List V} {ss : List SV} {xs : List PyData} (h : Hs K H (tmpS vs (ss.map DL.frz) ++ ex)) (hl : vs.length = ss.length) (e : DL.dats ss = some xs) : DtAll K.1 (hid (ads (tmpS vs (ss.map DL.frz) ++ ex)) H) vs xs := by
  refine dats_all (ss := ss) h.ok (fun v s m => List.mem_append_left _ ?_) hl e
  clear h e
  induction vs generalizing ss with
  | nil => cases m
  | cons w vs ih =>
    cases ss with
    | nil => cases hl
    | cons t ss =>
      rcases List.mem_cons.mp m with z | z
      · cases z; exact List.mem_cons_self
      · exact List.mem_cons_of_mem _ (ih (by simpa using hl) z)
def cTup : CT := fun ss P => ∃ xs, dats ss = some xs ∧ ss.length ≤ sizeLine ∧ P (.d (.tuple xs)) (ss.map frz)
def cLst : CT := fun ss P => ∃ xs, dats ss = some xs ∧ ss.length ≤ sizeLine ∧ P (.m xs) (ss.map frz)
def rTup : List V → Hp → VK → Prop := fun vs H Q => vs.length ≤ sizeLine ∧ ∀ p, H p = none → Q (.ref p) (upd H p (.tup vs))
def rLst : List V → Hp → VK → Prop := fun vs H Q => vs.length ≤ sizeLine ∧ ∀ p, H p = none → Q (.ref p) (upd H p (.lst vs))
theorem snd_tup : Snd K rTup cTup := by
  intro vs H ss ex P Q hl h ⟨xs, e, hz, p⟩ q
  have h' := h.frzs hl
  exact ⟨by rw [hl]; exact hz, fun l hn => q _ _ _ _ p (by rw [List.length_map]) (h'.new_tup hn (h'.dats hl e))⟩
theorem snd_lst : Snd K rLst cLst := by
  intro vs H ss ex P Q hl h ⟨xs, e, hz, p⟩ q
  have h' := h.frzs hl
  exact ⟨by rw [hl]; exact hz, fun l hn => q _ _ _ _ p (by rw [List.length_map]) (h'.new_m hn (h'.dats hl e))⟩
end
section
variable {T : Tbs} {X : Cx} {es : List Expr} {u : TDA} {pos : Pos} {a b e : Expr} {t ta tb : TD}
theorem de_tup {x1} (ha : DA T X es u) : DE T X (.Tuple es x1 pos) (tAp u cTup) := de_ap (fun ta h => ⟨_, pe_tup h, fun σ H Q z => z⟩) snd_tup ha
theorem de_lst (ha : DA T X es u) : DE T X (.List es pos) (tAp u cLst) := de_ap (fun ta h => ⟨_, pe_lst h, fun σ H Q z => z⟩) snd_lst ha
theorem de_add (ha : DE T X a ta) (hb : DE T X b tb) : DE T X (.BinOp a .Add b pos) (tAp2 ta tb cAdd) := de_bin op_addA snd_add ha hb
theorem de_sub (ha : DE T X a ta) (hb : DE T X b tb) : DE T X (.BinOp a .Sub b pos) (tAp2 ta tb (cI2 fun i j => .int (i - j))) := de_bin (op_I0 op_sub) (snd_II fun _ _ _ => .int _) ha hb
theorem de_mul (ha : DE T X a ta) (hb : DE T X b tb) : DE T X (.BinOp a .Mult b pos) (tAp2 ta tb (cII CMul fun i j => .int (i * j))) := de_bin op_mul (snd_II fun _ _ _ => .int _) ha hb
theorem de_fdiv (ha : DE T X a ta) (hb : DE T X b tb) : DE T X (.BinOp a .FloorDiv b pos) (tAp2 ta tb (cII CDiv fun i j => .int (i / j))) := de_bin op_fdiv (snd_II fun _ _ _ => .int _) ha hb
theorem de_mod (ha : DE T X a ta) (hb : DE T X b tb) : DE T X (.BinOp a .Mod b pos) (tAp2 ta tb (cII (fun _ j => 0 < j) fun i j => .int (i % j))) := de_bin op_mod (snd_II fun _ _ _ => .int _) ha hb
theorem de_pow (ha : DE T X a ta) (hb : DE T X b tb) : DE T X (.BinOp a .Pow b pos) (tAp2 ta tb (cII CPow fun i j => .int (i ^ j.toNat))) := de_bin op_pow (snd_II fun _ _ _ => .int _) ha hb
theorem de_lt (ha : DE T X a ta) (hb : DE T X b tb) : DE T X (.Compare a [.Lt] [b] pos) (tAp2 ta tb (cI2 fun i j => .bool (decide (i < j)))) := de_cmp (op_I0 op_lt) (snd_II fun _ _ _ => .bl _) ha hb (nobehind _ (by decide) (by decide))
theorem de_le (ha : DE T X a ta) (hb : DE T X b tb) : DE T X (.Compare a [.LtE] [b] pos) (tAp2 ta tb (cI2 fun i j => .bool (decide (i ≤ j)))) := de_cmp (op_I0 op_le) (snd_II fun _ _ _ => .bl _) ha hb (nobehind _ (by decide) (by decide))
theorem de_gt (ha : DE T X a ta) (hb : DE T X b tb) : DE T X (.Compare a [.Gt] [b] pos) (tAp2 ta tb (cI2 fun i j => .bool (decide (j < i)))) := de_cmp (op_I0 op_gt) (snd_II fun _ _ _ => .bl _) ha hb (nobehind _ (by decide) (by decide))
theorem de_ge (ha : DE T X a ta) (hb : DE T X b tb) : DE T X (.Compare a [.GtE] [b] pos) (tAp2 ta tb (cI2 fun i j => .bool (decide (j ≤ i)))) := de_cmp (op_I0 op_ge) (snd_II fun _ _ _ => .bl _) ha hb (nobehind _ (by decide) (by decide))
theorem de_eq (hu : X.A.units + 64 < cLine) (ha : DE T X a ta) (hb : DE T X b tb) : DE T X (.Compare a [.Eq] [b] pos) (tAp2 ta tb cEq) := de_cmp (op_eqD hu) snd_eq ha hb (nobehind _ (by decide) (by decide))
theorem de_ne (hu : X.A.units + 64 < cLine) (ha : DE T X a ta) (hb : DE T X b tb) : DE T X (.Compare a [.NotEq] [b] pos) (tAp2 ta tb cNe) := de_cmp (op_neD hu) snd_ne ha hb (nobehind _ (by decide) (by decide))
theorem de_isN (ha : DE T X a ta) (hb : DE T X b tb) : DE T X (.Compare a [.Is] [b] pos) (tAp2 ta tb cIsN) := de_cmp op_isN snd_isN ha hb (nobehind _ (by decide) (by decide))
theorem de_notN (ha : DE T X a ta) (hb : DE T X b tb) : DE T X (.Compare a [.IsNot] [b] pos) (tAp2 ta tb cNotN) := de_cmp op_notN snd_notN ha hb (nobehind _ (by decide) (by decide))
theorem dt_lt (ha : DE T X a ta) (hb : DE T X b tb) : DT T X (.Compare a [.Lt] [b] pos) (tdTest (tAp2 ta tb (cI2 fun i j => .bool (decide (i < j))))) := dt_cmp (op_I0 op_lt) (snd_II fun _ _ _ => .bl _) ha hb (nobehind _ (by decide) (by decide))
theorem dt_le (ha : DE T X a ta) (hb : DE T X b tb) : DT T X (.Compare a [.LtE] [b] pos) (tdTest (tAp2 ta tb (cI2 fun i j => .bool (decide (i ≤ j))))) := dt_cmp (op_I0 op_le) (snd_II fun _ _ _ => .bl _) ha hb (nobehind _ (by decide) (by decide))
theorem dt_gt (ha : DE T X a ta) (hb : DE T X b tb) : DT T X (.Compare a [.Gt] [b] pos) (tdTest (tAp2 ta tb (cI2 fun i j => .bool (decide (j < i))))) := dt_cmp (op_I0 op_gt) (snd_II fun _ _ _ => .bl _) ha hb (nobehind _ (by decide) (by decide))
theorem dt_ge (ha : DE T X a ta) (hb : DE T X b tb) : DT T X (.Compare a [.GtE] [b] pos) (tdTest (tAp2 ta tb (cI2 fun i j => .bool (decide (j ≤ i))))) := dt_cmp (op_I0 op_ge) (snd_II fun _ _ _ => .bl _) ha hb (nobehind _ (by decide) (by decide))
theorem dt_eq (hu : X.A.units + 64 < cLine) (ha : DE T X a ta) (hb : DE T X b tb) : DT T X (.Compare a [.Eq] [b] pos) (tdTest (tAp2 ta tb cEq)) := dt_cmp (op_eqD hu) snd_eq ha hb (nobehind _ (by decide) (by decide))
theorem dt_ne (hu : X.A.units + 64 < cLine) (ha : DE T X a ta) (hb : DE T X b tb) : DT T X (.Compare a [.NotEq] [b] pos) (tdTest (tAp2 ta tb cNe)) := dt_cmp (op_neD hu) snd_ne ha hb (nobehind _ (by decide) (by decide))
theorem dt_isN (ha : DE T X a ta) (hb : DE T X b tb) : DT T X (.Compare a [.Is] [b] pos) (tdTest (tAp2 ta tb cIsN)) := dt_cmp op_isN snd_isN ha hb (nobehind _ (by decide) (by decide))
theorem dt_notN (ha : DE T X a ta) (hb : DE T X b tb) : DT T X (.Compare a [.IsNot] [b] pos) (tdTest (tAp2 ta tb cNotN)) := dt_cmp op_notN snd_notN ha hb (nobehind _ (by decide) (by decide))
theorem de_item (ha : DE T X a ta) (hb : DE T X b tb) (hp : PlainIx b := by exact fun _ _ => rfl) : DE T X (.Subscript a b pos) (tAp2 ta tb cIx) := de_ix ix_A snd_ix ha hb hp
end
end DL

namespace DL
open PySem PySem.Spec PyProof.Rows L2 RZ

/-! ## defs -/
def spOf (K : KF) (n : Nat) (c : CT) : Sp := fun vs H Q _ => vs.length = n ∧ ∃ ss ex P, vs.length = ss.length ∧ Hs K H (tmpS vs ss ++ ex) ∧ c ss P ∧
  ∀ s ss' v H', P s ss' → ss'.length = ss.length → Hs K H' ((some v, s) :: (tmpS vs ss' ++ ex)) → Q v H'
def cN (n : Nat) (c : CT) : CT := fun ss P => ss.length = n ∧ c ss P
/-- the def that stands at the name x keeps c, with k calls at most one in another -/
def Fnd (P : Program) (w : World) (K : PySem.W.Frag) (T : Tbs) (mg : Str → Option Value) (base : Heap) (k : Nat) (x : Str) (ps : List Str) (c : CT) : Prop :=
  ∃ f fd, FnOk P w K mg base CX0 k f fd ps (spOf (K, T) ps.length c) ∧ Binds K fd ps [] ∧ PySem.W.keepIn K (.ref f) = true ∧ mg x = some (.ref f) ∧ ∃ oc od osl, K.lookup f = some ⟨oc, od, .func fd, osl⟩
theorem Fnd.mono {P : Program} {w : World} {K : PySem.W.Frag} {T : Tbs} {mg : Str → Option Value} {base : Heap} {j k : Nat} {x : Str} {ps : List Str} {c : CT} (h : Fnd P w K T mg base j x ps c) (l : j ≤ k) : Fnd P w K T mg base k x ps c := by
  obtain ⟨f, fd, h1, h2⟩ := h
  exact ⟨f, fd, h1.mono l, h2⟩
theorem Fnd.imp {P : Program} {w : World} {K : PySem.W.Frag} {T : Tbs} {mg : Str → Option Value} {base : Heap} {k : Nat} {x : Str} {ps : List Str} {c c' : CT} (h : Fnd P w K T mg base k x ps c) (l : ∀ ss Q, c' ss Q → c ss Q) : Fnd P w K T mg base k x ps c' := by
  obtain ⟨f, fd, h1, h2⟩ := h
  exact ⟨f, fd, h1.imp fun vs H Q E ⟨hl, ss, ex, P, a, b, c, d⟩ => ⟨hl, ss, ex, P, a, b, l _ _ c, d⟩, h2⟩
section
variable {T : Tbs} {X : Cx} {e a b : Expr} {es : List Expr} {u : TDA} {t ta tb : TD} {k : Nat} {x : Str} {ps : List Str} {c : CT} {p pos : Pos} {fx : List Nat}
theorem de_ap0 {r : List V → Hp → VK → Prop} {mk : Expr} (hp : ∃ te, PE X mk te ∧ ∀ σ H Q, r [] H Q → te σ H Q) (hs : Snd (X.K, T) r c) : DE T X mk (tAp tdNil c) := by
  obtain ⟨te, h3, h4⟩ := hp
  refine ⟨te, h3, fun σ H Γ ex P Q h p q => h4 σ H Q ?_⟩
  refine hs [] H [] _ _ _ rfl h.hs p fun s ss v H2 p2 l2 h5 => ?_
  cases ss with
  | cons _ _ => cases l2
  | nil =>
    have h6 : Hs (X.K, T) H2 ((some v, s) :: (σ.zip Γ ++ ex)) := h5
    exact q v H2 (s, none) _ ⟨h.len, h6.mid⟩ Og.none p2
theorem snd_fn {K : KF} {n : Nat} {E : XK} : Snd K (fun vs H Q => spOf K n c (vs ++ []) H Q E) (cN n c) := by
  intro vs H ss ex P Q hl h ⟨hn, hc⟩ q
  rw [List.append_nil]
  exact ⟨hl.trans hn, ss, ex, P, hl, h, hc, q⟩
theorem de_call (F : Fnd X.prog X.w X.K T X.mg X.base k x ps c) (hr : Room k X.A) (ha : DA T X (e :: es) u) (hg : Gl X x := by rfl) (hdb : (x == ("__debug__" : Str)) = false := by decide) (he : starEach (e :: es) X.env = (false, eval e X.env) :: starEach es X.env := by rfl)
    (hpl : (backTo pos (starEach es X.env)).any (·.1) = false := by rfl) : DE T X (.Call (.Name x p) (e :: es) [] pos) (tAp u (cN ps.length c)) := by
  obtain ⟨f, fd, h1, h2, h3, h4, _⟩ := F
  exact de_ap (r := fun vs H Q => spOf (X.K, T) ps.length c (vs ++ []) H Q E0) (fun ta h => ⟨_, pe_call h1 hr hg h4 h3 h2 .nil pass0 h hdb he hpl, fun σ H Q z => z⟩) snd_fn ha
theorem de_call0 (F : Fnd X.prog X.w X.K T X.mg X.base k x ps c) (hr : Room k X.A) (hg : Gl X x := by rfl) (hdb : (x == ("__debug__" : Str)) = false := by decide) : DE T X (.Call (.Name x p) [] [] pos) (tAp tdNil (cN ps.length c)) := by
  obtain ⟨f, fd, h1, h2, h3, h4, _⟩ := F
  exact de_ap0 (r := fun vs H Q => spOf (X.K, T) ps.length c (vs ++ []) H Q E0) ⟨_, pe_call0 h1 hr hg h4 h3 h2 .nil pass0 hdb, fun σ H Q z => z⟩ snd_fn
end
/-- what is left of the arguments: those at fx, whose names the body never binds anew -/
def fin (fx : List Nat) (n : Nat) (Γ : G) : List SV := (List.range n).map fun i => if fx.contains i then Γ.getD i .no else .no
theorem Hs.sub {K : KF} {H : Hp} : ∀ {m l r : List Sl}, Hs K H (l ++ r) → (∀ (i : Nat) (p : Sl), m[i]? = some p → p.2 = SV.no ∨ l[i]? = some p) → Hs K H (m ++ r)
  | [], l, r, h, _ => h.drops
  | a :: m, [], r, h, q => by
    have ih := Hs.sub (m := m) (l := []) h fun i p e => (q (i + 1) p (by simpa using e)).imp id fun z => by simp at z
    obtain ⟨o, s⟩ := a
    rcases q 0 (o, s) rfl with z | z
    · have z' : s = .no := z
      subst z'
      exact ih.cons_no
    · simp at z
  | a :: m, b :: l, r, h, q => by
    have h1 : Hs K H (l ++ b :: r) := Hs.mid (p := b) (a := l) (b := r) h
    have ih := Hs.sub (m := m) (l := l) h1 fun i p e => (q (i + 1) p (by simpa using e)).imp id fun z => by simpa using z
    have h2 := ih.front
    obtain ⟨o, s⟩ := a
    rcases q 0 (o, s) rfl with z | z
    · have z' : s = .no := z
      subst z'
      exact h2.tail.cons_no
    · have : b = (o, s) := by simpa using z
      subst this
      exact h2
theorem start_zip {N : List Str} {vs : List V} {ss : List SV} {n : Nat} (hl : vs.length = ss.length) : (vs.map some ++ List.replicate n none).zip (ss ++ List.replicate n SV.no) = tmpS vs ss ++ (List.replicate n ((none : Option V), SV.no)) := by
  unfold tmpS
  rw [List.zip_append (by rw [List.length_map]; exact hl), List.zip_replicate']
theorem Hs.nos {K : KF} {H : Hp} {ps : List Sl} (h : Hs K H ps) : ∀ n : Nat, Hs K H (List.replicate n ((none : Option V), SV.no) ++ ps)
  | 0 => h
  | n + 1 => (Hs.nos h n).cons_no
section
variable {P : Program} {w : World} {K : PySem.W.Frag} {T : Tbs} {mg : Str → Option Value} {base : Heap} {x qual : Str} {st : Stmt} {f : Addr} {fd : FuncData} {N ps : List Str} {k : Nat} {c : CT}
def edOf (fx : List Nat) (n : Nat) (P : SV → List SV → Prop) : ED := ⟨fun Γ => P (.d .none) (fin fx n Γ), fun s Γ => P s (fin fx n Γ), fun _ => False, fun _ => False⟩
/-- a def's record, with what is known of its code object -/
def FunR (Cd : Value → Prop) (K : PySem.W.Frag) (x qual : Str) (st : Stmt) (f : Addr) (fd : FuncData) : Prop :=
  ∃ (oc : Value) (od : Option Addr) (kV doc pm : Value) (an : Option Addr) (cdv ct : Value) (osl : Array (Option Value)), fd = PySem.W.fnOf x qual (defArgs st) (defBody st) (defScope st) .none kV doc pm an cdv ct ∧ K.lookup f = some ⟨oc, od, .func fd, osl⟩ ∧ PySem.W.codeIn K cdv qual = true ∧ Cd cdv
theorem fn_okR {Cd : Value → Prop} (F : FunR Cd K x qual st f fd) (S : FnScope N ps (defScope st)) (fx : List Nat) (hfx : ∀ i ∈ fx, i < ps.length)
    (body : ∀ (cdv : Value) (A : Around) (outer : List Env) (s : Shared) (H : Hp) (E : XK), Cd cdv → Room k (A.deeper (envOfC qual (defScope st) s.heap.objs.size f cdv)) →
      ∃ t, DSs T (cxOf CX0 P w K mg base N qual (defScope st) f cdv A outer s H E).nox fx (defBody st) t ∧ ∀ ss Q, ss.length = ps.length → c ss Q → t (edOf fx ps.length Q) (ss ++ List.replicate (N.length - ps.length) .no)) :
    FnOk P w K mg base CX0 (k + 1) f fd ps (spOf (K, T) ps.length c) := by
  obtain ⟨oc, od, kV, doc, pm, an, cdv, ct, osl, rfl, lk, hcd, hC⟩ := F
  refine fn_of lk hcd S (fun vs H Q E h => h.1) fun A outer s H vs Q E hr h => ?_
  obtain ⟨t, h1, h2⟩ := body cdv A outer s H E hC hr
  obtain ⟨ts, h3, h4⟩ := h1
  obtain ⟨hn, ss, ex, P', hl, hs, hc, q⟩ := h
  refine ⟨ts, h3.nox, ?_⟩
  have hq := h2 ss P' (hl.symm.trans hn) hc
  have ez : (L2.start N vs).zip (ss ++ List.replicate (N.length - ps.length) SV.no) = tmpS vs ss ++ List.replicate (N.length - ps.length) ((none : Option V), SV.no) := by
    unfold L2.start; rw [hn]; exact start_zip (N := N) hl
  have hh : HS (K, T) fx (fun i => vs.getD i .non) H (L2.start N vs) (ss ++ List.replicate (N.length - ps.length) .no) ex := by
    refine ⟨⟨?_, ?_⟩, fun i hi => ?_⟩
    · unfold L2.start; rw [List.length_append, List.length_append, List.length_map, List.length_replicate, List.length_replicate, hl, ← hn, hl]
    · rw [ez, List.append_assoc]
      have := Hs.nos hs (N.length - ps.length)
      refine this.perm ?_
      repeat rw [← List.append_assoc]
      exact (List.perm_append_comm).append_right _
    · have hi' := hfx i hi
      rw [← hn] at hi'
      unfold L2.start
      rw [List.getElem?_append_left (by rw [List.length_map]; exact hi'), List.getElem?_map, List.getElem?_eq_getElem hi']
      simp [List.getD, List.getElem?_eq_getElem hi']
  have ret : ∀ (v : V) (s : SV) (σ' : L2.St) (H' : Hp) (Γ' : G), HS (K, T) fx (fun i => vs.getD i .non) H' σ' Γ' ((some v, s) :: ex) → P' s (fin fx ps.length Γ') → Q v H' := fun v s σ' H' Γ' h' p' => by
    refine q s _ v H' p' (by unfold fin; rw [List.length_map, List.length_range, ← hn, hl]) ?_
    have hx := h'.he.hs
    have hsub : Hs (K, T) H' (tmpS vs (fin fx ps.length Γ') ++ ((some v, s) :: ex)) := Hs.sub hx fun i p e => by
      unfold tmpS at e
      rw [List.getElem?_zip_eq_some] at e
      obtain ⟨e1, e2⟩ := e
      unfold fin at e2
      rw [List.getElem?_map] at e2
      cases er : (List.range ps.length)[i]? with
      | none => rw [er] at e2; cases e2
      | some j =>
        rw [er] at e2
        obtain ⟨hj1, hj2⟩ := List.getElem?_eq_some_iff.mp er
        rw [List.getElem_range] at hj2
        subst hj2
        have e3 : (if fx.contains i = true then Γ'.getD i .no else .no) = p.2 := by simpa using e2
        by_cases hc : fx.contains i = true
        · rw [if_pos hc] at e3
          have hi : i ∈ fx := by simpa using hc
          have hfix := h'.fix i hi
          obtain ⟨hi1, _⟩ := List.getElem?_eq_some_iff.mp hfix
          have hi2 : i < Γ'.length := by rw [← h'.he.len]; exact hi1
          right
          rw [List.getElem?_zip_eq_some]
          have e4 : vs.getD i .non = vs[i]'(by have := hfx i hi; omega) := by
            have := hfx i hi
            simp [List.getD, List.getElem?_eq_getElem (show i < vs.length by omega)]
          have e5 : p.1 = some (vs.getD i .non) := by
            rw [List.getElem?_map, List.getElem?_eq_getElem (show i < vs.length by have := hfx i hi; omega)] at e1
            rw [e4]
            simpa using e1.symm
          have e6 : Γ'[i]? = some p.2 := by
            rw [List.getElem?_eq_getElem hi2, ← e3]
            simp [List.getD, List.getElem?_eq_getElem hi2]
          exact ⟨by rw [hfix, e5], e6⟩
        · rw [if_neg hc] at e3
          exact .inl e3.symm
    exact hsub.front
  exact h4 _ _ _ _ ex (edOf fx ps.length P') _ hh hq ⟨fun σ' H' Γ' h' p' => ret .non (.d .none) σ' H' Γ' ⟨⟨h'.he.len, (h'.he.hs.cons_d .non).mid⟩, h'.fix⟩ p', ret, fun _ _ _ _ z => z.elim, fun _ _ _ _ z => z.elim⟩
theorem fn_ok (F : Fun K x qual st f fd) (S : FnScope N ps (defScope st)) (fx : List Nat) (hfx : ∀ i ∈ fx, i < ps.length)
    (body : ∀ (cdv : Value) (A : Around) (outer : List Env) (s : Shared) (H : Hp) (E : XK), Room k (A.deeper (envOfC qual (defScope st) s.heap.objs.size f cdv)) →
      ∃ t, DSs T (cxOf CX0 P w K mg base N qual (defScope st) f cdv A outer s H E).nox fx (defBody st) t ∧ ∀ ss Q, ss.length = ps.length → c ss Q → t (edOf fx ps.length Q) (ss ++ List.replicate (N.length - ps.length) .no)) :
    FnOk P w K mg base CX0 (k + 1) f fd ps (spOf (K, T) ps.length c) := by
  refine fn_okR (x := x) (Cd := fun _ => True) ?_ S fx hfx fun cdv A outer s H E _ => body cdv A outer s H E
  obtain ⟨oc, od, kV, doc, pm, an, cdv, ct, osl, e, lk, hcd⟩ := F.ex
  exact ⟨oc, od, kV, doc, pm, an, cdv, ct, osl, e, lk, hcd, trivial⟩
/-- a def whose code object is known: it holds a generator expression -/
structure FunC (K : PySem.W.Frag) (x qual : Str) (st : Stmt) (f : Addr) (fd : FuncData) (c : Addr) : Prop where
  fn : Fun K x qual st f fd
  ex : FunR (fun v => v = .ref c) K x qual st f fd
theorem fun_at (F : Fun K x qual st f fd) : ∃ oc od osl, K.lookup f = some ⟨oc, od, .func fd, osl⟩ := by
  obtain ⟨oc, od, _, _, _, _, _, _, osl, _, lk, _⟩ := F.ex
  exact ⟨oc, od, osl, lk⟩
theorem fn_d (F : Fun K x qual st f fd) (S : FnScope N ps (defScope st)) (hb : Binds K fd ps []) (hm : mg x = some (.ref f)) (fx : List Nat) (hfx : ∀ i ∈ fx, i < ps.length)
    (body : ∀ (cdv : Value) (A : Around) (outer : List Env) (s : Shared) (H : Hp) (E : XK), Room k (A.deeper (envOfC qual (defScope st) s.heap.objs.size f cdv)) →
      ∃ t, DSs T (cxOf CX0 P w K mg base N qual (defScope st) f cdv A outer s H E).nox fx (defBody st) t ∧ ∀ ss Q, ss.length = ps.length → c ss Q → t (edOf fx ps.length Q) (ss ++ List.replicate (N.length - ps.length) .no)) :
    Fnd P w K T mg base (k + 1) x ps c := ⟨f, fd, fn_ok F S fx hfx body, hb, F.kp, hm, fun_at F⟩
/-- THE rule for a def with a generator expression: its code object is known -/
theorem fn_dc {co : Addr} (F : FunC K x qual st f fd co) (S : FnScope N ps (defScope st)) (hb : Binds K fd ps []) (hm : mg x = some (.ref f)) (fx : List Nat) (hfx : ∀ i ∈ fx, i < ps.length)
    (body : ∀ (cdv : Value) (A : Around) (outer : List Env) (s : Shared) (H : Hp) (E : XK), cdv = .ref co → Room k (A.deeper (envOfC qual (defScope st) s.heap.objs.size f cdv)) →
      ∃ t, DSs T (cxOf CX0 P w K mg base N qual (defScope st) f cdv A outer s H E).nox fx (defBody st) t ∧ ∀ ss Q, ss.length = ps.length → c ss Q → t (edOf fx ps.length Q) (ss ++ List.replicate (N.length - ps.length) .no)) :
    Fnd P w K T mg base (k + 1) x ps c := ⟨f, fd, fn_okR F.ex S fx hfx body, hb, F.fn.kp, hm, fun_at F.fn⟩
theorem funC_mk {x qual : Str} {st : Stmt} {f c : Addr} {oc : Value} {od an : Option Addr} {osl : Array (Option Value)} {kV doc pm ct : Value} (l : K.lookup f = some ⟨oc, od, .func (PySem.W.fnOf x qual (defArgs st) (defBody st) (defScope st) .none kV doc pm an (.ref c) ct), osl⟩)
    (hc : PySem.W.codeIn K (.ref c) qual = true) (k : PySem.W.keepIn K (.ref f) = true) : FunC K x qual st f (PySem.W.fnOf x qual (defArgs st) (defBody st) (defScope st) .none kV doc pm an (.ref c) ct) c :=
  ⟨fun_mk l hc k, ⟨oc, od, kV, doc, pm, an, .ref c, ct, osl, rfl, l, hc, rfl⟩⟩
end

/-! ## built-ins -/
section
variable {T : Tbs} {X : Cx} {e a b o : Expr} {es : List Expr} {u : TDA} {t ta tb to : TD} {x : Str} {c : CT} {p pos apos : Pos} {fx : List Nat} {K : KF}
theorem de_callB {id : String} {r : List V → Hp → VK → Prop} (hc : CallR X (.builtin id) r) (hs : Snd (X.K, T) r c) (hm : X.mg x = none) (hv : bootBuiltins x = some (.builtin id)) (ha : DA T X (e :: es) u) (hg : Gl X x := by rfl) (hn : x ≠ "__name__" := by decide) (hdb : (x == ("__debug__" : Str)) = false := by decide)
    (he : starEach (e :: es) X.env = (false, eval e X.env) :: starEach es X.env := by rfl) (hpl : (backTo pos (starEach es X.env)).any (·.1) = false := by rfl) : DE T X (.Call (.Name x p) (e :: es) [] pos) (tAp u c) :=
  de_ap (fun ta h => ⟨_, pe_callB hc hg hm hv h hn hdb he hpl, fun σ H Q z => z⟩) hs ha
theorem de_callTy {Ty : String} {r : List V → Hp → VK → Prop} (hc : CallR X (.type Ty) r) (hs : Snd (X.K, T) r c) (hm : X.mg x = none) (hv : bootBuiltins x = some (.type Ty)) (ha : DA T X (e :: es) u) (hg : Gl X x := by rfl) (hn : x ≠ "__name__" := by decide) (hdb : (x == ("__debug__" : Str)) = false := by decide)
    (he : starEach (e :: es) X.env = (false, eval e X.env) :: starEach es X.env := by rfl) (hpl : (backTo pos (starEach es X.env)).any (·.1) = false := by rfl) : DE T X (.Call (.Name x p) (e :: es) [] pos) (tAp u c) :=
  de_ap (fun ta h => ⟨_, pe_callTy hc hg hm hv h hn hdb he hpl, fun σ H Q z => z⟩) hs ha
theorem one_slot {vs : List V} {s : SV} (hl : vs.length = [s].length) : ∃ v, vs = [v] := by
  cases vs with
  | nil => cases hl
  | cons v r => cases r with
    | nil => exact ⟨v, rfl⟩
    | cons _ _ => simp at hl
theorem two_slots {vs : List V} {s s' : SV} (hl : vs.length = [s, s'].length) : ∃ v w, vs = [v, w] := by
  cases vs with
  | nil => cases hl
  | cons v r => cases r with
    | nil => cases hl
    | cons w r => cases r with
      | nil => exact ⟨v, w, rfl⟩
      | cons _ _ => simp at hl
def cLen : CT := fun ss P => match ss with
  | [a] => ∃ xs, seqS a = some xs ∧ P (.d (.int xs.length)) ss
  | _ => False
theorem snd_len : Snd K (fun xs H Q => ∃ p ys, xs = [.ref p] ∧ (SqL K.1 H p ys ∨ SqT K.1 H p ys) ∧ Q (.int ys.length) H) cLen := by
  intro vs H ss ex P Q hl h hc q
  unfold cLen at hc
  split at hc
  · rename_i a
    obtain ⟨v, rfl⟩ := one_slot hl
    obtain ⟨xs, e, p⟩ := hc
    obtain ⟨b, ws, rfl, hh, d⟩ := h.seq (List.mem_cons_self) e
    refine ⟨b, ws, rfl, hh.imp SqL.of id, ?_⟩
    rw [d.length]
    exact q _ _ _ _ p rfl (h.cons_d (.int _))
  · exact hc.elim
theorem de_len (hm : X.mg "len" = none) (ha : DA T X (e :: es) u) (hg : Gl X "len" := by rfl)
    (he : starEach (e :: es) X.env = (false, eval e X.env) :: starEach es X.env := by rfl) (hpl : (backTo pos (starEach es X.env)).any (·.1) = false := by rfl) : DE T X (.Call (.Name "len" p) (e :: es) [] pos) (tAp u cLen) :=
  de_callB call_len_seq snd_len hm PySem.boot_len ha hg (by decide) (by decide) he hpl
def cInt : CT := fun ss P => match ss with
  | [.d (.int i)] => P (.d (.int i)) ss
  | [.d (.bool b)] => P (.d (.int (if b then 1 else 0))) ss
  | _ => False
theorem snd_int : Snd K (fun xs H Q => (∃ i, xs = [.int i] ∧ Q (.int i) H) ∨ ∃ k, xs = [.bl k] ∧ Q (.int (if k then 1 else 0)) H) cInt := by
  intro vs H ss ex P Q hl h hc q
  unfold cInt at hc
  split at hc
  · obtain ⟨v, rfl⟩ := one_slot hl
    have d := h.dt List.mem_cons_self rfl
    cases d
    exact .inl ⟨_, rfl, q _ _ _ _ hc rfl (h.cons_d (.int _))⟩
  · obtain ⟨v, rfl⟩ := one_slot hl
    have d := h.dt List.mem_cons_self rfl
    cases d
    exact .inr ⟨_, rfl, q _ _ _ _ hc rfl (h.cons_d (.int _))⟩
  · exact hc.elim
theorem de_intOf (hm : X.mg "int" = none) (ha : DA T X (e :: es) u) (hg : Gl X "int" := by rfl)
    (he : starEach (e :: es) X.env = (false, eval e X.env) :: starEach es X.env := by rfl) (hpl : (backTo pos (starEach es X.env)).any (·.1) = false := by rfl) : DE T X (.Call (.Name "int" p) (e :: es) [] pos) (tAp u cInt) :=
  de_callTy call_int1 snd_int hm (by decide +kernel) ha hg (by decide) (by decide) he hpl
def cAbs : CT := fun ss P => match ss with
  | [.d (.int i)] => P (.d (.int (if i < 0 then -i else i))) ss
  | _ => False
theorem snd_abs : Snd K (fun xs H Q => ∃ i, xs = [.int i] ∧ Q (.int (if i < 0 then -i else i)) H) cAbs := by
  intro vs H ss ex P Q hl h hc q
  unfold cAbs at hc
  split at hc
  · obtain ⟨v, rfl⟩ := one_slot hl
    have d := h.dt List.mem_cons_self rfl
    cases d
    exact ⟨_, rfl, q _ _ _ _ hc rfl (h.cons_d (.int _))⟩
  · exact hc.elim
theorem de_abs (hm : X.mg "abs" = none) (ha : DA T X (e :: es) u) (hg : Gl X "abs" := by rfl)
    (he : starEach (e :: es) X.env = (false, eval e X.env) :: starEach es X.env := by rfl) (hpl : (backTo pos (starEach es X.env)).any (·.1) = false := by rfl) : DE T X (.Call (.Name "abs" p) (e :: es) [] pos) (tAp u cAbs) :=
  de_callB call_abs snd_abs hm (by decide +kernel) ha hg (by decide) (by decide) he hpl
def cMin2 : CT := fun ss P => match ss with
  | [.d (.int i), .d (.int j)] => P (.d (.int (if j < i then j else i))) ss
  | _ => False
def cMax2 : CT := fun ss P => match ss with
  | [.d (.int i), .d (.int j)] => P (.d (.int (if j > i then j else i))) ss
  | _ => False
theorem snd_min2 : Snd K (fun xs H Q => ∃ i j, xs = [.int i, .int j] ∧ Q (.int (if j < i then j else i)) H) cMin2 := by
  intro vs H ss ex P Q hl h hc q
  unfold cMin2 at hc
  split at hc
  · obtain ⟨v, w, rfl⟩ := two_slots hl
    have d := h.dt List.mem_cons_self rfl
    have d2 := h.dt (List.mem_cons_of_mem _ List.mem_cons_self) rfl
    cases d
    cases d2
    exact ⟨_, _, rfl, q _ _ _ _ hc rfl (h.cons_d (.int _))⟩
  · exact hc.elim
theorem snd_max2 : Snd K (fun xs H Q => ∃ i j, xs = [.int i, .int j] ∧ Q (.int (if j > i then j else i)) H) cMax2 := by
  intro vs H ss ex P Q hl h hc q
  unfold cMax2 at hc
  split at hc
  · obtain ⟨v, w, rfl⟩ := two_slots hl
    have d := h.dt List.mem_cons_self rfl
    have d2 := h.dt (List.mem_cons_of_mem _ List.mem_cons_self) rfl
    cases d
    cases d2
    exact ⟨_, _, rfl, q _ _ _ _ hc rfl (h.cons_d (.int _))⟩
  · exact hc.elim
theorem de_min2 (hm : X.mg "min" = none) (hc : X.calm = true) (ha : DA T X (e :: es) u) (hg : Gl X "min" := by rfl)
    (he : starEach (e :: es) X.env = (false, eval e X.env) :: starEach es X.env := by rfl) (hpl : (backTo pos (starEach es X.env)).any (·.1) = false := by rfl) : DE T X (.Call (.Name "min" p) (e :: es) [] pos) (tAp u cMin2) :=
  de_callB (call_min2 hc) snd_min2 hm (by decide +kernel) ha hg (by decide) (by decide) he hpl
theorem de_max2 (hm : X.mg "max" = none) (hc : X.calm = true) (ha : DA T X (e :: es) u) (hg : Gl X "max" := by rfl)
    (he : starEach (e :: es) X.env = (false, eval e X.env) :: starEach es X.env := by rfl) (hpl : (backTo pos (starEach es X.env)).any (·.1) = false := by rfl) : DE T X (.Call (.Name "max" p) (e :: es) [] pos) (tAp u cMax2) :=
  de_callB (call_max2 hc) snd_max2 hm (by decide +kernel) ha hg (by decide) (by decide) he hpl
/-- tuple(..), list(..) of a list or a tuple -/
def cTupOf : CT := fun ss P => match ss with
  | [a] => ∃ xs, seqS a = some xs ∧ P (.d (.tuple xs)) ss
  | _ => False
def cLstOf : CT := fun ss P => match ss with
  | [a] => ∃ xs, seqS a = some xs ∧ P (.m xs) ss
  | _ => False
theorem snd_tupOf : Snd K (fun xs H Q => ∃ p ys, xs = [.ref p] ∧ ((SqL K.1 H p ys ∧ ∀ l, H l = none → Q (.ref l) (upd H l (.tup ys))) ∨ (SqT K.1 H p ys ∧ Q (.ref p) H))) cTupOf := by
  intro vs H ss ex P Q hl h hc q
  unfold cTupOf at hc
  split at hc
  · rename_i a
    obtain ⟨v, rfl⟩ := one_slot hl
    obtain ⟨xs, e, p⟩ := hc
    cases a with
    | d y =>
      cases y with
      | tuple ys =>
        cases e
        obtain ⟨b, ws, rfl, hh, d⟩ := h.tu (List.mem_cons_self)
        exact ⟨b, ws, rfl, .inr ⟨hh, q _ _ _ _ p rfl (h.cons_d (h.ok _ List.mem_cons_self))⟩⟩
      | list ys =>
        cases e
        obtain ⟨b, ws, rfl, hh, d⟩ := h.li (s := .d (.list xs)) (List.mem_cons_self) rfl
        exact ⟨b, ws, rfl, .inl ⟨SqL.of hh, fun l hn => q _ _ _ _ p rfl (h.new_tup hn d)⟩⟩
      | _ => cases e
    | m ys =>
      cases e
      obtain ⟨b, ws, rfl, hh, d⟩ := h.li (s := .m xs) (List.mem_cons_self) rfl
      exact ⟨b, ws, rfl, .inl ⟨SqL.of hh, fun l hn => q _ _ _ _ p rfl (h.new_tup hn d)⟩⟩
    | no => cases e
    | t _ => cases e
  · exact hc.elim
theorem snd_lstOf : Snd K (fun xs H Q => ∃ p ys, xs = [.ref p] ∧ (SqL K.1 H p ys ∨ SqT K.1 H p ys) ∧ ∀ l, H l = none → Q (.ref l) (upd H l (.lst ys))) cLstOf := by
  intro vs H ss ex P Q hl h hc q
  unfold cLstOf at hc
  split at hc
  · obtain ⟨v, rfl⟩ := one_slot hl
    obtain ⟨xs, e, p⟩ := hc
    obtain ⟨b, ws, rfl, hh, d⟩ := h.seq (List.mem_cons_self) e
    exact ⟨b, ws, rfl, hh.imp SqL.of id, fun l hn => q _ _ _ _ p rfl (h.new_m hn d)⟩
  · exact hc.elim
theorem de_tupOf (hm : X.mg "tuple" = none) (ha : DA T X (e :: es) u) (hg : Gl X "tuple" := by rfl)
    (he : starEach (e :: es) X.env = (false, eval e X.env) :: starEach es X.env := by rfl) (hpl : (backTo pos (starEach es X.env)).any (·.1) = false := by rfl) : DE T X (.Call (.Name "tuple" p) (e :: es) [] pos) (tAp u cTupOf) :=
  de_callTy call_tuple_of snd_tupOf hm (by decide +kernel) ha hg (by decide) (by decide) he hpl
theorem de_lstOf (hm : X.mg "list" = none) (ha : DA T X (e :: es) u) (hg : Gl X "list" := by rfl)
    (he : starEach (e :: es) X.env = (false, eval e X.env) :: starEach es X.env := by rfl) (hpl : (backTo pos (starEach es X.env)).any (·.1) = false := by rfl) : DE T X (.Call (.Name "list" p) (e :: es) [] pos) (tAp u cLstOf) :=
  de_callTy call_list_of snd_lstOf hm (by decide +kernel) ha hg (by decide) (by decide) he hpl

/-! ## methods of lists -/
def tMp (to : TD) (u : TDA) (c : CT) : TD := fun Γ P => to Γ fun r0 Γ1 => (∃ xs, lis r0.1 = some xs) ∧ u Γ1 fun rs Γ2 => c (r0.1 :: rs.map (·.1)) fun s ss => ss.length = rs.length + 1 ∧ P (s, none) (back (r0 :: rs) ss Γ2)
theorem de_meth {r : V → List V → Hp → VK → Prop} {mk : Expr} (hp : ∀ to ta, PE X o to → PA X es ta → ∃ te, PE X mk te ∧ ∀ σ H Q, to σ H (fun x H1 => tyV X.K "list" x H1 ∧ ta σ H1 fun vs H2 => r x vs H2 Q) → te σ H Q)
    (hs : SndM (X.K, T) r c) (ho : DE T X o to) (ha : DA T X es u) : DE T X mk (tMp to u c) := by
  obtain ⟨t0, h1, h2⟩ := ho
  obtain ⟨ta, h3, h4⟩ := ha
  obtain ⟨te, h5, h6⟩ := hp t0 ta h1 h3
  refine ⟨te, h5, fun σ H Γ ex P Q h p q => h6 σ H Q ?_⟩
  refine h2 σ H Γ ex _ _ h p fun v H1 r0 Γ1 he og p1 => ?_
  obtain ⟨⟨xs, el⟩, p1⟩ := p1
  refine ⟨?_, ?_⟩
  · obtain ⟨a, vs, rfl, hh, _⟩ := he.hs.li (List.mem_append_right _ List.mem_cons_self) el
    exact .inl ⟨rfl, vs, SqL.of hh⟩
  refine h4 σ H1 Γ1 _ _ _ he p1 fun vs H2 rs Γ2 he2 og2 p2 => ?_
  have hx : Hs (X.K, T) H2 ((some v, r0.1) :: (tmpS vs (rs.map (·.1)) ++ (σ.zip Γ2 ++ ex))) := by
    have := he2.outs
    refine this.perm ?_
    refine (List.Perm.append_left _ (List.perm_middle (a := ((some v, r0.1) : Sl)) (l₁ := σ.zip Γ2) (l₂ := ex))).trans ?_
    exact List.perm_middle
  refine hs v vs H2 r0.1 (rs.map (·.1)) _ _ _ (by rw [List.length_map]; exact vals_len og2) hx p2 fun z s' ss' y H3 p3 l3 h7 => ?_
  have h8 : HE (X.K, T) H3 σ Γ2 (tmpS (v :: vs) (s' :: ss') ++ ((some y, z) :: ex)) := by
    refine HE.ins he2.len ?_
    show Hs (X.K, T) H3 ((some v, s') :: (tmpS vs ss' ++ (σ.zip Γ2 ++ (some y, z) :: ex)))
    refine h7.perm ?_
    refine (List.Perm.swap _ _ _).trans (List.Perm.cons _ ?_)
    refine (List.perm_middle (a := ((some y, z) : Sl)) (l₁ := tmpS vs ss') (l₂ := σ.zip Γ2 ++ ex)).symm.trans (List.Perm.append_left _ ?_)
    exact (List.perm_middle (a := ((some y, z) : Sl)) (l₁ := σ.zip Γ2) (l₂ := ex)).symm
  exact q y H3 (z, none) _ (HE.back (rs := r0 :: rs) (vs := v :: vs) p3.1 (.cons og og2) h8) Og.none p3.2
def cAppend : CT := fun ss P => match ss with
  | [.m xs, a] => ∃ y, dat a = some y ∧ xs.length < sizeLine ∧ P (.d .none) [.m (xs ++ [y]), frz a]
  | _ => False
theorem frz_dat {s : SV} {y : PyData} (e : dat s = some y) : frz s = .d y := by
  cases s with
  | d x => cases e; rfl
  | m xs => cases e; rfl
  | no => cases e
  | t _ => cases e
theorem snd_append : SndM K rAppend cAppend := by
  intro x vs H s ss ex P Q hl h hc q
  unfold cAppend at hc
  split at hc
  · rename_i xs a e
    cases e
    obtain ⟨v, rfl⟩ := one_slot hl
    obtain ⟨y, ey, hz, p⟩ := hc
    have h1 : Hs K H ((some v, frz a) :: (some x, .m xs) :: ex) := (Hs.swap2 h).frz
    have h2 := h1.swap2
    obtain ⟨l, ws, rfl, hh, d, _⟩ := h2.get_m
    have e3 := frz_dat ey
    rw [e3] at h1 h2
    have dv : Dt K.1 (hid (l :: ads ((some v, SV.d y) :: ex)) H) v y := h2.ok _ (List.mem_cons_of_mem _ List.mem_cons_self)
    rw [e3] at d
    refine ⟨l, ws, v, rfl, rfl, hh, by rw [d.length]; exact hz, q _ _ _ _ _ p rfl ?_⟩
    rw [e3]
    exact (h2.write (v := .ref l) (d.append (.cons dv .nil))).cons_d .non
  · exact hc.elim
theorem de_append (ho : DE T X o to) (ha : DA T X (e :: es) u) (hbase : attributeBase o "append" X.env (eval o X.env) = eval o X.env := by rfl)
    (hfew : ((backTo pos (starEach (e :: es) X.env)).all (fun x => !x.1) && (backToKw pos (keywordEach [] X.env)).all (fun x => x.1.isSome) && decide ((e :: es).length + ([] : List Keyword).length + (if ([] : List Keyword).isEmpty then 0 else 1) < 30)) = true := by rfl)
    (hline : (apos.endLine == pos.line) = true := by rfl) (hs : starEach (e :: es) X.env = (false, eval e X.env) :: starEach es X.env := by rfl) (hplain : (backTo pos (starEach es X.env)).any (·.1) = false := by rfl) :
    DE T X (.Call (.Attribute o "append" apos) (e :: es) [] pos) (tMp to u cAppend) :=
  de_meth (fun to ta h1 h2 => ⟨_, pe_bm PySem.F.plainAttrs_list PySem.F.slot_list_append PySem.F.type_list_append mt_append h1 h2 hbase hfew hline hs hplain, fun σ H Q z => z⟩) snd_append ho ha
def cPop : CT := fun ss P => match ss with
  | [.m xs] => ∃ y, xs[xs.length - 1]? = some y ∧ P (.d y) [.m xs.dropLast]
  | _ => False
theorem snd_pop : SndM K rPop cPop := by
  intro x vs H s ss ex P Q hl h hc q
  unfold cPop at hc
  split at hc
  · rename_i xs e
    cases e
    cases vs with
    | cons _ _ => cases hl
    | nil =>
      obtain ⟨y, ey, p⟩ := hc
      have h2 : Hs K H ((some x, .m xs) :: ex) := h
      obtain ⟨l, ws, rfl, hh, d, _⟩ := h2.get_m
      obtain ⟨v, ev, dv⟩ := d.get ey
      have h3 := h2.write (v := .ref l) (d.dropLast)
      refine ⟨l, ws, v, rfl, rfl, hh, by rw [d.length]; exact ev, q _ _ [] _ _ p rfl ?_⟩
      refine h3.cons_d (dv.le ?_)
      exact hid_mono fun b o nb e => by
        rw [upd_ne (fun (z : b = l) => nb (by rw [z]; exact List.mem_cons_self))]; exact e
  · exact hc.elim
theorem de_meth0 {r : V → List V → Hp → VK → Prop} {mk : Expr} (hp : ∀ to, PE X o to → ∃ te, PE X mk te ∧ ∀ σ H Q, to σ H (fun x H1 => tyV X.K "list" x H1 ∧ r x [] H1 Q) → te σ H Q)
    (hs : SndM (X.K, T) r c) (ho : DE T X o to) : DE T X mk (tMp to tdNil c) := by
  obtain ⟨t0, h1, h2⟩ := ho
  obtain ⟨te, h5, h6⟩ := hp t0 h1
  refine ⟨te, h5, fun σ H Γ ex P Q h p q => h6 σ H Q ?_⟩
  refine h2 σ H Γ ex _ _ h p fun v H1 r0 Γ1 he og p1 => ?_
  obtain ⟨⟨xs, el⟩, p1⟩ := p1
  refine ⟨?_, ?_⟩
  · obtain ⟨a, vs, rfl, hh, _⟩ := he.hs.li (List.mem_append_right _ List.mem_cons_self) el
    exact .inl ⟨rfl, vs, SqL.of hh⟩
  refine hs v [] H1 r0.1 [] _ _ _ rfl he.hs.front p1 fun z s' ss' y H3 p3 l3 h7 => ?_
  cases ss' with
  | cons _ _ => cases l3
  | nil =>
    have h8 : HE (X.K, T) H3 σ Γ1 (tmpS [v] [s'] ++ ((some y, z) :: ex)) := HE.ins he.len (by
      show Hs (X.K, T) H3 ((some v, s') :: (σ.zip Γ1 ++ (some y, z) :: ex))
      have h9 : Hs (X.K, T) H3 ((some y, z) :: (some v, s') :: (σ.zip Γ1 ++ ex)) := h7
      exact h9.swap2.perm (List.Perm.cons _ List.perm_middle.symm))
    exact q y H3 (z, none) _ (HE.back (rs := [r0]) (vs := [v]) rfl (.cons og .nil) h8) Og.none p3.2
theorem de_pop (ho : DE T X o to) (hbase : attributeBase o "pop" X.env (eval o X.env) = eval o X.env := by rfl) (hline : (apos.endLine == pos.line) = true := by rfl) :
    DE T X (.Call (.Attribute o "pop" apos) [] [] pos) (tMp to tdNil cPop) :=
  de_meth0 (fun to h1 => ⟨_, pe_bm0 PySem.F.plainAttrs_list PySem.F.slot_list_pop PySem.F.type_list_pop mt_pop h1 hbase hline, fun σ H Q z => z⟩) snd_pop ho
end
end DL

namespace DL
open PySem PySem.Spec PyProof.Rows L2 RZ

/-! ## a family of contexts: one reading for all -/
theorem DE.uni {ι : Type} {X : ι → Cx} {K : PySem.W.Frag} {T : Tbs} {e : Expr} {t : TD} (hK : ∀ i, (X i).K = K) (h : ∀ i, DE T (X i) e t) : ∃ te, (∀ i, PE (X i) e te) ∧ ∀ σ H Γ ex (P : R → G → Prop) (Q : VK), HE (K, T) H σ Γ ex → t Γ P →
    (∀ v H' r Γ', HE (K, T) H' σ Γ' ((some v, r.1) :: ex) → Og σ v r → P r Γ' → Q v H') → te σ H Q := by
  have h' : ∀ i, ∃ te, PE (X i) e te ∧ ∀ σ H Γ ex (P : R → G → Prop) (Q : VK), HE (K, T) H σ Γ ex → t Γ P → (∀ v H' r Γ', HE (K, T) H' σ Γ' ((some v, r.1) :: ex) → Og σ v r → P r Γ' → Q v H') → te σ H Q := fun i => by
    have := h i
    unfold DE at this
    rw [hK i] at this
    exact this
  exact ⟨fun σ H Q => ∀ i, (h' i).choose σ H Q, fun i => ⟨fun pins s σ H Q I q => (h' i).choose_spec.1.run pins s σ H Q I (q i)⟩, fun σ H Γ ex P Q he p q i => (h' i).choose_spec.2 σ H Γ ex P Q he p q⟩
def DTs (T : Tbs) (X : Cx) (es : List Expr) (t : TDT) : Prop := ∃ tt, PTs X es tt ∧ ∀ σ H Γ ex (P : Bool → G → Prop) (Q : Bool → Hp → Prop), HE (X.K, T) H σ Γ ex → t Γ P →
  (∀ b H' Γ', HE (X.K, T) H' σ Γ' ex → P b Γ' → Q b H') → tt σ H Q
def tdYes : TDT := fun Γ P => P true Γ
theorem dts_nil {T : Tbs} {X : Cx} : DTs T X [] tdYes := ⟨_, pts_nil, fun σ H Γ ex P Q h p q => q true H Γ h p⟩
theorem dts_one {T : Tbs} {X : Cx} {e : Expr} {u : TDT} (h : DT T X e u) : DTs T X [e] u := by
  obtain ⟨tt, h1, h2⟩ := h
  exact ⟨_, pts_one h1, h2⟩
theorem DTs.uni {ι : Type} {X : ι → Cx} {K : PySem.W.Frag} {T : Tbs} {es : List Expr} {t : TDT} (hK : ∀ i, (X i).K = K) (h : ∀ i, DTs T (X i) es t) : ∃ tt, (∀ i, PTs (X i) es tt) ∧ ∀ σ H Γ ex (P : Bool → G → Prop) (Q : Bool → Hp → Prop), HE (K, T) H σ Γ ex → t Γ P →
    (∀ b H' Γ', HE (K, T) H' σ Γ' ex → P b Γ' → Q b H') → tt σ H Q := by
  have h' : ∀ i, ∃ tt, PTs (X i) es tt ∧ ∀ σ H Γ ex (P : Bool → G → Prop) (Q : Bool → Hp → Prop), HE (K, T) H σ Γ ex → t Γ P → (∀ b H' Γ', HE (K, T) H' σ Γ' ex → P b Γ' → Q b H') → tt σ H Q := fun i => by
    have := h i
    unfold DTs at this
    rw [hK i] at this
    exact this
  exact ⟨fun σ H Q => ∀ i, (h' i).choose σ H Q, fun i => ⟨fun pins s σ H Q I q => (h' i).choose_spec.1.run pins s σ H Q I (q i)⟩, fun σ H Γ ex P Q he p q i => (h' i).choose_spec.2 σ H Γ ex P Q he p q⟩
theorem DG.uni {ι : Type} {X : ι → Cx} {K : PySem.W.Frag} {T : Tbs} {tg : Expr} {fx ws : List Nat} {t : TDG} (hK : ∀ i, (X i).K = K) (h : ∀ i, DG T (X i) fx tg ws t) : ∃ g, (∀ i, PG (X i) tg g) ∧ ∀ ρ x v σ H Γ ex (P : G → Prop) (Q : L2.St → Hp → Prop), HS (K, T) fx ρ H σ Γ ((some v, .d x) :: ex) → t x Γ P →
    (∀ σ' H' Γ', HS (K, T) fx ρ H' σ' Γ' ex → Stores ws σ σ' → P Γ' → Q σ' H') → g v σ H Q := by
  have h' : ∀ i, ∃ g, PG (X i) tg g ∧ ∀ ρ x v σ H Γ ex (P : G → Prop) (Q : L2.St → Hp → Prop), HS (K, T) fx ρ H σ Γ ((some v, .d x) :: ex) → t x Γ P → (∀ σ' H' Γ', HS (K, T) fx ρ H' σ' Γ' ex → Stores ws σ σ' → P Γ' → Q σ' H') → g v σ H Q := fun i => by
    have := h i
    unfold DG at this
    rw [hK i] at this
    exact this
  exact ⟨fun v σ H Q => ∀ i, (h' i).choose v σ H Q, fun i => ⟨fun pins s σ H v u Q I r q => (h' i).choose_spec.1.run pins s σ H v u Q I r (q i)⟩, fun ρ x v σ H Γ ex P Q he p q i => (h' i).choose_spec.2 ρ x v σ H Γ ex P Q he p q⟩
/-! ## a comprehension's own names -/
def wipeG (Γ : G) : List Nat → G
  | [] => Γ
  | v :: vs => (wipeG Γ vs).set v .no
theorem wipeG_len (Γ : G) : ∀ vs, (wipeG Γ vs).length = Γ.length
  | [] => rfl
  | v :: vs => by unfold wipeG; rw [List.length_set, wipeG_len Γ vs]
theorem wipe_get (σ : L2.St) : ∀ (vs : List Nat) (j : Nat), (wipe σ vs)[j]? = if j ∈ vs ∧ j < σ.length then some none else σ[j]?
  | [], j => by simp [wipe]
  | v :: vs, j => by
    unfold wipe
    by_cases e : v = j
    · subst e
      by_cases hl : v < σ.length
      · rw [List.getElem?_set_self (by rw [wipe_length]; exact hl), if_pos ⟨List.mem_cons_self, hl⟩]
      · rw [List.getElem?_eq_none (by rw [List.length_set, wipe_length]; omega), if_neg (fun z => hl z.2), List.getElem?_eq_none (by omega)]
    · rw [List.getElem?_set_ne e, wipe_get σ vs j]
      have e' : j ≠ v := fun z => e z.symm
      simp [List.mem_cons, e']
theorem wipeG_get (Γ : G) : ∀ (vs : List Nat) (j : Nat), (wipeG Γ vs)[j]? = if j ∈ vs ∧ j < Γ.length then some .no else Γ[j]?
  | [], j => by simp [wipeG]
  | v :: vs, j => by
    unfold wipeG
    by_cases e : v = j
    · subst e
      by_cases hl : v < Γ.length
      · rw [List.getElem?_set_self (by rw [wipeG_len]; exact hl), if_pos ⟨List.mem_cons_self, hl⟩]
      · rw [List.getElem?_eq_none (by rw [List.length_set, wipeG_len]; omega), if_neg (fun z => hl z.2), List.getElem?_eq_none (by omega)]
    · rw [List.getElem?_set_ne e, wipeG_get Γ vs j]
      have e' : j ≠ v := fun z => e z.symm
      simp [List.mem_cons, e']
theorem wipe_stores {σ σ' : L2.St} {ws vs : List Nat} (h : Stores ws (wipe σ vs) σ') (hw : ∀ i ∈ ws, i ∈ vs) : wipe σ' vs = wipe σ vs := by
  have hl : σ'.length = σ.length := by rw [h.1, wipe_length]
  refine List.ext_getElem? (fun j => ?_)
  rw [wipe_get, wipe_get, hl]
  by_cases hj : j ∈ vs ∧ j < σ.length
  · rw [if_pos hj, if_pos hj]
  · rw [if_neg hj, if_neg hj]
    by_cases hm : j ∈ vs
    · have : ¬ j < σ.length := fun z => hj ⟨hm, z⟩
      rw [List.getElem?_eq_none (by omega), List.getElem?_eq_none (by omega)]
    · rw [h.2 j fun z => hm (hw j z), wipe_get, if_neg (fun z => hm z.1)]
section
variable {K : KF} {H : Hp} {σ : L2.St} {Γ : G} {ex : List Sl} {vs : List Nat}
theorem HE.wipe (h : HE K H σ Γ ex) : HE K H (L2.wipe σ vs) (wipeG Γ vs) ex := by
  refine ⟨by rw [wipe_length, wipeG_len]; exact h.len, Hs.sub h.hs fun i p e => ?_⟩
  rw [List.getElem?_zip_eq_some] at e
  obtain ⟨e1, e2⟩ := e
  rw [wipe_get] at e1
  rw [wipeG_get] at e2
  by_cases hm : i ∈ vs ∧ i < Γ.length
  · rw [if_pos hm] at e2
    exact .inl (Option.some.inj e2).symm
  · rw [if_neg hm] at e2
    rw [if_neg (by rw [h.len]; exact hm)] at e1
    exact .inr (by rw [List.getElem?_zip_eq_some]; exact ⟨e1, e2⟩)
theorem HE.unwipe (h : HE K H (L2.wipe σ vs) Γ ex) : HE K H σ Γ ex := by
  have hl : σ.length = Γ.length := by have := h.len; rw [wipe_length] at this; exact this
  refine ⟨hl, Hs.sub h.hs fun i p e => ?_⟩
  rw [List.getElem?_zip_eq_some] at e
  obtain ⟨e1, e2⟩ := e
  have hi : i < Γ.length := (List.getElem?_eq_some_iff.mp e2).1
  by_cases hm : i ∈ vs
  · left
    have e3 : (L2.wipe σ vs)[i]? = some none := by rw [wipe_get, if_pos ⟨hm, by omega⟩]
    have e4 : ((L2.wipe σ vs).zip Γ)[i]? = some (none, p.2) := by rw [List.getElem?_zip_eq_some]; exact ⟨e3, e2⟩
    have ok := h.hs.ok _ (List.mem_append_left _ (List.mem_of_getElem? e4))
    cases q : p.2 with
    | no => rfl
    | _ => rw [q] at ok; exact ok.elim
  · right
    rw [List.getElem?_zip_eq_some]
    exact ⟨by rw [wipe_get, if_neg (fun z => hm z.1)]; exact e1, e2⟩
end
/-- a comprehension's word -/
def LcOk (g : TDG) (tt : TDT) (te : TD) (vs : List Nat) (its : List PyData) (Γ0 : G) (P : R → G → Prop) : Prop := ∃ W : Nat → List PyData → G → Prop, W 0 [] (wipeG Γ0 vs) ∧
  (∀ i x acc Γ, its[i]? = some x → W i acc Γ → g x Γ fun Γ1 => tt Γ1 fun b Γ2 => if b = true then te Γ2 fun r Γ3 => ∃ y, dat r.1 = some y ∧ acc.length < sizeLine ∧ W (i + 1) (acc ++ [y]) (wipeG (back [r] [frz r.1] Γ3) vs) else W (i + 1) acc (wipeG Γ2 vs)) ∧
  ∀ acc Γ, W its.length acc Γ → P (.m acc, none) Γ
def tdLc (ti : TDI) (g : TDG) (tt : TDT) (te : TD) (vs : List Nat) : TD := fun Γ P => ti Γ fun its rs Γ0 => LcOk g tt te vs its (back rs (rs.map fun r => frz r.1) Γ0) P
section
variable {T : Tbs} {X : Cx} {elt tg iter : Expr} {ifs : List Expr} {scope : Scope} {own : List (Str × Nat)} {pos : Pos} {ti : TDI} {g : TDG} {tt : TDT} {te : TD} {ws : List Nat}
abbrev Bk : Type := Shared × Hp × Addr × List (Str × Addr) × List Addr
abbrev bkX (X : Cx) (scope : Scope) (i : Bk) : Cx := X.blk i.1 i.2.1 scope (compEnvC scope i.2.2.2.1 i.2.2.1 X.env) i.2.2.2.2
/-- what a comprehension's element, target and tests make of a turn -/
theorem lc_all (hN : X.N.Nodup) (hi : DI T X tg iter ti) (hw : ∀ i ∈ ws, i ∈ own.map (·.2))
    (hg : ∀ i : Bk, DG T (bkX X scope i) [] tg ws g) (ht : ∀ i : Bk, DTs T (bkX X scope i) ifs tt) (he : ∀ i : Bk, DE T (bkX X scope i) elt te) :
    ∃ wi gg t1 t2, PI X tg iter wi ∧ (∀ i : Bk, PG (bkX X scope i) tg gg) ∧ (∀ i : Bk, PTs (bkX X scope i) ifs t1) ∧ (∀ i : Bk, PE (bkX X scope i) elt t2) ∧
      ∀ σ H Γ ex (P : R → G → Prop) (Q : VK), HE (X.K, T) H σ Γ ex → tdLc ti g tt te (own.map (·.2)) Γ P → (∀ v H' r Γ', HE (X.K, T) H' σ Γ' ((some v, r.1) :: ex) → Og σ v r → P r Γ' → Q v H') → tLc wi gg t1 t2 (own.map (·.2)) σ H Q := by
  obtain ⟨wi, h1, h2⟩ := hi
  obtain ⟨gg, g1, g2⟩ := DG.uni (X := bkX X scope) (K := X.K) (fun _ => rfl) hg
  obtain ⟨t1, k1, k2⟩ := DTs.uni (X := bkX X scope) (K := X.K) (fun _ => rfl) ht
  obtain ⟨t2, e1, e2⟩ := DE.uni (X := bkX X scope) (K := X.K) (fun _ => rfl) he
  refine ⟨wi, gg, t1, t2, h1, g1, k1, e1, fun σ H Γ ex P Q h p q => ?_⟩
  generalize hvs : own.map (·.2) = vs at *
  refine h2 σ H Γ ex _ _ h p fun J H1 us rs its Γ1 he og wk p1 => ?_
  obtain ⟨W, w0, turn, fin⟩ := p1
  have he' := HE.frzAll og he
  revert he' wk
  generalize tmpS us (rs.map fun r => frz r.1) = held
  intro wk he' D hD
  have st0 : HE (X.K, T) (upd H1 D (.lst [])) (wipe σ vs) (wipeG (DL.back rs (rs.map fun r => frz r.1) Γ1) vs) ((some (.ref D), .m []) :: (held ++ ex)) :=
    HE.wipe ⟨he'.len, (he'.hs.new_m hD .nil).mid⟩
  refine ⟨fun i m H => m = its.length - i ∧ i ≤ its.length ∧ ∃ acc Γ, HE (X.K, T) H (wipe σ vs) Γ ((some (.ref D), .m acc) :: (held ++ ex)) ∧ W i acc Γ, ⟨its.length, by simp, Nat.zero_le _, _, _, st0, w0⟩, ?_⟩
  rintro i m H2 ⟨rfl, hi', acc, Γ2, he2, w2⟩
  have hw2 : Hs (X.K, T) H2 (held ++ ((some (.ref D), .m acc) :: ((wipe σ vs).zip Γ2 ++ ex))) := by
    refine he2.hs.perm ?_
    refine (List.perm_middle (a := ((some (.ref D), .m acc) : Sl)) (l₁ := (wipe σ vs).zip Γ2) (l₂ := held ++ ex)).trans ?_
    refine List.Perm.trans (List.Perm.cons _ ?_) List.perm_middle.symm
    repeat rw [← List.append_assoc]
    exact (List.perm_append_comm).append_right _
  obtain ⟨q1, q2⟩ := wk i H2 _ hw2
  by_cases hlt : i < its.length
  · have ey : its[i]? = some its[i] := List.getElem?_eq_getElem hlt
    obtain ⟨go, yl⟩ := q1 _ ey
    refine .inr ⟨go, fun H' => ∃ acc Γ', HE (X.K, T) H' (wipe σ vs) Γ' ((some (.ref D), .m acc) :: (held ++ ex)) ∧ W (i + 1) acc Γ', fun H' ⟨acc, Γ', a, b⟩ => ⟨its.length - (i + 1), by omega, rfl, hlt, acc, Γ', a, b⟩, fun x H' y => ?_⟩
    have qq := yl x H' y
    have hx : HS (X.K, T) [] (fun _ => .non) H' (wipe σ vs) Γ2 ((some x, .d its[i]) :: (some (.ref D), .m acc) :: (held ++ ex)) := by
      refine ⟨⟨he2.len, qq.perm ?_⟩, fun j hj => by cases hj⟩
      refine List.Perm.trans (List.Perm.cons _ ?_) List.perm_middle.symm
      refine List.Perm.trans List.perm_middle ?_
      refine List.Perm.trans (List.Perm.cons _ ?_) List.perm_middle.symm
      repeat rw [← List.append_assoc]
      exact (List.perm_append_comm).append_right _
    refine g2 _ _ x (wipe σ vs) H' Γ2 _ _ _ hx (turn i _ acc Γ2 ey w2) fun σ3 H3 Γ3 hs3 st3 p3 => ?_
    have hwp : wipe σ3 vs = wipe σ vs := wipe_stores st3 hw
    refine ⟨hwp, ?_⟩
    refine k2 σ3 H3 Γ3 _ _ _ hs3.he p3 fun b H4 Γ4 he4 p4 => ?_
    cases b with
    | false =>
      rw [if_neg Bool.false_ne_true] at p4 ⊢
      refine ⟨acc, _, ?_, p4⟩
      have := he4.wipe (vs := vs)
      rw [hwp] at this
      exact this
    | true =>
      rw [if_pos rfl] at p4 ⊢
      refine e2 σ3 H4 Γ4 _ _ _ he4 p4 fun v H5 r Γ5 he5 og5 p5 => ?_
      obtain ⟨y, ey', hz, p5⟩ := p5
      have hf : HE (X.K, T) H5 σ3 (DL.back [r] [frz r.1] Γ5) ((some v, frz r.1) :: (some (.ref D), .m acc) :: (held ++ ex)) := HE.frzAll (rs := [r]) (vs := [v]) (.cons og5 .nil) he5
      rw [frz_dat ey'] at hf
      have h6 : Hs (X.K, T) H5 ((some (.ref D), .m acc) :: (some v, .d y) :: (σ3.zip (DL.back [r] [frz r.1] Γ5) ++ (held ++ ex))) := by
        rw [frz_dat ey']
        refine hf.hs.perm ?_
        refine (List.perm_middle.trans (List.Perm.cons _ List.perm_middle)).trans (List.Perm.swap _ _ _)
      obtain ⟨l, ws', el, hh, dd, _⟩ := h6.get_m
      cases el
      have dv : Dt X.K (hid (D :: ads ((some v, .d y) :: (σ3.zip (DL.back [r] [frz r.1] Γ5) ++ (held ++ ex)))) H5) v y := h6.ok _ (List.mem_cons_of_mem _ List.mem_cons_self)
      refine ⟨ws', hh, by rw [dd.length]; exact hz, acc ++ [y], _, ?_, p5⟩
      have h7 := (h6.write (v := .ref D) (dd.append (.cons dv .nil))).swap2.tail
      have h8 : HE (X.K, T) (upd H5 D (.lst (ws' ++ [v]))) σ3 (DL.back [r] [frz r.1] Γ5) ((some (.ref D), .m (acc ++ [y])) :: (held ++ ex)) := ⟨hf.len |> fun z => by rw [frz_dat ey']; exact z, h7.mid⟩
      have h9 := h8.wipe (vs := vs)
      rw [hwp] at h9
      exact h9
  · have e : i = its.length := by omega
    subst e
    refine .inl ⟨q2 (Nat.le_refl _), q (.ref D) H2 (.m acc, none) Γ2 ?_ Og.none (fin acc Γ2 w2)⟩
    have h3 := he2.unwipe
    exact (h3.perm (List.perm_middle (a := ((some (.ref D), .m acc) : Sl)) (l₁ := held) (l₂ := ex)).symm).drops
theorem de_lc (hc : X.calm = true) (hN : X.N.Nodup) (hi : DI T X tg iter ti) (ok : BlkOk X.N X.env.scope scope own) (hw : ∀ i ∈ ws, i ∈ own.map (·.2))
    (hg : ∀ i : Bk, DG T (bkX X scope i) [] tg ws g) (ht : ∀ i : Bk, DTs T (bkX X scope i) ifs tt) (he : ∀ i : Bk, DE T (bkX X scope i) elt te) (hs : ∀ x, foldedSetIterable iter X.env x = pure x := by intro _; rfl) :
    DE T X (.ListComp elt [⟨tg, iter, ifs, 0⟩] scope pos) (tdLc ti g tt te (own.map (·.2))) := by
  obtain ⟨wi, gg, t1, t2, h1, h2, h3, h4, h5⟩ := lc_all (own := own) hN hi hw hg ht he
  exact ⟨_, pe_lc hc hN h1 ok (fun s H C cl fp => h2 (s, H, C, cl, fp)) (fun s H C cl fp => h3 (s, H, C, cl, fp)) (fun s H C cl fp => h4 (s, H, C, cl, fp)) hs, h5⟩
theorem ds_setLc {i : Nat} {y : Str} {py spos : Pos} {fx : List Nat} (hc : X.calm = true) (hN : X.N.Nodup) (hy : X.N[i]? = some y) (hyl : X.env.scope.names.lookup y = some .local)
    (hsw : swapsWith (.ListComp elt [⟨tg, iter, ifs, 0⟩] scope pos) (some (.Name y py)) spos.line X.env = pure true) (hi : DI T X tg iter ti) (ok : BlkOk X.N X.env.scope scope own) (hw : ∀ i ∈ ws, i ∈ own.map (·.2))
    (hg : ∀ i : Bk, DG T (bkX X scope i) [] tg ws g) (ht : ∀ i : Bk, DTs T (bkX X scope i) ifs tt) (he : ∀ i : Bk, DE T (bkX X scope i) elt te) (hs : ∀ x, foldedSetIterable iter X.env x = pure x := by intro _; rfl) (ni : i ∉ fx := by decide) :
    DS T X fx (.Assign [.Name y py] (.ListComp elt [⟨tg, iter, ifs, 0⟩] scope pos) spos) (tdSet i (tdLc ti g tt te (own.map (·.2)))) := by
  obtain ⟨wi, gg, t1, t2, h1, h2, h3, h4, h5⟩ := lc_all (own := own) hN hi hw hg ht he
  refine ⟨_, ps_setLc hc hN hy hyl hsw h1 ok (fun s H C cl fp => h2 (s, H, C, cl, fp)) (fun s H C cl fp => h3 (s, H, C, cl, fp)) (fun s H C cl fp => h4 (s, H, C, cl, fp)) hs, fun ρ σ H Γ ex E D h p c => ?_⟩
  refine h5 σ H Γ ex _ _ h.he p fun v H' r Γ' he og p1 => ?_
  exact c.nx _ _ _ (HS.setv ⟨he, h.fix⟩ ni) p1
end
end DL

namespace DL
open PySem PySem.Spec PyProof.Rows L2 RZ
section
variable {T : Tbs} {X : Cx} {e a b o i : Expr} {es : List Expr} {u : TDA} {t ta tb to ti te : TD} {x : Str} {c : CT} {p pos apos p2 : Pos} {fx : List Nat} {K : KF}

/-! ## more methods -/
def cExtend : CT := fun ss P => match ss with
  | [.m xs, a] => ∃ ys, lis a = some ys ∧ xs.length + ys.length ≤ sizeLine ∧ P (.d .none) [.m (xs ++ ys), a]
  | _ => False
theorem snd_extend : SndM K rExtend cExtend := by
  intro x vs H s ss ex P Q hl h hc q
  unfold cExtend at hc
  split at hc
  · rename_i xs a e
    cases e
    obtain ⟨v, rfl⟩ := one_slot hl
    obtain ⟨ys, ey, hz, p⟩ := hc
    have h1 : Hs K H ((some x, .m xs) :: (some v, a) :: ex) := h
    obtain ⟨b, zs, rfl, hh2, d2⟩ := h1.li (List.mem_cons_of_mem _ List.mem_cons_self) ey
    obtain ⟨l, ws, rfl, hh, d, _⟩ := h1.get_m
    exact ⟨l, b, ws, zs, rfl, rfl, hh, hh2, by rw [d.length, d2.length]; exact hz, q _ _ _ _ _ p rfl ((h1.write (v := .ref l) (d.append d2)).cons_d .non)⟩
  · exact hc.elim
theorem de_extend (ho : DE T X o to) (ha : DA T X (e :: es) u) (hbase : attributeBase o "extend" X.env (eval o X.env) = eval o X.env := by rfl)
    (hfew : ((backTo pos (starEach (e :: es) X.env)).all (fun x => !x.1) && (backToKw pos (keywordEach [] X.env)).all (fun x => x.1.isSome) && decide ((e :: es).length + ([] : List Keyword).length + (if ([] : List Keyword).isEmpty then 0 else 1) < 30)) = true := by rfl)
    (hline : (apos.endLine == pos.line) = true := by rfl) (hs : starEach (e :: es) X.env = (false, eval e X.env) :: starEach es X.env := by rfl) (hplain : (backTo pos (starEach es X.env)).any (·.1) = false := by rfl) :
    DE T X (.Call (.Attribute o "extend" apos) (e :: es) [] pos) (tMp to u cExtend) :=
  de_meth (fun to ta h1 h2 => ⟨_, pe_bm PySem.F.plainAttrs_list PySem.F.slot_list_extend PySem.F.type_list_extend mt_extend h1 h2 hbase hfew hline hs hplain, fun σ H Q z => z⟩) snd_extend ho ha
def cPopAt : CT := fun ss P => match ss with
  | [.m xs, .d (.int i)] => ∃ k y, -(2 ^ 63) ≤ i ∧ i < 2 ^ 63 ∧ seqIndex? i xs.length = some k ∧ xs[k]? = some y ∧ P (.d y) [.m (xs.eraseIdx k), .no]
  | _ => False
theorem snd_popAt : SndM K rPopAt cPopAt := by
  intro x vs H s ss ex P Q hl h hc q
  unfold cPopAt at hc
  split at hc
  · rename_i xs i e
    cases e
    obtain ⟨v, rfl⟩ := one_slot hl
    obtain ⟨k, y, b1, b2, ek, ey, p⟩ := hc
    have h1 : Hs K H ((some x, .m xs) :: (some v, .d (.int i)) :: ex) := h
    have d2 := h1.dt (s := .d (.int i)) (List.mem_cons_of_mem _ List.mem_cons_self) rfl
    cases d2
    have h2 : Hs K H ((some x, .m xs) :: (some (.int i), .no) :: ex) := (h1.swap2.tail.cons_no (o := some (.int i))).swap2
    obtain ⟨l, ws, rfl, hh, d, _⟩ := h2.get_m
    obtain ⟨w, ew, dw⟩ := d.get ey
    refine ⟨l, ws, i, k, w, rfl, rfl, hh, b1, b2, by rw [d.length]; exact ek, ew, q _ _ _ _ _ p rfl ?_⟩
    refine (h2.write (v := .ref l) (d.eraseIdx k)).cons_d (dw.le ?_)
    exact hid_mono fun b o nb e => by
      rw [upd_ne (fun (z : b = l) => nb (by rw [z]; exact List.mem_cons_self))]; exact e
  · exact hc.elim
theorem de_popAt (ho : DE T X o to) (ha : DA T X (e :: es) u) (hbase : attributeBase o "pop" X.env (eval o X.env) = eval o X.env := by rfl)
    (hfew : ((backTo pos (starEach (e :: es) X.env)).all (fun x => !x.1) && (backToKw pos (keywordEach [] X.env)).all (fun x => x.1.isSome) && decide ((e :: es).length + ([] : List Keyword).length + (if ([] : List Keyword).isEmpty then 0 else 1) < 30)) = true := by rfl)
    (hline : (apos.endLine == pos.line) = true := by rfl) (hs : starEach (e :: es) X.env = (false, eval e X.env) :: starEach es X.env := by rfl) (hplain : (backTo pos (starEach es X.env)).any (·.1) = false := by rfl) :
    DE T X (.Call (.Attribute o "pop" apos) (e :: es) [] pos) (tMp to u cPopAt) :=
  de_meth (fun to ta h1 h2 => ⟨_, pe_bm PySem.F.plainAttrs_list PySem.F.slot_list_pop PySem.F.type_list_pop mt_popAt h1 h2 hbase hfew hline hs hplain, fun σ H Q z => z⟩) snd_popAt ho ha

/-! ## xs[i] = e -/
def tdStore (te to ti : TD) : TDS := fun E Γ => te Γ fun r Γ1 => to Γ1 fun ro Γ2 => ti Γ2 fun ri Γ3 => ∃ y xs i j, dat r.1 = some y ∧ ro.1 = .m xs ∧ ri.1 = .d (.int i) ∧ ixN xs.length i = some j ∧
  E.nx (back [ro] [.m (xs.set j y)] (back [r] [frz r.1] Γ3))
theorem ds_store {st : Stmt} (hp : ∀ te to ti, PE X e te → PE X o to → PE X i ti → PS X st (tAsg te (gSub to ti rSetL))) (he : DE T X e te) (ho : DE T X o to) (hi : DE T X i ti) : DS T X fx st (tdStore te to ti) := by
  obtain ⟨t1, h1, h2⟩ := he
  obtain ⟨t2, h3, h4⟩ := ho
  obtain ⟨t3, h5, h6⟩ := hi
  refine ⟨_, hp _ _ _ h1 h3 h5, fun ρ σ H Γ ex E D h p c => ?_⟩
  refine h2 σ H Γ ex _ _ h.he p fun v H1 r Γ1 he og p1 => ?_
  refine h4 σ H1 Γ1 _ _ _ he p1 fun w H2 ro Γ2 he2 og2 p2 => ?_
  refine h6 σ H2 Γ2 _ _ _ he2 p2 fun z H3 ri Γ3 he3 og3 p3 => ?_
  obtain ⟨y, xs, k, j, e1, e2, e3, e4, p3⟩ := p3
  obtain ⟨so, oo⟩ := ro
  obtain ⟨si, oi⟩ := ri
  cases e2
  cases e3
  have d3 := he3.hs.front.get_d
  cases d3
  have hk : HE (X.K, T) H3 σ Γ3 ((some v, r.1) :: (some w, .m xs) :: ex) := he3.dropx.perm (List.Perm.swap _ _ _)
  have hk2 : HE (X.K, T) H3 σ (DL.back [r] [frz r.1] Γ3) ((some v, frz r.1) :: (some w, .m xs) :: ex) := HE.frzAll (rs := [r]) (vs := [v]) (ex := (some w, .m xs) :: ex) (.cons og .nil) hk
  rw [frz_dat e1] at hk2 p3
  have hk3 : Hs (X.K, T) H3 ((some w, .m xs) :: (some v, .d y) :: (σ.zip (DL.back [r] [.d y] Γ3) ++ ex)) := hk2.hs.perm ((List.perm_middle.trans (List.Perm.cons _ List.perm_middle)).trans (List.Perm.swap _ _ _))
  obtain ⟨l, ws, rfl, hh, dd, _⟩ := hk3.get_m
  have dv : Dt X.K (hid (l :: ads ((some v, SV.d y) :: (σ.zip (DL.back [r] [.d y] Γ3) ++ ex))) H3) v y := hk3.ok _ (List.mem_cons_of_mem _ List.mem_cons_self)
  refine ⟨l, ws, k, j, rfl, rfl, hh, by rw [dd.length]; exact e4, c.nx _ _ _ ⟨?_, h.fix⟩ p3⟩
  have h7 := (hk3.write (v := .ref l) (dd.set j dv)).swap2.tail
  have h8 : HE (X.K, T) (upd H3 l (.lst (ws.set j v))) σ (DL.back [r] [.d y] Γ3) ((some (.ref l), .m (xs.set j y)) :: ex) := ⟨hk2.len, h7.mid⟩
  exact HE.back (rs := [(.m xs, oo)]) (vs := [.ref l]) rfl (.cons og2 .nil) h8

/-! ## slices -/
abbrev TDO := G → (Option Int → G → Prop) → Prop
def DO (T : Tbs) (X : Cx) (e : Option Expr) (t : TDO) : Prop := ∃ to, PO X e to ∧ ∀ σ H Γ ex (P : Option Int → G → Prop) (Q : Option Int → Hp → Prop), HE (X.K, T) H σ Γ ex → t Γ P →
  (∀ o H' Γ', HE (X.K, T) H' σ Γ' ex → P o Γ' → Q o H') → to σ H Q
def tdNo : TDO := fun Γ P => P none Γ
def tdSome (t : TD) : TDO := fun Γ P => t Γ fun r Γ1 => ∃ i, r.1 = .d (.int i) ∧ P (some i) Γ1
theorem do_none : DO T X none tdNo := ⟨_, po_none, fun σ H Γ ex P Q h p q => q none H Γ h p⟩
theorem do_some (h : DE T X e t) : DO T X (some e) (tdSome t) := by
  obtain ⟨te, h1, h2⟩ := h
  refine ⟨_, po_some h1, fun σ H Γ ex P Q h p q => ?_⟩
  refine h2 σ H Γ ex _ _ h p fun v H' r Γ' he og p1 => ?_
  obtain ⟨i, e, p1⟩ := p1
  obtain ⟨s, o⟩ := r
  cases e
  have d := he.hs.front.get_d
  cases d
  exact ⟨i, rfl, q _ _ _ he.dropx p1⟩
def cutD (xs : List PyData) (lo hi : Option Int) : List PyData := (xs.drop (HT.sIx xs.length 0 lo)).take (HT.sIx xs.length xs.length hi - HT.sIx xs.length 0 lo)
theorem cut_dt {H : Hp} {vs : List V} {xs : List PyData} (d : DtAll K.1 H vs xs) (lo hi : Option Int) : DtAll K.1 H (cutV vs lo hi) (cutD xs lo hi) := by
  unfold cutV cutD
  rw [d.length]
  exact (d.drop _).take _
theorem cut_whole {xs : List PyData} {lo hi : Option Int} (h : HT.sIx xs.length 0 lo = 0 ∧ HT.sIx xs.length xs.length hi = xs.length) : cutD xs lo hi = xs := by
  unfold cutD
  rw [h.1, h.2, List.drop_zero, Nat.sub_zero, List.take_length]
def tdSl (t : TD) (tl th : TDO) : TD := fun Γ P => t Γ fun r Γ1 => tl Γ1 fun lo Γ2 => th Γ2 fun hi Γ3 => match r.1 with
  | .d (.tuple xs) => P (.d (.tuple (cutD xs lo hi)), none) Γ3
  | s => ∃ xs, lis s = some xs ∧ P (.m (cutD xs lo hi), none) (back [r] [r.1] Γ3)
theorem de_slice {lo hi : Option Expr} {tl th : TDO} (he : DE T X e t) (hl : DO T X lo tl) (hu : DO T X hi th) : DE T X (.Subscript e (.Slice lo hi none p2) pos) (tdSl t tl th) := by
  obtain ⟨te, h1, h2⟩ := he
  obtain ⟨t2, h3, h4⟩ := hl
  obtain ⟨t3, h5, h6⟩ := hu
  refine ⟨_, pe_slice (SlR.or sl_tupA sl_list) h1 h3 h5, fun σ H Γ ex P Q h p q => ?_⟩
  refine h2 σ H Γ ex _ _ h p fun v H1 r Γ1 he og p1 => ?_
  refine h4 σ H1 Γ1 _ _ _ he p1 fun lo' H2 Γ2 he2 p2 => ?_
  refine h6 σ H2 Γ2 _ _ _ he2 p2 fun hi' H3 Γ3 he3 p3 => ?_
  obtain ⟨s, o⟩ := r
  have lists : (∃ xs, lis s = some xs ∧ P (.m (cutD xs lo' hi'), none) (DL.back [(s, o)] [s] Γ3)) → rSlA X.K v lo' hi' H3 Q ∨ rSlL X.K v lo' hi' H3 Q := fun ⟨xs, ex', p⟩ => by
    obtain ⟨a, vs, rfl, hh, d⟩ := he3.hs.front.li List.mem_cons_self ex'
    refine .inr ⟨a, vs, rfl, SqL.of hh, fun l hn => q _ _ _ _ ?_ Og.none p⟩
    have h7 := he3.hs.front.new_m hn (cut_dt d lo' hi')
    have h8 : HE (X.K, T) (upd H3 l (.lst (cutV vs lo' hi'))) σ Γ3 ((some (.ref a), s) :: (some (.ref l), .m (cutD xs lo' hi')) :: ex) := ⟨he3.len, by
      refine h7.perm ?_
      exact (List.Perm.swap _ _ _).trans ((List.Perm.cons _ List.perm_middle.symm).trans List.perm_middle.symm)⟩
    exact HE.back (rs := [(s, o)]) (vs := [.ref a]) rfl (.cons og .nil) h8
  cases s with
  | d y =>
    cases y with
    | tuple xs =>
      obtain ⟨a, vs, rfl, hh, d⟩ := he3.hs.front.tu List.mem_cons_self
      have d' := he3.hs.front.get_d
      refine .inl ⟨a, vs, rfl, hh, fun hw => ?_, fun _ l hn => q _ _ _ _ ?_ Og.none p3⟩
      · have e1 : cutD xs lo' hi' = xs := cut_whole (by rw [← d.length]; exact hw)
        have p4 : P (.d (.tuple (cutD xs lo' hi')), none) Γ3 := p3
        rw [e1] at p4
        exact q (.ref a) H3 (.d (.tuple xs), none) Γ3 he3 Og.none p4
      · exact ⟨he3.len, (he3.hs.front.new_tup hn (cut_dt d lo' hi')).swap2.tail.mid⟩
    | _ => exact lists p3
  | _ => exact lists p3
/-- .. of the script -/
def scD (xs : List PyData) : PyData := .dict [(.list xs, .none)]
def tdSlF (t : TD) (tl th : TDO) : TD := fun Γ P => t Γ fun r Γ1 => tl Γ1 fun lo Γ2 => th Γ2 fun hi Γ3 => ∃ xs, r = (.d (scD xs), none) ∧ P (.m (cutD xs lo hi), none) Γ3
theorem de_sliceF {lo hi : Option Expr} {tl th : TDO} (he : DE T X e t) (hl : DO T X lo tl) (hu : DO T X hi th) : DE T X (.Subscript e (.Slice lo hi none p2) pos) (tdSlF t tl th) := by
  obtain ⟨te, h1, h2⟩ := he
  obtain ⟨t2, h3, h4⟩ := hl
  obtain ⟨t3, h5, h6⟩ := hu
  refine ⟨_, pe_slice (SlR.or sl_tupA sl_list) h1 h3 h5, fun σ H Γ ex P Q h p q => ?_⟩
  refine h2 σ H Γ ex _ _ h p fun v H1 r Γ1 he og p1 => ?_
  refine h4 σ H1 Γ1 _ _ _ he p1 fun lo' H2 Γ2 he2 p2 => ?_
  refine h6 σ H2 Γ2 _ _ _ he2 p2 fun hi' H3 Γ3 he3 p3 => ?_
  obtain ⟨xs, rfl, p⟩ := p3
  have d := he3.hs.front.get_d
  cases d with
  | scr h7 d =>
    refine .inr ⟨_, _, rfl, Le.sqL hid_sub h7, fun l hn => q _ _ _ _ ?_ Og.none p⟩
    exact ⟨he3.len, ((he3.hs.front.tail).new_m hn (cut_dt d lo' hi')).mid⟩
/-- xs[::-1] of a list -/
def tdRev (t : TD) : TD := fun Γ P => t Γ fun r Γ1 => ∃ xs, lis r.1 = some xs ∧ P (.m xs.reverse, none) (back [r] [r.1] Γ1)
theorem de_rev {k : Nat} {q1 q2 q3 q4 : Pos} (he : DE T X e t) : DE T X (.Subscript e (.Slice none none (some (.UnaryOp .USub (.Constant (.int 1) k q1) q2)) q3) q4) (tdRev t) := by
  obtain ⟨te, h1, h2⟩ := he
  refine ⟨_, pe_revL h1, fun σ H Γ ex P Q h p q => ?_⟩
  refine h2 σ H Γ ex _ _ h p fun v H1 r Γ1 he og p1 => ?_
  obtain ⟨xs, ex', p⟩ := p1
  obtain ⟨a, vs, rfl, hh, d⟩ := he.hs.front.li List.mem_cons_self ex'
  refine ⟨a, vs, rfl, SqL.of hh, fun l hn => q _ _ _ _ ?_ Og.none p⟩
  have h7 := he.hs.front.new_m hn d.reverse
  have h8 : HE (X.K, T) (upd H1 l (.lst vs.reverse)) σ Γ1 ((some (.ref a), r.1) :: (some (.ref l), .m xs.reverse) :: ex) := ⟨he.len, by
    refine h7.perm ?_
    exact (List.Perm.swap _ _ _).trans ((List.Perm.cons _ List.perm_middle.symm).trans List.perm_middle.symm)⟩
  exact HE.back (rs := [r]) (vs := [.ref a]) rfl (.cons og .nil) h8

/-! ## isinstance -/
/-- the built-in class of a value -/
def tyS : SV → Option String
  | .d .none => some "NoneType"
  | .d (.bool _) => some "bool"
  | .d (.int _) => some "int"
  | .d (.str _) => some "str"
  | .d (.list _) => some "list"
  | .d (.tuple _) => some "tuple"
  | .m _ => some "list"
  | _ => none
theorem tyX_tup {H : Hp} {a : Addr} {vs : List V} (h : SqT K.1 H a vs) : TyX K.1 H (.ref a) (.type "tuple") := by
  rcases h with (h | ⟨o, h⟩) | ⟨o, its, n, hk, hc, _⟩
  · exact .base (.tup h)
  · exact .fTuple h
  · exact .kTuple hk hc
theorem Hs.tyX {H : Hp} {ps : List Sl} {v : V} {s : SV} {Ty : String} (h : Hs K H ps) (m : ((some v, s) : Sl) ∈ ps) (e : tyS s = some Ty) : TyX K.1 H v (.type Ty) := by
  cases s with
  | d x =>
    have q := h.dt m rfl
    cases q with
    | non => cases e; exact .base .non
    | bl b => cases e; exact .base (.bl b)
    | int i => cases e; exact .base (.int i)
    | str z => cases e; exact .base (.str z)
    | lst h1 _ => cases e; exact .base (.lst h1)
    | tup h1 _ => cases e; exact tyX_tup h1
    | scr h1 _ => cases e
    | exc0 _ => cases e
    | exc1 _ _ _ => cases e
  | m xs =>
    cases e
    obtain ⟨a, vs, rfl, hh, _⟩ := h.li m rfl
    exact .base (.lst hh)
  | no => cases e
  | t _ => cases e
def tdIsi (t : TD) (ans : String → Option Bool) : TD := fun Γ P => t Γ fun r Γ1 => ∃ Ty b, tyS r.1 = some Ty ∧ ans Ty = some b ∧ P (.d (.bool b), none) (back [r] [r.1] Γ1)
theorem de_isi {Ty : String} {y : Str} {q : Pos} (hm : X.mg "isinstance" = none) (hmy : X.mg y = none) (hy : bootBuiltins y = some (.type Ty)) (ha : DE T X a t) {ans : String → Option Bool}
    (hans : ∀ S b, ans S = some b → PySem.W.kitOne X.K (.type S) (.type Ty) = some b) (hg : Gl X "isinstance" := by rfl) (hgy : Gl X y := by rfl) (hyn : y ≠ "__name__" := by decide) (hyd : (y == ("__debug__" : Str)) = false := by decide)
    (hs1 : starEach (.Name y q :: []) X.env = (false, eval (.Name y q) X.env) :: starEach [] X.env := by rfl)
    (hs : starEach (a :: [.Name y q]) X.env = (false, eval a X.env) :: starEach [.Name y q] X.env := by rfl) (hpl : (backTo pos (starEach [.Name y q] X.env)).any (·.1) = false := by rfl) :
    DE T X (.Call (.Name "isinstance" p) [a, .Name y q] [] pos) (tdIsi t ans) := by
  obtain ⟨te, h1, h2⟩ := ha
  refine ⟨_, pe_callB call_isi hg hm (by decide +kernel) (pa_cons h1 (pa_cons (pe_bltn (v := .ty Ty) hgy hmy hy rfl hyn hyd) pa_nil hs1) hs) (by decide) (by decide) hs hpl, fun σ H Γ ex P Q h p q => ?_⟩
  refine h2 σ H Γ ex _ _ h p fun v H1 r Γ1 he og p1 => ?_
  obtain ⟨S, b, e1, e2, p1⟩ := p1
  exact ⟨v, .ty Ty, .type S, .type Ty, b, rfl, .ty Ty, he.hs.tyX (List.mem_append_right _ List.mem_cons_self) e1, hans S b e2, q _ _ _ _ ((he.back1 og).addd (.bl b)) Og.none p1⟩
theorem de_isi2 {Ty Ty' : String} {y y' : Str} {q q' pt : Pos} {kk : Nat} (hm : X.mg "isinstance" = none) (hmy : X.mg y = none) (hmy' : X.mg y' = none) (hy : bootBuiltins y = some (.type Ty)) (hy' : bootBuiltins y' = some (.type Ty')) (ha : DE T X a t) {ans : String → Option Bool}
    (hans : ∀ S b, ans S = some b → PySem.W.kitAny X.K (.type S) [.type Ty, .type Ty'] = some b) (hg : Gl X "isinstance" := by rfl) (hgy : Gl X y := by rfl) (hgy' : Gl X y' := by rfl) (hyn : y ≠ "__name__" := by decide) (hyd : (y == ("__debug__" : Str)) = false := by decide) (hyn' : y' ≠ "__name__" := by decide) (hyd' : (y' == ("__debug__" : Str)) = false := by decide)
    (hs0 : starEach (.Name y' q' :: []) X.env = (false, eval (.Name y' q') X.env) :: starEach [] X.env := by rfl)
    (hs1 : starEach (.Name y q :: [.Name y' q']) X.env = (false, eval (.Name y q) X.env) :: starEach [.Name y' q'] X.env := by rfl)
    (hs2 : starEach (.Tuple [.Name y q, .Name y' q'] kk pt :: []) X.env = (false, eval (.Tuple [.Name y q, .Name y' q'] kk pt) X.env) :: starEach [] X.env := by rfl)
    (hs : starEach (a :: [.Tuple [.Name y q, .Name y' q'] kk pt]) X.env = (false, eval a X.env) :: starEach [.Tuple [.Name y q, .Name y' q'] kk pt] X.env := by rfl) (hpl : (backTo pos (starEach [.Tuple [.Name y q, .Name y' q'] kk pt] X.env)).any (·.1) = false := by rfl) :
    DE T X (.Call (.Name "isinstance" p) [a, .Tuple [.Name y q, .Name y' q'] kk pt] [] pos) (tdIsi t ans) := by
  obtain ⟨te, h1, h2⟩ := ha
  refine ⟨_, pe_callB call_isiT hg hm (by decide +kernel) (pa_cons h1 (pa_cons (pe_tup (pa_cons (pe_bltn (v := .ty Ty) hgy hmy hy rfl hyn hyd) (pa_cons (pe_bltn (v := .ty Ty') hgy' hmy' hy' rfl hyn' hyd') pa_nil hs0) hs1)) pa_nil hs2) hs) (by decide) (by decide) hs hpl, fun σ H Γ ex P Q h p q => ?_⟩
  refine h2 σ H Γ ex _ _ h p fun v H1 r Γ1 he og p1 => ?_
  obtain ⟨S, b, e1, e2, p1⟩ := p1
  refine ⟨(by show 2 ≤ sizeLine; decide), fun l hl => ?_⟩
  have he2 : HE (X.K, T) (upd H1 l (.tup [.ty Ty, .ty Ty'])) σ Γ1 ((some v, r.1) :: ex) := ⟨he.len, he.hs.grow (le_upd hl)⟩
  exact ⟨v, l, [.ty Ty, .ty Ty'], .type S, [.type Ty, .type Ty'], b, rfl, upd_same, .cons (.ty Ty) (.cons (.ty Ty') .nil), he2.hs.tyX (List.mem_append_right _ List.mem_cons_self) e1, hans S b e2, q _ _ _ _ ((he2.back1 og).addd (.bl b)) Og.none p1⟩

/-! ## names of the module -/
theorem de_glob {y : Str} {d : PyData} {v : V} {uv : Value} (hm : X.mg y = some uv) (r : RelV v uv) (hd : ∀ H, Dt X.K H v d) (hg : Gl X y := by rfl) (hdb : (y == ("__debug__" : Str)) = false := by decide) : DE T X (.Name y pos) (tdC d) := de_c (pe_glob hg hm r hdb) hd
theorem dt_empty {H : Hp} {a : Addr} {ob : Obj} {n : Nat} (hk : K.1.lookup a = some ob) (hc : ob.cls = .type "tuple") (hd : ob.data = .seq #[] n) : Dt K.1 H (.ref a) (.tuple []) :=
  .tup (.inr ⟨ob, #[], n, hk, hc, hd, by decide, .nil⟩) .nil
end
end DL

namespace DL
open PySem PySem.Spec PyProof.Rows L2 RZ
/-! ## del xs[a:] -/
theorem zipIdx_take {α : Type} (a n : Nat) (f : α × Nat → Option α) (hf : ∀ x k, f (x, k) = if a ≤ k ∧ k < n then none else some x) : ∀ (xs : List α) (o : Nat), o + xs.length ≤ n → (xs.zipIdx o).filterMap f = xs.take (a - o)
  | [], o, _ => by simp
  | x :: xs, o, h => by
    rw [List.zipIdx_cons, List.filterMap_cons, hf]
    have ih := zipIdx_take a n f hf xs (o + 1) (by simp at h; omega)
    simp only [List.length_cons] at h
    by_cases c : a ≤ o
    · rw [if_pos ⟨c, by omega⟩]
      show (xs.zipIdx (o + 1)).filterMap f = _
      rw [ih]
      have e1 : a - o = 0 := by omega
      have e2 : a - (o + 1) = 0 := by omega
      rw [e1, e2]; rfl
    · rw [if_neg (fun z => c z.1)]
      show x :: (xs.zipIdx (o + 1)).filterMap f = _
      rw [ih]
      have e1 : a - o = (a - (o + 1)) + 1 := by omega
      rw [e1]; rfl
theorem bounds_tail {a n : Nat} (ha : a ≤ n) : sliceBounds (some (a : Int)) none none n = ((a : Int), (n : Int), 1) := by
  unfold sliceBounds; simp only [Option.getD_none]
  have hneg : ¬ ((a : Int) < 0) := by omega
  simp only [hneg, if_false, show (1 : Int) > 0 by decide, if_true]
  congr 1
  omega
section
variable {pg : Program} {w : World} {Ar : Around} {Er : Value → Shared → Prop} {s : Shared}
theorem delItem_tail {l sli : Addr} {its0 : Array Value} {nn : Nat} {vl : Value} {a : Nat} {Q : Unit → Shared → Prop}
    (en : s.heap.get? l = some { cls := .type "list", data := .seq its0 nn }) (ks : s.heap.IsSliceOf sli vl .none .none) (plp : IsPart vl (some (a : Int))) (ha : a ≤ its0.size)
    (hsz : its0.size ≤ sizeLine) (h : ∀ f : Array Value → Array Value, f its0 = (its0.toList.take a).toArray → Q () { s with heap := s.heap.update l (Obj.mapSeq f) }) :
    wpAny (model pg w) Ar (delItem (.ref l) (.ref sli)) Q Er s := by
  have kl : s.heap.IsList l its0 := PySem.IsL.isList en
  obtain ⟨ot, kot, kcs, kds⟩ := id ks
  have kTs : s.TypeIs (.ref sli) "slice" := ⟨ot, kot, kcs⟩
  have kstep : ¬ ((rawPart none == rawInt 0) = true) := Bool.false_ne_true
  refine wpAny_delItem_slot kl.typeIs (by decide) PySem.F.slot_list_delitem ?_
  refine wpAny_call_entry PySem.F.slot_list_delitem kl.typeIs PySem.F.entry_list_delitem ?_ (PySem.F.args_list_delitem_2 _ _)
  show wpAny _ _ (Builtin.List.listSubscript? (.ref sli) >>= _) _ _ s
  refine wpAny_bind ?_
  delta Builtin.List.listSubscript?
  refine wpAny_bind (wpAny_specialOf kTs slice_no_index ?_)
  rw [Option.isNone_none, if_pos rfl]
  refine wpAny_pure ?_
  show wpAny _ _ (typeOf (.ref sli) >>= _) _ _ s
  refine wpAny_bind (wpAny_typeOf kTs ?_)
  first
    | rw [if_neg (by decide)]
    | exact PySem.W.KFB.if_not (by decide) (by skip; rfl)
  rw [listSliceParts_eq]
  refine wpAny_bind (wpAny_bind (wpAny_field kot kds (x := .none) rfl (wpAny_bind (wpAny_listPart .none ?_))))
  rw [if_neg kstep]
  refine wpAny_bind (wpAny_field kot kds (x := vl) rfl (wpAny_bind (wpAny_listPart plp ?_)))
  refine wpAny_bind (wpAny_field kot kds (x := .none) rfl (wpAny_bind (wpAny_listPart .none (wpAny_pure ?_))))
  refine wpAny_bind ?_
  unfold Builtin.List.listItems
  refine wpAny_bind (wpAny_seqItems en rfl (wpAny_pure ?_))
  refine wpAny_bind (wpAny_of_eq ((sliceIndices_raw (some (a : Int)) none none its0.size (by simp)).trans (congrArg (pure : Int × Int × Int → Sem (Int × Int × Int)) (bounds_tail ha))) ?_)
  apply wpAny_bind; apply wpAny_rule
  have go : ∀ (f : Value × Nat → Option Value) (gon : List Value), (∀ x k, f (x, k) = if a ≤ k ∧ k < its0.size then none else some x) →
      wpAny (model pg w) Ar.in1 (do Builtin.List.listUpdate (.ref l) fun xs => (List.filterMap f xs.toList.zipIdx).toArray; letGo gon; PySem.ret Value.none) (fun fin s' => ∃ v, fin = Fin.done (Flow.ret v) ∧ Q () s') Er s := by
    intro f gon kf
    have hfi : (List.filterMap f its0.toList.zipIdx).toArray = (its0.toList.take a).toArray := by
      rw [zipIdx_take a its0.size f kf its0.toList 0 (by simp)]
      rfl
    have hz' : ((fun xs : Array Value => (List.filterMap f xs.toList.zipIdx).toArray) its0).size ≤ sizeLine + 1 := by
      show (List.filterMap f its0.toList.zipIdx).toArray.size ≤ _
      rw [hfi, List.size_toArray, List.length_take]
      have : its0.toList.length = its0.size := by simp
      omega
    refine wpAny_bind (m := Builtin.List.listUpdate (.ref l) _) ?_
    unfold Builtin.List.listUpdate
    refine wpAny_updateSeq (hz := hsz) (_hz' := hz') en rfl ?_
    apply wpAny_bind; apply wpAny_letGo
    exact wpAny_pure ⟨.none, rfl, h _ hfi⟩
  refine go _ _ fun x k => ?_
  show (if (if (1 : Int) > 0 then (decide ((a : Int) ≤ (k : Int)) && decide ((k : Int) < (its0.size : Int)) && (((k : Int) - (a : Int)) % 1 == 0)) else (decide ((its0.size : Int) < (k : Int)) && decide ((k : Int) ≤ (a : Int)) && (((a : Int) - (k : Int)) % (-1) == 0))) = true then none else some x) = _
  rw [if_pos (by decide : (1 : Int) > 0)]
  by_cases c : a ≤ k ∧ k < its0.size
  · rw [if_pos c, if_pos]
    simp only [Bool.and_eq_true, decide_eq_true_eq, beq_iff_eq]
    omega
  · rw [if_neg c, if_neg]
    simp only [Bool.and_eq_true, decide_eq_true_eq, beq_iff_eq]
    omega
end
section
variable {T : Tbs} {X : Cx} {o a : Expr} {to ta : TE} {pos tpos p2 : Pos} {fx : List Nat} {t t2 : TD}
/-- del xs[a:] -/
def tDelT (to ta : TE) : TS := fun Dd σ H => to σ H fun x H1 => ta σ H1 fun y H2 => ∃ (l : Addr) (xs : List V) (i : Int), x = .ref l ∧ y = .int i ∧ H2 l = some (.lst xs) ∧ 0 ≤ i ∧ i ≤ xs.length ∧ Dd.nx σ (upd H2 l (.lst (xs.take i.toNat)))
theorem ps_delT (ho : PE X o to) (ha : PE X a ta) : PS X (.Delete [.Subscript o (.Slice (some a) none none p2) tpos] pos) (tDelT to ta) := by
  refine ⟨fun pins s σ H Dd J1 h => ?_⟩
  refine wpAny_Delete (wpAny_deleteEach_cons (wpAny_delete_Subscript (thn (ho.run pins s σ H _ J1 h) fun u s1 ⟨x, H1, J2, rxx, q1⟩ => ?_)))
  refine wpAny_Slice ?_
  rw [evalPart_some]
  refine thn (ha.run pins s1 σ H1 _ J2 q1) fun iv s2 ⟨y, H2, J3, ry, q2⟩ => ?_
  rw [evalPart_none]
  refine wpAny_pure ?_
  refine wpAny_pure ?_
  obtain ⟨l, xs, i, ex, ey, kH, h1, h2, q2⟩ := q2
  subst ex
  subst ey
  cases (show u = Value.ref l from rxx)
  obtain ⟨t, rfl⟩ := (show ∃ t, iv = Value.int i t from ry)
  have J4 : Inv X pins σ H2 { s2 with heap := s2.heap.push { cls := .type "slice", data := .fields #[.int i t, .none, .none] } } := J3.kept (t' := s2.toks) fun b ob q => Heap.get?_push_of_some _ q
  obtain ⟨z, its, nn, r, kl, en⟩ := J4.lstM kH
  have ei : i = ((i.toNat : Nat) : Int) := by omega
  refine delItem_tail (a := i.toNat) en (Heap.IsSliceOf.new ..) (by rw [← ei]; exact .int i t) (by rw [List.size_toArray]; omega) (by rw [List.size_toArray]; omega) fun f kf => ?_
  refine wpAny_deleteEach_nil ⟨σ, _, J4.lset (its' := its.take i.toNat) (t' := s2.toks) kH en ?_ (r.take _) ?_, q2⟩
  · exact kf
  · rw [List.length_take]; omega
def tdDelT (to ta : TD) : TDS := fun Er Γ => to Γ fun r Γ1 => ta Γ1 fun r' Γ2 => ∃ xs i, r.1 = .m xs ∧ r'.1 = .d (.int i) ∧ 0 ≤ i ∧ i ≤ xs.length ∧ Er.nx (back [r] [.m (xs.take i.toNat)] Γ2)
theorem ds_delT (ho : DE T X o t) (ha : DE T X a t2) : DS T X fx (.Delete [.Subscript o (.Slice (some a) none none p2) tpos] pos) (tdDelT t t2) := by
  obtain ⟨t1, h1, h2⟩ := ho
  obtain ⟨t2, h3, h4⟩ := ha
  refine ⟨_, ps_delT h1 h3, fun ρ σ H Γ ex Er Dd h p c => ?_⟩
  refine h2 σ H Γ ex _ _ h.he p fun v H1 r Γ1 he og p1 => ?_
  refine h4 σ H1 Γ1 _ _ _ he p1 fun w H2 r' Γ2 he2 og2 p2 => ?_
  obtain ⟨xs, i, e1, e2, b1, b2, p2⟩ := p2
  obtain ⟨s, oo⟩ := r
  obtain ⟨s', oo'⟩ := r'
  cases e1
  cases e2
  have d2 := he2.hs.front.get_d
  cases d2
  obtain ⟨l, ws, rfl, hh, dd, _⟩ := he2.dropx.hs.front.get_m
  refine ⟨l, ws, i, rfl, rfl, hh, b1, by rw [dd.length]; exact b2, c.nx _ _ _ ⟨?_, h.fix⟩ p2⟩
  have h8 : HE (X.K, T) (upd H2 l (.lst (ws.take i.toNat))) σ Γ2 ((some (.ref l), .m (xs.take i.toNat)) :: ex) := ⟨he2.len, (he2.dropx.hs.front.write (v := .ref l) (dd.take _)).mid⟩
  exact HE.back (rs := [(.m xs, oo)]) (vs := [.ref l]) rfl (.cons og .nil) h8
end
end DL

namespace DL
open PySem PySem.Spec PyProof.Rows L2 RZ
open AutoSeq1 (idx_int wpAny_loadPart')
/-! ## xs.extend(t), t a tuple -/
theorem list_extend_tup (la : Addr) (items : Array Value) (n : Nat) (b : Addr) (items2 : Array Value) (n2 : Nat) (dct : Option Addr) (sl : Array (Option Value)) (hs0 : ¬(!items.isEmpty && Builtin.List.listTooLong (items.size + items2.size)) = true) (hs1 : items.size ≤ sizeLine) (hs2 : items.size + items2.size ≤ sizeLine + 1) :
    Meets (Builtin.«list.extend» ⟨[.ref la, .ref b], []⟩) (fun _ Rr sh => sh.heap.get? la = some { cls := .type "list", dict := none, data := .seq items n, slots := #[] } ∧ sh.heap.get? b = some { cls := .type "tuple", dict := dct, data := .seq items2 n2, slots := sl } ∧ Rr (.ok (.ret Value.none)) { sh with heap := sh.heap.update la (Obj.mapSeq fun xv => xv ++ items2), toks := sh.toks }) :=
  .of_wp fun pg w Ar Rr sh h => by
    obtain ⟨hp, g, dd1, tq, oz⟩ := sh; obtain ⟨kl, kb, h⟩ := h; have f1 := idx_int; have f2 := AutoSeq1.sub_tuple_tuple; have f3 := AutoSeq1.sub_list_list; have f4 := AutoSeq1.sub_tuple_list; have f5 := AutoSeq1.sub_list_tuple;
    have kz' : (items ++ items2).size ≤ sizeLine + 1 := by rw [Array.size_append]; exact hs2
    wp_walk using (wpAny_updateSeq kl rfl (hz := hs1) (_hz' := kz')), wpAny_loadPart' kl, wpAny_loadPart' kb; exact ⟨_, rfl, h⟩
def rExtendT (K : PySem.W.Frag) : V → List V → Hp → VK → Prop := fun xv vs H Q => ∃ la b xs zs, xv = .ref la ∧ vs = [.ref b] ∧ H la = some (.lst xs) ∧ SqT K H b zs ∧ xs.length + zs.length ≤ sizeLine ∧ Q .non (upd H la (.lst (xs ++ zs)))
theorem mt_extendT {X : Cx} : MtM X "list.extend" (rExtendT X.K) := by
  intro pins sh σ H xv vs v us Q J1 rx rw1 h
  obtain ⟨la, b, xs, zs, rfl, rfl, kH, kB, kz, qq⟩ := h
  cases rx
  obtain ⟨u, rfl, ru1⟩ := rw1.one
  cases ru1
  obtain ⟨zz, us1, n, rr1, kl, en⟩ := J1.lstM kH
  obtain ⟨us2, r2, ⟨obb, e2, hc2, n2, hd2⟩, z2⟩ := J1.tuple kB
  have hl2 := r2.length
  have ksz : us1.toArray.size + us2.toArray.size ≤ sizeLine := by rw [List.size_toArray, List.size_toArray]; omega
  have klong : ¬ (!us1.toArray.isEmpty && Builtin.List.listTooLong (us1.toArray.size + us2.toArray.size)) = true := by
    rw [notLongL ksz, Bool.and_false]
    exact Bool.false_ne_true
  obtain ⟨c2, d2, dt2, sl2⟩ := obb
  cases (show c2 = _ from hc2)
  cases (show dt2 = _ from hd2)
  refine call_meets F.slot_list_extend ⟨_, en, rfl⟩ F.entry_list_extend (F.args_list_extend_2 _ _)
    (list_extend_tup la us1.toArray n b us2.toArray n2 d2 sl2 klong (by rw [List.size_toArray]; omega) (by omega)) ⟨en, e2, ?_⟩
  refine ⟨.non, _, J1.lset (its' := us1 ++ us2) kH en (by simp) (rr1.append r2) ?_, rfl, qq⟩
  rw [List.length_append]
  omega
/-- a list or a tuple behind -/
def cExtA : CT := fun ss P => match ss with
  | [.m xs, a] => ∃ ys, seqS a = some ys ∧ xs.length + ys.length ≤ sizeLine ∧ P (.d .none) [.m (xs ++ ys), a]
  | _ => False
def rExtA (K : PySem.W.Frag) : V → List V → Hp → VK → Prop := fun xv vs H Q => rExtend xv vs H Q ∨ rExtendT K xv vs H Q
theorem mt_extA {X : Cx} : MtM X "list.extend" (rExtA X.K) := by
  intro pins sh σ H xv vs v us Q J1 rx rw1 h
  rcases h with h | h
  · exact mt_extend pins sh σ H xv vs v us Q J1 rx rw1 h
  · exact mt_extendT pins sh σ H xv vs v us Q J1 rx rw1 h
theorem snd_extA {K : KF} : SndM K (rExtA K.1) cExtA := by
  intro xv vs H sh ss ex P Q kl h kc qq
  unfold cExtA at kc
  split at kc
  · rename_i xs a en
    cases en
    obtain ⟨v, rfl⟩ := one_slot kl
    obtain ⟨ys, ey, kz, pp⟩ := kc
    have h1 : Hs K H ((some xv, .m xs) :: (some v, a) :: ex) := h
    obtain ⟨b, zs, rfl, hh2, d2⟩ := h1.seq (List.mem_cons_of_mem _ List.mem_cons_self) ey
    obtain ⟨la, ws, rfl, hh, dd1, _⟩ := h1.get_m
    have fin := qq _ _ _ _ _ pp rfl ((h1.write (v := .ref la) (dd1.append d2)).cons_d .non)
    rcases hh2 with hh2 | hh2
    · exact .inl ⟨la, b, ws, zs, rfl, rfl, hh, hh2, by rw [dd1.length, d2.length]; exact kz, fin⟩
    · exact .inr ⟨la, b, ws, zs, rfl, rfl, hh, hh2, by rw [dd1.length, d2.length]; exact kz, fin⟩
  · exact kc.elim
section
variable {T : Tbs} {X : Cx} {en o : Expr} {es : List Expr} {u : TDA} {t to : TD} {pos apos pp tpos : Pos}
theorem de_extA (ko : DE T X o to) (ha : DA T X (en :: es) u) (hbase : attributeBase o "extend" X.env (eval o X.env) = eval o X.env := by rfl)
    (hfew : ((backTo pos (starEach (en :: es) X.env)).all (fun xv => !xv.1) && (backToKw pos (keywordEach [] X.env)).all (fun xv => xv.1.isSome) && decide ((en :: es).length + ([] : List Keyword).length + (if ([] : List Keyword).isEmpty then 0 else 1) < 30)) = true := by rfl)
    (hline : (apos.endLine == pos.line) = true := by rfl) (ks : starEach (en :: es) X.env = (false, eval en X.env) :: starEach es X.env := by rfl) (hplain : (backTo pos (starEach es X.env)).any (·.1) = false := by rfl) :
    DE T X (.Call (.Attribute o "extend" apos) (en :: es) [] pos) (tMp to u cExtA) :=
  de_meth (fun to ta h1 h2 => ⟨_, pe_bm PySem.F.plainAttrs_list PySem.F.slot_list_extend PySem.F.type_list_extend mt_extA h1 h2 hbase hfew hline ks hplain, fun σ H Q zz => zz⟩) snd_extA ko ha

/-! ## enumerate(t), t a tuple or a list -/
def IteT (K : PySem.W.Frag) (a : Addr) : It :=
  ⟨fun ix H => ∃ (xs : List V) (xv : V), SqT K H a xs ∧ xs[ix]? = some xv, fun ix H v H' => ∃ T xv, v = .ref T ∧ H T = none ∧ H' = upd H T (.tup [.int (ix : Nat), xv]) ∧ ∀ xs, SqT K H a xs → xs[ix]? = some xv, fun ix H => ∃ xs : List V, SqT K H a xs ∧ xs.length ≤ ix⟩
end
theorem meets_enumerate_newT (la : Addr) (items : Array Value) (n : Nat) (dct : Option Addr) (sl : Array (Option Value)) :
    Meets (Builtin.«enumerate.__new__» ⟨[.type "enumerate", .ref la], []⟩) (fun _ Rr sh => sh.heap.get? la = some { cls := .type "tuple", dict := dct, data := .seq items n, slots := sl } ∧
      Rr (.ok (.ret (.ref (sh.heap.push { cls := .type "tuple_iterator", data := .fields #[.ref la, .int 0 0] }).objs.size)))
        { sh with heap := (sh.heap.push { cls := .type "tuple_iterator", data := .fields #[.ref la, .int 0 0] }).push { cls := .type "enumerate", data := .fields #[.none, .bool false, .ref sh.heap.objs.size, rawInt 0, .none, .none] } }) :=
  .of_wp fun pg w Ar Rr sh h => by
    obtain ⟨hp, g, dd1, tq, oz⟩ := sh; obtain ⟨kl, h⟩ := h
    have hsub := sub_enumerate
    have hL : Heap.IsTuple (Shared.heap ⟨hp, g, dd1, tq, oz⟩) la items := ⟨_, kl, rfl, n, rfl⟩
    wp_walk using wpAny_loadPart' kl
    refine wpAny_stack_any fun sa => wpAny_pure ?_
    split
    · rename_i c _ _ _ _ _
      cases hcls : (c == Value.type "enumerate")
      · wp_walk using wpAny_loadPart' kl, wpAny_pyIter_tuple hL
        exact ⟨_, rfl, h⟩
      · wp_walk using wpAny_loadPart' kl, wpAny_pyIter_tuple hL
        exact ⟨_, rfl, h⟩
    · wp_walk using wpAny_loadPart' kl, wpAny_pyIter_tuple hL
      exact ⟨_, rfl, h⟩
section
variable {pg : Program} {w : World} {Ar : Around} {Er : Value → Shared → Prop} {sh : Shared}
theorem call_enumerate_tup {la : Addr} {items : Array Value} {Q : Value → Shared → Prop} (hL : sh.heap.IsTuple la items)
    (h : ∀ h', IsEnum h' (sh.heap.objs.size + 1) sh.heap.objs.size 0 .none → h'.IsTupleIter sh.heap.objs.size la 0 → h'.objs.size = sh.heap.objs.size + 2 →
      (∀ b o, sh.heap.get? b = some o → h'.get? b = some o) → Q (.ref (sh.heap.objs.size + 1)) { sh with heap := h' }) :
    wpAny (model pg w) Ar (call (.type "enumerate") [.ref la]) Q Er sh := by
  obtain ⟨⟨c, dct, dt, sl⟩, kl, kc, n, kd⟩ := hL
  replace kc : c = .type "tuple" := kc
  replace kd : dt = .seq items n := kd
  subst kc kd
  have made := F.newCall_enumerate_1 (.ref la)
  refine callType_new F.called_enumerate (by decide) (F.typeCall_enumerate_1 (.ref la)) made (fun ob => F.args_object_init_2 ob (.ref la)) F.entry_enumerate_new
    (meets_enumerate_newT la items n dct sl) ⟨kl, ?_⟩
  have kz : (sh.heap.push { cls := .type "tuple_iterator", data := .fields #[.ref la, .int 0 0] }).objs.size = sh.heap.objs.size + 1 := Heap.size_push ..
  show _ ∧ _
  rw [kz]
  have ke : IsEnum ((sh.heap.push { cls := .type "tuple_iterator", data := .fields #[.ref la, .int 0 0] }).push
      { cls := .type "enumerate", data := .fields #[.none, .bool false, .ref sh.heap.objs.size, rawInt 0, .none, .none] }) (sh.heap.objs.size + 1) sh.heap.objs.size 0 .none := by
    have := Heap.get?_push_size (sh.heap.push { cls := .type "tuple_iterator", data := .fields #[.ref la, .int 0 0] })
      (o := { cls := .type "enumerate", data := .fields #[.none, .bool false, .ref sh.heap.objs.size, rawInt 0, .none, .none] }) rfl
    rw [kz] at this; exact this
  refine ⟨⟨_, ke, rfl⟩, h _ ke ⟨_, Heap.get?_push_of_some _ (Heap.get?_push_size _ rfl), rfl, rfl⟩ (by rw [Heap.size_push, kz]) fun b o xv => Heap.get?_push_of_some _ (Heap.get?_push_of_some _ xv)⟩
end
theorem in1_hd {Ar : Around} (h : Ar.handled = none) : Ar.in1.handled = none := h
theorem turn_enumT {P : Program} {w : World} {K : PySem.W.Frag} {elts : List Expr} {kk : Nat} {tpos : Pos} (a en it : Addr) :
    Turn P w K (.Tuple elts kk tpos) (IteT K a) [en, it] en (fun ix h => (∃ od, IsEnum h en it ((ix : Nat) : Int) od) ∧ h.IsTupleIter it a ix ∧ en ≠ it ∧ en ≠ a ∧ a ≠ it) where
  mem := by simp
  obj := fun ix h sa b kb => by
    obtain ⟨⟨od, ke⟩, ⟨o, ko, kc, kd⟩, _⟩ := sa
    have f' : b = en ∨ b = it := by simpa using kb
    rcases f' with zz | zz
    · rw [zz]; exact ⟨_, ke, fun v qq => nomatch qq⟩
    · rw [zz]; exact ⟨o, ko, fun v qq => by rw [kd] at qq; cases qq⟩
  keep := fun ix h h' sa k => let ⟨⟨od, ke⟩, hi, kne⟩ := sa; ⟨⟨od, k en (by simp) _ ke⟩, hi.at fun o qq => k it (by simp) o qq, kne⟩
  item := by
    intro X kP kw kK kc ix pins sh σ H Er J1 kf sa kg
    subst kP kw kK
    obtain ⟨⟨od, ke⟩, kit, kne, kea, kai⟩ := sa
    obtain ⟨xs, xv, kq, kx⟩ := kg
    obtain ⟨us1, rw1, pp, kz⟩ := J1.tuple kq
    obtain ⟨u, ku, ru1⟩ := rw1.get kx
    have kel : en < sh.heap.objs.size := Heap.lt_size ke
    have kil : it < sh.heap.objs.size := by obtain ⟨_, qq, _⟩ := kit; exact Heap.lt_size qq
    have ku' : us1.toArray[ix]? = some u := by simpa using ku
    have hlt : ix < us1.toArray.size := (Array.getElem?_eq_some_iff.mp ku').1
    have hef : en ∉ [it, a] := by
      intro zz
      rcases List.mem_cons.mp zz with zz | zz
      · exact kne zz
      · rcases List.mem_cons.mp zz with zz | zz
        · exact kea zz
        · cases zz
    refine wpAny_pyNext_enum_itemD (Draws.tuple (in1_hd (J1.ok.hd kc)) it a kai us1.toArray) ke ⟨kit, (show sh.heap.IsTuple a us1.toArray from pp)⟩ hlt kne hef fun y h' tq hy ko kit' kT ksz kk => ?_
    have ey : y = u := by rw [ku'] at hy; exact (Option.some.inj hy).symm
    subst ey
    refine ⟨_, rfl, wpAny_letOwnedTupleGo_enum (s := { sh with heap := h', toks := tq + 1 }) ko fun h'' ke' sbb => ?_⟩
    have kT2 : h''.get? sh.heap.objs.size = some { cls := .type "tuple", data := .seq #[.int ix tq, y] } := (sbb.2 _ (Nat.ne_of_gt kel)).trans kT
    have new : ObjOk X.prog X.w (upd H sh.heap.objs.size (.tup [.int (ix : Nat), xv])) h'' sh.heap.objs.size (.tup [.int (ix : Nat), xv]) :=
      ⟨by show 2 ≤ sizeLine; decide, [.int ix tq, y], .cons ⟨_, rfl⟩ (.cons ru1 .nil), ⟨_, kT2, rfl, _, rfl⟩⟩
    have J2 : Inv X pins σ (upd H sh.heap.objs.size (.tup [.int (ix : Nat), xv])) { sh with heap := h'', toks := tq + 1 } :=
      J1.turnedNew (ch := [en, it]) (fun b obb kb qq => (sbb.2 b (fun zz => kb (by simp [zz]))).trans (kk b obb (fun zz => kb (by simp [zz])) (fun zz => kb (by simp [zz])) qq)) kf (Nat.le_refl _) new
    refine ⟨.ref sh.heap.objs.size, _, J2, rfl, ⟨_, xv, rfl, J1.hok.fresh (Nat.le_refl _), rfl, fun ys hy => by rw [J1.tuple_inj hy kq]; exact kx⟩, ⟨⟨y, ?_⟩, kit'.1.at fun o qq => (sbb.2 it (Ne.symm kne)).trans qq, kne, kea, kai⟩, fun b kb => ?_⟩
    · have e1 : ((ix + 1 : Nat) : Int) = (ix : Int) + 1 := by omega
      rw [e1]; exact ke'
    · have kb' : b < sh.heap.objs.size := by
        have f' : b = en ∨ b = it := by simpa using kb
        rcases f' with zz | zz
        · rw [zz]; exact kel
        · rw [zz]; exact kil
      rw [upd_ne (Nat.ne_of_lt kb')]
      exact (kf b kb).1
  done := by
    intro X kP kw kK kc ix pins sh σ H Er J1 kf sa kg
    subst kP kw kK
    obtain ⟨⟨od, ke⟩, kit, kne, kea, kai⟩ := sa
    obtain ⟨xs, kq, kx⟩ := kg
    obtain ⟨us1, rw1, pp, kz⟩ := J1.tuple kq
    obtain ⟨g0, f1, f2, f3, f4, f5⟩ := kf it (by simp)
    have kl := rw1.length
    unfold pyNext
    have kT : sh.TypeIs (.ref en) "enumerate" := ⟨_, ke, rfl⟩
    refine wpAny_bind (wpAny_attempt (wpAny_callSpecial?_slot (name := Str.ofString "__next__") kT F.slot_enumerate_next
      (wpAny_call_entry F.slot_enumerate_next kT F.entry_enumerate_next ?_ (F.args_enumerate_next_1 _))))
    show wpAny _ _ (field (.ref en) 2 >>= _) _ _ _
    refine wpAny_bind (wpAny_field ke rfl (x := .ref it) rfl ?_)
    refine wpAny_bind (wpAny_nextOf_tuple_end (in1_hd (J1.ok.hd kc)) kit (show sh.heap.IsTuple a us1.toArray from pp) (by simp; omega) fun h' xv ke' kx' => ?_)
    obtain ⟨o, ko, kcc⟩ := kx'
    refine wpAny_bind (wpAny_isInstance (T := "StopIteration") (b := true) ⟨o, ko, kcc⟩ isSubtype_stop ?_)
    exact wpAny_pure ⟨rfl, J1.turned (t' := sh.toks) (fun b o kb qq => ke' b o kb qq) g0 f1 f3 f4 f5⟩
  self := fun Ar ix sh Q Er sa h => let ⟨⟨_, ke⟩, _⟩ := sa; wpAny_pyIter_enum ke h
def iEnumA (K : PySem.W.Frag) (ta : TA) : TI := fun σ H Rr => ta σ H fun vs H1 => ∃ a xs, vs = [.ref a] ∧ ((SqL K H1 a xs ∧ Rr (Ite K a) H1) ∨ (SqT K H1 a xs ∧ Rr (IteT K a) H1))
section
variable {T : Tbs} {X : Cx} {en o : Expr} {es : List Expr} {u : TDA} {t to : TD} {pos apos pp tpos : Pos}
theorem pi_enumA {elts : List Expr} {kk : Nat} {ta : TA} (kg : Gl X "enumerate") (hm : X.mg "enumerate" = none) (ha : PA X [en] ta) (ks : starEach [en] X.env = [(false, eval en X.env)] := by rfl) :
    PI X (.Tuple elts kk tpos) (.Call (.Name "enumerate" pp) [en] [] pos) (iEnumA X.K ta) := by
  refine ⟨fun pins s σ H R J1 h => ?_⟩
  refine Call_ (ld_blt J1 kg hm boot_enumerate (PyProof.Rows.callWith_type1 (thn (ha.run pos pins s σ H _ J1 h) fun us s1 ⟨vs, H1, J2, r1, q1⟩ => ?_) ks rfl))
  obtain ⟨a, xs, ex, q1⟩ := q1
  subst ex
  cases r1 with
  | cons rr1 rr =>
    cases rr
    cases rr1
    have fresh2 : ∀ b ∈ [s1.heap.objs.size + 1, s1.heap.objs.size], FpOk X pins H1 b := fun b kb => by
      have f' : b = s1.heap.objs.size + 1 ∨ b = s1.heap.objs.size := by simpa using kb
      have kle : s1.heap.objs.size ≤ b := by
        rcases f' with zz | zz
        · rw [zz]; exact Nat.le_add_right _ _
        · rw [zz]; exact Nat.le_refl _
      exact J2.fpOk kle (J2.hok.fresh kle)
    rcases q1 with ⟨kq, qq⟩ | ⟨kq, qq⟩
    · obtain ⟨us1, rw1, pp', kz⟩ := J2.list kq
      refine call_enumerate_list pp'.isList fun h' ke kit ksz kk => wpAny_pyIter_enum ke ?_
      have J3 : Inv X pins σ H1 { s1 with heap := h' } := J2.kept (t' := s1.toks) kk
      exact ⟨s1.heap.objs.size + 1, [s1.heap.objs.size + 1, s1.heap.objs.size], _, _, H1, rfl, J3, turn_enum a (s1.heap.objs.size + 1) s1.heap.objs.size, ⟨⟨.none, ke⟩, kit, Nat.succ_ne_self _⟩, fresh2, qq⟩
    · obtain ⟨us1, rw1, pp', kz⟩ := J2.tuple kq
      have al : a < s1.heap.objs.size := by obtain ⟨o1, ho1, _⟩ := id pp'; exact Heap.lt_size ho1
      refine call_enumerate_tup (show s1.heap.IsTuple a us1.toArray from pp') fun h' ke kit ksz kk => wpAny_pyIter_enum ke ?_
      have J3 : Inv X pins σ H1 { s1 with heap := h' } := J2.kept (t' := s1.toks) kk
      exact ⟨s1.heap.objs.size + 1, [s1.heap.objs.size + 1, s1.heap.objs.size], _, _, H1, rfl, J3, turn_enumT a (s1.heap.objs.size + 1) s1.heap.objs.size, ⟨⟨.none, ke⟩, kit, Nat.succ_ne_self _, Nat.ne_of_gt (Nat.lt_succ_of_lt al), Nat.ne_of_lt al⟩, fresh2, qq⟩
/-- (0, x), (1, y), .. -/
def enumD (k : Nat) : List PyData → List PyData
  | [] => []
  | x :: xs => .tuple [.int (k : Int), x] :: enumD (k + 1) xs
theorem enumD_get : ∀ {xs : List PyData} {k i : Nat} {zz : PyData}, (enumD k xs)[i]? = some zz → ∃ x, xs[i]? = some x ∧ zz = .tuple [.int ((k + i : Nat) : Int), x]
  | [], k, i, zz, h => by simp [enumD] at h
  | x :: xs, k, 0, zz, h => by
    have : zz = .tuple [.int (k : Int), x] := by simpa [enumD] using h.symm
    exact ⟨x, rfl, this⟩
  | x :: xs, k, i + 1, zz, h => by
    obtain ⟨a, h1, h2⟩ := enumD_get (xs := xs) (k := k + 1) (i := i) (zz := zz) (by simpa [enumD] using h)
    refine ⟨a, by simpa using h1, ?_⟩
    have e : k + 1 + i = k + (i + 1) := by omega
    rw [h2, e]
theorem enumD_len : ∀ (k : Nat) (xs : List PyData), (enumD k xs).length = xs.length
  | _, [] => rfl
  | k, x :: xs => by
    show (enumD (k + 1) xs).length + 1 = xs.length + 1
    rw [enumD_len (k + 1) xs]
theorem walk_enumL {K : KF} {a : Addr} {xs : List PyData} : Walks K (Ite K.1 a) [(some (.ref a), .d (.list xs))] (enumD 0 xs) := by
  intro i H rest h
  obtain ⟨vs, h1, h2⟩ := held_list h List.mem_cons_self
  refine ⟨fun zz ez => ?_, fun kl => ⟨vs, SqL.of h1, by rw [enumD_len] at kl; rw [h2.length]; exact kl⟩⟩
  obtain ⟨x, ex, rfl⟩ := enumD_get ez
  obtain ⟨v, e1, d1⟩ := h2.get ex
  refine ⟨⟨vs, v, SqL.of h1, e1⟩, fun x' H' ⟨T, x1, q1, q2, q3, q4⟩ => ?_⟩
  subst q1 q3
  have z1 := q4 vs (SqL.of h1)
  rw [e1] at z1; cases z1
  rw [Nat.zero_add]
  exact pair_new h q2 (.int _) d1
theorem walk_enumT {K : KF} {a : Addr} {xs : List PyData} : Walks K (IteT K.1 a) [(some (.ref a), .d (.tuple xs))] (enumD 0 xs) := by
  intro i H rest h
  obtain ⟨vs, h1, h2⟩ := held_tup h List.mem_cons_self
  refine ⟨fun zz ez => ?_, fun kl => ⟨vs, h1, by rw [enumD_len] at kl; rw [h2.length]; exact kl⟩⟩
  obtain ⟨x, ex, rfl⟩ := enumD_get ez
  obtain ⟨v, e1, d1⟩ := h2.get ex
  refine ⟨⟨vs, v, h1, e1⟩, fun x' H' ⟨T, x1, q1, q2, q3, q4⟩ => ?_⟩
  subst q1 q3
  have z1 := q4 vs h1
  rw [e1] at z1; cases z1
  rw [Nat.zero_add]
  exact pair_new h q2 (.int _) d1
def tdEnum (t : TD) : TDI := fun Γ P => t Γ fun rr1 Γ1 => ∃ xs, seqS rr1.1 = some xs ∧ P (enumD 0 xs) [rr1] Γ1
theorem di_enum {elts : List Expr} {kk : Nat} (kg : Gl X "enumerate") (hm : X.mg "enumerate" = none) (ha : DE T X e t) (hs1 : starEach (e :: []) X.env = (false, eval e X.env) :: starEach [] X.env := by rfl) (ks : starEach [e] X.env = [(false, eval e X.env)] := by rfl) :
    DI T X (.Tuple elts kk tpos) (.Call (.Name "enumerate" pp) [e] [] pos) (tdEnum t) := by
  obtain ⟨te, h1, h2⟩ := ha
  refine ⟨_, pi_enumA kg hm (pa_cons h1 pa_nil hs1) ks, fun σ H Γ ex P Q h pp qq => ?_⟩
  refine h2 σ H Γ ex _ _ h pp fun v H' rr1 Γ' ke og p1 => ?_
  obtain ⟨xs, es, p1⟩ := p1
  obtain ⟨s, o⟩ := rr1
  have fin : ∀ J, Walks (X.K, T) J (tmpS [v] [frz s]) (enumD 0 xs) → Q J H' := fun J w => qq J H' [v] [(s, o)] (enumD 0 xs) Γ' ke (.cons og .nil) w p1
  cases s with
  | m ys =>
    cases es
    obtain ⟨a, vs, rfl, h3, h4, _⟩ := ke.hs.front.get_m
    exact ⟨a, vs, rfl, .inl ⟨SqL.of h3, fin _ walk_enumL⟩⟩
  | d x =>
    cases x with
    | list ys =>
      cases es
      have d := ke.hs.front.get_d
      cases d with
      | lst h3 h4 => exact ⟨_, _, rfl, .inl ⟨SqL.of (hid_sub _ _ h3), fin _ walk_enumL⟩⟩
    | tuple ys =>
      cases es
      have d := ke.hs.front.get_d
      cases d with
      | tup h3 h4 => exact ⟨_, _, rfl, .inr ⟨sqT_sub h3, fin _ walk_enumT⟩⟩
    | _ => cases es
  | _ => cases es
end
end DL

namespace DL
open PySem PySem.Spec PyProof.Rows L2 RZ
/-- the built-ins' names stand for the built-ins -/
structure BI (mg : Str → Option Value) : Prop where
  len : mg "len" = none
  int : mg "int" = none
  abs : mg "abs" = none
  min : mg "min" = none
  max : mg "max" = none
  tuple : mg "tuple" = none
  list : mg "list" = none
  bool : mg "bool" = none
  str : mg "str" = none
  range : mg "range" = none
  enumerate : mg "enumerate" = none
  zip : mg "zip" = none
  reversed : mg "reversed" = none
  isinstance : mg "isinstance" = none
  all : mg "all" = none
  any : mg "any" = none
  sorted : mg "sorted" = none
  set : mg "set" = none
  dict : mg "dict" = none
/-- a constant of the module -/
def ConstAt (K : PySem.W.Frag) (mg : Str → Option Value) (y : Str) (d : PyData) : Prop := ∃ v uv, mg y = some uv ∧ RelV v uv ∧ ∀ H, Dt K H v d
section
variable {T : Tbs} {X : Cx} {a b c e o : Expr} {es : List Expr} {u : TDA} {t ta tb tc : TD} {p pos q : Pos} {fx : List Nat} {y : Str} {d : PyData}
theorem de_const (h : ConstAt X.K X.mg y d) (hg : Gl X y := by rfl) (hdb : (y == ("__debug__" : Str)) = false := by decide) : DE T X (.Name y pos) (tdC d) := by
  obtain ⟨v, uv, h1, h2, h3⟩ := h
  exact de_glob h1 h2 h3 hg hdb
def tdNeg (t : TD) : TD := fun Γ P => t Γ fun r Γ1 => ∃ i, r.1 = .d (.int i) ∧ P (.d (.int (-i)), none) Γ1
theorem de_neg (ha : DE T X a t) : DE T X (.UnaryOp .USub a pos) (tdNeg t) := by
  obtain ⟨te, h1, h2⟩ := ha
  refine ⟨_, pe_un un_neg h1, fun σ H Γ ex P Q h p q => ?_⟩
  refine h2 σ H Γ ex _ _ h p fun v H' r Γ' he og p1 => ?_
  obtain ⟨i, e, p1⟩ := p1
  obtain ⟨s, o⟩ := r
  cases e
  have d := he.hs.front.get_d
  cases d
  exact ⟨i, rfl, q _ _ _ _ (he.dropx.addd (.int _)) Og.none p1⟩
theorem ds_retN : DS T X fx (.Return none pos) (fun E Γ => E.rt (.d .none) Γ) := ⟨_, ps_retN, fun ρ σ H Γ ex E D h p c => c.rt _ _ _ _ _ ⟨h.he.addd .non, h.fix⟩ p⟩
def tdAsg (t : TD) (g : TDG) : TDS := fun E Γ => t Γ fun r Γ1 => ∃ x, r.1 = .d x ∧ g x Γ1 E.nx
theorem ds_asg {st : Stmt} {tg : Expr} {g : TDG} {ws : List Nat} (hp : ∀ te g, PE X e te → PG X tg g → PS X st (tAsg te g)) (he : DE T X e t) (hg : DG T X fx tg ws g) : DS T X fx st (tdAsg t g) := by
  obtain ⟨te, h1, h2⟩ := he
  obtain ⟨gg, h3, h4⟩ := hg
  refine ⟨_, hp _ _ h1 h3, fun ρ σ H Γ ex E D h p c => ?_⟩
  refine h2 σ H Γ ex _ _ h.he p fun v H' r Γ' he og p1 => ?_
  obtain ⟨x, e, p1⟩ := p1
  obtain ⟨s, o⟩ := r
  cases e
  exact h4 ρ x v σ H' Γ' ex _ _ ⟨he, h.fix⟩ p1 fun σ2 H2 Γ2 h2' _ p2 => c.nx _ _ _ h2' p2
/-- a < b < c and its kin, of ints -/
def tdChain (f g : Int → Int → Bool) (ta tb tc : TD) : TD := fun Γ P => ta Γ fun r1 Γ1 => tb Γ1 fun r2 Γ2 => ∃ i j, r1.1 = .d (.int i) ∧ r2.1 = .d (.int j) ∧
  if f i j = true then tc Γ2 fun r3 Γ3 => ∃ k, r3.1 = .d (.int k) ∧ P (.d (.bool (g j k)), none) Γ3 else P (.d (.bool false), none) Γ2
theorem chain_sound {K : KF} {f g : Int → Int → Bool} {t1 t2 t3 : TE} (k2 : Sound K t1 ta) (k4 : Sound K t2 tb) (k6 : Sound K t3 tc) : Sound K (tChain (rI0 fun i j => .bl (f i j)) (rI0 fun i j => .bl (g i j)) t1 t2 t3) (tdChain f g ta tb tc) := by
  intro σ H Γ ex P Q h p q
  refine k2 σ H Γ ex _ _ h p fun v H1 r1 Γ1 he og p1 => ?_
  refine k4 σ H1 Γ1 _ _ _ he p1 fun w H2 r2 Γ2 he2 og2 p2 => ?_
  obtain ⟨i, j, e1, e2, p2⟩ := p2
  obtain ⟨s1, o1⟩ := r1
  obtain ⟨s2, o2⟩ := r2
  cases e1
  cases e2
  have d2 := he2.hs.front.get_d
  have d1 := he2.dropx.hs.front.get_d
  cases d1
  cases d2
  refine ⟨i, j, rfl, rfl, f i j, rfl, ?_⟩
  by_cases cc : f i j = true
  · rw [if_pos cc] at p2 ⊢
    refine k6 σ H2 Γ2 _ _ _ he2.dropx.dropx p2 fun x H3 r3 Γ3 he3 og3 p3 => ?_
    obtain ⟨k, e3, p3⟩ := p3
    obtain ⟨s3, o3⟩ := r3
    cases e3
    have d3 := he3.hs.front.get_d
    cases d3
    exact ⟨j, k, rfl, rfl, q _ _ _ _ (he3.dropx.addd (.bl _)) Og.none p3⟩
  · rw [if_neg cc] at p2 ⊢
    exact q _ _ _ _ (he2.dropx.dropx.addd (.bl _)) Og.none p2
theorem de_chain {op op' : CmpOp} {f g : Int → Int → Bool} (h1 : OpR X (compareOp op) (rI0 fun i j => .bl (f i j))) (h2 : OpR X (compareOp op') (rI0 fun i j => .bl (g i j))) (ha : DE T X a ta) (hb : DE T X b tb) (hc : DE T X c tc)
    (hm : lastMarks [op, op'] [b, c] = false := by with_unfolding_all rfl) : DE T X (.Compare a [op, op'] [b, c] pos) (tdChain f g ta tb tc) := by
  obtain ⟨t1, k1, k2⟩ := ha
  obtain ⟨t2, k3, k4⟩ := hb
  obtain ⟨t3, k5, k6⟩ := hc
  exact ⟨_, pe_chain h1 h2 k1 k3 k5 hm, chain_sound k2 k4 k6⟩
theorem dt_chain {op op' : CmpOp} {f g : Int → Int → Bool} (h1 : OpR X (compareOp op) (rI0 fun i j => .bl (f i j))) (h2 : OpR X (compareOp op') (rI0 fun i j => .bl (g i j))) (ha : DE T X a ta) (hb : DE T X b tb) (hc : DE T X c tc)
    (hm : lastMarks [op, op'] [b, c] = false := by with_unfolding_all rfl) : DT T X (.Compare a [op, op'] [b, c] pos) (tdTest (tdChain f g ta tb tc)) := by
  obtain ⟨t1, k1, k2⟩ := ha
  obtain ⟨t2, k3, k4⟩ := hb
  obtain ⟨t3, k5, k6⟩ := hc
  exact ⟨_, pt_chain h1 h2 k1 k3 k5 hm, (chain_sound k2 k4 k6).test⟩
theorem dt_chainEL (ha : DE T X a ta) (hb : DE T X b tb) (hc : DE T X c tc) (hm : lastMarks [.LtE, .Lt] [b, c] = false := by with_unfolding_all rfl) : DT T X (.Compare a [.LtE, .Lt] [b, c] pos) (tdTest (tdChain (fun i j => decide (i ≤ j)) (fun i j => decide (i < j)) ta tb tc)) := dt_chain op_le op_lt ha hb hc hm
theorem dt_chainEE (ha : DE T X a ta) (hb : DE T X b tb) (hc : DE T X c tc) (hm : lastMarks [.LtE, .LtE] [b, c] = false := by with_unfolding_all rfl) : DT T X (.Compare a [.LtE, .LtE] [b, c] pos) (tdTest (tdChain (fun i j => decide (i ≤ j)) (fun i j => decide (i ≤ j)) ta tb tc)) := dt_chain op_le op_le ha hb hc hm
theorem dt_chainLL (ha : DE T X a ta) (hb : DE T X b tb) (hc : DE T X c tc) (hm : lastMarks [.Lt, .Lt] [b, c] = false := by with_unfolding_all rfl) : DT T X (.Compare a [.Lt, .Lt] [b, c] pos) (tdTest (tdChain (fun i j => decide (i < j)) (fun i j => decide (i < j)) ta tb tc)) := dt_chain op_lt op_lt ha hb hc hm
theorem de_chainEL (ha : DE T X a ta) (hb : DE T X b tb) (hc : DE T X c tc) (hm : lastMarks [.LtE, .Lt] [b, c] = false := by with_unfolding_all rfl) : DE T X (.Compare a [.LtE, .Lt] [b, c] pos) (tdChain (fun i j => decide (i ≤ j)) (fun i j => decide (i < j)) ta tb tc) := de_chain op_le op_lt ha hb hc hm
theorem de_chainEE (ha : DE T X a ta) (hb : DE T X b tb) (hc : DE T X c tc) (hm : lastMarks [.LtE, .LtE] [b, c] = false := by with_unfolding_all rfl) : DE T X (.Compare a [.LtE, .LtE] [b, c] pos) (tdChain (fun i j => decide (i ≤ j)) (fun i j => decide (i ≤ j)) ta tb tc) := de_chain op_le op_le ha hb hc hm
theorem de_chainLL (ha : DE T X a ta) (hb : DE T X b tb) (hc : DE T X c tc) (hm : lastMarks [.Lt, .Lt] [b, c] = false := by with_unfolding_all rfl) : DE T X (.Compare a [.Lt, .Lt] [b, c] pos) (tdChain (fun i j => decide (i < j)) (fun i j => decide (i < j)) ta tb tc) := de_chain op_lt op_lt ha hb hc hm
/-- isinstance against the written classes -/
def ansOf (Ty : String) : String → Option Bool := fun S =>
  if S = "NoneType" ∨ S = "bool" ∨ S = "int" ∨ S = "str" ∨ S = "list" ∨ S = "tuple" then some (S == Ty || (S == "bool" && Ty == "int")) else none
def ansOf2 (Ty Ty' : String) : String → Option Bool := fun S =>
  if S = "NoneType" ∨ S = "bool" ∨ S = "int" ∨ S = "str" ∨ S = "list" ∨ S = "tuple" then some (S == Ty || S == Ty' || (S == "bool" && (Ty == "int" || Ty' == "int"))) else none
theorem ans_one {K : PySem.W.Frag} {Ty : String} (h : ∀ S ∈ ["NoneType", "bool", "int", "str", "list", "tuple"], PySem.W.kitOne K (.type S) (.type Ty) = ansOf Ty S) : ∀ S b, ansOf Ty S = some b → PySem.W.kitOne K (.type S) (.type Ty) = some b := fun S b e => by
  have hm : S ∈ ["NoneType", "bool", "int", "str", "list", "tuple"] := by
    unfold ansOf at e
    split at e
    · rename_i z
      rcases z with z | z | z | z | z | z <;> (subst z; decide)
    · cases e
  rw [h S hm]; exact e
theorem ans_two {K : PySem.W.Frag} {Ty Ty' : String} (h : ∀ S ∈ ["NoneType", "bool", "int", "str", "list", "tuple"], PySem.W.kitAny K (.type S) [.type Ty, .type Ty'] = ansOf2 Ty Ty' S) : ∀ S b, ansOf2 Ty Ty' S = some b → PySem.W.kitAny K (.type S) [.type Ty, .type Ty'] = some b := fun S b e => by
  have hm : S ∈ ["NoneType", "bool", "int", "str", "list", "tuple"] := by
    unfold ansOf2 at e
    split at e
    · rename_i z
      rcases z with z | z | z | z | z | z <;> (subst z; decide)
    · cases e
  rw [h S hm]; exact e
theorem kits_int {K : PySem.W.Frag} : ∀ S ∈ ["NoneType", "bool", "int", "str", "list", "tuple"], PySem.W.kitOne K (.type S) (.type "int") = ansOf "int" S := fun S hm => by
  simp only [List.mem_cons, List.mem_nil_iff, or_false] at hm
  rcases hm with z | z | z | z | z | z <;> subst z
  · rw [show ansOf "int" "NoneType" = some false by decide +kernel]; exact kit_ty (by decide +kernel)
  · rw [show ansOf "int" "bool" = some true by decide +kernel]; exact kit_ty (by decide +kernel)
  · rw [show ansOf "int" "int" = some true by decide +kernel]; exact kit_ty (by decide +kernel)
  · rw [show ansOf "int" "str" = some false by decide +kernel]; exact kit_ty (by decide +kernel)
  · rw [show ansOf "int" "list" = some false by decide +kernel]; exact kit_ty (by decide +kernel)
  · rw [show ansOf "int" "tuple" = some false by decide +kernel]; exact kit_ty (by decide +kernel)
theorem kits_bool {K : PySem.W.Frag} : ∀ S ∈ ["NoneType", "bool", "int", "str", "list", "tuple"], PySem.W.kitOne K (.type S) (.type "bool") = ansOf "bool" S := fun S hm => by
  simp only [List.mem_cons, List.mem_nil_iff, or_false] at hm
  rcases hm with z | z | z | z | z | z <;> subst z
  · rw [show ansOf "bool" "NoneType" = some false by decide +kernel]; exact kit_ty (by decide +kernel)
  · rw [show ansOf "bool" "bool" = some true by decide +kernel]; exact kit_ty (by decide +kernel)
  · rw [show ansOf "bool" "int" = some false by decide +kernel]; exact kit_ty (by decide +kernel)
  · rw [show ansOf "bool" "str" = some false by decide +kernel]; exact kit_ty (by decide +kernel)
  · rw [show ansOf "bool" "list" = some false by decide +kernel]; exact kit_ty (by decide +kernel)
  · rw [show ansOf "bool" "tuple" = some false by decide +kernel]; exact kit_ty (by decide +kernel)
theorem kits_tuple {K : PySem.W.Frag} : ∀ S ∈ ["NoneType", "bool", "int", "str", "list", "tuple"], PySem.W.kitOne K (.type S) (.type "tuple") = ansOf "tuple" S := fun S hm => by
  simp only [List.mem_cons, List.mem_nil_iff, or_false] at hm
  rcases hm with z | z | z | z | z | z <;> subst z
  · rw [show ansOf "tuple" "NoneType" = some false by decide +kernel]; exact kit_ty (by decide +kernel)
  · rw [show ansOf "tuple" "bool" = some false by decide +kernel]; exact kit_ty (by decide +kernel)
  · rw [show ansOf "tuple" "int" = some false by decide +kernel]; exact kit_ty (by decide +kernel)
  · rw [show ansOf "tuple" "str" = some false by decide +kernel]; exact kit_ty (by decide +kernel)
  · rw [show ansOf "tuple" "list" = some false by decide +kernel]; exact kit_ty (by decide +kernel)
  · rw [show ansOf "tuple" "tuple" = some true by decide +kernel]; exact kit_ty (by decide +kernel)
theorem kits_list {K : PySem.W.Frag} : ∀ S ∈ ["NoneType", "bool", "int", "str", "list", "tuple"], PySem.W.kitOne K (.type S) (.type "list") = ansOf "list" S := fun S hm => by
  simp only [List.mem_cons, List.mem_nil_iff, or_false] at hm
  rcases hm with z | z | z | z | z | z <;> subst z
  · rw [show ansOf "list" "NoneType" = some false by decide +kernel]; exact kit_ty (by decide +kernel)
  · rw [show ansOf "list" "bool" = some false by decide +kernel]; exact kit_ty (by decide +kernel)
  · rw [show ansOf "list" "int" = some false by decide +kernel]; exact kit_ty (by decide +kernel)
  · rw [show ansOf "list" "str" = some false by decide +kernel]; exact kit_ty (by decide +kernel)
  · rw [show ansOf "list" "list" = some true by decide +kernel]; exact kit_ty (by decide +kernel)
  · rw [show ansOf "list" "tuple" = some false by decide +kernel]; exact kit_ty (by decide +kernel)
theorem kits_str {K : PySem.W.Frag} : ∀ S ∈ ["NoneType", "bool", "int", "str", "list", "tuple"], PySem.W.kitOne K (.type S) (.type "str") = ansOf "str" S := fun S hm => by
  simp only [List.mem_cons, List.mem_nil_iff, or_false] at hm
  rcases hm with z | z | z | z | z | z <;> subst z
  · rw [show ansOf "str" "NoneType" = some false by decide +kernel]; exact kit_ty (by decide +kernel)
  · rw [show ansOf "str" "bool" = some false by decide +kernel]; exact kit_ty (by decide +kernel)
  · rw [show ansOf "str" "int" = some false by decide +kernel]; exact kit_ty (by decide +kernel)
  · rw [show ansOf "str" "str" = some true by decide +kernel]; exact kit_ty (by decide +kernel)
  · rw [show ansOf "str" "list" = some false by decide +kernel]; exact kit_ty (by decide +kernel)
  · rw [show ansOf "str" "tuple" = some false by decide +kernel]; exact kit_ty (by decide +kernel)
theorem kits_list_tuple {K : PySem.W.Frag} : ∀ S ∈ ["NoneType", "bool", "int", "str", "list", "tuple"], PySem.W.kitAny K (.type S) [.type "list", .type "tuple"] = ansOf2 "list" "tuple" S := fun S hm => by
  simp only [List.mem_cons, List.mem_nil_iff, or_false] at hm
  rcases hm with z | z | z | z | z | z <;> subst z
  · rw [show ansOf2 "list" "tuple" "NoneType" = some false by decide +kernel]; unfold PySem.W.kitAny; rw [kit_ty (r := false) (by decide +kernel)]; unfold PySem.W.kitAny; rw [kit_ty (r := false) (by decide +kernel)]; rfl
  · rw [show ansOf2 "list" "tuple" "bool" = some false by decide +kernel]; unfold PySem.W.kitAny; rw [kit_ty (r := false) (by decide +kernel)]; unfold PySem.W.kitAny; rw [kit_ty (r := false) (by decide +kernel)]; rfl
  · rw [show ansOf2 "list" "tuple" "int" = some false by decide +kernel]; unfold PySem.W.kitAny; rw [kit_ty (r := false) (by decide +kernel)]; unfold PySem.W.kitAny; rw [kit_ty (r := false) (by decide +kernel)]; rfl
  · rw [show ansOf2 "list" "tuple" "str" = some false by decide +kernel]; unfold PySem.W.kitAny; rw [kit_ty (r := false) (by decide +kernel)]; unfold PySem.W.kitAny; rw [kit_ty (r := false) (by decide +kernel)]; rfl
  · rw [show ansOf2 "list" "tuple" "list" = some true by decide +kernel]; unfold PySem.W.kitAny; rw [kit_ty (r := true) (by decide +kernel)]
  · rw [show ansOf2 "list" "tuple" "tuple" = some true by decide +kernel]; unfold PySem.W.kitAny; rw [kit_ty (r := false) (by decide +kernel)]; unfold PySem.W.kitAny; rw [kit_ty (r := true) (by decide +kernel)]
theorem kits_bool_str {K : PySem.W.Frag} : ∀ S ∈ ["NoneType", "bool", "int", "str", "list", "tuple"], PySem.W.kitAny K (.type S) [.type "bool", .type "str"] = ansOf2 "bool" "str" S := fun S hm => by
  simp only [List.mem_cons, List.mem_nil_iff, or_false] at hm
  rcases hm with z | z | z | z | z | z <;> subst z
  · rw [show ansOf2 "bool" "str" "NoneType" = some false by decide +kernel]; unfold PySem.W.kitAny; rw [kit_ty (r := false) (by decide +kernel)]; unfold PySem.W.kitAny; rw [kit_ty (r := false) (by decide +kernel)]; rfl
  · rw [show ansOf2 "bool" "str" "bool" = some true by decide +kernel]; unfold PySem.W.kitAny; rw [kit_ty (r := true) (by decide +kernel)]
  · rw [show ansOf2 "bool" "str" "int" = some false by decide +kernel]; unfold PySem.W.kitAny; rw [kit_ty (r := false) (by decide +kernel)]; unfold PySem.W.kitAny; rw [kit_ty (r := false) (by decide +kernel)]; rfl
  · rw [show ansOf2 "bool" "str" "str" = some true by decide +kernel]; unfold PySem.W.kitAny; rw [kit_ty (r := false) (by decide +kernel)]; unfold PySem.W.kitAny; rw [kit_ty (r := true) (by decide +kernel)]
  · rw [show ansOf2 "bool" "str" "list" = some false by decide +kernel]; unfold PySem.W.kitAny; rw [kit_ty (r := false) (by decide +kernel)]; unfold PySem.W.kitAny; rw [kit_ty (r := false) (by decide +kernel)]; rfl
  · rw [show ansOf2 "bool" "str" "tuple" = some false by decide +kernel]; unfold PySem.W.kitAny; rw [kit_ty (r := false) (by decide +kernel)]; unfold PySem.W.kitAny; rw [kit_ty (r := false) (by decide +kernel)]; rfl
theorem isi_int (B : BI X.mg) (ha : DE T X a t) (hg : Gl X "isinstance" := by rfl) (hgy : Gl X "int" := by rfl)
    (hs1 : starEach (.Name "int" q :: []) X.env = (false, eval (.Name "int" q) X.env) :: starEach [] X.env := by rfl)
    (hs : starEach (a :: [.Name "int" q]) X.env = (false, eval a X.env) :: starEach [.Name "int" q] X.env := by rfl) (hpl : (backTo pos (starEach [.Name "int" q] X.env)).any (·.1) = false := by rfl) :
    DE T X (.Call (.Name "isinstance" p) [a, .Name "int" q] [] pos) (tdIsi t (ansOf "int")) := de_isi (Ty := "int") B.isinstance B.int (by decide +kernel) ha (ans_one kits_int) hg hgy (by decide) (by decide) hs1 hs hpl
theorem isi_bool (B : BI X.mg) (ha : DE T X a t) (hg : Gl X "isinstance" := by rfl) (hgy : Gl X "bool" := by rfl)
    (hs1 : starEach (.Name "bool" q :: []) X.env = (false, eval (.Name "bool" q) X.env) :: starEach [] X.env := by rfl)
    (hs : starEach (a :: [.Name "bool" q]) X.env = (false, eval a X.env) :: starEach [.Name "bool" q] X.env := by rfl) (hpl : (backTo pos (starEach [.Name "bool" q] X.env)).any (·.1) = false := by rfl) :
    DE T X (.Call (.Name "isinstance" p) [a, .Name "bool" q] [] pos) (tdIsi t (ansOf "bool")) := de_isi (Ty := "bool") B.isinstance B.bool (by decide +kernel) ha (ans_one kits_bool) hg hgy (by decide) (by decide) hs1 hs hpl
theorem isi_tuple (B : BI X.mg) (ha : DE T X a t) (hg : Gl X "isinstance" := by rfl) (hgy : Gl X "tuple" := by rfl)
    (hs1 : starEach (.Name "tuple" q :: []) X.env = (false, eval (.Name "tuple" q) X.env) :: starEach [] X.env := by rfl)
    (hs : starEach (a :: [.Name "tuple" q]) X.env = (false, eval a X.env) :: starEach [.Name "tuple" q] X.env := by rfl) (hpl : (backTo pos (starEach [.Name "tuple" q] X.env)).any (·.1) = false := by rfl) :
    DE T X (.Call (.Name "isinstance" p) [a, .Name "tuple" q] [] pos) (tdIsi t (ansOf "tuple")) := de_isi (Ty := "tuple") B.isinstance B.tuple (by decide +kernel) ha (ans_one kits_tuple) hg hgy (by decide) (by decide) hs1 hs hpl
theorem isi_list (B : BI X.mg) (ha : DE T X a t) (hg : Gl X "isinstance" := by rfl) (hgy : Gl X "list" := by rfl)
    (hs1 : starEach (.Name "list" q :: []) X.env = (false, eval (.Name "list" q) X.env) :: starEach [] X.env := by rfl)
    (hs : starEach (a :: [.Name "list" q]) X.env = (false, eval a X.env) :: starEach [.Name "list" q] X.env := by rfl) (hpl : (backTo pos (starEach [.Name "list" q] X.env)).any (·.1) = false := by rfl) :
    DE T X (.Call (.Name "isinstance" p) [a, .Name "list" q] [] pos) (tdIsi t (ansOf "list")) := de_isi (Ty := "list") B.isinstance B.list (by decide +kernel) ha (ans_one kits_list) hg hgy (by decide) (by decide) hs1 hs hpl
theorem isi_str (B : BI X.mg) (ha : DE T X a t) (hg : Gl X "isinstance" := by rfl) (hgy : Gl X "str" := by rfl)
    (hs1 : starEach (.Name "str" q :: []) X.env = (false, eval (.Name "str" q) X.env) :: starEach [] X.env := by rfl)
    (hs : starEach (a :: [.Name "str" q]) X.env = (false, eval a X.env) :: starEach [.Name "str" q] X.env := by rfl) (hpl : (backTo pos (starEach [.Name "str" q] X.env)).any (·.1) = false := by rfl) :
    DE T X (.Call (.Name "isinstance" p) [a, .Name "str" q] [] pos) (tdIsi t (ansOf "str")) := de_isi (Ty := "str") B.isinstance B.str (by decide +kernel) ha (ans_one kits_str) hg hgy (by decide) (by decide) hs1 hs hpl
theorem isi_list_tuple {q' pt : Pos} {kk : Nat} (B : BI X.mg) (ha : DE T X a t) (hg : Gl X "isinstance" := by rfl) (hgy : Gl X "list" := by rfl) (hgy' : Gl X "tuple" := by rfl)
    (hs0 : starEach (.Name "tuple" q' :: []) X.env = (false, eval (.Name "tuple" q') X.env) :: starEach [] X.env := by rfl)
    (hs1 : starEach (.Name "list" q :: [.Name "tuple" q']) X.env = (false, eval (.Name "list" q) X.env) :: starEach [.Name "tuple" q'] X.env := by rfl)
    (hs2 : starEach (.Tuple [.Name "list" q, .Name "tuple" q'] kk pt :: []) X.env = (false, eval (.Tuple [.Name "list" q, .Name "tuple" q'] kk pt) X.env) :: starEach [] X.env := by rfl)
    (hs : starEach (a :: [.Tuple [.Name "list" q, .Name "tuple" q'] kk pt]) X.env = (false, eval a X.env) :: starEach [.Tuple [.Name "list" q, .Name "tuple" q'] kk pt] X.env := by rfl) (hpl : (backTo pos (starEach [.Tuple [.Name "list" q, .Name "tuple" q'] kk pt] X.env)).any (·.1) = false := by rfl) :
    DE T X (.Call (.Name "isinstance" p) [a, .Tuple [.Name "list" q, .Name "tuple" q'] kk pt] [] pos) (tdIsi t (ansOf2 "list" "tuple")) := de_isi2 (Ty := "list") (Ty' := "tuple") B.isinstance B.list B.tuple (by decide +kernel) (by decide +kernel) ha (ans_two kits_list_tuple) hg hgy hgy' (by decide) (by decide) (by decide) (by decide) hs0 hs1 hs2 hs hpl
theorem isi_bool_str {q' pt : Pos} {kk : Nat} (B : BI X.mg) (ha : DE T X a t) (hg : Gl X "isinstance" := by rfl) (hgy : Gl X "bool" := by rfl) (hgy' : Gl X "str" := by rfl)
    (hs0 : starEach (.Name "str" q' :: []) X.env = (false, eval (.Name "str" q') X.env) :: starEach [] X.env := by rfl)
    (hs1 : starEach (.Name "bool" q :: [.Name "str" q']) X.env = (false, eval (.Name "bool" q) X.env) :: starEach [.Name "str" q'] X.env := by rfl)
    (hs2 : starEach (.Tuple [.Name "bool" q, .Name "str" q'] kk pt :: []) X.env = (false, eval (.Tuple [.Name "bool" q, .Name "str" q'] kk pt) X.env) :: starEach [] X.env := by rfl)
    (hs : starEach (a :: [.Tuple [.Name "bool" q, .Name "str" q'] kk pt]) X.env = (false, eval a X.env) :: starEach [.Tuple [.Name "bool" q, .Name "str" q'] kk pt] X.env := by rfl) (hpl : (backTo pos (starEach [.Tuple [.Name "bool" q, .Name "str" q'] kk pt] X.env)).any (·.1) = false := by rfl) :
    DE T X (.Call (.Name "isinstance" p) [a, .Tuple [.Name "bool" q, .Name "str" q'] kk pt] [] pos) (tdIsi t (ansOf2 "bool" "str")) := de_isi2 (Ty := "bool") (Ty' := "str") B.isinstance B.bool B.str (by decide +kernel) (by decide +kernel) ha (ans_two kits_bool_str) hg hgy hgy' (by decide) (by decide) (by decide) (by decide) hs0 hs1 hs2 hs hpl
end
end DL

namespace DL
open PySem PySem.Spec PyProof.Rows L2 RZ
/-! ## list(zip(a, b)), a and b lists or tuples: the pairs are kept, so each is new -/
section
variable {pg : Program} {wd : World} {Ar : Around} {Er : Value → Shared → Prop} {sh : Shared} {z TI TO i1 i2 S : Addr} {f1 f2 : List Addr} {n1 n2 k : Nat} {U1 U2 : Nat → Value → Prop} {C1 C2 : Nat → Heap → Prop}
/-- the zip's own tuple: not given out yet, or still held by someone -/
def ZSt (z TI TO : Addr) (ch : List Addr) (h : Heap) : Prop :=
  (IsZip h z TI TO .none ∧ ∃ a b, IsTupOf2 h TO a b) ∨ ∃ G fl ob, IsZipHeld h z TI TO G fl ∧ h.get? G = some ob ∧ G ∉ ch
theorem zs_body {Q : Value → Shared → Prop} {G : Addr} {fl : Bool} {ob : Obj} (D : ZipSep2 z TI TO i1 i2 f1 f2) (D1 : Draws pg wd Ar i1 f1 n1 U1 C1) (D2 : Draws pg wd Ar i2 f2 n2 U2 C2)
    (zz : IsZipHeld sh.heap z TI TO G fl) (al : sh.heap.get? G = some ob) (ti : IsTupOf2 sh.heap TI (.ref i1) (.ref i2)) (c1 : C1 k sh.heap) (c2 : C2 k sh.heap) (l1 : k < n1) (l2 : k < n2)
    (fin : ∀ x y h' tq, U1 k x → U2 k y → IsZipHeld h' z TI TO G true → C1 (k + 1) h' → C2 (k + 1) h' → IsTupOf2 h' sh.heap.objs.size x y → (∀ c o, c ∉ [z, TO, i1, i2] → sh.heap.get? c = some o → h'.get? c = some o) → Q (.ref sh.heap.objs.size) { sh with heap := h', toks := tq }) :
    wpAny (model pg wd) Ar (Builtin.«zip.__next__» ⟨[.ref z], []⟩) (fun r s' => ∃ v, r = .done (.ret v) ∧ Q v s') Er sh := by
  obtain ⟨hp, gn, dr, tk, oz⟩ := sh
  show wpAny _ _ (field (.ref z) 2 >>= _) _ _ _; refine wpAny_bind (wpAny_field zz rfl (x := .bool false) rfl ?_)
  show wpAny _ _ (field (.ref z) 3 >>= _) _ _ _; refine wpAny_bind (wpAny_field zz rfl (x := .ref TI) rfl ?_)
  refine wpAny_bind (wpAny_seqItems ti rfl ?_); show wpAny _ _ (Builtin.SmallTypes.ownedTupleIsFree (.ref z) >>= _) _ _ _
  refine wpAny_bind (wpAny_tupleHeld_zip zz al fun g1 zz1 sb1 => ?_)
  replace sb1 : Heap.SameBut z hp g1 := sb1
  rw [if_neg Bool.false_ne_true]; refine wpAny_bind ?_; rw [← Array.forIn_toList]; rw [List.forIn_cons]
  refine wpAny_bind (wpAny_bind (wpAny_holding ?_)); show wpAny _ _ (Builtin.SmallTypes.nextOf (.ref i1) >>= _) _ _ ⟨g1, gn, dr, tk, oz⟩
  refine wpAny_bind (D1.item k _ _ _ l1 (D1.over c1 sb1 D.zf1) fun x g2 tk2 ux cx sb2 => wpAny_pure ?_)
  replace sb2 : Heap.SameBut i1 g1 g2 := sb2
  refine wpAny_pure ?_
  simp only [List.forIn_cons, List.forIn_nil]; refine wpAny_bind (wpAny_bind (wpAny_holding ?_)); show wpAny _ _ (Builtin.SmallTypes.nextOf (.ref i2) >>= _) _ _ ⟨g2, gn, dr, tk2, oz⟩
  refine wpAny_bind (D2.item k _ _ _ l2 (D2.over (D2.over c2 sb1 D.zf2) sb2 D.sep1_2) fun y g3 tk3 uy cy sb3 => wpAny_pure ?_)
  replace sb3 : Heap.SameBut i2 g2 g3 := sb3
  refine wpAny_pure (wpAny_pure ?_); show wpAny _ _ (newTuple [x, y] >>= _) _ _ ⟨g3, gn, dr, tk3, oz⟩
  refine wpAny_bind (wpAny_newTuple ?_); have sz3 : g3.objs.size = hp.objs.size := by rw [sb3.1, sb2.1, sb1.1]
  have up : ∀ c o, c ≠ z → c ≠ i1 → c ≠ i2 → hp.get? c = some o → g3.get? c = some o := fun c o a1 a2 a3 e => sb3.extBut _ _ a3 (sb2.extBut _ _ a2 (sb1.extBut _ _ a1 e))
  have zz3 : IsZipHeld g3 z TI TO G true := sb3.extBut _ _ D.zi2 (sb2.extBut _ _ D.zi1 zz1)
  refine wpAny_pure ⟨_, rfl, ?_⟩; show Q (.ref g3.objs.size) ⟨g3.push _, gn, dr, tk3, oz⟩
  have pr : IsTupOf2 (g3.push { cls := .type "tuple", data := .seq #[x, y] }) g3.objs.size x y := Heap.get?_push_size _ rfl
  rw [sz3] at pr ⊢
  have psh : ∀ c o, g3.get? c = some o → (g3.push { cls := .type "tuple", data := .seq #[x, y] }).get? c = some o := fun c o e => Heap.get?_push_of_some _ e
  refine fin x y _ tk3 ux uy (psh _ _ zz3) (D1.frame _ _ _ (D1.over cx sb3 D.sep2_1) fun b _ o e => psh b o e) (D2.frame _ _ _ cy fun b _ o e => psh b o e) pr fun c o nc e => psh c o (up c o ?_ ?_ ?_ e)
  · exact fun q => nc (by simp [q])
  · exact fun q => nc (by simp [q])
  · exact fun q => nc (by simp [q])
theorem zs_over {Q : Fin → Shared → Prop} {G : Addr} {fl : Bool} {ob : Obj} (D : ZipSep2 z TI TO i1 i2 f1 f2) (D1 : Draws pg wd Ar i1 f1 n1 U1 C1) (D2 : Draws pg wd Ar i2 f2 n2 U2 C2)
    (zz : IsZipHeld sh.heap z TI TO G fl) (al : sh.heap.get? G = some ob) (ti : IsTupOf2 sh.heap TI (.ref i1) (.ref i2)) (c1 : C1 k sh.heap) (c2 : C2 k sh.heap) (l1 : k ≤ n1) (l2 : k ≤ n2) (le : k = n1 ∨ k = n2)
    (fin : ∀ h' tq e, (∀ c o, c ∉ [z, TO, i1, i2] → sh.heap.get? c = some o → h'.get? c = some o) → (∃ o, h'.get? e = some o ∧ o.cls = .type "StopIteration") → Er (.ref e) { sh with heap := h', toks := tq }) :
    wpAny (model pg wd) Ar (Builtin.«zip.__next__» ⟨[.ref z], []⟩) Q Er sh := by
  obtain ⟨hp, gn, dr, tk, oz⟩ := sh
  show wpAny _ _ (field (.ref z) 2 >>= _) _ _ _; refine wpAny_bind (wpAny_field zz rfl (x := .bool false) rfl ?_)
  show wpAny _ _ (field (.ref z) 3 >>= _) _ _ _; refine wpAny_bind (wpAny_field zz rfl (x := .ref TI) rfl ?_)
  refine wpAny_bind (wpAny_seqItems ti rfl ?_); show wpAny _ _ (Builtin.SmallTypes.ownedTupleIsFree (.ref z) >>= _) _ _ _
  refine wpAny_bind (wpAny_tupleHeld_zip zz al fun g1 zz1 sb1 => ?_)
  replace sb1 : Heap.SameBut z hp g1 := sb1
  rw [if_neg Bool.false_ne_true]; refine wpAny_bind ?_; rw [← Array.forIn_toList]; rw [List.forIn_cons]
  refine wpAny_bind (wpAny_bind (wpAny_holding ?_)); show wpAny _ _ (Builtin.SmallTypes.nextOf (.ref i1) >>= _) _ _ ⟨g1, gn, dr, tk, oz⟩
  by_cases ek : k = n1
  · subst ek
    refine wpAny_bind (D1.done _ _ _ (D1.over c1 sb1 D.zf1) fun g2 e xb ex => ?_)
    exact fin g2 tk e (fun c o nc ec => xb c o (fun q => nc (by simp [q])) (sb1.extBut c o (fun q => nc (by simp [q])) ec)) ex
  · have ek2 : k = n2 := by omega
    subst ek2
    refine wpAny_bind (D1.item k _ _ _ (by omega) (D1.over c1 sb1 D.zf1) fun x g2 tk2 ux cx sb2 => wpAny_pure ?_)
    replace sb2 : Heap.SameBut i1 g1 g2 := sb2
    refine wpAny_pure ?_
    simp only [List.forIn_cons, List.forIn_nil]; refine wpAny_bind (wpAny_bind (wpAny_holding ?_)); show wpAny _ _ (Builtin.SmallTypes.nextOf (.ref i2) >>= _) _ _ ⟨g2, gn, dr, tk2, oz⟩
    refine wpAny_bind (D2.done _ _ _ (D2.over (D2.over c2 sb1 D.zf2) sb2 D.sep1_2) fun g3 e xb ex => ?_)
    exact fin g3 tk2 e (fun c o nc ec => xb c o (fun q => nc (by simp [q])) (sb2.extBut c o (fun q => nc (by simp [q])) (sb1.extBut c o (fun q => nc (by simp [q])) ec))) ex
end
section
variable {pg : Program} {wd : World} {Ar : Around} {Er : Value → Shared → Prop} {sh : Shared} {z TI TO i1 i2 S : Addr} {f1 f2 : List Addr} {n1 n2 k : Nat} {U1 U2 : Nat → Value → Prop} {C1 C2 : Nat → Heap → Prop} {ch : List Addr}
/-- a turn, whoever holds the zip's tuple -/
theorem zst_item {Q : Option Value → Shared → Prop} (D : ZipSep2 z TI TO i1 i2 f1 f2) (D1 : Draws pg wd Ar.in1 i1 f1 n1 U1 C1) (D2 : Draws pg wd Ar.in1 i2 f2 n2 U2 C2)
    (zs : ZSt z TI TO ch sh.heap) (lt : ∀ c ∈ ch, c < sh.heap.objs.size) (ti : IsTupOf2 sh.heap TI (.ref i1) (.ref i2)) (c1 : C1 k sh.heap) (c2 : C2 k sh.heap) (l1 : k < n1) (l2 : k < n2)
    (fin : ∀ x y h' tq, U1 k x → U2 k y → ZSt z TI TO ch h' → C1 (k + 1) h' → C2 (k + 1) h' → IsTupOf2 h' sh.heap.objs.size x y → (∀ c o, c ∉ [z, TO, i1, i2] → sh.heap.get? c = some o → h'.get? c = some o) → Q (some (.ref sh.heap.objs.size)) { sh with heap := h', toks := tq })
    (sub : ∀ c ∈ [z, TO, i1, i2], c ∈ ch) : wpAny (model pg wd) Ar (pyNext (.ref z)) Q Er sh := by
  have nch : sh.heap.objs.size ∉ ch := fun q => Nat.lt_irrefl _ (lt _ q)
  rcases zs with ⟨zz, a, b, to⟩ | ⟨G, fl, ob, zz, al, ng⟩
  · refine wpAny_pyNext_zipD2_item D D1 D2 zz ti to c1 c2 l1 l2 fun x y h' tq ux uy zz' _ d1 d2 pr _ up => ?_
    refine fin x y h' tq ux uy (.inr ⟨_, false, _, zz', pr, nch⟩) d1 d2 pr fun c o nc e => up c o (fun q => nc (by simp [q])) (fun q => nc (by simp [q])) (fun q => nc (by simp [q])) (fun q => nc (by simp [q])) e
  · have ty : sh.TypeIs (.ref z) "zip" := ⟨_, zz, rfl⟩
    unfold pyNext
    refine wpAny_bind (wpAny_attempt (wpAny_callSpecial?_slot (name := Str.ofString "__next__") ty F.slot_zip_next (wpAny_call_entry F.slot_zip_next ty F.entry_zip_next (zs_body D D1 D2 zz al ti c1 c2 l1 l2 fun x y h' tq ux uy zz' d1 d2 pr up => ?_) (F.args_zip_next_1 _))))
    exact wpAny_pure (fin x y h' tq ux uy (.inr ⟨G, true, ob, zz', up G ob (fun q => ng (sub _ q)) al, ng⟩) d1 d2 pr up)
theorem zst_end {Q : Option Value → Shared → Prop} (D : ZipSep2 z TI TO i1 i2 f1 f2) (D1 : Draws pg wd Ar.in1 i1 f1 n1 U1 C1) (D2 : Draws pg wd Ar.in1 i2 f2 n2 U2 C2)
    (zs : ZSt z TI TO ch sh.heap) (ti : IsTupOf2 sh.heap TI (.ref i1) (.ref i2)) (c1 : C1 k sh.heap) (c2 : C2 k sh.heap) (l1 : k ≤ n1) (l2 : k ≤ n2) (le : k = n1 ∨ k = n2)
    (fin : ∀ h' tq, (∀ c o, c ∉ [z, TO, i1, i2] → sh.heap.get? c = some o → h'.get? c = some o) → Q none { sh with heap := h', toks := tq }) : wpAny (model pg wd) Ar (pyNext (.ref z)) Q Er sh := by
  rcases zs with ⟨zz, a, b, to⟩ | ⟨G, fl, ob, zz, al, ng⟩
  · refine wpAny_pyNext_zipD2_end D D1 D2 zz ti to c1 c2 l1 l2 le fun h' tq up => ?_
    exact fin h' tq fun c o nc e => up c o (fun q => nc (by simp [q])) (fun q => nc (by simp [q])) (fun q => nc (by simp [q])) (fun q => nc (by simp [q])) e
  · have ty : sh.TypeIs (.ref z) "zip" := ⟨_, zz, rfl⟩
    unfold pyNext
    refine wpAny_bind (wpAny_attempt (wpAny_callSpecial?_slot (name := Str.ofString "__next__") ty F.slot_zip_next (wpAny_call_entry F.slot_zip_next ty F.entry_zip_next (zs_over D D1 D2 zz al ti c1 c2 l1 l2 le fun h' tq e up ex => ?_) (F.args_zip_next_1 _))))
    obtain ⟨o, eo, co⟩ := ex
    exact wpAny_bind (wpAny_isInstance (T := "StopIteration") (b := true) ⟨o, eo, co⟩ isSubtype_stop (wpAny_pure (fin h' tq up)))
end
/-- new pairs, one after another -/
inductive Grows : Hp → List Addr → List (V × V) → Hp → Prop
  | nil (H : Hp) : Grows H [] [] H
  | snoc {H H' : Hp} {ts : List Addr} {ps : List (V × V)} {G : Addr} {x y : V} : Grows H ts ps H' → H' G = none → Grows H (ts ++ [G]) (ps ++ [(x, y)]) (upd H' G (.tup [x, y]))
theorem fpOk_upd {X : Cx} {pins : List (Addr × Obj)} {H : Hp} {b G : Addr} {o : HO} (h : FpOk X pins H b) (n : b ≠ G) : FpOk X pins (upd H G o) b := ⟨by rw [upd_ne n]; exact h.1, h.2⟩
theorem zst_keep {z TI TO S : Addr} {ch : List Addr} {h h' : Heap} (zs : ZSt z TI TO ch h) (up : ∀ c o, c ≠ S → h.get? c = some o → h'.get? c = some o) (hS : S ∈ ch) (n1 : z ≠ S) (n2 : TO ≠ S) : ZSt z TI TO ch h' := by
  rcases zs with ⟨zz, a, b, to⟩ | ⟨G, fl, ob, zz, al, ng⟩
  · exact .inl ⟨up _ _ n1 zz, a, b, up _ _ n2 to⟩
  · exact .inr ⟨G, fl, ob, up _ _ n1 zz, up _ _ (fun q => ng (by rw [q]; exact hS)) al, ng⟩
section
variable {X : Cx} {pins : List (Addr × Obj)} {σ : L2.St} {Ar : Around} {R : Result → Shared → Prop} {z TI TO i1 i2 S : Addr} {f1 f2 ch : List Addr} {xs ys : List V} {us ws : List Value} {C1 C2 : Nat → Heap → Prop} {H0 : Hp} {res : Value}
theorem zip_loop (D : ZipSep2 z TI TO i1 i2 f1 f2) (D1 : Draws X.prog X.w Ar.in1.in1 i1 f1 xs.length (fun i v => us[i]? = some v) C1) (D2 : Draws X.prog X.w Ar.in1.in1 i2 f2 ys.length (fun i v => ws[i]? = some v) C2)
    (rx : Vals xs us) (ry : Vals ys ws) (big : xs.length ≤ sizeLine) (sub : ∀ c ∈ [z, TO, i1, i2], c ∈ ch) (hTI : TI ∈ ch) (hS : S ∈ ch) (nS : S ∉ [z, TO, i1, i2]) (nI : TI ≠ S) (g1 : S ∉ f1) (g2 : S ∉ f2)
    (fin : ∀ s' H' acc c ts, Inv X pins σ H' s' → s'.heap.get? S = some { cls := .type "list", dict := none, data := .seq acc c, slots := #[] } → Vals (ts.map V.ref) acc.toList → Grows H0 ts (xs.zip ys) H' → (∀ b ∈ ch, FpOk X pins H' b) → R (.ok (.ret res)) s') :
    ∀ (m k : Nat) (s : Shared) (H : Hp) (acc : Array Value) (c : Nat) (ts : List Addr), min xs.length ys.length - k = m → k ≤ xs.length → k ≤ ys.length → Inv X pins σ H s → (∀ b ∈ ch, FpOk X pins H b) → (∀ b ∈ ch, b < s.heap.objs.size) →
      ZSt z TI TO ch s.heap → IsTupOf2 s.heap TI (.ref i1) (.ref i2) → C1 k s.heap → C2 k s.heap → s.heap.get? S = some { cls := .type "list", dict := none, data := .seq acc c, slots := #[] } → Vals (ts.map V.ref) acc.toList → Grows H0 ts ((xs.zip ys).take k) H →
      codeAny (model X.prog X.w) Ar (.builtin "list.extend.loop" ⟨[.ref S, .ref z, res], []⟩) R s := by
  have nz : z ≠ S := fun q => nS (by simp [q])
  have nO : TO ≠ S := fun q => nS (by simp [q])
  intro m
  induction m with
  | zero =>
    intro k s H acc c ts em k1 k2 J hf lt zs ti c1 c2 hl va gr
    have le : k = xs.length ∨ k = ys.length := by omega
    refine codeAny_builtin F.entry_extend_loop ?_; rw [Around.under_plainId F.plain_extend_loop _]; show wpAny _ Ar.in1 (pyNext (.ref z) >>= _) _ _ s
    refine wpAny_bind (zst_end D D1 D2 zs ti c1 c2 k1 k2 le fun h' tq up => wpAny_pure ?_)
    have e : (xs.zip ys).take k = xs.zip ys := List.take_of_length_le (by rw [List.length_zip]; omega)
    rw [e] at gr
    exact fin _ H acc c ts (J.turnedL (t' := tq) (ch := ch) (fun b o nb q => up b o (fun w => nb (sub b w)) q) hf) (up S _ nS hl) va gr hf
  | succ m ih =>
    intro k s H acc c ts em k1 k2 J hf lt zs ti c1 c2 hl va gr
    have q1 : k < xs.length := by omega
    have q2 : k < ys.length := by omega
    refine codeAny_builtin F.entry_extend_loop ?_; rw [Around.under_plainId F.plain_extend_loop _]; show wpAny _ Ar.in1 (pyNext (.ref z) >>= _) _ _ s
    refine wpAny_bind (zst_item D D1 D2 zs lt ti c1 c2 q1 q2 (fun u w h' tq eu ew zs' d1 d2 pr up => ?_) sub)
    obtain ⟨u', eu', ru⟩ := rx.get (List.getElem?_eq_getElem q1)
    obtain ⟨w', ew', rw'⟩ := ry.get (List.getElem?_eq_getElem q2)
    rw [eu] at eu'; rw [ew] at ew'; cases eu'; cases ew'
    have hl' := up S _ nS hl
    have asz : acc.size = ts.length := by have := va.length; rw [List.length_map] at this; rw [this]; simp
    have grl : ∀ {H ts ps H'}, Grows H ts ps H' → ts.length = ps.length := fun g => by induction g with
      | nil => rfl
      | snoc _ _ ih => rw [List.length_append, List.length_append, ih]; rfl
    have tl : ts.length = k := by rw [grl gr, List.length_take, List.length_zip]; omega
    show wpAny _ Ar.in1 (updateSeq S (·.push (.ref s.heap.objs.size)) >>= _) _ _ _
    refine wpAny_bind ?_
    have up2 : ∀ b o, b ≠ S → h'.get? b = some o → (h'.update S (Obj.mapSeq (·.push (Value.ref s.heap.objs.size)))).get? b = some o := fun b o nb q => (Heap.get?_update_other _ _ (Ne.symm nb)).trans q
    have nT : s.heap.objs.size ∉ ch := fun q => Nat.lt_irrefl _ (lt _ q)
    have nTS : s.heap.objs.size ≠ S := fun q => nT (by rw [q]; exact hS)
    have new : ObjOk X.prog X.w (upd H s.heap.objs.size (.tup [xs[k], ys[k]])) (h'.update S (Obj.mapSeq (·.push (Value.ref s.heap.objs.size)))) s.heap.objs.size (.tup [xs[k], ys[k]]) :=
      ⟨by show 2 ≤ sizeLine; decide, [u, w], .cons ru (.cons rw' .nil), ⟨_, up2 _ _ nTS pr, rfl, _, rfl⟩⟩
    have J2 : Inv X pins σ (upd H s.heap.objs.size (.tup [xs[k], ys[k]])) { s with heap := h'.update S (Obj.mapSeq (·.push (Value.ref s.heap.objs.size))), toks := tq } :=
      J.turnedNew (ch := ch) (fun b o nb q => up2 b o (fun v => nb (by rw [v]; exact hS)) (up b o (fun v => nb (sub b v)) q)) hf (Nat.le_refl _) new
    have hf2 : ∀ b ∈ ch, FpOk X pins (upd H s.heap.objs.size (.tup [xs[k], ys[k]])) b := fun b hb => fpOk_upd (hf b hb) (Nat.ne_of_lt (lt b hb))
    have lt2 : ∀ b ∈ ch, b < (h'.update S (Obj.mapSeq (·.push (Value.ref s.heap.objs.size)))).objs.size := fun b hb => by
      rw [Heap.size_update]
      exact Nat.lt_trans (lt b hb) (Heap.lt_size pr)
    refine wpAny_updateSeq hl' rfl (wpAny_pure ⟨plainId_quiet F.plain_extend_loop _, ih (k + 1) _ _ (acc.push (.ref s.heap.objs.size)) _ (ts ++ [s.heap.objs.size]) (by omega) q1 q2 J2 hf2 lt2
      (zst_keep zs' up2 hS nz nO) (up2 _ _ nI (up _ _ ?_ ti)) (D1.frame _ _ _ d1 fun b hb o e => up2 b o (fun v => g1 (by rw [← v]; exact hb)) e) (D2.frame _ _ _ d2 fun b hb o e => up2 b o (fun v => g2 (by rw [← v]; exact hb)) e)
      (Heap.get?_update_self _ hl' rfl) ?_ ?_⟩) (by rw [asz, tl]; omega) (by show (acc.push _).size ≤ sizeLine + 1; rw [Array.size_push, asz, tl]; omega)
    · intro q
      have q' : TI = z ∨ TI = TO ∨ TI = i1 ∨ TI = i2 := by simpa using q
      rcases q' with v | v | v | v
      · exact D.TIz v
      · exact D.TITO v
      · exact D.TIi1 v
      · exact D.TIi2 v
    · rw [List.map_append, Array.toList_push]
      exact va.append (.cons rfl .nil)
    · have e : (xs.zip ys).take (k + 1) = (xs.zip ys).take k ++ [(xs[k], ys[k])] := by
        have e0 : (xs.zip ys)[k]? = some (xs[k], ys[k]) := by
          rw [List.getElem?_zip_eq_some]
          exact ⟨List.getElem?_eq_getElem q1, List.getElem?_eq_getElem q2⟩
        rw [List.take_succ, e0]; rfl
      rw [e]
      exact gr.snoc (J.hok.fresh (Nat.le_refl _))
end
theorem zip_len_none : typeLookup (.type "zip") "__len__" = pure none := am_miss_of_fast (by decide +kernel)
theorem zip_hint_none : typeLookup (.type "zip") "__length_hint__" = pure none := am_miss_of_fast (by decide +kernel)
section
variable {X : Cx} {pins : List (Addr × Obj)} {σ : L2.St} {Ar : Around} {R : Result → Shared → Prop} {z TI TO i1 i2 S : Addr} {f1 f2 ch : List Addr} {xs ys : List V} {us ws : List Value} {C1 C2 : Nat → Heap → Prop} {H0 : Hp}
theorem init_zip {s : Shared} (D : ZipSep2 z TI TO i1 i2 f1 f2) (D1 : Draws X.prog X.w Ar.in1.in1 i1 f1 xs.length (fun i v => us[i]? = some v) C1) (D2 : Draws X.prog X.w Ar.in1.in1 i2 f2 ys.length (fun i v => ws[i]? = some v) C2)
    (rx : Vals xs us) (ry : Vals ys ws) (big : xs.length ≤ sizeLine) (sub : ∀ c ∈ [z, TO, i1, i2], c ∈ ch) (hTI : TI ∈ ch) (hS : S ∈ ch) (nS : S ∉ [z, TO, i1, i2]) (nI : TI ≠ S) (g1 : S ∉ f1) (g2 : S ∉ f2)
    (J : Inv X pins σ H0 s) (hf : ∀ b ∈ ch, FpOk X pins H0 b) (lt : ∀ b ∈ ch, b < s.heap.objs.size) (zz : IsZip s.heap z TI TO .none) {a b : Value} (to : IsTupOf2 s.heap TO a b) (ti : IsTupOf2 s.heap TI (.ref i1) (.ref i2)) (c1 : C1 0 s.heap) (c2 : C2 0 s.heap)
    (hl : s.heap.get? S = some { cls := .type "list", data := .seq #[] })
    (fin : ∀ s' H' acc c ts, Inv X pins σ H' s' → s'.heap.get? S = some { cls := .type "list", dict := none, data := .seq acc c, slots := #[] } → Vals (ts.map V.ref) acc.toList → Grows H0 ts (xs.zip ys) H' → (∀ b ∈ ch, FpOk X pins H' b) → R (.ok (.ret .none)) s') :
    wpAny (model X.prog X.w) Ar.in1 (Builtin.«list.__init__» ⟨[.ref S, .ref z], []⟩)
      (fun r s' => match r with | .done f => R (.ok f) s' | .again c' => c'.quiet = true ∧ codeAny (model X.prog X.w) Ar c' R s') (fun e s' => R (.error e) s') s := by
  have nz : z ≠ S := fun q => nS (by simp [q])
  have nO : TO ≠ S := fun q => nS (by simp [q])
  show wpAny _ _ (do let old ← Builtin.List.listItems (.ref S); Builtin.List.listUpdate (.ref S) (fun _ => #[]); letGo old.toList.reverse; Builtin.List.listExtendWith (.ref S) (.ref z) .none) _ _ s
  refine wpAny_bind ?_; delta Builtin.List.listItems
  refine wpAny_bind (wpAny_seqItems hl rfl (wpAny_pure ?_))
  show wpAny _ _ (updateSeq S (fun _ => #[]) >>= fun _ => letGo _ >>= fun _ => Builtin.List.listExtendWith (.ref S) (.ref z) .none) _ _ s
  refine wpAny_bind (wpAny_updateSeq hl rfl ?_)
  have l2 := Heap.get?_update_self (Obj.mapSeq (fun _ => (#[] : Array Value))) hl rfl
  have t2 : ∀ b o, b ≠ S → s.heap.get? b = some o → (s.heap.update S (Obj.mapSeq (fun _ => (#[] : Array Value)))).get? b = some o := fun b o nb q => (Heap.get?_update_other _ _ (Ne.symm nb)).trans q
  have z2 : (s.heap.update S (Obj.mapSeq (fun _ => (#[] : Array Value)))).objs.size = s.heap.objs.size := Heap.size_update ..
  generalize s.heap.update S (Obj.mapSeq (fun _ => (#[] : Array Value))) = g2' at l2 t2 z2
  refine wpAny_bind (wpAny_letGo ?_); delta Builtin.List.listExtendWith
  refine wpAny_bind (wpAny_typeOf (T := "zip") ⟨_, t2 _ _ nz zz, rfl⟩ ?_)
  have b1 : Builtin.List.listSameRef (.ref S) (.ref z) = false := by simp [Builtin.List.listSameRef, Ne.symm nz]
  have b2 : (Value.type "zip" == Value.type "list") = false := by decide
  have b3 : (Value.type "zip" == Value.type "tuple") = false := by decide
  simp only [b1, b2, b3, Bool.or_false, Bool.false_eq_true, if_false]
  refine wpAny_bind (wpAny_pyIter_zip (t2 _ _ nz zz) ?_)
  refine wpAny_bind (wpAny_holding ?_); delta Builtin.List.listLengthHint
  refine wpAny_bind (wpAny_specialOf (T := "zip") ⟨_, t2 _ _ nz zz, rfl⟩ zip_len_none ?_)
  show wpAny _ _ (specialOf (Value.ref z) (Str.ofString "__length_hint__") >>= _) _ _ _
  refine wpAny_bind (wpAny_specialOf (T := "zip") ⟨_, t2 _ _ nz zz, rfl⟩ zip_hint_none (wpAny_pure ?_))
  show wpAny _ _ (rule "list.extend.makes-room" >>= fun _ => Builtin.List.listTouch (.ref S) >>= fun _ => again (.builtin "list.extend.loop" ⟨[.ref S, .ref z, .none], []⟩)) _ _ _
  refine wpAny_bind (wpAny_rule (wpAny_bind ?_)); show wpAny _ _ (updateSeq S (·.push .none) >>= fun _ => updateSeq S (·.pop)) _ _ _; refine wpAny_bind (wpAny_updateSeq l2 rfl ?_)
  have l3 := Heap.get?_update_self (Obj.mapSeq (·.push Value.none)) l2 rfl
  refine wpAny_updateSeq l3 rfl ?_
  have l4 := Heap.get?_update_self (Obj.mapSeq (·.pop)) l3 rfl
  have t4 : ∀ b o, b ≠ S → s.heap.get? b = some o → ((g2'.update S (Obj.mapSeq (·.push Value.none))).update S (Obj.mapSeq (·.pop))).get? b = some o :=
    fun b o nb q => (Heap.get?_update_other _ _ (Ne.symm nb)).trans ((Heap.get?_update_other _ _ (Ne.symm nb)).trans (t2 b o nb q))
  have z4 : ∀ b ∈ ch, b < ((g2'.update S (Obj.mapSeq (·.push Value.none))).update S (Obj.mapSeq (·.pop))).objs.size := fun b hb => by
    rw [Heap.size_update, Heap.size_update, z2]
    exact lt b hb
  refine wpAny_pure ⟨plainId_quiet F.plain_extend_loop _, ?_⟩; have J2 : Inv X pins σ H0 { s with heap := (g2'.update S (Obj.mapSeq (·.push Value.none))).update S (Obj.mapSeq (·.pop)), toks := s.toks } := J.turnedL (ch := ch) (fun b o nb q => t4 b o (fun v => nb (by rw [v]; exact hS)) q) hf
  refine zip_loop (H0 := H0) D D1 D2 rx ry big sub hTI hS nS nI g1 g2 fin _ 0 _ H0 #[] _ [] rfl (Nat.zero_le _) (Nat.zero_le _) J2 hf z4
    (zst_keep (.inl ⟨zz, a, b, to⟩) t4 hS nz nO) (t4 _ _ nI ti) (D1.frame _ _ _ c1 fun b hb o e => t4 b o (fun v => g1 (by rw [← v]; exact hb)) e) (D2.frame _ _ _ c2 fun b hb o e => t4 b o (fun v => g2 (by rw [← v]; exact hb)) e) l4 .nil (by rw [List.take_zero]; exact .nil H0)
end
end DL

namespace DL
open PySem PySem.Spec PyProof.Rows L2 RZ
section
variable {X : Cx} {pins : List (Addr × Obj)} {σ : L2.St} {H : Hp} {s : Shared} {Ar : Around}
theorem src_of {a : Addr} {xs : List V} (J : Inv X pins σ H s) (hh : Ar.handled = none) (h : SqL X.K H a xs ∨ SqT X.K H a xs) :
    ∃ us, Vals xs us ∧ xs.length ≤ sizeLine ∧ a < s.heap.objs.size ∧ ∃ (o : Obj) (Hh : Heap → Prop) (C : Addr → Nat → Heap → Prop), Begins (.ref a) o Hh ∧ Hh s.heap ∧
      (∀ it, a ≠ it → Draws X.prog X.w Ar it [it, a] xs.length (fun i v => us[i]? = some v) (C it)) ∧ ∀ it h', Hh h' → h'.get? it = some o → C it 0 h' := by
  rcases h with h | h
  · obtain ⟨us, rv, pl, big⟩ := J.list h
    have e1 : us.toArray.size = xs.length := by rw [List.size_toArray, rv.length]
    have e2 : (fun (i : Nat) (v : Value) => us.toArray[i]? = some v) = fun i v => us[i]? = some v := by funext i v; simp
    refine ⟨us, rv, big, pl.lt, _, _, fun it i h => h.IsListIter it a i ∧ h.IsList a us.toArray, begins_list a us.toArray, pl.isList, fun it ne => ?_, fun it h' q e => ⟨⟨_, e, rfl, rfl⟩, q⟩⟩
    have := Draws.list (prog := X.prog) (w := X.w) hh it a ne us.toArray
    rw [e1, e2] at this
    exact this
  · obtain ⟨us, rv, pl, big⟩ := J.tuple h
    have e1 : us.toArray.size = xs.length := by rw [List.size_toArray, rv.length]
    have e2 : (fun (i : Nat) (v : Value) => us.toArray[i]? = some v) = fun i v => us[i]? = some v := by funext i v; simp
    have lt : a < s.heap.objs.size := by obtain ⟨o, ho, _⟩ := id pl; exact Heap.lt_size ho
    refine ⟨us, rv, big, lt, _, _, fun it i h => h.IsTupleIter it a i ∧ h.IsTuple a us.toArray, begins_tuple a us.toArray, pl, fun it ne => ?_, fun it h' q e => ⟨⟨_, e, rfl, rfl⟩, q⟩⟩
    have := Draws.tuple (prog := X.prog) (w := X.w) hh it a ne us.toArray
    rw [e1, e2] at this
    exact this
end
/-- list(zip(a, b)) -/
def tLstZip (K : PySem.W.Frag) (ta : TA) : TE := fun σ H Q => ta σ H fun vs H1 => ∃ a b xs ys, vs = [.ref a, .ref b] ∧ (SqL K H1 a xs ∨ SqT K H1 a xs) ∧ (SqL K H1 b ys ∨ SqT K H1 b ys) ∧
  ∀ ts H2 l, Grows H1 ts (xs.zip ys) H2 → H2 l = none → Q (.ref l) (upd H2 l (.lst (ts.map V.ref)))
theorem pe_lstZip {X : Cx} {a b : Expr} {ta : TA} {p p2 q pos : Pos} (hg : Gl X "list") (hm : X.mg "list" = none) (hg2 : Gl X "zip") (hm2 : X.mg "zip" = none) (ha : PA X [a, b] ta) (hc : X.calm = true := by rfl)
    (na : starEach [.Call (.Name "zip" p2) [a, b] [] q] X.env = (false, eval (.Call (.Name "zip" p2) [a, b] [] q) X.env) :: starEach [] X.env := by rfl)
    (hs : starEach [a, b] X.env = (false, eval a X.env) :: starEach [b] X.env := by rfl) (hpl : (backTo q (starEach [b] X.env)).any (·.1) = false := by rfl) :
    PE X (.Call (.Name "list" p) [.Call (.Name "zip" p2) [a, b] [] q] [] pos) (tLstZip X.K ta) := by
  refine ⟨fun pins s σ H Q I h => ?_⟩; refine Call_ (ld_blt I hg hm PyProof.Rows.boot_list ?_)
  refine PyProof.Rows.callWith_type1 (PyProof.Rows.args_cons ?_ na) na rfl
  refine Call_ (ld_blt I hg2 hm2 PyProof.Rows.boot_zip (PyProof.Rows.callWith_type1 (thn (ha.run q pins s σ H _ I h) fun us s1 ⟨vs, H1, J, r1, q1⟩ => ?_) hs hpl))
  obtain ⟨la, lb, xs, ys, ex, h1, h2, fin⟩ := q1
  subst ex
  cases r1 with
  | cons ra r1 =>
  cases r1 with
  | cons rb r1 =>
  cases r1
  cases ra
  cases rb
  have hh : X.A.in1.in1.in1.handled = none := J.ok.hd hc
  obtain ⟨us, rx, bx, lx, o1, Hh1, C1, B1, k1, D1, z1⟩ := src_of J hh h1
  obtain ⟨ws, ry, by', ly, o2, Hh2, C2, B2, k2, D2, z2⟩ := src_of J hh h2
  refine zip_begins2 B1 B2 k1 k2 fun h' zz ti to g1 g2 sz up => PyProof.Rows.args_nil ?_
  have J2 : Inv X pins σ H1 { s1 with heap := h' } := J.kept (t' := s1.toks) up
  refine callType_codes (Q₁ := fun ob s₁ => ob = .ref h'.objs.size ∧ s₁ = { s1 with heap := h'.push { cls := .type "list", data := .seq #[] } }) F.called_list (F.typeCall_list_1 _) F.entry_list_init (code_list_new _ ⟨rfl, rfl⟩) fun ob s₁ eq => ?_
  obtain ⟨rfl, rfl⟩ := eq
  have hl : (h'.push { cls := .type "list", data := .seq #[] }).get? h'.objs.size = some { cls := .type "list", data := .seq #[] } := Heap.get?_push_size _ rfl
  have psh : ∀ c o, h'.get? c = some o → (h'.push { cls := .type "list", data := .seq #[] }).get? c = some o := fun c o e => Heap.get?_push_of_some _ e
  have J3 : Inv X pins σ H1 { s1 with heap := h'.push { cls := .type "list", data := .seq #[] } } := J2.kept (t' := s1.toks) psh
  refine ⟨⟨_, hl, rfl⟩, F.args_list_init_2 _ _, ?_⟩
  have mem : ∀ c ∈ [s1.heap.objs.size + 4, s1.heap.objs.size + 2, s1.heap.objs.size + 3, s1.heap.objs.size, s1.heap.objs.size + 1, h'.objs.size], s1.heap.objs.size ≤ c ∧ c < s1.heap.objs.size + 6 := fun c hc => by
    simp only [List.mem_cons, List.mem_nil_iff, or_false] at hc
    rcases hc with v | v | v | v | v | v <;> (subst v; omega)
  have sz3 : (h'.push { cls := .type "list", data := .seq #[] }).objs.size = s1.heap.objs.size + 6 := by rw [Heap.size_push, sz]
  refine init_zip (Ar := X.A.in1) (S := h'.objs.size) (H0 := H1) (xs := xs) (ys := ys) (us := us) (ws := ws) (C1 := C1 s1.heap.objs.size) (C2 := C2 (s1.heap.objs.size + 1)) (ch := [s1.heap.objs.size + 4, s1.heap.objs.size + 2, s1.heap.objs.size + 3, s1.heap.objs.size, s1.heap.objs.size + 1, h'.objs.size])
    (zip_sep2 (N := s1.heap.objs.size) (fp1 := [la]) (fp2 := [lb]) (by simpa using lx) (by simpa using ly)) (D1 _ (Nat.ne_of_lt lx)) (D2 _ (Nat.ne_of_lt (Nat.lt_succ_of_lt ly))) rx ry bx (fun c hc => ?_) (by simp) (by simp) ?_ ?_ ?_ ?_ J3
    (fun b hb => J.fpOk (mem b hb).1 (J.hok.fresh (mem b hb).1)) (fun b hb => by show b < _; rw [sz3]; exact (mem b hb).2) (psh _ _ zz) (psh _ _ to) (psh _ _ ti) (z1 _ _ (B1.keeps _ _ k1 fun c o e => psh c o (up c o e)) (psh _ _ g1)) (z2 _ _ (B2.keeps _ _ k2 fun c o e => psh c o (up c o e)) (psh _ _ g2)) hl
    fun s' H' acc c ts J' hl' va gr hf' => ⟨rfl, ?_⟩
  · simp only [List.mem_cons, List.mem_nil_iff, or_false] at hc ⊢
    rcases hc with v | v | v | v <;> simp [v]
  · rw [sz]; simp only [List.mem_cons, List.mem_nil_iff, or_false]
    rintro (q | q | q | q) <;> exact absurd (show (s1.heap.objs.size + 5 : Nat) = _ from q) (by omega)
  · rw [sz]
    exact fun q => absurd (show (s1.heap.objs.size + 2 : Nat) = s1.heap.objs.size + 5 from q) (by omega)
  · rw [sz]; simp only [List.mem_cons, List.mem_nil_iff, or_false]
    rintro (q | q)
    · exact absurd (show (s1.heap.objs.size + 5 : Nat) = s1.heap.objs.size from q) (by omega)
    · rw [← q] at lx
      exact absurd (show (s1.heap.objs.size + 5 : Nat) < s1.heap.objs.size from lx) (by omega)
  · rw [sz]; simp only [List.mem_cons, List.mem_nil_iff, or_false]
    rintro (q | q)
    · exact absurd (show (s1.heap.objs.size + 5 : Nat) = s1.heap.objs.size + 1 from q) (by omega)
    · rw [← q] at ly
      exact absurd (show (s1.heap.objs.size + 5 : Nat) < s1.heap.objs.size from ly) (by omega)
  · have grl : ∀ {H ts ps H'}, Grows H ts ps H' → ts.length = ps.length := fun g => by induction g with
      | nil => rfl
      | snoc _ _ ih => rw [List.length_append, List.length_append, ih]; rfl
    have tl : ts.length ≤ sizeLine := by rw [grl gr, List.length_zip]; omega
    exact ⟨.ref h'.objs.size, upd H' h'.objs.size (.lst (ts.map V.ref)), J'.take (t' := s'.toks) (h' := s'.heap) (fun b ob _ e => e) (hf' _ (by simp)) ⟨by show (ts.map V.ref).length ≤ sizeLine; rw [List.length_map]; exact tl, acc.toList, c, va, by simpa using hl'⟩, rfl, fin ts H' _ gr (hf' _ (by simp)).1⟩
theorem paired_snoc {α β : Type} {Rl : α → β → Prop} : ∀ {ps : List α} {p : α} {ds : List β}, Paired Rl (ps ++ [p]) ds → ∃ ds' d, ds = ds' ++ [d] ∧ Paired Rl ps ds' ∧ Rl p d
  | [], _, _, .cons h .nil => ⟨[], _, rfl, .nil, h⟩
  | _ :: _, _, _, .cons h r => let ⟨ds', d, e, a, b⟩ := paired_snoc r; ⟨_ :: ds', d, by rw [e]; rfl, .cons h a, b⟩
def PD (K : PySem.W.Frag) (Hd : Hp) (p : V × V) (d : PyData) : Prop := ∃ a b, d = .tuple [a, b] ∧ Dt K Hd p.1 a ∧ Dt K Hd p.2 b
section
variable {K : KF} {H H' : Hp} {qs : List Sl} {ts : List Addr} {ps : List (V × V)}
theorem grows_ok (h : Hs K H qs) (g : Grows H ts ps H') : ∀ ds, Paired (PD K.1 (hid (ads qs) H)) ps ds → Hs K H' qs ∧ Le H H' ∧ DtAll K.1 (hid (ads qs) H') (ts.map V.ref) ds := by
  induction g with
  | nil => intro ds pd; cases pd; exact ⟨h, Le.refl _, .nil⟩
  | snoc g n ih =>
    intro ds pd
    obtain ⟨ds', d, rfl, pd', a, b, rfl, da, db⟩ := paired_snoc pd
    obtain ⟨hs, le, dts⟩ := ih ds' pd'
    have mo : Le (hid (ads qs) _) (hid (ads qs) _) := hid_mono fun b o _ e => le b o e
    have hn := pair_new hs n (da.le mo) (db.le mo)
    refine ⟨hn.tail, le.trans (le_upd n), ?_⟩
    rw [List.map_append]
    refine (dts.le ?_).append (.cons hn.get_d .nil)
    exact hid_mono fun b o _ e => le_upd n b o e
theorem zip_pd {K : PySem.W.Frag} {Hd : Hp} : ∀ {vs ws : List V} {xs ys : List PyData}, DtAll K Hd vs xs → DtAll K Hd ws ys → Paired (PD K Hd) (vs.zip ws) (zipD xs ys)
  | _, _, _, _, .nil, _ => by rw [List.zip_nil_left]; unfold zipD; exact .nil
  | _, _, _, _, .cons _ _, .nil => by rw [List.zip_nil_right]; unfold zipD; exact .nil
  | _, _, _, _, .cons a r, .cons b t => .cons ⟨_, _, rfl, a, b⟩ (zip_pd r t)
def rLstZip (K : PySem.W.Frag) : List V → Hp → VK → Prop := fun vs H1 Q => ∃ a b xs ys, vs = [.ref a, .ref b] ∧ (SqL K H1 a xs ∨ SqT K H1 a xs) ∧ (SqL K H1 b ys ∨ SqT K H1 b ys) ∧
  ∀ ts H2 l, Grows H1 ts (xs.zip ys) H2 → H2 l = none → Q (.ref l) (upd H2 l (.lst (ts.map V.ref)))
/-- a list of pairs -/
def cLstZip : CT := fun ss P => match ss with
  | [a, b] => ∃ xs ys, seqS a = some xs ∧ seqS b = some ys ∧ P (.m (zipD xs ys)) ss
  | _ => False
theorem snd_lstZip : Snd K (rLstZip K.1) cLstZip := by
  intro vs H ss ex P Q hl h hc q
  unfold cLstZip at hc
  split at hc
  · rename_i s1 s2
    obtain ⟨v, w, rfl⟩ := two_slots hl
    obtain ⟨xs, ys, e1, e2, p⟩ := hc
    obtain ⟨a, vx, rfl, q1, d1⟩ := h.seq (List.mem_cons_self) e1
    obtain ⟨b, vy, rfl, q2, d2⟩ := h.seq (List.mem_cons_of_mem _ List.mem_cons_self) e2
    refine ⟨a, b, vx, vy, rfl, q1.imp SqL.of id, q2.imp SqL.of id, fun ts H2 l g n => ?_⟩
    obtain ⟨hs, le, dts⟩ := grows_ok h g _ (zip_pd d1 d2)
    exact q _ _ _ _ p rfl (hs.new_m n dts)
  · exact hc.elim
end
theorem de_lstZip {T : Tbs} {X : Cx} {a b : Expr} {u : TDA} {p p2 q pos : Pos} (hm : X.mg "list" = none) (hm2 : X.mg "zip" = none) (ha : DA T X [a, b] u) (hg : Gl X "list" := by rfl) (hg2 : Gl X "zip" := by rfl) (hc : X.calm = true := by rfl)
    (na : starEach [.Call (.Name "zip" p2) [a, b] [] q] X.env = (false, eval (.Call (.Name "zip" p2) [a, b] [] q) X.env) :: starEach [] X.env := by rfl)
    (hs : starEach [a, b] X.env = (false, eval a X.env) :: starEach [b] X.env := by rfl) (hpl : (backTo q (starEach [b] X.env)).any (·.1) = false := by rfl) :
    DE T X (.Call (.Name "list" p) [.Call (.Name "zip" p2) [a, b] [] q] [] pos) (tAp u cLstZip) :=
  de_ap (fun ta h => ⟨_, pe_lstZip hg hm hg2 hm2 h hc na hs hpl, fun σ H Q z => z⟩) snd_lstZip ha
end DL

namespace DL
open PySem PySem.Spec PyProof.Rows L2 RZ
/-! ## own lists that are let go for a call: from then on no one changes them -/
def Soft (ss ss2 : List SV) : Prop := Paired (fun a b => b = a ∨ b = frz a) ss ss2
theorem Hs.soft {K : KF} : ∀ {vs : List V} {ss ss2 : List SV} {ex : List Sl} {H : Hp}, Soft ss ss2 → Hs K H (tmpS vs ss ++ ex) → vs.length = ss.length → Hs K H (tmpS vs ss2 ++ ex)
  | [], _, _, _, _, .nil, h, _ => h
  | v :: vs, s :: ss, s2 :: ss2, ex, H, .cons e r, h, hl => by
    have h1 : Hs K H ((some v, s) :: (tmpS vs ss ++ ex)) := h
    have h2 : Hs K H ((some v, s2) :: (tmpS vs ss ++ ex)) := by
      rcases e with (e | e)
      · rw [e]; exact h1
      · rw [e]; exact h1.frz
    have h3 := Hs.soft r h2.mid (by simpa using hl)
    exact h3.front
  | [], _, _, _, _, .cons _ _, _, hl => by cases hl
theorem soft_len {ss ss2 : List SV} (h : Soft ss ss2) : ss.length = ss2.length := Paired.length h
def softC (c : CT) : CT := fun ss P => ∃ ss2, Soft ss ss2 ∧ c ss2 P
theorem Fnd.soft {P : Program} {w : World} {K : PySem.W.Frag} {T : Tbs} {mg : Str → Option Value} {base : Heap} {k : Nat} {x : Str} {ps : List Str} {c : CT} (h : Fnd P w K T mg base k x ps c) : Fnd P w K T mg base k x ps (softC c) := by
  obtain ⟨f, fd, h1, h2⟩ := h
  refine ⟨f, fd, h1.imp fun vs H Q E ⟨hl, ss, ex, P, a, b, ⟨ss2, pr, c⟩, d⟩ => ?_, h2⟩
  exact ⟨hl, ss2, ex, P, a.trans (soft_len pr), Hs.soft pr b a, c, fun s ss' v H' p hl' hs => d s ss' v H' p (hl'.trans (soft_len pr).symm) hs⟩
/-- what no one may ask for stands at every name of a def -/
theorem Fnd.zero {P : Program} {w : World} {K : PySem.W.Frag} {T : Tbs} {mg : Str → Option Value} {base : Heap} {x qual : Str} {st : Stmt} {f : Addr} {fd : FuncData} {ps : List Str} {c : CT} (F : Fun K x qual st f fd) (hb : Binds K fd ps []) (hm : mg x = some (.ref f)) (h : ∀ ss Q, ¬ c ss Q) : Fnd P w K T mg base 0 x ps c :=
  ⟨f, fd, ⟨fun vs H Q E hs => hs.1, fun A outer s H args us vs Q E hr he hb' hv hs => by obtain ⟨_, ss, ex, P', _, _, hc, _⟩ := hs; exact absurd hc (h ss P')⟩, hb, F.kp, hm, fun_at F⟩
/-- all(bs), bs a list of bools -/
def cAllB : CT := fun ss P => match ss with
  | [a] => ∃ bs : List Bool, lis a = some (bs.map PyData.bool) ∧ P (.d (.bool (bs.all id))) ss
  | _ => False
theorem dt_bools {K : PySem.W.Frag} {H : Hp} : ∀ {vs : List V} {bs : List Bool}, DtAll K H vs (bs.map PyData.bool) → vs = bs.map V.bl
  | [], [], _ => rfl
  | [], _ :: _, h => by cases h
  | _ :: _, [], h => by cases h
  | v :: vs, b :: bs, h => by
    cases h with
    | cons a r =>
      cases a
      rw [dt_bools r]; rfl
theorem snd_allB {K : KF} : Snd K (rAll K.1) cAllB := by
  intro vs H ss ex P Q hl h hc q
  unfold cAllB at hc
  split at hc
  · obtain ⟨v, rfl⟩ := one_slot hl
    obtain ⟨bs, e, p⟩ := hc
    obtain ⟨a, ws, rfl, hh, d⟩ := h.li (List.mem_cons_self) e
    have e2 := dt_bools d
    subst e2
    exact ⟨a, bs, rfl, SqL.of hh, q _ _ _ _ p rfl (h.cons_d (.bl _))⟩
  · exact hc.elim
section
variable {T : Tbs} {X : Cx} {e : Expr} {es : List Expr} {u : TDA} {p pos : Pos}
theorem de_all (hm : X.mg "all" = none) (hc : X.calm = true) (ha : DA T X (e :: es) u) (hg : Gl X "all" := by rfl)
    (he : starEach (e :: es) X.env = (false, eval e X.env) :: starEach es X.env := by rfl) (hpl : (backTo pos (starEach es X.env)).any (·.1) = false := by rfl) : DE T X (.Call (.Name "all" p) (e :: es) [] pos) (tAp u cAllB) :=
  de_callB (cr_all hc) snd_allB hm (by decide +kernel) ha hg (by decide) (by decide) he hpl
end
end DL

namespace DL
open PySem PySem.Spec PyProof.Rows L2 RZ
/-! ## a method of an own list that has a name: the arguments may read the list, too -/
def tMv (i : Nat) (u : TDA) (c : CT) : TD := fun Γ P => (∃ xs0, Γ[i]? = some (SV.m xs0)) ∧ u Γ fun rs Γ2 => ∃ xs, Γ2[i]? = some (SV.m xs) ∧ c (.m xs :: rs.map (·.1)) fun s ss => ss.length = rs.length + 1 ∧ P (s, none) (back ((.m xs, some i) :: rs) ss (Γ2.set i .no))
section
variable {T : Tbs} {X : Cx} {e o : Expr} {es : List Expr} {u : TDA} {pos apos p : Pos}
theorem de_methV {i : Nat} {c : CT} {r : V → List V → Hp → VK → Prop} {mk : Expr} (hp : ∀ ta, PA X es ta → ∃ te, PE X mk te ∧ ∀ σ H Q, tVar i σ H (fun x H1 => tyV X.K "list" x H1 ∧ ta σ H1 fun vs H2 => r x vs H2 Q) → te σ H Q)
    (hs : SndM (X.K, T) r c) (ha : DA T X es u) : DE T X mk (tMv i u c) := by
  obtain ⟨ta, h3, h4⟩ := ha
  obtain ⟨te, h5, h6⟩ := hp ta h3
  refine ⟨te, h5, fun σ H Γ ex P Q h p q => h6 σ H Q ?_⟩
  obtain ⟨⟨xs0, e0⟩, p⟩ := p
  obtain ⟨o1, e1, e2⟩ := zip_at h.len e0
  have ok := h.hs.ok _ (List.mem_append_left _ (List.mem_of_getElem? e2))
  obtain ⟨v, rfl⟩ := ok.some (by intro z; cases z)
  have tl : tyV X.K "list" v H := by
    obtain ⟨a, vs, rfl, hh, _⟩ := h.hs.li (List.mem_append_left _ (List.mem_of_getElem? e2)) rfl
    exact .inl ⟨rfl, vs, SqL.of hh⟩
  refine ⟨v, e1, tl, ?_⟩
  refine h4 σ H Γ _ _ _ h p fun vs H2 rs Γ2 he2 og2 p2 => ?_
  obtain ⟨xs, e3, p2⟩ := p2
  obtain ⟨o2, e4, e5⟩ := zip_at he2.len e3
  rw [e1] at e4
  cases e4
  have he3 := set_no he2 e1 e5
  have hx : Hs (X.K, T) H2 ((some v, .m xs) :: (tmpS vs (rs.map (·.1)) ++ (σ.zip (Γ2.set i .no) ++ ex))) := by
    have h1 : Hs (X.K, T) H2 (((some v, .m xs) :: tmp vs rs) ++ (σ.zip (Γ2.set i .no) ++ ex)) := HE.outs (a := (some v, .m xs) :: tmp vs rs) he3
    exact h1
  refine hs v vs H2 (.m xs) (rs.map (·.1)) _ _ _ (by rw [List.length_map]; exact vals_len og2) hx p2 fun z s' ss' y H3 p3 l3 h7 => ?_
  have h8 : HE (X.K, T) H3 σ (Γ2.set i .no) (tmpS (v :: vs) (s' :: ss') ++ ((some y, z) :: ex)) := by
    refine HE.ins he3.len ?_
    show Hs (X.K, T) H3 ((some v, s') :: (tmpS vs ss' ++ (σ.zip (Γ2.set i .no) ++ (some y, z) :: ex)))
    refine h7.perm ?_
    refine (List.Perm.swap _ _ _).trans (List.Perm.cons _ ?_)
    refine (List.perm_middle (a := ((some y, z) : Sl)) (l₁ := tmpS vs ss') (l₂ := σ.zip (Γ2.set i .no) ++ ex)).symm.trans (List.Perm.append_left _ ?_)
    exact (List.perm_middle (a := ((some y, z) : Sl)) (l₁ := σ.zip (Γ2.set i .no)) (l₂ := ex)).symm
  have og : Og σ v ((SV.m xs, some i) : R) := fun j z => by cases z; exact e1
  exact q y H3 (z, none) _ (HE.back (rs := (.m xs, some i) :: rs) (vs := v :: vs) p3.1 (.cons og og2) h8) Og.none p3.2
theorem de_popV (i : Nat) {x : Str} {xp : Pos} (hv : PE X (.Name x xp) (tVar i)) (ha : DA T X (e :: es) u) (hbase : attributeBase (.Name x xp) "pop" X.env (eval (.Name x xp) X.env) = eval (.Name x xp) X.env := by rfl)
    (hfew : ((backTo pos (starEach (e :: es) X.env)).all (fun x => !x.1) && (backToKw pos (keywordEach [] X.env)).all (fun x => x.1.isSome) && decide ((e :: es).length + ([] : List Keyword).length + (if ([] : List Keyword).isEmpty then 0 else 1) < 30)) = true := by rfl)
    (hline : (apos.endLine == pos.line) = true := by rfl) (hs : starEach (e :: es) X.env = (false, eval e X.env) :: starEach es X.env := by rfl) (hplain : (backTo pos (starEach es X.env)).any (·.1) = false := by rfl) :
    DE T X (.Call (.Attribute (.Name x xp) "pop" apos) (e :: es) [] pos) (tMv i u cPopAt) :=
  de_methV (fun ta h2 => ⟨_, pe_bm PySem.F.plainAttrs_list PySem.F.slot_list_pop PySem.F.type_list_pop mt_popAt hv h2 hbase hfew hline hs hplain, fun σ H Q z => z⟩) snd_popAt ha
end
end DL

namespace DL
open PySem PySem.Spec PyProof.Rows L2 RZ
/-! ## f(k = v, ..): arguments by name alone -/
theorem pe_callK0 {X : Cx} {k : Nat} {f : Addr} {fd : FuncData} {ps ks : List Str} {sp : Sp} {CX : CXT} {E : XK} {x : Str} {p pos : Pos} {kws : List Keyword} {tk : TA} {g : List Value → List Value → List Value} {gV : List V → List V → List V}
    (F : FnOk X.prog X.w X.K X.mg X.base CX k f fd ps sp) (hr : Room k X.A) (hg : Gl X x) (hm : X.mg x = some (.ref f)) (hk : PySem.W.keepIn X.K (.ref f) = true) (hb : KBinds X.K fd ps ks g gV) (hx : Passes CX X E) (hkw : PK X kws tk)
    (hall : (backToKw pos (keywordEach kws X.env)).all (·.1.isSome) = true := by rfl)
    (hks : (backToKw pos (keywordEach kws X.env)).filterMap (·.1) = ks := by rfl)
    (hdb : (x == ("__debug__" : Str)) = false := by decide)
    (hpl : ((backTo pos (starEach [] X.env)).any (·.1) || (backToKw pos (keywordEach kws X.env)).any (·.1.isNone)) = false := by rfl) : PE X (.Call (.Name x p) [] kws pos) (fun σ H Q => tk σ H fun zs H2 => sp (gV [] zs) H2 Q E) := by
  refine ⟨fun pins s σ H Q I h => wpAny_Call_Name_kw (ld_glob I hg hm ?_ hdb)⟩
  refine PySem.W.callWith_KW0 (h₀ := X.base) I.ok.mod.kin hk hall (thn (hkw.run pos pins s σ H _ I h) fun ws s2 ⟨zs, H2, J, rz, q2⟩ => ⟨J.kIn, ?_⟩) hpl
  rw [hks]; exact run_fnk (us := []) (vs := []) F hr hb hx J .nil rz q2
def DK (T : Tbs) (X : Cx) (kws : List Keyword) (t : TDA) : Prop := ∃ ta, PK X kws ta ∧ ∀ σ H Γ ex (P : List R → G → Prop) (Q : List V → Hp → Prop), HE (X.K, T) H σ Γ ex → t Γ P →
  (∀ vs H' rs Γ', HE (X.K, T) H' σ Γ' (tmp vs rs ++ ex) → Ogs σ vs rs → P rs Γ' → Q vs H') → ta σ H Q
theorem dk_nil {T : Tbs} {X : Cx} : DK T X [] tdNil := ⟨_, pk_nil, fun σ H Γ ex P Q h p q => q [] H [] Γ h .nil p⟩
theorem dk_cons {T : Tbs} {X : Cx} {e : Expr} {t : TD} {u : TDA} {nm : Option Str} {kpos : Pos} {kws : List Keyword} (ha : DE T X e t) (hr : DK T X kws u) : DK T X (⟨nm, e, kpos⟩ :: kws) (tdCons t u) := by
  obtain ⟨te, h1, h2⟩ := ha
  obtain ⟨tr, h3, h4⟩ := hr
  refine ⟨_, pk_cons h1 h3, fun σ H Γ ex P Q h p q => ?_⟩
  refine h2 σ H Γ ex _ _ h p fun v H1 r Γ1 he og p1 => ?_
  refine h4 σ H1 Γ1 _ _ _ he p1 fun vs H2 rs Γ2 he2 ogs p2 => ?_
  refine q (v :: vs) H2 (r :: rs) Γ2 (he2.perm ?_) (.cons og ogs) p2
  exact List.perm_middle
/-- two arguments the other way round -/
def sw2 {α : Type} : List α → List α
  | [a, b] => [b, a]
  | l => l
def gSw (us ws : List Value) : List Value := match us with
  | [] => sw2 ws
  | _ => []
def gSwV (vs zs : List V) : List V := match vs with
  | [] => sw2 zs
  | _ => []
def gId (us ws : List Value) : List Value := match us with
  | [] => ws
  | _ => []
def gIdV (vs zs : List V) : List V := match vs with
  | [] => zs
  | _ => []
def swC (c : CT) : CT := fun ss P => match ss with
  | [a, b] => c [b, a] fun s ss' => ∃ x y, ss' = [x, y] ∧ P s [y, x]
  | _ => False
/-- a def with two parameters, called by their names in the other order -/
structure FndS (P : Program) (w : World) (K : PySem.W.Frag) (T : Tbs) (mg : Str → Option Value) (base : Heap) (k : Nat) (x p1 p2 : Str) (c : CT) : Prop where
  ex : ∃ f fd, FnOk P w K mg base CX0 k f fd [p1, p2] (spOf (K, T) 2 c) ∧ KBinds K fd [p1, p2] [p2, p1] gSw gSwV ∧ KBinds K fd [p1, p2] [p1, p2] gId gIdV ∧ PySem.W.keepIn K (.ref f) = true ∧ mg x = some (.ref f) ∧ ∃ oc od osl, K.lookup f = some ⟨oc, od, .func fd, osl⟩
theorem FndS.mono {P : Program} {w : World} {K : PySem.W.Frag} {T : Tbs} {mg : Str → Option Value} {base : Heap} {j k : Nat} {x p1 p2 : Str} {c : CT} (h : FndS P w K T mg base j x p1 p2 c) (l : j ≤ k) : FndS P w K T mg base k x p1 p2 c := by
  obtain ⟨f, fd, h1, h2⟩ := h.ex
  exact ⟨f, fd, h1.mono l, h2⟩
theorem snd_sw {K : KF} {c : CT} {E : XK} : Snd K (fun zs H Q => spOf K 2 c (gSwV [] zs) H Q E) (swC c) := by
  intro vs H ss ex P Q hl h hc q
  unfold swC at hc
  split at hc
  · rename_i a b
    obtain ⟨v, w, rfl⟩ := two_slots hl
    refine ⟨rfl, [b, a], ex, _, rfl, Hs.swap2 (a := (some v, a)) (b := (some w, b)) h, hc, ?_⟩
    rintro s ss' u H' ⟨x, y, rfl, p⟩ _ hs
    refine q s [y, x] u H' p rfl ?_
    have h1 : Hs K H' ((some u, s) :: (some w, x) :: (some v, y) :: ex) := hs
    exact h1.perm (List.Perm.cons _ (List.Perm.swap _ _ _))
  · exact hc.elim
theorem snd_id {K : KF} {c : CT} {E : XK} : Snd K (fun zs H Q => spOf K 2 c (gIdV [] zs) H Q E) (cN 2 c) := by
  intro vs H ss ex P Q hl h ⟨hn, hc⟩ q
  exact ⟨hl.trans hn, ss, ex, P, hl, h, hc, q⟩
section
variable {P : Program} {w : World} {K : PySem.W.Frag} {T : Tbs} {mg : Str → Option Value} {base : Heap} {x qual : Str} {st : Stmt} {f : Addr} {fd : FuncData} {p1 p2 : Str} {k : Nat} {c : CT}
theorem vals_sw : ∀ {zs : List V} {ws : List Value}, Vals zs ws → Vals (sw2 zs) (sw2 ws)
  | _, _, .nil => .nil
  | _, _, .cons a .nil => .cons a .nil
  | _, _, .cons a (.cons b .nil) => .cons b (.cons a .nil)
  | _, _, .cons a (.cons b (.cons d r)) => .cons a (.cons b (.cons d r))
theorem kb_sw (F : Fun K x qual st f fd) (h : ∀ (kV doc pm : Value) (an : Option Addr) (cdv ct a b : Value), bindArgs (PySem.W.fnOf x qual (defArgs st) (defBody st) (defScope st) .none kV doc pm an cdv ct) ⟨[], [(p2, b), (p1, a)]⟩ = pure [(p1, a), (p2, b)]) : KBinds K fd [p1, p2] [p2, p1] gSw gSwV := by
  obtain ⟨oc, od, kV, doc, pm, an, cdv, ct, osl, rfl, lk, hcd⟩ := F.ex
  refine ⟨fun s us ws hin hl => ?_, fun r rz => ?_⟩
  · match us, ws, hl with
    | [], [b, a], _ => exact .of_eq (h kV doc pm an cdv ct a b)
    | [], [], hl => cases hl
    | [], [_], hl => cases hl
    | [], _ :: _ :: _ :: _, hl => simp [gSw, sw2] at hl
    | _ :: _, _, hl => cases hl
  · cases r with
    | nil => exact vals_sw rz
    | cons _ _ => exact .nil
theorem kb_id (F : Fun K x qual st f fd) (h : ∀ (kV doc pm : Value) (an : Option Addr) (cdv ct a b : Value), bindArgs (PySem.W.fnOf x qual (defArgs st) (defBody st) (defScope st) .none kV doc pm an cdv ct) ⟨[], [(p1, a), (p2, b)]⟩ = pure [(p1, a), (p2, b)]) : KBinds K fd [p1, p2] [p1, p2] gId gIdV := by
  obtain ⟨oc, od, kV, doc, pm, an, cdv, ct, osl, rfl, lk, hcd⟩ := F.ex
  refine ⟨fun s us ws hin hl => ?_, fun r rz => ?_⟩
  · match us, ws, hl with
    | [], [a, b], _ => exact .of_eq (h kV doc pm an cdv ct a b)
    | [], [], hl => cases hl
    | [], [_], hl => cases hl
    | [], _ :: _ :: _ :: _, hl => simp [gId] at hl
    | _ :: _, _, hl => cases hl
  · cases r with
    | nil => exact rz
    | cons _ _ => exact .nil
end
section
variable {T : Tbs} {X : Cx} {u : TDA} {k : Nat} {x p1 p2 : Str} {c : CT} {p pos : Pos} {kws : List Keyword}
theorem de_apK {r : List V → Hp → VK → Prop} {mk : Expr} (hp : ∀ ta, PK X kws ta → ∃ te, PE X mk te ∧ ∀ σ H Q, ta σ H (fun vs H1 => r vs H1 Q) → te σ H Q) (hs : Snd (X.K, T) r c) (ha : DK T X kws u) : DE T X mk (tAp u c) := by
  obtain ⟨ta, h1, h2⟩ := ha
  obtain ⟨te, h3, h4⟩ := hp ta h1
  refine ⟨te, h3, fun σ H Γ ex P Q h p q => h4 σ H Q ?_⟩
  refine h2 σ H Γ ex _ _ h p fun vs H1 rs Γ1 he og p1 => ?_
  have hl := vals_len og
  have hx : Hs (X.K, T) H1 (tmpS vs (rs.map (·.1)) ++ (σ.zip Γ1 ++ ex)) := HE.outs (a := tmp vs rs) he
  refine hs vs H1 (rs.map (·.1)) _ _ _ (by rw [List.length_map]; exact hl) hx p1 fun s ss v H2 p2 l2 h5 => ?_
  have h6 : HE (X.K, T) H2 σ Γ1 (tmpS vs ss ++ ((some v, s) :: ex)) := by
    refine HE.ins he.len (h5.perm ?_)
    refine (List.perm_middle (a := ((some v, s) : Sl)) (l₁ := tmpS vs ss) (l₂ := σ.zip Γ1 ++ ex)).symm.trans (List.Perm.append_left _ ?_)
    exact (List.perm_middle (a := ((some v, s) : Sl)) (l₁ := σ.zip Γ1) (l₂ := ex)).symm
  exact q v H2 (s, none) _ (HE.back (rs := rs) (vs := vs) (by rw [l2, List.length_map]) og h6) Og.none p2
theorem de_callS (F : FndS X.prog X.w X.K T X.mg X.base k x p1 p2 c) (hr : Room k X.A) (ha : DK T X kws u) (hg : Gl X x := by rfl) (hdb : (x == ("__debug__" : Str)) = false := by decide)
    (hall : (backToKw pos (keywordEach kws X.env)).all (·.1.isSome) = true := by rfl) (hks : (backToKw pos (keywordEach kws X.env)).filterMap (·.1) = [p2, p1] := by rfl)
    (hpl : ((backTo pos (starEach [] X.env)).any (·.1) || (backToKw pos (keywordEach kws X.env)).any (·.1.isNone)) = false := by rfl) : DE T X (.Call (.Name x p) [] kws pos) (tAp u (swC c)) := by
  obtain ⟨f, fd, h1, h2, _, h3, h4, _⟩ := F.ex
  exact de_apK (r := fun zs H Q => spOf (X.K, T) 2 c (gSwV [] zs) H Q E0) (fun ta h => ⟨_, pe_callK0 h1 hr hg h4 h3 h2 pass0 h hall hks hdb hpl, fun σ H Q z => z⟩) snd_sw ha
theorem de_callN (F : FndS X.prog X.w X.K T X.mg X.base k x p1 p2 c) (hr : Room k X.A) (ha : DK T X kws u) (hg : Gl X x := by rfl) (hdb : (x == ("__debug__" : Str)) = false := by decide)
    (hall : (backToKw pos (keywordEach kws X.env)).all (·.1.isSome) = true := by rfl) (hks : (backToKw pos (keywordEach kws X.env)).filterMap (·.1) = [p1, p2] := by rfl)
    (hpl : ((backTo pos (starEach [] X.env)).any (·.1) || (backToKw pos (keywordEach kws X.env)).any (·.1.isNone)) = false := by rfl) : DE T X (.Call (.Name x p) [] kws pos) (tAp u (cN 2 c)) := by
  obtain ⟨f, fd, h1, _, h2, h3, h4, _⟩ := F.ex
  exact de_apK (r := fun zs H Q => spOf (X.K, T) 2 c (gIdV [] zs) H Q E0) (fun ta h => ⟨_, pe_callK0 h1 hr hg h4 h3 h2 pass0 h hall hks hdb hpl, fun σ H Q z => z⟩) snd_id ha
end
end DL

/-! sets of keys that stand in the heap, whatever their kind -/
namespace DL
open PySem PySem.Spec PyProof.Rows L2

/-- a kind of keys that a set may hold -/
structure MK (P : Program) (w : World) (κ : Type) [DecidableEq κ] where
  kd : HeapKind P w κ
  grow : ∀ {h h' : Heap} {k : κ} {a : Addr}, kd.is h k a → (∀ c o, h.get? c = some o → h'.get? c = some o) → kd.is h' k a
  aside : ∀ {h h' : Heap} {k : κ} {a S : Addr} {o : Obj} {es ep t}, kd.is h k a → h.get? S = some o → o.data = .set es ep t → Heap.SameBut S h h' → kd.is h' k a
  cls : ∀ {A : Around} {E : Value → Shared → Prop} {s : Shared} {k : κ} {a : Addr} {Q : Bool → Shared → Prop}, kd.is s.heap k a → Q false s → wpAny (model P w) A (ofAClassStatement 8 (.ref a)) Q E s
  byv : ∀ {A : Around} {E : Value → Shared → Prop} {s : Shared} {k : κ} {a : Addr} {Q : Bool → Shared → Prop}, kd.is s.heap k a → (∀ b, Q b s) → wpAny (model P w) A (hashByValue 8 (.ref a)) Q E s

section
variable {P : Program} {w : World} {κ : Type} [DecidableEq κ] {m : MK P w κ} {A : Around} {E : Value → Shared → Prop} {s : Shared}

/-- nothing of a search among such keys can be seen -/
theorem MK.unseen {x : Addr} {k : κ} {Q : Bool → Shared → Prop} (hx : m.kd.is s.heap k x) : ∀ (ys : List Value), (∀ y ∈ ys, ∃ k' c, y = Value.ref c ∧ m.kd.is s.heap k' c) → Q false s →
    wpAny (model P w) A (searchCouldBeSeen (.ref x) ys) Q E s := by
  intro ys hy hq
  unfold searchCouldBeSeen
  refine wpAny_bind (wpAny_forIn_list _ (fun rest r st => st = s ∧ r.1 = none ∧ ∀ y ∈ rest, ∃ k' c, y = Value.ref c ∧ m.kd.is s.heap k' c) _ ?one ?done _ _ ⟨rfl, rfl, hy⟩)
  case done =>
    rintro ⟨u1, u2⟩ st ⟨rfl, e, _⟩
    cases (show u1 = none from e)
    exact wpAny_pure hq
  case one =>
    rintro v rest r st ⟨rfl, e, all⟩
    have tl := fun y (q : y ∈ rest) => all y (List.mem_cons_of_mem _ q)
    obtain ⟨k', c, rfl, hc⟩ := all v List.mem_cons_self
    dsimp only
    by_cases b : (x == c || (carriedByValue (.ref x) && carriedByValue (.ref c))) = true
    · exact wp_if_pos b (wpAny_pure ⟨rfl, rfl, tl⟩)
    · refine wp_if_neg b (wpAny_bind (m.kd.quiet hx ?_))
      simp only [Bool.not_true, Bool.false_eq_true, if_false]
      refine wpAny_bind (m.kd.quiet hc ?_)
      simp only [Bool.not_true, Bool.false_eq_true, if_false]
      refine wpAny_bind (m.cls hx ?_)
      simp only [Bool.false_eq_true, if_false]
      refine wpAny_bind (m.cls hc ?_)
      simp only [Bool.false_eq_true, if_false]
      exact wpAny_pure ⟨rfl, rfl, tl⟩

/-- the rows of a table -/
def rw_ (m : MK P w κ) (M : List (κ × Addr)) : List (Int × Value) := M.map fun q => (m.kd.hash q.1, Value.ref q.2)
def hsh (m : MK P w κ) (M : List (κ × Addr)) : List Int := M.map fun q => m.kd.hash q.1
/-- at S stands a set with the members M -/
structure Tb (m : MK P w κ) (h : Heap) (S : Addr) (M : List (κ × Addr)) (es : Array (Int × Value)) (ep : Nat) (t : SetTable) : Prop where
  at_ : ∃ o, h.get? S = some o ∧ o.ExactSet ∧ o.data = .set es ep t
  es_ : es.toList = rw_ m M
  tab : TabOk t (hsh m M)
  uni : (M.map Prod.fst).Nodup
  mem : ∀ q ∈ M, m.kd.is h q.1 q.2
  ld : w.params.followText "set-order" = true ∨ t.led = true
  wide : M.length * 5 < t.mask * 3
  low : M.length < 64
variable {S : Addr} {M : List (κ × Addr)} {es : Array (Int × Value)} {ep : Nat} {t : SetTable}
theorem len_of_rows (e : es.toList = rw_ m M) : es.size = M.length := by
  have := congrArg List.length e
  simpa [rw_] using this
theorem hsh_len : (hsh m M).length = M.length := List.length_map _
theorem fits_of (e : t.place.size = es.size) (d : t.dummies = #[]) (l : es.size ≤ t.mask) : t.fits es.size = true := by
  unfold SetTable.fits SetTable.fill
  simp only [d, Bool.and_eq_true, beq_iff_eq, decide_eq_true_eq]
  exact ⟨e, by show t.place.size + 0 ≤ t.mask; omega⟩
theorem Tb.fit (R : Tb m s.heap S M es ep t) : t.fits es.size = true := by
  have h1 := R.tab.sz
  have h2 := len_of_rows R.es_
  have h3 := R.wide
  rw [hsh_len] at h1
  exact fits_of (by omega) R.tab.dm (by omega)
theorem Tb.row (R : Tb m s.heap S M es ep t) {i : Nat} {q : κ × Addr} (e : M[i]? = some q) : es[i]? = some (m.kd.hash q.1, Value.ref q.2) := by
  have h1 : es[i]? = es.toList[i]? := Array.getElem?_toList.symm
  rw [h1, R.es_, rw_, List.getElem?_map, e]
  rfl
theorem Tb.there (R : Tb m s.heap S M es ep t) {i j : Nat} (e : t.place.toList[i]? = some j) : ∃ q, M[i]? = some q := by
  have h1 := (List.getElem?_eq_some_iff.mp e).1
  have h2 := R.tab.sz
  rw [hsh_len] at h2
  rw [Array.length_toList, h2] at h1
  exact ⟨_, List.getElem?_eq_getElem h1⟩
theorem dummy_nth (mk : Nat) : ∀ (n : Nat) (p : SetTable.Probe), p.dummy = none → (nth mk p n).dummy = none
  | 0, _, e => e
  | n + 1, p, e => dummy_nth mk n (adv mk p) (by unfold adv; split <;> exact e)

/-- the way's n-th state -/
abbrev stepAt (t : SetTable) (hv : Int) (n : Nat) : SetTable.Probe := nth t.mask (runAt t.mask (SetTable.bits hv % (t.mask + 1)) (SetTable.bits hv)) n
theorem stepAt_add (t : SetTable) (hv : Int) (c q : Nat) : nth t.mask (stepAt t hv c) q = stepAt t hv (c + q) := (nth_add t.mask c _ q).symm
/-- what a search for k finds -/
structure Seek (m : MK P w κ) (t : SetTable) (M : List (κ × Addr)) (k : κ) (K c : Nat) : Prop where
  in_ : c ≤ K
  ahead : ∀ (i : Nat) (q : κ × Addr), M[i]? = some q → q.1 = k → ∃ n, c ≤ n ∧ n < K ∧ t.place.toList[i]? = some (way t.mask (m.kd.hash k) n)

theorem seek_run (R : Tb m s.heap S M es ep t) (hr : m.kd.room A) {x : Addr} {k : κ} (hx : m.kd.is s.heap k x) {K : Nat} (K1 : K < 10 * SetTable.turns t.mask)
    (K2 : way t.mask (m.kd.hash k) K ∉ t.place.toList) (K3 : ∀ n, n < K → way t.mask (m.kd.hash k) n ∈ t.place.toList) {Q : SetFound → Shared → Prop}
    (yes : k ∈ M.map Prod.fst → Q (.there none) s) (no : k ∉ M.map Prod.fst → Q (.free (way t.mask (m.kd.hash k) K) false) s) :
    ∀ (f c : Nat) (st : Option SetTable.Probe), Seek m t M k K c → K < c + f → st.getD (t.probeStart (m.kd.hash k)) = stepAt t (m.kd.hash k) c →
      wpAny (model P w) A (setSearchFrom S (.ref x) (m.kd.hash k) true f st) Q E s := by
  obtain ⟨o, g1, g2, g3⟩ := R.at_
  have gw : ¬ t.gaveWay = true := by unfold SetTable.gaveWay; rw [mask_odd R.tab.mok]; decide
  intro f
  induction f with
  | zero => intro c st sk z _; exact absurd sk.in_ (by omega)
  | succ f ih =>
    intro c st sk z e
    have sp := go_spec t R.tab.ris R.tab.dm (fun i => (es[i]?.map (·.1)).getD 0) (m.kd.hash k) (10 * SetTable.turns t.mask) (K - c) (stepAt t (m.kd.hash k) c) (dummy_nth _ c _ rfl) (by omega)
      (fun q hq => by rw [stepAt_add]; exact K3 (c + q) (by omega)) (by rw [stepAt_add, show c + (K - c) = K from Nat.add_sub_cancel' sk.in_]; exact K2)
    have told : ∀ (i : Nat) q, M[i]? = some q → (es[i]?.map (·.1)).getD 0 = m.kd.hash q.1 := fun i q hq => by rw [R.row hq]; rfl
    rw [setSearchFrom_succ]
    refine wpAny_bind (wpAny_setState_of g1 g3 R.fit ?_)
    dsimp only
    refine wp_if_neg gw ?_
    try refine wpAny_bind (wpAny_pure ?_)
    rcases sp with ⟨n, i, n1, n2, n3, n4, pr⟩ | ⟨n4, pr⟩
    · -- some row has this hash
      have pr2 : t.probe (fun i => (es[i]?.map (·.1)).getD 0) (m.kd.hash k) (st.getD (t.probeStart (m.kd.hash k))) = some (.candidate (way t.mask (m.kd.hash k) (c + n)) i (stepAt t (m.kd.hash k) (c + (n + 1)))) := by
        rw [e, ← stepAt_add t (m.kd.hash k) c (n + 1)]
        have pj : way t.mask (m.kd.hash k) (c + n) = (nth t.mask (stepAt t (m.kd.hash k) c) n).j := by rw [stepAt_add]
        rw [pj]
        exact pr
      rw [pr2]
      dsimp only
      rw [stepAt_add] at n2
      obtain ⟨q, hq⟩ := R.there n2
      have hm : q ∈ M := List.mem_of_getElem? hq
      have live : t.slot (way t.mask (m.kd.hash k) (c + n)) = .live i := slot_live R.tab.ris n2
      have go : wpAny (model P w) A (searchRest S (.ref x) (m.kd.hash k) true f es t (way t.mask (m.kd.hash k) (c + n)) i (stepAt t (m.kd.hash k) (c + (n + 1)))) Q E s := by
        unfold searchRest
        rw [R.row hq]
        dsimp only
        refine wpAny_bind (wpAny_holding (m.kd.eqBool hr (R.mem q hm) hx ?_))
        refine wpAny_bind (wpAny_setState_of g1 g3 R.fit ?_)
        dsimp only
        by_cases same : q.1 = k
        · exact wp_if_pos (by simp [same]) (wpAny_pure (yes (List.mem_map.mpr ⟨q, hm, same⟩)))
        · refine wp_if_neg (by simp [same]) ?_
          try refine wpAny_bind (wpAny_pure ?_)
          rw [sameMem]
          dsimp only
          simp only [if_true, live, R.row hq]
          refine wpAny_bind (wpAny_isSame_ref_self (wpAny_bind (wpAny_pure ?_)))
          simp only [if_true]
          refine wp_if_neg (by simp [same]) (ih (c + (n + 1)) _ ⟨by omega, fun i' q' hq' ek => ?_⟩ (by omega) rfl)
          obtain ⟨n', a1, a2, a3⟩ := sk.ahead i' q' hq' ek
          refine ⟨n', ?_, a2, a3⟩
          by_cases gt : c + n < n'
          · exact gt
          exfalso
          by_cases eq : n' = c + n
          · rw [eq] at a3
            have l2 := slot_live R.tab.ris a3
            rw [live] at l2
            injection l2 with l2
            rw [← l2, hq] at hq'
            cases hq'
            exact same ek
          · refine n4 (n' - c) i' (by omega) ?_ ((told i' q' hq').trans (by rw [ek]))
            rw [stepAt_add, Nat.add_sub_cancel' a1]
            exact a3
      by_cases l : t.led = true
      · refine wp_if_neg (by simp [l]) ?_
        try refine wpAny_bind (wpAny_pure ?_)
        exact go
      · refine wp_if_pos (by simp [l]) (wpAny_bind (MK.unseen hx _ (fun y hy => ?_) ?_))
        · obtain ⟨r, hr1, rfl⟩ := List.mem_map.mp hy
          have hr2 : r ∈ es.toList := by
            have : r ∈ es ∧ r.1 = m.kd.hash k := by simpa using hr1
            simpa using this.1
          rw [R.es_] at hr2
          obtain ⟨q2, m2, rfl⟩ := List.mem_map.mp hr2
          exact ⟨q2.1, q2.2, rfl, R.mem q2 m2⟩
        · refine wp_if_neg (by decide) ?_
          try refine wpAny_bind (wpAny_pure ?_)
          exact go
    · have pr2 : t.probe (fun i => (es[i]?.map (·.1)).getD 0) (m.kd.hash k) (st.getD (t.probeStart (m.kd.hash k))) = some (.empty (way t.mask (m.kd.hash k) K) none) := by
        have pj : way t.mask (m.kd.hash k) K = (nth t.mask (stepAt t (m.kd.hash k) c) (K - c)).j := by rw [stepAt_add, Nat.add_sub_cancel' sk.in_]
        rw [e, pj]
        exact pr
      rw [pr2]
      dsimp only
      refine wpAny_pure (no fun hk => ?_)
      obtain ⟨q, hq, ek⟩ := List.mem_map.mp hk
      obtain ⟨i, hi, eq⟩ := List.getElem_of_mem hq
      have hq' : M[i]? = some q := by rw [List.getElem?_eq_getElem hi, eq]
      obtain ⟨n', a1, a2, a3⟩ := sk.ahead i q hq' ek
      refine n4 (n' - c) i (by omega) ?_ ((told i q hq').trans (by rw [ek]))
      rw [stepAt_add, Nat.add_sub_cancel' a1]
      exact a3

theorem seek_all (R : Tb m s.heap S M es ep t) (hr : m.kd.room A) {x : Addr} {k : κ} (hx : m.kd.is s.heap k x) {Q : SetFound → Shared → Prop} (yes : k ∈ M.map Prod.fst → Q (.there none) s)
    (no : ∀ K, k ∉ M.map Prod.fst → way t.mask (m.kd.hash k) K ∉ t.place.toList → (∀ n, n < K → way t.mask (m.kd.hash k) n ∈ t.place.toList) → Q (.free (way t.mask (m.kd.hash k) K) false) s) :
    wpAny (model P w) A (setSearch S (.ref x) (m.kd.hash k) true) Q E s := by
  have w1 := R.wide
  obtain ⟨K, K1, K2, K3⟩ := R.tab.first (by rw [hsh_len]; omega) (m.kd.hash k)
  have few : SetTable.turns t.mask ≤ 142 := by
    unfold SetTable.turns
    rcases R.tab.mok with e | e | e <;> omega
  unfold setSearch
  refine seek_run R hr hx K1 K2 K3 yes (fun n => no K n K2 K3) 100000 0 none ⟨Nat.zero_le _, fun i q hq ek => ?_⟩ (by omega) rfl
  have hh : (hsh m M)[i]? = some (m.kd.hash k) := by rw [hsh, List.getElem?_map, hq, ← ek]; rfl
  have hl := (List.getElem?_eq_some_iff.mp hq).1
  have sz := R.tab.sz
  rw [hsh_len] at sz
  have hl2 : i < t.place.toList.length := by rw [Array.length_toList, sz]; exact hl
  obtain ⟨n, n1, n2⟩ := R.tab.before K2 hh (List.getElem?_eq_getElem hl2)
  exact ⟨n, Nat.zero_le _, n1, by rw [n2]; exact List.getElem?_eq_getElem hl2⟩
end
end DL

namespace DL
open PySem PySem.Spec PyProof.Rows L2
section
variable {P : Program} {w : World} {κ : Type} [DecidableEq κ] {m : MK P w κ} {A : Around} {E : Value → Shared → Prop} {s : Shared}
variable {S : Addr} {M : List (κ × Addr)} {es : Array (Int × Value)} {ep : Nat} {t : SetTable}

/-- numbers of rows, turned into rows -/
theorem pick_all {α : Type} (l : List α) : (List.range l.length).filterMap (fun i => l[i]?) = l := by
  induction l with
  | nil => rfl
  | cons x r ih =>
    have one : (fun i => (x :: r)[i]?) 0 = some x := rfl
    rw [List.length_cons, List.range_succ_eq_map, List.filterMap_cons_some one, List.filterMap_map]
    exact congrArg (x :: ·) ih
theorem pick_rows (e : es.toList = rw_ m M) : ∀ ns : List Nat, (∀ n ∈ ns, n < M.length) →
    ns.filterMap (fun n => es[n]?) = rw_ m (ns.filterMap fun n => M[n]?) ∧ hsh m (ns.filterMap fun n => M[n]?) = ns.map fun n => (es.map (·.1)).getD n 0
  | [], _ => ⟨rfl, rfl⟩
  | n :: ns, hb => by
    obtain ⟨q, hq⟩ : ∃ q, M[n]? = some q := ⟨_, List.getElem?_eq_getElem (hb n List.mem_cons_self)⟩
    have he : es[n]? = some (m.kd.hash q.1, Value.ref q.2) := by
      rw [← Array.getElem?_toList, e, rw_, List.getElem?_map, hq]; rfl
    obtain ⟨i1, i2⟩ := pick_rows e ns fun x hx => hb x (List.mem_cons_of_mem _ hx)
    rw [List.filterMap_cons_some he, List.filterMap_cons_some hq, i1]
    refine ⟨rfl, ?_⟩
    have hv : (es.map (·.1)).getD n 0 = m.kd.hash q.1 := by
      have : (es.map (·.1))[n]? = some (m.kd.hash q.1) := by rw [Array.getElem?_map, he]; rfl
      simp [Array.getD_eq_getD_getElem?, this]
    rw [List.map_cons, hv, ← i2]
    rfl

/-- laid anew -/
theorem anew {o : Obj} (g1 : s.heap.get? S = some o) (g2 : o.ExactSet) (g3 : o.data = .set es ep t) (er : es.toList = rw_ m M) (ez : t.place.size = es.size) (ed : t.dummies = #[]) (el : es.size ≤ t.mask)
    (uni : (M.map Prod.fst).Nodup) (mem : ∀ q ∈ M, m.kd.is s.heap q.1 q.2) (ld : w.params.followText "set-order" = true ∨ t.led = true) (low : M.length < 64) {wish N : Nat}
    (n1 : SetTable.sizeAbove wish = N + 1) (n2 : MaskOk N) (n3 : M.length * 5 < N * 3) {Q : Unit → Shared → Prop}
    (q : ∀ h' M' es' ep' t', Heap.SameBut S s.heap h' → Tb m h' S M' es' ep' t' → M'.Perm M → Q () { s with heap := h' }) : wpAny (model P w) A (setRelay S wish) Q E s := by
  have lm := len_of_rows er
  have hN : N ≤ 127 := by rcases n2 with e | e | e <;> omega
  obtain ⟨t', order, r0, r1, r2, r3, r4, r5, r6⟩ := relaid_ok t (hs := es.map (·.1)) (wanted := wish) (M := N) (by omega) n2 (by rw [Array.size_map]; omega)
  rw [Array.size_map, lm] at r1
  obtain ⟨p1, p2⟩ := pick_rows er order.toList fun n hn => List.mem_range.mp (r1.mem_iff.mp hn)
  have pm : (order.toList.filterMap fun n => M[n]?).Perm M := (r1.filterMap _).trans (by rw [pick_all])
  generalize (order.toList.filterMap fun n => M[n]?) = M' at p1 p2 pm
  rw [← p2] at r2
  have rows' : (order.filterMap (es[·]?)).toList = rw_ m M' := by
    first | (rw [Array.toList_filterMap]; exact p1) | simpa using p1
  have lm' := len_of_rows rows'
  have ll := pm.length_eq
  rw [setRelay_eq]
  refine wpAny_bind (wpAny_setState_of g1 g3 (fits_of ez ed el) ?_)
  dsimp only
  refine wp_if_neg (by rw [sizeLine_eq]; omega) ?_
  try refine wpAny_bind (wpAny_pure ?_)
  rw [r0]
  dsimp only
  refine wpAny_bind (wp_if_neg (by rw [lm', lm, ll]; simp) ?_)
  try refine wpAny_bind (wpAny_pure ?_)
  refine wpAny_pure ?_
  dsimp only
  refine wpAny_storeSet_of g1 g3 ?_ (by rw [sizeLine_eq]; omega)
  have sb : Heap.SameBut S s.heap (s.heap.update S (Obj.putSet (order.filterMap (es[·]?)) t')) := Heap.SameBut.update ..
  exact q _ M' _ (ep + 1) t' sb { at_ := ⟨_, store_at g1 g3, ⟨g2.1, g2.2.1, g2.2.2⟩, rfl⟩, es_ := rows', tab := r2, uni := (pm.map _).nodup_iff.mpr uni, mem := fun r hr => m.aside (mem r (pm.mem_iff.mp hr)) g1 g3 sb, ld := by rw [r4]; exact ld, wide := by rw [ll, r3]; exact n3, low := by omega } pm

/-- one more key -/
theorem put_in (R : Tb m s.heap S M es ep t) (hr : m.kd.room A) {x : Addr} {k : κ} (hx : m.kd.is s.heap k x) (hl : M.length + 1 < 64) {Q : Bool → Shared → Prop}
    (q : ∀ b h' M' es' ep' t', Heap.SameBut S s.heap h' → Tb m h' S M' es' ep' t' → (k ∈ M.map Prod.fst ∧ M' = M ∨ k ∉ M.map Prod.fst ∧ M'.Perm ((k, x) :: M)) → Q b { s with heap := h' }) :
    wpAny (model P w) A (setAddHashed S (.ref x) (m.kd.hash k)) Q E s := by
  obtain ⟨o, g1, g2, g3⟩ := R.at_
  have wd := R.wide
  have ls := len_of_rows R.es_
  unfold setAddHashed
  refine wpAny_holding ?_
  rw [show (100000 : Nat) = Nat.succ 99999 from rfl]
  rw [setAddHashedIn_succ S (.ref x) (m.kd.hash k) 99999]
  refine wpAny_bind (wpAny_setState_of g1 g3 R.fit ?_)
  dsimp only
  refine wp_if_neg (by unfold byScan Value.scannable; simp) ?_
  try refine wpAny_bind (wpAny_pure ?_)
  refine wpAny_bind (seek_all R hr hx (fun hk => ?_) fun K hk K2 K3 => ?_)
  · exact wpAny_pure (q false s.heap M es ep t (Heap.SameBut.refl S s.heap) R (.inl ⟨hk, rfl⟩))
  · dsimp only
    refine wpAny_bind (wpAny_setState_of g1 g3 R.fit ?_)
    dsimp only
    obtain ⟨u1, u2, u3, u4, u5, u6, _, _, u9⟩ := R.tab.put K2 K3
    rw [hsh_len] at u2 u9
    generalize eb : SetTable.below t.place (way t.mask (m.kd.hash k) K) = b at u1 u2 u3
    generalize ep_ : t.put (way t.mask (m.kd.hash k) K) = pt at u1 u3 u4 u5 u6 u9 ⊢
    obtain ⟨t1, b1⟩ := pt
    dsimp only at u1 u3 u4 u5 u6 u9 ⊢
    subst u1
    -- the rows then
    have e1 : (SetTable.insertAt es b1 (m.kd.hash k, Value.ref x)).toList = rw_ m (M.take b1 ++ (k, x) :: M.drop b1) := by
      rw [SetTable.toList_insertAt, R.es_]
      simp only [rw_, List.map_append, List.map_cons, List.map_take, List.map_drop]
    have e2 : hsh m (M.take b1 ++ (k, x) :: M.drop b1) = (hsh m M).take b1 ++ m.kd.hash k :: (hsh m M).drop b1 := by
      simp only [hsh, List.map_append, List.map_cons, List.map_take, List.map_drop]
    rw [← e2] at u3
    have pm : (M.take b1 ++ (k, x) :: M.drop b1).Perm ((k, x) :: M) := by
      refine List.perm_middle.trans ?_
      rw [List.take_append_drop]
    generalize (M.take b1 ++ (k, x) :: M.drop b1) = M1 at e1 u3 pm
    have l1 : M1.length = M.length + 1 := pm.length_eq
    have z1 := len_of_rows e1
    generalize SetTable.insertAt es b1 (m.kd.hash k, Value.ref x) = es1 at e1 z1 ⊢
    have uni1 : (M1.map Prod.fst).Nodup := by
      refine (pm.map Prod.fst).nodup_iff.mpr ?_
      rw [List.map_cons]
      exact List.nodup_cons.mpr ⟨hk, R.uni⟩
    have fin : ∀ b : Bool, wpAny (model P w) A (do
        storeSet S es1 (if b = true then t1 else { t1 with plain := false })
        if !false && (if b = true then t1 else { t1 with plain := false }).tooFull then setRelay S (SetTable.grown (es.size + 1))
        return true) Q E s := by
      intro b
      obtain ⟨t2, et, v1, v2, v3, v4, v5⟩ : ∃ t2, (if b = true then t1 else { t1 with plain := false }) = t2 ∧ TabOk t2 (hsh m M1) ∧ t2.led = t.led ∧ t2.mask = t.mask ∧ t2.place = t1.place ∧ t2.fill = M.length + 1 := by
        cases b with
        | true => exact ⟨_, rfl, u3, u5, u4, rfl, u9⟩
        | false => exact ⟨_, rfl, { ris := u3.ris, dm := u3.dm, sz := u3.sz, mok := u3.mok, bd := u3.bd, reach := u3.reach }, u5, u4, rfl, u9⟩
      rw [et]
      refine wpAny_bind (wpAny_storeSet_of g1 g3 ?_ (by rw [sizeLine_eq]; omega))
      have sb : Heap.SameBut S s.heap (s.heap.update S (Obj.putSet es1 t2)) := Heap.SameBut.update ..
      have at1 := store_at (es' := es1) (t' := t2) g1 g3
      generalize s.heap.update S (Obj.putSet es1 t2) = h1 at sb at1 ⊢
      have mem1 : ∀ r ∈ M1, m.kd.is h1 r.1 r.2 := fun r hr' => by
        rcases List.mem_cons.mp (pm.mem_iff.mp hr') with e | hr'
        · rw [e]; exact m.aside hx g1 g3 sb
        · exact m.aside (R.mem r hr') g1 g3 sb
      have ld1 : w.params.followText "set-order" = true ∨ t2.led = true := by rw [v2]; exact R.ld
      have full : t2.tooFull = true ↔ (M.length + 1) * 5 ≥ t.mask * 3 := by
        unfold SetTable.tooFull
        rw [decide_eq_true_eq, v5, v3]
      by_cases tf : t2.tooFull = true
      · have big := full.mp tf
        first
          | (refine wpAny_bind ?_; refine wp_if_pos (by simp [tf]) ?_)
          | (refine wp_if_pos (by simp [tf]) ?_; refine wpAny_bind ?_)
        rw [ls]
        have pz : t2.place.size = es1.size := by
          have := v1.sz
          rw [hsh_len] at this
          omega
        obtain ⟨N, n1, n2, n3⟩ : ∃ N, SetTable.sizeAbove (SetTable.grown (M.length + 1)) = N + 1 ∧ MaskOk N ∧ M1.length * 5 < N * 3 := by
          rcases R.tab.mok with e | e | e
          · have e5 : M.length = 4 := by omega
            exact ⟨31, by rw [e5]; exact size_20, .inr (.inl rfl), by omega⟩
          · have e5 : M.length = 18 := by omega
            exact ⟨127, by rw [e5]; exact size_76, .inr (.inr rfl), by omega⟩
          · omega
        refine anew (s := { s with heap := h1 }) at1 ⟨g2.1, g2.2.1, g2.2.2⟩ rfl e1 pz v1.dm (by rw [z1, l1, v3]; omega) uni1 mem1 ld1 (by omega) n1 n2 n3 ?_
        intro h2 M2 es2 ep2 t2 sb2 R2 pm2
        exact wpAny_pure (q true h2 M2 es2 ep2 t2 (sb.trans sb2) R2 (.inr ⟨hk, pm2.trans pm⟩))
      · first
          | refine wp_if_neg (by simp [tf]) ?_
          | (refine wpAny_bind ?_; refine wp_if_neg (by simp [tf]) ?_; refine wpAny_pure ?_)
        have small := fun z => tf (full.mpr z)
        exact wpAny_pure (q true h1 M1 es1 (ep + 1) t2 sb { at_ := ⟨_, at1, ⟨g2.1, g2.2.1, g2.2.2⟩, rfl⟩, es_ := e1, tab := v1, uni := uni1, mem := mem1, ld := ld1, wide := by have u : ¬ (M.length + 1) * 5 ≥ t.mask * 3 := small; rw [l1, v3]; omega, low := by omega } (.inr ⟨hk, pm⟩))
    by_cases pl1 : t1.plain = true
    · first
        | (refine wpAny_bind ?_; refine wp_if_pos pl1 ?_; refine m.byv hx fun b => ?_)
        | refine wp_if_pos pl1 (wpAny_bind (m.byv hx fun b => ?_))
      exact fin b
    · first
        | (refine wpAny_bind ?_; refine wp_if_neg pl1 ?_; refine wpAny_pure ?_)
        | refine wp_if_neg pl1 (wpAny_bind (wpAny_pure ?_))
      exact fin true
end
end DL

namespace DL
open PySem PySem.Spec PyProof.Rows L2
section
variable {P : Program} {w : World} {κ : Type} [DecidableEq κ] {m : MK P w κ} {A : Around} {E : Value → Shared → Prop} {s : Shared}
/-- what the first i keys have made of the set -/
structure Cov (ks : List (κ × Addr)) (i : Nat) (M : List (κ × Addr)) : Prop where
  sub : ∀ q ∈ M, q ∈ ks.take i
  all : ∀ q ∈ ks.take i, q.1 ∈ M.map Prod.fst
  len : M.length ≤ i
theorem take_snoc {α : Type} {l : List α} {i : Nat} {x : α} (e : l[i]? = some x) : l.take (i + 1) = l.take i ++ [x] := by
  rw [List.take_succ, e]; rfl
theorem Cov.next {ks M M' : List (κ × Addr)} {i : Nat} {x : κ × Addr} (c : Cov ks i M) (e : ks[i]? = some x) (h : x.1 ∈ M.map Prod.fst ∧ M' = M ∨ x.1 ∉ M.map Prod.fst ∧ M'.Perm (x :: M)) : Cov ks (i + 1) M' := by
  rcases h with ⟨h1, rfl⟩ | ⟨_, h1⟩
  · refine ⟨fun q hq => ?_, fun q hq => ?_, Nat.le_succ_of_le c.len⟩
    · rw [take_snoc e]; exact List.mem_append_left _ (c.sub q hq)
    · rw [take_snoc e] at hq
      rcases List.mem_append.mp hq with z | z
      · exact c.all q z
      · rw [List.mem_singleton.mp z]; exact h1
  · refine ⟨fun q hq => ?_, fun q hq => ?_, ?_⟩
    · rw [take_snoc e]
      rcases List.mem_cons.mp (h1.mem_iff.mp hq) with z | z
      · rw [z]; simp
      · exact List.mem_append_left _ (c.sub q z)
    · refine (h1.map Prod.fst).mem_iff.mpr ?_
      rw [take_snoc e] at hq
      rcases List.mem_append.mp hq with z | z
      · exact List.mem_cons_of_mem _ (c.all q z)
      · rw [List.mem_singleton.mp z]; exact List.mem_cons_self
    · rw [h1.length_eq]; exact Nat.succ_le_succ c.len
/-- the set, wherever else the heap grows -/
theorem Tb.on {h h' : Heap} {S : Addr} {M : List (κ × Addr)} {es : Array (Int × Value)} {ep : Nat} {t : SetTable} (R : Tb m h S M es ep t) (e : ∀ o, h.get? S = some o → h'.get? S = some o) (u : ∀ q ∈ M, m.kd.is h' q.1 q.2) : Tb m h' S M es ep t := by
  obtain ⟨o, a, r⟩ := R.at_
  exact { R with at_ := ⟨o, e o a, r⟩, mem := u }
/-- a set just made -/
abbrev newSet (w : World) : Obj := { cls := .type "set", dict := none, data := .set #[] 0 (.fresh 0 0 (!w.params.followText "set-order")) }
theorem tb_new {h : Heap} {S : Addr} (e : h.get? S = some (newSet w)) : Tb m h S [] #[] 0 (.fresh 0 0 (!w.params.followText "set-order")) where
  at_ := ⟨_, e, ⟨rfl, rfl, rfl⟩, rfl⟩
  es_ := rfl
  tab := { ris := List.Pairwise.nil, dm := rfl, sz := rfl, mok := .inl rfl, bd := fun x hx => (by cases hx), reach := fun i h j hi => (by simp [hsh] at hi) }
  uni := List.nodup_nil
  mem := fun q hq => (by cases hq)
  ld := by
    show _ ∨ (!w.params.followText "set-order") = true
    cases w.params.followText "set-order" <;> simp
  wide := by show 0 * 5 < 7 * 3; decide
  low := by show 0 < 64; decide

theorem upd_loop {I : Addr} {fp wr : List Addr} {G : Array GenState → Array GenState → Prop} {n : Nat} {Pv : Nat → Value → Prop} {St : Nat → Shared → Prop} {R : Result → Shared → Prop} (W : WalksS P w A.in1 I fp wr G n Pv St)
    {S : Addr} (out : S ∉ fp) {ks : List (κ × Addr)} (en : n = ks.length) (few : ks.length < 64) (what : ∀ i v, Pv i v → ∃ q, ks[i]? = some q ∧ v = .ref q.2) {h0 : Heap} (keys : ∀ q ∈ ks, m.kd.is h0 q.1 q.2)
    (n1 : h0.get? S = none) (n2 : ∀ b ∈ wr, h0.get? b = none) (hr : m.kd.room A.in1) :
    ∀ (d i : Nat) (s : Shared), i + d = n → St i s → (∀ b o, h0.get? b = some o → s.heap.get? b = some o) → (∃ M es ep t, Tb m s.heap S M es ep t ∧ Cov ks i M) →
      (∀ s' M es ep t, Moved (S :: wr) G s s' → Tb m s'.heap S M es ep t → Cov ks n M → (∀ b o, h0.get? b = some o → s'.heap.get? b = some o) → R (.ok (.ret .none)) s') →
      codeAny (model P w) A (.builtin "set.update.loop" ⟨[.ref S, .ref I], []⟩) R s := by
  have Sw : S ∉ wr := fun z => out (W.sub _ z)
  have onto : ∀ {s s' : Shared}, Moved wr G s s' → (∀ b o, h0.get? b = some o → s.heap.get? b = some o) → ∀ b o, h0.get? b = some o → s'.heap.get? b = some o := by
    intro s s' mv k b o e
    refine mv.heap b o (fun z => ?_) (k b o e)
    have := n2 b z
    rw [this] at e
    cases e
  have kept : ∀ {h' : Heap} {M : List (κ × Addr)} {i : Nat}, Cov ks i M → (∀ b o, h0.get? b = some o → h'.get? b = some o) → ∀ q ∈ M, m.kd.is h' q.1 q.2 := fun c k q hq => m.grow (keys q (List.mem_of_mem_take (c.sub q hq))) k
  intro d
  induction d with
  | zero =>
    intro i s ei st k ⟨M, es, ep, t, T, c⟩ q
    rw [Nat.add_zero] at ei
    subst ei
    refine codeAny_builtin F.entry_set_update_loop ?_
    rw [Around.under_plainId F.plain_set_update_loop _]
    refine (show wpAny _ A.in1 (pyNext (.ref I) >>= _) _ _ s from wpAny_bind (W.done s _ _ st fun s' mv => ?_))
    refine (show wpAny _ A.in1 (ret Value.none) _ _ s' from wpAny_pure (q s' M es ep t (mv.mono fun b hb => List.mem_cons_of_mem _ hb) ?_ c (onto mv k)))
    exact T.on (fun o e => mv.heap S o Sw e) (kept c (onto mv k))
  | succ d ih =>
    intro i s ei st k ⟨M, es, ep, t, T, c⟩ q
    refine codeAny_builtin F.entry_set_update_loop ?_
    rw [Around.under_plainId F.plain_set_update_loop _]
    refine (show wpAny _ A.in1 (pyNext (.ref I) >>= _) _ _ s from wpAny_bind (W.item i s _ _ (by omega) st fun v s' hv st' mv => ?_))
    obtain ⟨x, hx, rfl⟩ := what i v hv
    have k' := onto mv k
    have T' := T.on (h' := s'.heap) (fun o e => mv.heap S o Sw e) (kept c k')
    have kx : m.kd.is s'.heap x.1 x.2 := m.grow (keys x (List.mem_of_getElem? hx)) k'
    refine (show wpAny _ A.in1 (holding [Value.ref x.2] (setAdd S (.ref x.2)) >>= _) _ _ s' from wpAny_bind (wpAny_holding ?_))
    unfold setAdd
    refine wpAny_holding (wpAny_bind (m.kd.pyHash hr kx ?_))
    have cl := c.len
    refine put_in (s := { s' with toks := s'.toks + m.kd.draws x.1 }) T' hr kx (by omega) fun b h2 M2 es2 ep2 t2 sb T2 c2 => ?_
    have off : ∀ b, b ≠ S → h2.get? b = s'.heap.get? b := fun b z => sb.2 b z
    have k2 : ∀ b o, h0.get? b = some o → h2.get? b = some o := fun b o e => by
      rw [off b (fun z => by rw [z, n1] at e; cases e)]
      exact k' b o e
    refine wpAny_pure ⟨plainId_quiet F.plain_set_update_loop _, ih (i + 1) _ (by omega) (W.frame _ s' _ _ st' (Nat.le_add_right _ _) fun b hb o e => ?_) k2 ⟨M2, es2, ep2, t2, T2, c.next hx c2⟩ fun s3 M3 es3 ep3 t3 mv3 T3 c3 k3 => ?_⟩
    · rw [off b fun z => out (by rw [← z]; exact hb)]
      exact e
    · refine q s3 M3 es3 ep3 t3 (Moved.trans W.gtrans ((mv.mono fun b hb => List.mem_cons_of_mem _ hb).then_heap (Nat.le_add_right _ _) fun b o hb e => ?_) mv3) T3 c3 k3
      rw [off b fun z => hb (by rw [z]; exact List.mem_cons_self)]
      exact e
end
end DL

namespace DL
open PySem PySem.Spec PyProof.Rows L2
section
variable {P : Program} {w : World} {κ : Type} [DecidableEq κ] {m : MK P w κ} {A : Around} {E : Value → Shared → Prop} {s : Shared}
theorem none_above {h : Heap} {b : Addr} (e : h.objs.size ≤ b) : h.get? b = none := by
  cases q : h.get? b with
  | none => rfl
  | some o => exact absurd (Heap.lt_size q) (Nat.not_lt.mpr e)
/-- set(xs), xs a list of such keys -/
theorem set_of {l : Addr} {ks : List (κ × Addr)} {Q : Value → Shared → Prop} (idle : A.handled = none) (hl : s.heap.IsList l (ks.map fun q => Value.ref q.2).toArray) (keys : ∀ q ∈ ks, m.kd.is s.heap q.1 q.2)
    (few : ks.length < 64) (hu : A.units + 3 < cLine) (hr : ∀ B : Around, B.units ≤ A.units + 3 → m.kd.room B)
    (q : ∀ (h' : Heap) (tk : Nat) M es ep t, Tb m h' s.heap.objs.size M es ep t → Cov ks ks.length M → (∀ b o, s.heap.get? b = some o → h'.get? b = some o) → Q (.ref s.heap.objs.size) { s with heap := h', toks := tk }) :
    wpAny (model P w) A (call (.type "set") [.ref l]) Q E s := by
  obtain ⟨c, tl, hmro⟩ := F.called_set.mro
  have h0 := F.called_set.made
  have h1 := F.called_set.sub
  have h2 := F.called_set.notType
  have h3 := F.called_set.canCreate
  have h4 := F.typeCall_set_1 (.ref l)
  refine wpAny_call (codeAny_of_tree (show wpAny _ _ (callAny (.type "set") _) _ _ _ from wpAny_pure ⟨Code.quiet_builtin _ (by decide +kernel), codeAny_builtin F.entry_type_call ?_⟩))
  rw [Around.under_plain (weight_type_call_type "set" [.ref l] []) rfl]
  repeat (any_goals (first | assumption | wp_step))
  -- the empty set is made
  refine codeAny_mono (code_set_led1 (.ref l) (E := E) (Q₁ := fun ob s1 => s1 = { s with heap := s.heap.push (newSet w) } ∧ ob = .ref s.heap.objs.size) ⟨rfl, rfl⟩) fun r s1 hr1 => ?_
  obtain er | fl := r
  · exact hr1
  cases fl with
  | ret ob =>
    obtain ⟨rfl, rfl⟩ := hr1
    have at0 : (s.heap.push (newSet w)).get? s.heap.objs.size = some (newSet w) := Heap.get?_push_size _ rfl
    have ty : Shared.TypeIs { s with heap := s.heap.push (newSet w) } (.ref s.heap.objs.size) "set" := ⟨_, at0, rfl⟩
    have i1 := F.called_set.init.lookup
    have i2 := F.called_set.init.bind (.ref s.heap.objs.size)
    repeat (any_goals (first | assumption | wp_step))
    refine codeAny_mono (codeAny_call_builtin (R := wants (fun r s2 => r = .none ∧ ∃ h' tk M es ep t, s2 = { s with heap := h', toks := tk } ∧ Tb m h' s.heap.objs.size M es ep t ∧ Cov ks ks.length M ∧ (∀ b o, s.heap.get? b = some o → h'.get? b = some o)) E) F.called_set.init.plain F.entry_set_init (check_set_init_1 ty ?body)) fun r2 s2 hr2 => ?after
    case after =>
      obtain er | fl := r2
      · exact hr2
      cases fl with
      | ret r =>
        obtain ⟨rfl, h', tk, M, es, ep, t, rfl, T, cv, k⟩ := hr2
        repeat (any_goals (first | assumption | wp_step))
        exact q h' tk M es ep t T cv k
      | _ => exact hr2.elim
    case body =>
      have hlt : l < s.heap.objs.size := by
        obtain ⟨o, ho, _⟩ := hl
        exact Heap.lt_size ho
      have hl1 : (s.heap.push (newSet w)).IsList l (ks.map fun q => Value.ref q.2).toArray := hl.push _
      obtain ⟨ol, o1, o2, nl, o3⟩ := hl1
      obtain ⟨oc, od, oda, osl⟩ := ol
      dsimp only at o2 o3
      subst o2 o3
      have hl2 : (s.heap.push (newSet w)).IsList l (ks.map fun q => Value.ref q.2).toArray := ⟨_, o1, rfl, nl, rfl⟩
      have b1 := F.sub_list_set
      have b2 := F.sub_list_frozenset
      have b3 : (Value.type "list" == Value.type "dict") = false := by decide
      unfold Builtin.«set.__init__» noKeywords Builtin.Frozenset.updateFrom
      generalize pe : pyIter = pI
      wp_walk
      subst pe
      refine wpAny_pyIter_list hl2 (wpAny_bind (wpAny_runValue ?_))
      have sz1 : (s.heap.push (newSet w)).objs.size = s.heap.objs.size + 1 := Heap.size_push ..
      have ne1 : l ≠ (s.heap.push (newSet w)).objs.size := by rw [sz1]; exact Nat.ne_of_lt (Nat.lt_succ_of_lt hlt)
      have idle3 : A.in1.in1.in1.handled = none := by simp [idle]
      refine upd_loop (m := m) ((Walks.list idle3 _ l ne1 (ks.map fun q => Value.ref q.2).toArray).toS) (S := s.heap.objs.size) ?out (ks := ks) (by simp) few (fun i v hv => ?what) (h0 := s.heap) keys (none_above (Nat.le_refl _)) (fun b hb => ?wr) (hr _ (by simp)) ks.length 0 _ (by simp) ⟨⟨_, Heap.get?_push_size _ rfl, rfl, rfl⟩, (hl2.push _)⟩ (fun b o e => Heap.get?_push_of_some _ (Heap.get?_push_of_some _ e)) ?start ?fin
      case out =>
        rw [sz1]
        simp only [List.mem_cons, List.not_mem_nil, or_false, not_or]
        exact ⟨Nat.ne_of_lt (Nat.lt_succ_self _), (Nat.ne_of_lt hlt).symm⟩
      case what =>
        have e : (ks.map fun q => Value.ref q.2)[i]? = some v := by simpa using hv
        rw [List.getElem?_map] at e
        obtain ⟨x, h5, h6⟩ := Option.map_eq_some_iff.mp e
        exact ⟨x, h5, h6.symm⟩
      case wr =>
        rw [List.mem_singleton.mp hb]
        exact none_above (by rw [sz1]; exact Nat.le_succ _)
      case start =>
        exact ⟨[], #[], 0, _, tb_new (Heap.get?_push_of_some _ at0), ⟨fun q hq => (by cases hq), fun q hq => (by simp at hq), Nat.le_refl _⟩⟩
      case fin =>
        intro s' M es ep t mv T cv k
        obtain ⟨h', g2, d2, tk, os2⟩ := s'
        obtain rfl : g2 = s.gens := mv.gens
        obtain rfl : d2 = s.drawn := mv.drawn
        obtain rfl : os2 = s.os := mv.os
        refine (show wpAny _ _ _ _ _ _ from wpAny_pure ?_)
        have cv2 : Cov ks ks.length M := by simpa using cv
        exact (show wpAny _ _ (ret Value.none) _ _ _ from wpAny_pure ⟨rfl, h', tk, M, es, ep, t, rfl, T, cv2, k⟩)
  | _ => exact hr1.elim
end
end DL

namespace DL
open PySem PySem.Spec PyProof.Rows L2 PySem.SeqAt
/-! ## nested tuples as keys -/
section
variable {P : Program} {w : World} {E : Value → Shared → Prop}
theorem nk_cls : ∀ (n : Nat) (k : NestedKey) (v : Value) (A : Around) (s : Shared) (Q : Bool → Shared → Prop), NestedIs s.heap k v → k.depth ≤ n → Q false s → wpAny (model P w) A (ofAClassStatement n v) Q E s
  | n, .none, _, A, s, Q, x, _, q => by cases x; cases n <;> exact wpAny_pure q
  | n, .num _, _, A, s, Q, x, _, q => by cases x <;> cases n <;> exact wpAny_pure q
  | n, .text _, _, A, s, Q, x, _, q => by cases x; cases n <;> exact wpAny_pure q
  | 0, .tup ks, _, A, s, Q, _, hn, _ => by simp [NestedKey.depth] at hn
  | n + 1, .tup ks, _, A, s, Q, x, hn, q => by
    cases x with
    | @tup a o vs _ _ h1 h2 h3 h4 =>
      have hk : NestedKey.depthAll ks ≤ n := by simpa [NestedKey.depth] using hn
      unfold ofAClassStatement
      refine wpAny_bind (wpAny_typeOf (⟨o, h1, h2⟩ : s.TypeIs (.ref a) "tuple") ?_)
      dsimp only
      simp only [show (("tuple" : String) == "tuple") = true from by decide, if_true, Bool.not_true, Bool.false_eq_true, if_false]
      try refine wpAny_bind (wpAny_pure ?_)
      try simp only [Bool.not_true, Bool.false_eq_true, if_false]
      refine (show wpAny _ _ (seqItems? (.ref a) >>= _) _ _ s from wpAny_bind (wpAny_seqItems h1 h3 ?_))
      dsimp only
      refine wpAny_bind (show wpAny _ _ (forIn vs _ _) _ _ s from ?_)
      rw [← Array.forIn_toList]
      refine wpAny_forIn_list _ (fun rest r st => st = s ∧ r.1 = none ∧ ∃ ks', NestedAll s.heap ks' rest ∧ NestedKey.depthAll ks' ≤ n) _ ?_ ?_ _ _ ⟨rfl, rfl, ks, h4, hk⟩
      · rintro v rest r st ⟨rfl, hr, ks', h5, h6⟩
        cases h5 with
        | @cons k' _ ks'' _ a1 a2 =>
          simp only [NestedKey.depthAll] at h6
          refine wpAny_bind (nk_cls n k' v A st _ a1 (by omega) ?_)
          simp only [Bool.false_eq_true, if_false]
          exact wpAny_pure ⟨rfl, rfl, ks'', a2, by omega⟩
      · rintro ⟨r1, r2⟩ st ⟨rfl, hr, _⟩
        cases (show r1 = none from hr)
        exact wpAny_pure q
theorem nk_byv : ∀ (n : Nat) (k : NestedKey) (v : Value) (A : Around) (s : Shared) (Q : Bool → Shared → Prop), NestedIs s.heap k v → k.depth ≤ n → (∀ b, Q b s) → wpAny (model P w) A (hashByValue n v) Q E s
  | n, .none, _, A, s, Q, x, _, q => by cases x; cases n <;> exact wpAny_pure (q _)
  | n, .num _, _, A, s, Q, x, _, q => by cases x <;> cases n <;> exact wpAny_pure (q _)
  | n, .text _, _, A, s, Q, x, _, q => by cases x; cases n <;> exact wpAny_pure (q _)
  | 0, .tup ks, _, A, s, Q, _, hn, _ => by simp [NestedKey.depth] at hn
  | n + 1, .tup ks, _, A, s, Q, x, hn, q => by
    cases x with
    | @tup a o vs _ _ h1 h2 h3 h4 =>
      have hk : NestedKey.depthAll ks ≤ n := by simpa [NestedKey.depth] using hn
      unfold hashByValue
      refine wpAny_bind (wpAny_specialOf (⟨o, h1, h2⟩ : s.TypeIs (.ref a) "tuple") F.slot_tuple_hash.lookup ?_)
      refine (show wpAny _ _ (seqItems? (.ref a) >>= _) _ _ s from wpAny_bind (wpAny_seqItems h1 h3 ?_))
      refine wpAny_bind (show wpAny _ _ (forIn vs _ _) _ _ s from ?_)
      rw [← Array.forIn_toList]
      refine wpAny_forIn_list _ (fun rest r st => st = s ∧ r.1 = none ∧ ∃ ks', NestedAll s.heap ks' rest ∧ NestedKey.depthAll ks' ≤ n) _ ?_ ?_ _ _ ⟨rfl, rfl, ks, h4, hk⟩
      · rintro v rest r st ⟨rfl, hr, ks', h5, h6⟩
        cases h5 with
        | @cons k' _ ks'' _ a1 a2 =>
          simp only [NestedKey.depthAll] at h6
          refine wpAny_bind (nk_byv n k' v A st _ a1 (by omega) fun b => ?_)
          cases b with
          | false =>
            simp only [Bool.not_false, if_true]
            exact wpAny_pure (wpAny_pure (q false))
          | true =>
            simp only [Bool.not_true, Bool.false_eq_true, if_false]
            exact wpAny_pure ⟨rfl, rfl, ks'', a2, by omega⟩
      · rintro ⟨r1, r2⟩ st ⟨rfl, hr, _⟩
        cases (show r1 = none from hr)
        exact wpAny_pure (q true)
end
/-- keys: nested tuples -/
def nkM (P : Program) (w : World) : MK P w NestedKey where
  kd := nestedKind P w
  grow := fun x k => ⟨NestedIs.at (fun _ _ _ _ e _ => k _ _ e) _ _ x.1, x.2⟩
  aside := fun {h h' k a S o es ep t} x g1 g2 sb => ⟨NestedIs.at (fun b ob vs n e1 e2 => by
    refine (sb.2 b fun z => ?_).trans e1
    subst z
    rw [g1] at e1
    cases e1
    rw [g2] at e2
    cases e2) _ _ x.1, x.2⟩
  cls := fun x q => nk_cls 8 _ _ _ _ _ x.1 x.2 q
  byv := fun x q => nk_byv 8 _ _ _ _ _ x.1 x.2 q
mutual
theorem nk_reads {h : Heap} : ∀ (k : NestedKey) (v : Value) (as : List Addr), Reads h v k.data as → NestedIs h k v
  | .none, _, _, r => by cases r; exact .none
  | .num i, _, _, r => by cases r; exact .int _ _
  | .text x, _, _, r => by cases r; exact .text _ _
  | .tup ks, _, _, r => by
    cases r with
    | tuple a1 a2 a3 a4 => exact .tup a1 a2 a3 (nk_readsAll ks _ _ a4)
theorem nk_readsAll {h : Heap} : ∀ (ks : List NestedKey) (vs : List Value) (as : List Addr), ReadsAll h vs (NestedKey.datas ks) as → NestedAll h ks vs
  | [], _, _, r => by cases r; exact .nil
  | k :: ks, _, _, r => by
    cases r with
    | cons a1 a2 => exact .cons (nk_reads k _ _ a1) (nk_readsAll ks _ _ a2)
end
/-- keys that can be sorted beside one another -/
structure Sorts (ks : List NestedKey) : Prop where
  flat : ∀ k ∈ ks, k.depth ≤ 8
  tup : ∀ k ∈ ks, ∃ xs, k = .tup xs
  like : ∀ a ∈ ks, ∀ b ∈ ks, PySem.W.alike a.data b.data = true
  few : ks.length < 64
mutual
theorem nk_depth : ∀ k : NestedKey, k.data.depth = k.depth
  | .none => rfl
  | .num _ => rfl
  | .text _ => rfl
  | .tup ks => by simp only [NestedKey.data, PyData.depth, NestedKey.depth, nk_depths ks]
theorem nk_depths : ∀ ks : List NestedKey, PyData.depthAll (NestedKey.datas ks) = NestedKey.depthAll ks
  | [] => rfl
  | k :: r => by simp only [NestedKey.datas, PyData.depthAll, NestedKey.depthAll, nk_depth k, nk_depths r]
end
end DL

/-! alike tuples can be sorted, an empty one among them or not -/
namespace DL
open PySem PySem.W PySem.Calls PyProof.Rows PySem.SeqAt
/-- it has no item -/
def bare0 (d : PyData) : Bool := match d with
  | .tuple [] => true
  | _ => false
section
variable {prog : Program} {w : World} {A : Around} {E : Value → Shared → Prop} {s : Shared}
/-- the object of a value that reads as a tuple -/
theorem tup_obj {h : Heap} {u : Value} {zs : List PyData} {ms : List Addr} (r : Reads h u (.tuple zs) ms) :
    ∃ (p : Addr) (dd : Option Addr) (sl : Array (Option Value)) (its : Array Value) (c : Nat) (ns : List Addr), u = .ref p ∧ h.get? p = some { cls := .type "tuple", dict := dd, data := .seq its c, slots := sl } ∧ ReadsAll h its.toList zs ns ∧ its.size = zs.length := by
  cases r with
  | @tuple p ob its c _ ns g1 g2 g3 g4 =>
    obtain ⟨k, dd, dt, sl⟩ := ob
    dsimp only at g2 g3
    subst g2
    subst g3
    refine ⟨p, dd, sl, its, c, _, rfl, g1, g4, ?_⟩
    rw [← Array.length_toList]
    exact ReadsAll.length _ _ _ g4
/-- one tuple against another, by its own slot or not -/
theorem tups_lt (own : Bool) {zs ys : List PyData} {u v : Value} {ms ns : List Addr} {Q : Bool → Shared → Prop} (ru : Reads s.heap u (.tuple zs) ms) (rv : Reads s.heap v (.tuple ys) ns) (like : alike (.tuple zs) (.tuple ys) = true)
    (room : A.units + min (PyData.tuple zs).depth (PyData.tuple ys).depth < cLine) (q : Q (dataLt (.tuple zs) (.tuple ys)) s) : wpAny (model prog w) A (oneLt' own u v) Q E s := by
  cases own
  · exact oneLt_alike (fun z => nomatch z) ru rv like (fun z => nomatch z) room q
  · have parts : alikeAll zs ys = true := by rw [alike] at like; exact like
    obtain ⟨p, d1, s1, us, c1, m1, rfl, gu, au, lu⟩ := tup_obj ru
    obtain ⟨p2, d2, s2, vs, c2, m2, rfl, gv, av, lv⟩ := tup_obj rv
    have q2 : Q (firstLt (pairEq zs ys) (fun j => dataLt (zs.getD j .none) (ys.getD j .none)) (decide (us.size < vs.size)) (List.range (min us.size vs.size))) s := by
      rw [lu, lv, firstLt_toks zs ys parts, ← dataLt_tuple]
      exact q
    have slot := tuple_ltAt p p2 us vs c1 c2 d1 d2 s1 s2 (pairEq zs ys) fun j => dataLt (zs.getD j .none) (ys.getD j .none)
    have equal : ∀ j (j1 : j < us.size) (j2 : j < vs.size), EqAt A.in1 s us[j] vs[j] (pairEq zs ys j) := fun j j1 j2 => by
      have e := eqAt_alikeAll zs ys A.in1 s _ _ _ _ au av parts (room_in room) j (Array.length_toList ▸ j1) (Array.length_toList ▸ j2)
      rw [Array.getElem_toList, Array.getElem_toList] at e
      exact e
    have less : ∀ j (j1 : j < us.size) (j2 : j < vs.size), pairEq zs ys j = false → RcLt A.in1 s us[j] vs[j] (dataLt (zs.getD j .none) (ys.getD j .none)) := fun j j1 j2 n => by
      have e := rcLt_alikeAll zs ys A.in1 s _ _ _ _ au av parts (room_in room) j (Array.length_toList ▸ j1) (Array.length_toList ▸ j2) n
      rw [Array.getElem_toList, Array.getElem_toList] at e
      exact e
    rw [oneLt'_eq]
    simp only [if_true]
    refine wpAny_bind (wpAny_cRoomFor (room_here room) (wpAny_bind (wpAny_callSpecialIfBound?_slot (T := "tuple") ⟨_, gu, rfl⟩ F.slot_tuple_lt ?_)))
    exact call_meets F.slot_tuple_lt ⟨_, gu, rfl⟩ F.entry_tuple_lt (F.args_tuple_lt_2 _ _) slot ⟨gu, gv, equal, less, wpAny_truthy_bool q2⟩
/-- what is asked of each ahead of sorting -/
theorem mix_firsts : ∀ {vs : List Value} {ds : List PyData}, EachIs (fun v d => ∃ as, Reads s.heap v d as) vs ds → (∀ d ∈ ds, ∃ xs, d = .tuple xs) →
    ∃ fs : List (Option Value), fs.map Option.isSome = ds.map (fun d => !bare0 d) ∧ ∀ {Q : List (Option Value) → Shared → Prop}, Q fs s → wpAny (model prog w) A (vs.mapM firstOfTuple') Q E s
  | _, _, .nil, _ => ⟨[], rfl, fun q => by rw [List.mapM_nil]; exact wpAny_pure q⟩
  | _, _, .cons (b := y) ⟨ms, ry⟩ more, ht => by
    obtain ⟨fs, e1, e2⟩ := mix_firsts more fun z hz => ht z (List.mem_cons_of_mem _ hz)
    obtain ⟨xs, rfl⟩ := ht y List.mem_cons_self
    cases ry with
    | @tuple a o vs n _ _ h1 h2 h3 h4 =>
      refine ⟨vs[0]? :: fs, ?_, fun q => ?_⟩
      · rw [List.map_cons, List.map_cons, e1]
        congr 1
        have nl : vs.size = xs.length := by simpa using ReadsAll.length _ _ _ h4
        cases xs with
        | nil =>
          have : vs = #[] := Array.eq_empty_of_size_eq_zero nl
          subst this
          rfl
        | cons x r =>
          have lt : 0 < vs.size := by rw [nl]; exact Nat.succ_pos _
          have : vs[0]?.isSome = true := by
            rw [Array.getElem?_eq_getElem lt]; rfl
          rw [this]
          rfl
      · rw [List.mapM_cons]
        refine wpAny_bind ?_
        rw [kas_first_eq]
        refine wpAny_bind (Looks.here (show Looks (model prog w) s.heap (typeOf (.ref a)) o.cls from (Looks.ld h1).andThen .now) ?_)
        rw [h2, if_neg (by first | decide | simp)]
        refine wpAny_bind (listItems_at h1 h3 (wpAny_pure ?_))
        exact wpAny_bind (e2 (wpAny_pure q))
theorem tups_types {vs : List Value} {ds : List PyData} (e : EachIs (fun v d => ∃ as, Reads s.heap v d as) vs ds) (ht : ∀ d ∈ ds, ∃ xs, d = .tuple xs) : ∀ v ∈ vs, Looks (model prog w) s.heap (typeOf v) (.type "tuple") := fun v hv => by
  obtain ⟨y, hy, ms, ry⟩ := e.left v hv
  obtain ⟨xs, rfl⟩ := ht y hy
  exact looks_reads (d := .tuple xs) ry
theorem mix_kind {vs : List Value} {ds : List PyData} (e : EachIs (fun v d => ∃ as, Reads s.heap v d as) vs ds) (ht : ∀ d ∈ ds, ∃ xs, d = .tuple xs) (mx : ds.any bare0 = true) :
    ∃ f : Bool, ∀ (E : Value → Shared → Prop) {Q : SortKind → Shared → Prop}, Q (bif f then oneType' else general') s → wpAny (model prog w) A (keyKind' vs.toArray) Q E s := by
  cases e with
  | nil => exact absurd mx (by simp)
  | @cons v d vs ds hd t =>
    refine ⟨bare0 d, fun E Q q => ?_⟩
    have types := tups_types (prog := prog) (w := w) (.cons hd t) ht
    obtain ⟨fs, e1, e2⟩ := mix_firsts (prog := prog) (w := w) (A := A) (E := E) (.cons hd t) ht
    rw [keyKind'_eq, List.mapM_toArray, map_eq_pure_bind]
    refine wpAny_bind (wpAny_bind (e2 (wpAny_pure ?_)))
    have na : (fs.toArray.all fun x => x.isSome) = false := by
      rw [List.all_toArray, ← Bool.not_eq_true, List.all_eq_true]
      intro z
      obtain ⟨b, hb, hb2⟩ := List.any_eq_true.mp mx
      have m : (!bare0 b) ∈ fs.map Option.isSome := by rw [e1]; exact List.mem_map.mpr ⟨b, hb, rfl⟩
      obtain ⟨x, hx, hx2⟩ := List.mem_map.mp m
      rw [z x hx, hb2] at hx2
      cases hx2
    rw [if_neg (by rw [na]; exact Bool.false_ne_true)]
    cases fs with
    | nil => cases e1
    | cons f0 fr =>
      rw [List.map_cons, List.map_cons] at e1
      have e0 : f0.isSome = !bare0 d := (List.cons.inj e1).1
      have z0 : (((f0 :: fr).toArray[0]?).bind id).isSome = !bare0 d := by
        rw [← e0]; simp
      rw [z0]
      cases hb : bare0 d with
      | false =>
        rw [if_pos (show (!false) = true from rfl)]
        rw [hb] at q
        exact wpAny_pure q
      | true =>
        rw [if_neg (show ¬ ((!true) = true) from by decide)]
        rw [hb] at q
        rw [oneTypeOnly'_eq, List.mapM_toArray, map_eq_pure_bind]
        refine wpAny_bind (wpAny_bind (wpAny_bind (kas_mapM (r := Value.type "tuple") _ (fun v hv Q' hq => (types v hv).here hq) (wpAny_pure ?_))))
        have hall : ((List.map (fun _ => Value.type "tuple") (v :: vs)).toArray.all fun x => x == Value.type "tuple") = true := by
          simp only [List.all_toArray, List.all_map, List.all_eq_true]
          intro _ _
          rfl
        have h0 : (List.map (fun _ => Value.type "tuple") (v :: vs)).toArray[0]? = some (Value.type "tuple") := by simp
        rw [h0]
        simp only [hall, if_true]
        exact wpAny_pure (wpAny_pure q)
/-- alike tuples can be sorted -/
theorem sorts_tups {vs : List Value} {ds : List PyData} (e : EachIs (fun v d => ∃ as, Reads s.heap v d as) vs ds) (hal : AllAlike ds) (ht : ∀ d ∈ ds, ∃ xs, d = .tuple xs) (hu : ∀ d, d ∈ ds → A.units + d.depth < cLine) : SortsAt prog w A s (dataKind s.heap ds) vs := by
  cases mx : ds.any bare0 with
  | false =>
    refine SortsAt.data e hal (.inl fun d hd => ?_) hu
    obtain ⟨xs, rfl⟩ := ht d hd
    cases xs with
    | nil =>
      have : ds.any bare0 = true := List.any_eq_true.mpr ⟨_, hd, rfl⟩
      rw [mx] at this
      cases this
    | cons x r => exact ⟨x, r, rfl⟩
  | true =>
    obtain ⟨f, k⟩ := mix_kind (prog := prog) (w := w) (A := A) e ht mx
    refine ⟨fun v hv => ?_, bif f then oneType' else general', ?_, fun _ E Q hq => k E hq⟩
    · obtain ⟨y, hy, _, ry⟩ := e.left v hv
      exact ⟨keyToks y, dataKind_some hal hy ry⟩
    · intro E u v _ _ Q hu1 hv1 q
      obtain ⟨y, _, hy, ry, rfl⟩ := dataKind_inv hu1
      obtain ⟨z, _, hz, rz, rfl⟩ := dataKind_inv hv1
      have like := hal y hy z hz
      have room : A.units + min y.depth z.depth < cLine := Nat.lt_of_le_of_lt (Nat.add_le_add_left (Nat.min_le_left _ _) _) (hu y hy)
      obtain ⟨ys, rfl⟩ := ht y hy
      obtain ⟨zs, rfl⟩ := ht z hz
      rw [show keyLt' (bif f then oneType' else general') u v = oneLt' f u v from by cases f <;> rfl]
      exact tups_lt f ry rz like room q
end
end DL


namespace DL
open PySem PySem.Spec PyProof.Rows L2 PySem.SeqAt
section
variable {P : Program} {w : World} {A : Around} {E : Value → Shared → Prop} {s : Shared}
theorem perm_back {α β : Type} (f : α → β) : ∀ {l : List α} {bs : List β}, bs.Perm (l.map f) → ∃ l' : List α, l'.Perm l ∧ l'.map f = bs := by
  intro l bs h
  generalize e : l.map f = cs at h
  induction h generalizing l with
  | nil => exact ⟨l, List.Perm.refl _, e⟩
  | @cons b bs cs _ ih =>
    cases l with
    | nil => cases e
    | cons a r =>
      simp only [List.map_cons, List.cons.injEq] at e
      obtain ⟨l', p, q⟩ := ih e.2
      exact ⟨a :: l', p.cons a, by rw [List.map_cons, q, e.1]⟩
  | swap x y bs =>
    match l, e with
    | [], e => cases e
    | [_], e => simp at e
    | a :: b :: r, e =>
      simp only [List.map_cons, List.cons.injEq] at e
      exact ⟨b :: a :: r, List.Perm.swap .., by simp only [List.map_cons, e.1, e.2.1, e.2.2]⟩
  | trans _ _ ih1 ih2 =>
    obtain ⟨l1, p1, q1⟩ := ih2 e
    obtain ⟨l2, p2, q2⟩ := ih1 q1
    exact ⟨l2, p2.trans p1, q2⟩
theorem each_reads {h : Heap} : ∀ {M : List (NestedKey × Addr)}, (∀ q ∈ M, ∃ as, Reads h (.ref q.2) q.1.data as) → PySem.W.EachIs (fun v d => ∃ as, Reads h v d as) (M.map fun q => Value.ref q.2) (M.map fun q => q.1.data)
  | [], _ => .nil
  | q :: M, r => .cons (r q List.mem_cons_self) (each_reads fun x hx => r x (List.mem_cons_of_mem _ hx))
theorem sort_zip (vs : List Value) (κ : PyProof.Rows.KeyKind) : (PySem.W.sortVals κ false vs vs).Perm vs := by
  unfold PySem.W.sortVals
  have h := (List.mergeSort_perm (vs.zip vs) (PySem.W.sortLe κ.toKeyOrd false fun p : Keyed => PySem.W.keyD κ p.1)).map Prod.snd
  rw [List.map_snd_zip (Nat.le_refl _)] at h
  exact h
/-- sorted(a set of nested tuples) -/
theorem sorted_tb {S : Addr} {M : List (NestedKey × Addr)} {es : Array (Int × Value)} {ep : Nat} {t : SetTable} (R : Tb (nkM P w) s.heap S M es ep t) (idle : A.handled = none) (o : Sorts (M.map Prod.fst)) (hu : A.units + 50 < cLine)
    (rd : ∀ q ∈ M, ∃ as, Reads s.heap (.ref q.2) q.1.data as) {Q : Value → Shared → Prop}
    (q : ∀ s' p c (M' : List (NestedKey × Addr)), (∀ b o, s.heap.get? b = some o → s'.heap.get? b = some o) → s'.gens = s.gens → s'.os = s.os → s.heap.objs.size ≤ p → M'.Perm M → s'.heap.get? p = some (seqObj "list" (M'.map fun q => Value.ref q.2).toArray c) → Q (.ref p) s') :
    wpAny (model P w) A (call (.builtin "sorted") [.ref S]) Q E s := by
  obtain ⟨ob, g1, g2, g3⟩ := R.at_
  have ls := len_of_rows R.es_
  have lw := R.low
  refine Calls.call_function_entry kind_sorted plain_sorted entry_sorted (args_sorted1 _) ?_
  unfold Builtin.«sorted»
  refine wpAny_bind (m := checkCount "sorted" 1 1 _) (wpAny_pure ?_)
  refine wpAny_bind (collect_set (A := A.in1) idle ⟨ob, g1, g2.1, g3⟩ R.fit (by unfold scanBound; omega) R.tab.ris R.ld fun s1 vs k1 z1 e1 e2 pm => ?_)
  have em : es.toList.map (·.2) = M.map fun q => Value.ref q.2 := by
    rw [R.es_, rw_, List.map_map]
    rfl
  rw [em] at pm
  obtain ⟨M1, p1, rfl⟩ := perm_back (fun q : NestedKey × Addr => Value.ref q.2) pm
  have l1 : (M1.map fun q => Value.ref q.2).length < 64 := by rw [List.length_map, p1.length_eq]; exact lw
  refine wpAny_bind (wpAny_newList ?_ (by rw [sizeLine_eq]; omega))
  have at1 : (s1.heap.push (seqObj "list" (M1.map fun q => Value.ref q.2).toArray 0)).get? s1.heap.objs.size = some (seqObj "list" (M1.map fun q => Value.ref q.2).toArray 0) := Heap.get?_push_size _ rfl
  -- they can be sorted
  have can : ∀ B : Around, B.units ≤ A.units + 10 → ∃ κ, PySem.W.SortsAt P w B { s1 with heap := PySem.W.sortingHeap (s1.heap.push (seqObj "list" (M1.map fun q => Value.ref q.2).toArray 0)) s1.heap.objs.size (M1.map fun q => Value.ref q.2) } κ (M1.map fun q => Value.ref q.2) := fun B hB => by
    have inM : ∀ d ∈ M1.map (fun q => q.1.data), ∃ k ∈ M.map Prod.fst, d = k.data := fun d hd => by
      obtain ⟨x, hx, rfl⟩ := List.mem_map.mp hd
      exact ⟨x.1, List.mem_map.mpr ⟨x, p1.mem_iff.mp hx, rfl⟩, rfl⟩
    refine ⟨_, sorts_tups (each_reads fun x hx => ?_) (fun a ha b hb => ?_) (fun d hd => ?_) fun d hd => ?_⟩
    · obtain ⟨as, r⟩ := rd x (p1.mem_iff.mp hx)
      refine ⟨as, Reads.keeps (fun b u e => ?_) r⟩
      have e' := k1 b u e
      refine PySem.W.sortingHeap_old (fun z => ?_) (Heap.get?_push_of_some _ e')
      have := Heap.lt_size e'
      rw [z] at this
      exact absurd this (Nat.lt_irrefl _)
    · obtain ⟨k, hk, rfl⟩ := inM a ha
      obtain ⟨k', hk', rfl⟩ := inM b hb
      exact o.like k hk k' hk'
    · obtain ⟨k, hk, rfl⟩ := inM d hd
      obtain ⟨r, rfl⟩ := o.tup k hk
      exact ⟨NestedKey.datas r, rfl⟩
    · obtain ⟨k, hk, rfl⟩ := inM d hd
      have := o.flat k hk
      rw [nk_depth]
      omega
  obtain ⟨κ, so⟩ := can A.in1.in1 (by simp)
  refine wpAny_bind (wpAny_holding (wpAny_call_entry slot_list_sort ⟨_, at1, rfl⟩ entry_list_sort (PySem.W.list_sort_vals (s := { s1 with heap := s1.heap.push (seqObj "list" (M1.map fun q => Value.ref q.2).toArray 0) }) at1 so (by rw [sizeLine_eq]; omega) ⟨_, rfl, ?_⟩) (args_list_sort _)))
  obtain ⟨c, hc⟩ := sortedHeap_at (vs := M1.map fun q => Value.ref q.2) (out := (PySem.W.sortVals κ false (M1.map fun q => Value.ref q.2) (M1.map fun q => Value.ref q.2)).toArray) at1
  obtain ⟨M2, p2, e3⟩ := perm_back (fun q : NestedKey × Addr => Value.ref q.2) (sort_zip (M1.map fun q => Value.ref q.2) κ)
  refine wpAny_pure ⟨_, rfl, q _ s1.heap.objs.size c M2 (fun b u e => ?_) e1 e2 z1 (p2.trans p1) (by rw [e3]; exact hc)⟩
  have e' := k1 b u e
  have lt := Heap.lt_size e'
  refine (show (sortedHeap (s1.heap.push (seqObj "list" (M1.map fun q => Value.ref q.2).toArray 0)) s1.heap.objs.size (M1.map fun q => Value.ref q.2) (PySem.W.sortVals κ false (M1.map fun q => Value.ref q.2) (M1.map fun q => Value.ref q.2)).toArray).get? b = some u from ?_)
  rw [sortedHeap_old (Nat.ne_of_lt lt) (by rw [size_push']; exact Nat.lt_succ_of_lt lt)]
  exact Heap.get?_push_of_some _ e'
end
end DL

namespace DL
open PySem PySem.Spec PyProof.Rows L2 PySem.SeqAt
/-! ## sorted(set(xs)) of nested tuples, as an expression -/
def rSS (K : PySem.W.Frag) (x : V) (H : Hp) (Q : VK) : Prop := ∃ (l : Addr) (M : List (NestedKey × Addr)), x = .ref l ∧ SqL K H l (M.map fun q => V.ref q.2) ∧ (∀ q ∈ M, Dp K H (.ref q.2) q.1.data) ∧ Sorts (M.map Prod.fst) ∧
  ∀ (M' : List (NestedKey × Addr)) (p : Addr), (∀ q ∈ M', q ∈ M) → (M'.map Prod.fst).Nodup → (∀ q ∈ M, q.1 ∈ M'.map Prod.fst) → M'.length ≤ M.length → H p = none → Q (.ref p) (upd H p (.lst (M'.map fun q => V.ref q.2)))
mutual
theorem nk_noD : ∀ k : NestedKey, noD k.data = true
  | .none => rfl
  | .num _ => rfl
  | .text _ => rfl
  | .tup ks => by simp only [NestedKey.data, noD]; exact nks_noD ks
theorem nks_noD : ∀ ks : List NestedKey, noDs (NestedKey.datas ks) = true
  | [] => rfl
  | k :: r => by simp only [NestedKey.datas, noDs, nk_noD k, nks_noD r, Bool.and_self]
end
theorem vals_refs : ∀ {M : List (NestedKey × Addr)} {us : List Value}, Vals (M.map fun q => V.ref q.2) us → us = M.map fun q => Value.ref q.2
  | [], _, .nil => rfl
  | q :: M, _, .cons r t => by
    cases r
    rw [vals_refs t]; rfl
theorem refs_vals : ∀ (M : List (NestedKey × Addr)), Vals (M.map fun q => V.ref q.2) (M.map fun q => Value.ref q.2)
  | [] => .nil
  | q :: M => .cons (show RelV (.ref q.2) (.ref q.2) from rfl) (refs_vals M)
section
variable {X : Cx}
theorem pe_sortSet {a : Expr} {ta : TE} {p p2 q pos : Pos} (hc : X.calm = true) (hu : X.A.units + 100 < cLine) (hg : Gl X "sorted") (hm : X.mg "sorted" = none) (hg2 : Gl X "set") (hm2 : X.mg "set" = none) (ha : PE X a ta)
    (na : starEach [a] X.env = (false, eval a X.env) :: starEach [] X.env := by rfl) : PE X (.Call (.Name "sorted" p) [.Call (.Name "set" p2) [a] [] q] [] pos) (fun σ H Q => ta σ H fun x H1 => rSS X.K x H1 Q) := by
  refine ⟨fun pins s σ H Q I h => Call_ (ld_blt I hg hm boot_sorted (PyProof.Rows.callWith_builtin1 (PyProof.Rows.args_cons (Call_ (ld_blt I hg2 hm2 PyProof.Rows.boot_set ?_)) rfl) rfl rfl))⟩
  refine PyProof.Rows.callWith_type1 (PyProof.Rows.args_cons ?one na) na rfl
  refine thn (ha.run pins s σ H _ I h) ?_
  rintro v s1 ⟨x, H1, I1, r1, q1⟩
  refine PyProof.Rows.args_nil ?_
  obtain ⟨l, M0, rfl, hq, hd, hs, q1⟩ := q1
  cases r1
  obtain ⟨its, rv, pl, hz⟩ := I1.list hq
  have ei := vals_refs rv
  subst ei
  have idle := I1.ok.hd hc
  have reads : ∀ q ∈ M0, ∃ as, Reads s1.heap (.ref q.2) q.1.data as := fun q hq => Dp.reads I1 _ _ _ (hd q hq) rfl
  have lw := hs.few
  rw [List.length_map] at lw
  refine set_of (m := nkM X.prog X.w) (ks := M0) idle pl.isList (fun q hq => ?_) lw (by omega) (fun B hB => ?_) fun h' tk M es ep t T cv k => PyProof.Rows.args_nil ?_
  · obtain ⟨as, r⟩ := reads q hq
    exact ⟨nk_reads _ _ _ r, hs.flat _ (List.mem_map.mpr ⟨q, hq, rfl⟩)⟩
  · show B.units + 8 < cLine
    omega
  · have sub : ∀ q ∈ M, q ∈ M0 := fun q hq => List.mem_of_mem_take (cv.sub q hq)
    have sub1 : ∀ k ∈ M.map Prod.fst, k ∈ M0.map Prod.fst := fun k hk => by
      obtain ⟨q, hq, rfl⟩ := List.mem_map.mp hk
      exact List.mem_map.mpr ⟨q, sub q hq, rfl⟩
    refine sorted_tb (s := { s1 with heap := h', toks := tk }) T idle ⟨fun k hk => hs.flat k (sub1 k hk), fun k hk => hs.tup k (sub1 k hk), fun a ha b hb => hs.like a (sub1 a ha) b (sub1 b hb), by rw [List.length_map]; exact T.low⟩ (by omega) (fun q hq => ?_) fun s' pn c M' k2 e1 e2 sz pm at2 => ?_
    · obtain ⟨as, r⟩ := reads q (sub q hq)
      exact ⟨as, Reads.keeps k r⟩
    · obtain ⟨ob, g1, _⟩ := T.at_
      have above : s1.heap.objs.size ≤ pn := Nat.le_trans (Nat.le_of_lt (Heap.lt_size g1)) sz
      have hn : H1 pn = none := I1.hok.fresh above
      have k3 : ∀ b u, s1.heap.get? b = some u → s'.heap.get? b = some u := fun b u e => k2 b u (k b u e)
      have len : (M'.map fun q => V.ref q.2).length ≤ sizeLine := by
        have := T.low
        rw [List.length_map, pm.length_eq, sizeLine_eq]
        omega
      refine ⟨.ref pn, _, I1.call' (ch := []) e2 (Un.laid (o := .lst (M'.map fun q => V.ref q.2)) k3 above hn) (I1.hok.laid (o := .lst (M'.map fun q => V.ref q.2)) k3 above ⟨len, M'.map fun q => Value.ref q.2, c, refs_vals M', at2⟩) (by rw [e1]; exact I1.bare) (fun _ z => nomatch z), rfl, q1 M' pn (fun q hq => sub q (pm.mem_iff.mp hq)) ((pm.map Prod.fst).nodup_iff.mpr T.uni) (fun q hq => ?_) (by rw [pm.length_eq]; exact cv.len) hn⟩
      exact (pm.map Prod.fst).mem_iff.mpr (cv.all q (by rw [List.take_of_length_le (Nat.le_refl _)]; exact hq))
/-- one argument, then something -/
theorem de_ap1 {T : Tbs} {a mk : Expr} {ta : TD} {c : CT} {r : V → Hp → VK → Prop} (hp : ∀ te, PE X a te → PE X mk (fun σ H Q => te σ H fun x H1 => r x H1 Q)) (hs : Snd (X.K, T) (fun vs H Q => ∃ x, vs = [x] ∧ r x H Q) c) (ha : DE T X a ta) :
    DE T X mk (tAp (tdCons ta tdNil) c) := by
  obtain ⟨te, h1, h2⟩ := ha
  refine ⟨_, hp te h1, fun σ H Γ ex P Q h p q => h2 σ H Γ ex _ _ h p fun v H1 r1 Γ1 he og p1 => ?_⟩
  have hx : Hs (X.K, T) H1 (tmpS [v] [r1.1] ++ (σ.zip Γ1 ++ ex)) := he.hs.front
  have p2 : c [r1.1] fun s ss => P (s, none) (back [r1] ss Γ1) := p1
  obtain ⟨x, e, z⟩ := hs [v] H1 [r1.1] _ _ Q rfl hx p2 fun s ss w H2 p3 l3 h5 => by
    have h6 : HE (X.K, T) H2 σ Γ1 (tmpS [v] ss ++ ((some w, s) :: ex)) := by
      refine ⟨he.len, h5.perm ?_⟩
      rw [← List.append_assoc, ← List.append_assoc]
      refine (List.perm_middle (a := ((some w, s) : Sl)) (l₁ := tmpS [v] ss ++ σ.zip Γ1) (l₂ := ex)).symm.trans ?_
      exact List.Perm.append_right _ List.perm_append_comm
    exact q w H2 (s, none) _ (HE.back (rs := [r1]) (vs := [v]) (by rw [l3]; rfl) (.cons og .nil) h6) Og.none p3
  cases e
  exact z
/-- what sorted(set(xs)) is: the keys of xs, each once, in some order -/
def cSortSet : CT := fun ss P => match ss with
  | [a] => ∃ ks : List NestedKey, lis a = some (ks.map NestedKey.data) ∧ Sorts ks ∧ ∀ ks' : List NestedKey, ks'.Nodup → (∀ k, k ∈ ks' ↔ k ∈ ks) → ks'.length ≤ ks.length → P (.m (ks'.map NestedKey.data)) ss
  | _ => False
theorem dt_pairs {K : PySem.W.Frag} {H : Hp} : ∀ {vs : List V} {ks : List NestedKey}, DtAll K H vs (ks.map NestedKey.data) → (∀ k ∈ ks, ∃ xs, k = .tup xs) → ∃ M : List (NestedKey × Addr), M.map Prod.fst = ks ∧ vs = M.map (fun q => V.ref q.2) ∧ ∀ q ∈ M, Dt K H (.ref q.2) q.1.data
  | [], [], _, _ => ⟨[], rfl, rfl, fun _ h => by cases h⟩
  | [], _ :: _, h, _ => by cases h
  | _ :: _, [], h, _ => by cases h
  | v :: vs, k :: ks, h, t => by
    cases h with
    | cons a r =>
      obtain ⟨M, e1, e2, e3⟩ := dt_pairs r fun k hk => t k (List.mem_cons_of_mem _ hk)
      obtain ⟨r', rfl⟩ := t k List.mem_cons_self
      have ⟨ad, ea⟩ : ∃ ad, v = .ref ad := by
        simp only [NestedKey.data] at a
        cases a
        exact ⟨_, rfl⟩
      subst ea
      refine ⟨(.tup r', ad) :: M, by rw [List.map_cons, e1], by rw [List.map_cons, e2], fun q hq => ?_⟩
      rcases List.mem_cons.mp hq with z | z
      · rw [z]; exact a
      · exact e3 q z
theorem dt_all_of {K : PySem.W.Frag} {H : Hp} : ∀ {M : List (NestedKey × Addr)}, (∀ q ∈ M, Dt K H (.ref q.2) q.1.data) → DtAll K H (M.map fun q => V.ref q.2) ((M.map Prod.fst).map NestedKey.data)
  | [], _ => .nil
  | q :: M, h => .cons (h q List.mem_cons_self) (dt_all_of fun x hx => h x (List.mem_cons_of_mem _ hx))
theorem snd_sortSet {K : KF} : Snd K (fun vs H Q => ∃ x, vs = [x] ∧ rSS K.1 x H Q) cSortSet := by
  intro vs H ss ex P Q hl h hc q
  unfold cSortSet at hc
  split at hc
  · obtain ⟨v, rfl⟩ := one_slot hl
    obtain ⟨ks, e, hs, p⟩ := hc
    obtain ⟨a, ws, rfl, hh, d⟩ := h.li (List.mem_cons_self) e
    obtain ⟨M, rfl, rfl, e3⟩ := dt_pairs d hs.tup
    refine ⟨_, rfl, a, M, rfl, SqL.of hh, fun q hq => ((e3 q hq).le hid_sub).dp (nk_noD _), hs, fun M' pn sub nd cov ll hn => ?_⟩
    have d' := dt_all_of (M := M') fun q hq => e3 q (sub q hq)
    have same : ∀ k, k ∈ M'.map Prod.fst ↔ k ∈ M.map Prod.fst := fun k => ⟨fun hk => by
      obtain ⟨x, hx, rfl⟩ := List.mem_map.mp hk
      exact List.mem_map.mpr ⟨x, sub x hx, rfl⟩, fun hk => by
      obtain ⟨x, hx, rfl⟩ := List.mem_map.mp hk
      exact cov x hx⟩
    exact q _ _ _ _ (p (M'.map Prod.fst) nd same (by rw [List.length_map, List.length_map]; exact ll)) rfl (h.new_m hn d')
  · exact hc.elim
theorem de_sortSet {T : Tbs} {a : Expr} {ta : TD} {p p2 q pos : Pos} (hm : X.mg "sorted" = none) (hm2 : X.mg "set" = none) (hc : X.calm = true) (hu : X.A.units + 100 < cLine) (ha : DE T X a ta) (hg : Gl X "sorted" := by rfl) (hg2 : Gl X "set" := by rfl)
    (na : starEach [a] X.env = (false, eval a X.env) :: starEach [] X.env := by rfl) : DE T X (.Call (.Name "sorted" p) [.Call (.Name "set" p2) [a] [] q] [] pos) (tAp (tdCons ta tdNil) cSortSet) :=
  de_ap1 (fun te h => pe_sortSet hc hu hg hm hg2 hm2 h na) snd_sortSet ha
end
end DL


namespace DL
open PySem PySem.Spec PyProof.Rows L2 RZ
/-! ## own lists that a call only looks at: they are own behind it, too -/
/-- the objects on which a heap's answer rests stand in another one, too -/
def Holds2 (L : List Addr) (H H' : Hp) : Prop := ∀ a ∈ L, ∀ o, (∀ z, o ≠ .tbl z) → H a = some o → H' a = some o
theorem Holds2.l {L M : List Addr} {H H' : Hp} (h : Holds2 (L ++ M) H H') : Holds2 L H H' := fun a m => h a (List.mem_append_left _ m)
theorem Holds2.r {L M : List Addr} {H H' : Hp} (h : Holds2 (L ++ M) H H') : Holds2 M H H' := fun a m => h a (List.mem_append_right _ m)
theorem Holds2.tl {a : Addr} {L : List Addr} {H H' : Hp} (h : Holds2 (a :: L) H H') : Holds2 L H H' := fun b m => h b (List.mem_cons_of_mem _ m)
theorem Holds2.hid {L : List Addr} {ms : List Addr} {H H' : Hp} (h : Holds2 L H H') : Holds2 L (hid ms H) (hid ms H') := fun a m o n e => by
  have hm : a ∉ ms := fun z => by unfold DL.hid at e; rw [if_pos z] at e; cases e
  exact hid_of (h a m o n (hid_sub a o e)) hm
theorem sqT_holds {K : PySem.W.Frag} {H : Hp} {a : Addr} {xs : List V} (h : SqT K H a xs) {H' : Hp} (k : Holds2 [a] H H') : SqT K H' a xs := by
  rcases h with (h | ⟨ow, h⟩) | h
  · exact .inl (.inl (k a List.mem_cons_self _ (fun z e => by cases e) h))
  · exact .inl (.inr ⟨ow, k a List.mem_cons_self _ (fun z e => by cases e) h⟩)
  · exact .inr h
theorem sqL_holds {K : PySem.W.Frag} {H : Hp} {a : Addr} {xs : List V} (h : SqL K H a xs) {H' : Hp} (k : Holds2 [a] H H') : SqL K H' a xs := by
  rcases h with (h | ⟨ow, h⟩) | h
  · exact .inl (.inl (k a List.mem_cons_self _ (fun z e => by cases e) h))
  · exact .inl (.inr ⟨ow, k a List.mem_cons_self _ (fun z e => by cases e) h⟩)
  · exact .inr h
theorem ext_tbl {φ} (z) : HO.ext φ ≠ HO.tbl z := fun e => by cases e
mutual
theorem Dt.rests {K : PySem.W.Frag} {H : Hp} : ∀ {v : V} {d : PyData}, Dt K H v d → ∃ L : List Addr, ∀ H', Holds2 L H H' → Dt K H' v d
  | _, _, .non => ⟨[], fun _ _ => .non⟩
  | _, _, .bl b => ⟨[], fun _ _ => .bl b⟩
  | _, _, .int i => ⟨[], fun _ _ => .int i⟩
  | _, _, .str x => ⟨[], fun _ _ => .str x⟩
  | _, _, .lst (a := a) h r => (DtAll.rests r).elim fun L q =>
    ⟨a :: L, fun H' k => .lst (k a List.mem_cons_self _ (fun z e => by cases e) h) (q H' k.tl)⟩
  | _, _, .tup (a := a) h r => (DtAll.rests r).elim fun L q =>
    ⟨[a] ++ L, fun H' k => .tup (sqT_holds h k.l) (q H' k.r)⟩
  | _, _, .scr (a := a) h r => (DtAll.rests r).elim fun L q =>
    ⟨[a] ++ L, fun H' k => .scr (sqL_holds h k.l) (q H' k.r)⟩
  | _, _, .exc0 (a := a) h => ⟨[a], fun H' k => .exc0 (k a List.mem_cons_self _ ext_tbl h)⟩
  | _, _, .exc1 (a := a) (dd := dd) h h2 r => (Dt.rests r).elim fun L q =>
    ⟨[a, dd] ++ L, fun H' k => .exc1 (k.l a List.mem_cons_self _ ext_tbl h) (k.l dd (List.mem_cons_of_mem _ List.mem_cons_self) _ ext_tbl h2) (q H' k.r)⟩
theorem DtAll.rests {K : PySem.W.Frag} {H : Hp} : ∀ {vs : List V} {ds : List PyData}, DtAll K H vs ds → ∃ L : List Addr, ∀ H', Holds2 L H H' → DtAll K H' vs ds
  | _, _, .nil => ⟨[], fun _ _ => .nil⟩
  | _, _, .cons h r => (Dt.rests h).elim fun L q => (DtAll.rests r).elim fun M p =>
    ⟨L ++ M, fun H' k => .cons (q H' k.l) (p H' k.r)⟩
end
theorem kvd_rests {K : PySem.W.Frag} {H : Hp} : ∀ {ws : List En} {kvs : List (List Int × PyData)}, KvD K H ws kvs → ∃ L : List Addr, ∀ H', Holds2 L H H' → KvD K H' ws kvs
  | _, _, .nil => ⟨[], fun _ _ => .nil⟩
  | x :: _, _, .cons h r =>
    have ⟨L, q⟩ := Dt.rests h.2.2
    have ⟨M, p⟩ := kvd_rests r
    ⟨([x.2.1] ++ L) ++ M, fun H' k => .cons ⟨h.1, sqT_holds h.2.1 k.l.l, q H' k.l.r⟩ (p H' k.r)⟩
theorem Ok.rests {K : PySem.W.Frag} {H : Hp} {ms : List Addr} {p : Sl} (h : Ok K H (hid ms H) p) : ∃ L : List Addr, ∀ H' Hd', Holds2 L H H' → Holds2 L (hid ms H) Hd' → Ok K H' Hd' p := by
  obtain ⟨o, s⟩ := p
  cases s with
  | no => exact ⟨[], fun _ _ _ _ => True.intro⟩
  | d x => cases o with
    | none => exact h.elim
    | some v =>
      obtain ⟨L, q⟩ := Dt.rests h
      exact ⟨L, fun H' Hd' _ k => q _ k⟩
  | m xs => cases o with
    | none => exact h.elim
    | some v => cases v with
      | ref a =>
        obtain ⟨vs, h1, h2⟩ := h
        obtain ⟨L, q⟩ := DtAll.rests h2
        exact ⟨a :: L, fun H' Hd' k k2 => ⟨vs, k a List.mem_cons_self _ (fun z e => by cases e) h1, q _ k2.tl⟩⟩
      | _ => exact h.elim
  | t kvs => cases o with
    | none => exact h.elim
    | some v => cases v with
      | ref a =>
        obtain ⟨ws, h1, h2⟩ := h
        obtain ⟨L, q⟩ := kvd_rests h2
        exact ⟨a :: L, fun H' Hd' k k2 => ⟨ws, k a List.mem_cons_self _ (fun z e => dto_tbl e) h1, q _ k2.tl⟩⟩
      | _ => exact h.elim
theorem oks_rest {K : PySem.W.Frag} {H : Hp} {ms : List Addr} : ∀ {ps : List Sl}, (∀ p ∈ ps, Ok K H (hid ms H) p) → ∃ L : List Addr, ∀ H' Hd', Holds2 L H H' → Holds2 L (hid ms H) Hd' → ∀ p ∈ ps, Ok K H' Hd' p
  | [], _ => ⟨[], fun _ _ _ _ p h => by cases h⟩
  | p :: ps, h =>
    have ⟨L, q⟩ := Ok.rests (h p List.mem_cons_self)
    have ⟨M, r⟩ := oks_rest (ps := ps) fun x hx => h x (List.mem_cons_of_mem _ hx)
    ⟨L ++ M, fun H' Hd' k k2 x hx => by
      rcases List.mem_cons.mp hx with z | z
      · rw [z]; exact q H' Hd' k.l k2.l
      · exact r H' Hd' k.r k2.r x z⟩
-- data without lists
mutual
def noL : PyData → Bool
  | .list _ => false
  | .dict _ => false
  | .tuple xs => noLs xs
  | _ => true
def noLs : List PyData → Bool
  | [] => true
  | x :: r => noL x && noLs r
end
mutual
theorem noL_dt {K : PySem.W.Frag} {H H' : Hp} (k : ∀ a xs, SqT K H a xs → SqT K H' a xs) : ∀ {v : V} {d : PyData}, Dt K H v d → noL d = true → Dt K H' v d
  | _, _, .non, _ => .non
  | _, _, .bl b, _ => .bl b
  | _, _, .int i, _ => .int i
  | _, _, .str x, _ => .str x
  | _, _, .lst _ _, n => by simp [noL] at n
  | _, _, .tup h r, n => .tup (k _ _ h) (noL_dts k r (by simpa [noL] using n))
  | _, _, .scr _ _, n => by simp [noL] at n
  | _, _, .exc0 _, n => by simp [noL] at n
  | _, _, .exc1 _ _ _, n => by simp [noL] at n
theorem noL_dts {K : PySem.W.Frag} {H H' : Hp} (k : ∀ a xs, SqT K H a xs → SqT K H' a xs) : ∀ {vs : List V} {ds : List PyData}, DtAll K H vs ds → noLs ds = true → DtAll K H' vs ds
  | _, _, .nil, _ => .nil
  | _, _, .cons h r, n => by
    simp only [noLs, Bool.and_eq_true] at n
    exact .cons (noL_dt k h n.1) (noL_dts k r n.2)
end
noncomputable def pinsOf (H : Hp) (L : List Addr) : List (Addr × HO) := L.filterMap fun a => match H a with
  | some (.tbl _) => none
  | some o => some (a, o)
  | none => none
theorem mem_pins {H : Hp} {L : List Addr} {q : Addr × HO} (h : q ∈ pinsOf H L) : H q.1 = some q.2 ∧ ∀ z, q.2 ≠ .tbl z := by
  obtain ⟨a, _, e⟩ := List.mem_filterMap.mp h
  split at e
  · cases e
  · rename_i o ne eo
    cases e
    exact ⟨eo, fun z ez => ne z ez⟩
  · cases e
theorem pins_mem {H : Hp} {L : List Addr} {a : Addr} {o : HO} (m : a ∈ L) (e : H a = some o) (n : ∀ z, o ≠ .tbl z) : (a, o) ∈ pinsOf H L := by
  refine List.mem_filterMap.mpr ⟨a, m, ?_⟩
  rw [e]
  cases o with
  | tbl z => exact absurd rfl (n z)
  | _ => rfl
/-! arguments that are only looked at -/
theorem ads_d : ∀ {vs : List V} {ss : List SV}, (∀ s ∈ ss, ∃ x, s = .d x) → ads (tmpS vs ss) = []
  | [], ss, _ => by simp [tmpS, ads]
  | v :: vs, [], _ => by simp [tmpS, ads]
  | v :: vs, s :: ss, h => by
    obtain ⟨x, rfl⟩ := h s List.mem_cons_self
    have ih := ads_d (vs := vs) (ss := ss) fun y hy => h y (List.mem_cons_of_mem _ hy)
    have e : tmpS (v :: vs) (.d x :: ss) = (some v, .d x) :: tmpS vs ss := rfl
    rw [e]
    cases v <;> exact ih
theorem hid_nil (H : Hp) : hid [] H = H := by funext b; unfold hid; simp
/-- what comes: data without lists, or a list of such -/
def Light (s : SV) : Prop := (∃ d, s = .d d ∧ noL d = true) ∨ ∃ ds, s = .m ds ∧ noLs ds = true
def keepC (c : CT) : CT := fun ss P => ∃ ss2, Soft ss ss2 ∧ (∀ s ∈ ss2, ∃ x, s = .d x) ∧ c ss2 fun s _ => Light s ∧ P s ss
theorem own_kind {K : PySem.W.Frag} {H Hd : Hp} {ps : List Sl} (ok : ∀ p ∈ ps, Ok K H Hd p) {a : Addr} (m : a ∈ ads ps) : ∃ o, H a = some o ∧ (∀ z, o ≠ .tbl z) ∧ (∀ l, o ≠ .tup l) ∧ ((∃ l, o = .lst l) ∨ ∃ b l, o = dto b l) := by
  obtain ⟨pp, hp, e2⟩ := mem_ads.mp m
  have k := ok pp hp
  obtain ⟨u, s⟩ := pp
  cases u with
  | none => cases s <;> cases e2
  | some v => cases v with
    | ref b => cases s with
      | m xs =>
        cases e2
        obtain ⟨ws, h1, _⟩ := k
        exact ⟨_, h1, fun z e => (by cases e), fun z e => (by cases e), .inl ⟨_, rfl⟩⟩
      | t xs =>
        cases e2
        obtain ⟨ws, h1, _⟩ := k
        exact ⟨_, h1, fun z e => dto_tbl e, fun z e => dto_tup e, .inr ⟨_, _, rfl⟩⟩
      | _ => cases e2
    | _ => cases s <;> cases e2
theorem sqT_off {K : PySem.W.Frag} {H : Hp} {ns ms : List Addr} (off : ∀ a ∈ ns, ∃ o, H a = some o ∧ ((∃ l, o = .lst l) ∨ ∃ b l, o = dto b l)) {a : Addr} {xs : List V} (z : SqT K (hid ms H) a xs) : SqT K (hid ns H) a xs := by
  have no : ∀ o, H a = some o → (∀ l, o ≠ .lst l) → (∀ b l, o ≠ dto b l) → a ∉ ns := fun o e n1 n2 m => by
    obtain ⟨o2, e2, (⟨l, el⟩ | ⟨b, l, el⟩)⟩ := off a m
    · rw [e, el] at e2; exact n1 l (Option.some.inj e2)
    · rw [e, el] at e2; exact n2 b l (Option.some.inj e2)
  rcases z with (z | ⟨ow, z⟩) | z
  · exact .inl (.inl (hid_of (hid_sub _ _ z) (no _ (hid_sub _ _ z) (fun l e => by cases e) fun b l e => dto_tup e.symm)))
  · exact .inl (.inr ⟨ow, hid_of (hid_sub _ _ z) (no _ (hid_sub _ _ z) (fun l e => by cases e) fun b l e => dto_frz e.symm)⟩)
  · exact .inr z
theorem sp_keep {K : PySem.W.Frag} {T : Tbs} {n : Nat} {c : CT} {vs : List V} {H : Hp} {Q : VK} {E : XK} (h : spOf (K, T) n (keepC c) vs H Q E) : ∃ T', spOf (K, T') n c vs H Q E := by
  obtain ⟨hn, ss, ex, P, hl, hs, ⟨ss2, so, al, hc⟩, q⟩ := h
  obtain ⟨L, rest⟩ := oks_rest hs.ok
  have soft : Hs (K, T) H (tmpS vs ss2 ++ ex) := Hs.soft so hs hl
  have l2 : ss2.length = ss.length := (soft_len so).symm
  refine ⟨(T.1, T.2 ++ pinsOf H (L ++ ads (tmpS vs ss ++ ex))), hn, ss2, [], fun s _ => Light s ∧ P s ss, hl.trans l2.symm, ?_, hc, ?_⟩
  · rw [List.append_nil]
    have ea := ads_d (vs := vs) al
    refine ⟨by rw [ea]; exact List.nodup_nil, fun p hp => ?_, hs.tb, fun r hr => ?_⟩
    · rw [ea]
      exact (soft.ok p (List.mem_append_left _ hp)).le (hid_le fun b hb => by cases hb) fun _ _ _ e => e
    · rw [ea]
      rcases List.mem_append.mp hr with z | z
      · exact ⟨(hs.pn r z).1, fun h => (by cases h), (hs.pn r z).2.2⟩
      · exact ⟨(mem_pins z).1, fun h => (by cases h), (mem_pins z).2⟩
  · rintro s ss' v H' ⟨li, p⟩ l' hs'
    have pin : ∀ a o, a ∈ L ++ ads (tmpS vs ss ++ ex) → H a = some o → (∀ z, o ≠ .tbl z) → H' a = some o := fun a o m e n => (hs'.pn (a, o) (List.mem_append_right _ (pins_mem m e n))).1
    have far : ∀ a o, a ∈ L ++ ads (tmpS vs ss ++ ex) → H a = some o → (∀ z, o ≠ .tbl z) → a ∉ ads ((some v, s) :: (tmpS vs ss' ++ [])) := fun a o m e n => (hs'.pn (a, o) (List.mem_append_right _ (pins_mem m e n))).2.1
    have h2 : Holds2 L H H' := fun a m o n e => pin a o (List.mem_append_left _ m) e n
    have ok' := rest H' _ h2 h2.hid
    have base : Hs (K, T) H' (tmpS vs ss ++ ex) := ⟨hs.nd, ok', fun P hP => hs'.tb P hP, fun r hr => ⟨(hs'.pn r (List.mem_append_left _ hr)).1, (hs.pn r hr).2⟩⟩
    have off : ∀ a ∈ ads (tmpS vs ss ++ ex), ∃ o, H' a = some o ∧ ((∃ l, o = .lst l) ∨ ∃ b l, o = dto b l) := fun a m => by
      obtain ⟨o, e, _, _, k⟩ := own_kind ok' m
      exact ⟨o, e, k⟩
    refine q s ss v H' p rfl ?_
    rcases li with ⟨d, rfl, nd⟩ | ⟨ds, rfl, nd⟩
    · exact base.cons_d (noL_dt (fun a xs z => sqT_off off z) hs'.get_d nd)
    · obtain ⟨a, ws, rfl, e1, e2, e3⟩ := hs'.get_m
      have ma : a ∈ ads ((some (V.ref a), SV.m ds) :: (tmpS vs ss' ++ [])) := List.mem_cons_self
      have na : a ∉ ads (tmpS vs ss ++ ex) := fun m => by
        obtain ⟨o, e, n, _⟩ := own_kind hs.ok m
        exact far a o (List.mem_append_right _ m) e n ma
      refine base.cons_m e1 (noL_dts (fun b xs z => sqT_off (fun b m => ?_) z) e2 nd) na (rest H' _ h2 fun b m o n e => ?_) fun r hr z => ?_
      · rcases List.mem_cons.mp m with z | z
        · rw [z]; exact ⟨_, e1, .inl ⟨_, rfl⟩⟩
        · exact off b z
      · have hb : b ∉ ads (tmpS vs ss ++ ex) := fun z => by unfold hid at e; rw [if_pos z] at e; cases e
        have eb : H b = some o := hid_sub b o e
        refine hid_of (h2 b m o n eb) fun z => ?_
        rcases List.mem_cons.mp z with z | z
        · exact far b o (List.mem_append_left _ m) eb n (by rw [z]; exact ma)
        · exact hb z
      · exact (hs'.pn r (List.mem_append_left _ hr)).2.1 (by rw [z]; exact ma)
theorem Fnd.keep {P : Program} {w : World} {K : PySem.W.Frag} {mg : Str → Option Value} {base : Heap} {k : Nat} {x : Str} {ps : List Str} {c : CT} (h : ∀ T, Fnd P w K T mg base k x ps c) (T : Tbs) : Fnd P w K T mg base k x ps (keepC c) := by
  obtain ⟨f, fd, _, h2, h3, h4, oc, od, osl, h5⟩ := h T
  refine ⟨f, fd, ⟨fun vs H Q E z => z.1, fun A outer s H args us vs Q E hr he hb hv hz => ?_⟩, h2, h3, h4, oc, od, osl, h5⟩
  obtain ⟨T', z⟩ := sp_keep hz
  obtain ⟨f', fd', g1, _, _, g4, oc', od', osl', g5⟩ := h T'
  have ef : f' = f := by
    rw [g4] at h4
    cases h4; rfl
  subst ef
  have efd : fd' = fd := by
    rw [g5] at h5
    cases h5; rfl
  subst efd
  exact g1.run A outer s H args us vs Q E hr he hb hv z
theorem FndS.keep {P : Program} {w : World} {K : PySem.W.Frag} {mg : Str → Option Value} {base : Heap} {k : Nat} {x p1 p2 : Str} {c : CT} (h : ∀ T, FndS P w K T mg base k x p1 p2 c) (T : Tbs) : FndS P w K T mg base k x p1 p2 (keepC c) := by
  obtain ⟨f, fd, _, h2, h2', h3, h4, oc, od, osl, h5⟩ := (h T).ex
  refine ⟨f, fd, ⟨fun vs H Q E z => z.1, fun A outer s H args us vs Q E hr he hb hv hz => ?_⟩, h2, h2', h3, h4, oc, od, osl, h5⟩
  obtain ⟨T', z⟩ := sp_keep hz
  obtain ⟨f', fd', g1, _, _, _, g4, oc', od', osl', g5⟩ := (h T').ex
  have ef : f' = f := by
    rw [g4] at h4
    cases h4; rfl
  subst ef
  have efd : fd' = fd := by
    rw [g5] at h5
    cases h5; rfl
  subst efd
  exact g1.run A outer s H args us vs Q E hr he hb hv z
end DL

namespace DL
open PySem PySem.Spec PyProof.Rows L2 RZ
theorem un100 {k : Nat} {A : Around} (r : Room k A) : A.units + 100 < cLine := by have := r.un; omega
/-- a list so many times -/
def cRep : CT := fun ss P => match ss with
  | [a, .d (.int k)] => ∃ xs, lis a = some xs ∧ -(2 ^ 63) ≤ k ∧ k < 2 ^ 63 ∧ xs.length * k.toNat ≤ sizeLine ∧ P (.m (List.replicate k.toNat xs).flatten) ss
  | _ => False
theorem dts_rep {K : PySem.W.Frag} {H : Hp} {vs : List V} {ds : List PyData} (h : DtAll K H vs ds) : ∀ n : Nat, DtAll K H (List.replicate n vs).flatten (List.replicate n ds).flatten
  | 0 => .nil
  | n + 1 => by
    rw [List.replicate_succ, List.replicate_succ, List.flatten_cons, List.flatten_cons]
    exact h.append (dts_rep h n)
theorem snd_rep {K : KF} : Snd2 K rRep cRep := by
  intro x y H s1 s2 ex P Q h hc q
  unfold cRep at hc
  split at hc
  · rename_i a k e
    cases e
    obtain ⟨xs, e, k1, k2, k3, p⟩ := hc
    obtain ⟨l, vs, rfl, hh, d⟩ := h.li (List.mem_cons_self) e
    have hy := (h.swap2).get_d
    cases hy
    have dl := d.length
    refine ⟨l, k, vs, rfl, rfl, hh, k1, k2, by rw [dl]; exact k3, fun pn hn => ?_⟩
    exact q _ _ _ _ _ p (h.new_m hn (dts_rep d _))
  · exact hc.elim
theorem snd_in {K : KF} : Snd2 K (rInD K.1) cIn := by
  intro x y H s1 s2 ex P Q h hc q
  obtain ⟨d, ds, e1, e2, h1, h2, p⟩ := hc
  exact ⟨d, ds, (h.dt List.mem_cons_self e1).dp (noD_lay _ (SeqAt.canLay_of_shaped h1)), (h.dt (List.mem_cons_of_mem _ List.mem_cons_self) (lis_dat e2)).dp (noD_lay _ (SeqAt.canLay_of_shaped h2)), h1, h2, q _ _ _ _ _ p (h.cons_d (.bl _))⟩
section
variable {T : Tbs} {X : Cx} {a b : Expr} {ta tb : TD} {pos : Pos}
theorem de_in (hu : X.A.units + 65 < cLine) (ha : DE T X a ta) (hb : DE T X b tb) (hm : behindInMarks .In b = false := by rfl) : DE T X (.Compare a [.In] [b] pos) (tAp2 ta tb cIn) := de_cmp (op_inD hu) snd_in ha hb hm
theorem dt_in (hu : X.A.units + 65 < cLine) (ha : DE T X a ta) (hb : DE T X b tb) (hm : behindInMarks .In b = false := by rfl) : DT T X (.Compare a [.In] [b] pos) (tdTest (tAp2 ta tb cIn)) := dt_cmp (op_inD hu) snd_in ha hb hm
theorem un65 {k : Nat} {A : Around} (r : Room k A) : A.units + 65 < cLine := by have := r.un; omega
theorem de_rep (ha : DE T X a ta) (hb : DE T X b tb) : DE T X (.BinOp a .Mult b pos) (tAp2 ta tb cRep) := de_bin op_rep snd_rep ha hb
end
section
variable {T : Tbs} {X : Cx} {e : Expr} {t : TD} {fx : List Nat}
def tdPar3 (i j l : Nat) (ta tb tc : TD) : TDS := fun E Γ => ta Γ fun r Γ1 => tb Γ1 fun r' Γ2 => tc Γ2 fun r'' Γ3 => E.nx (((Γ3.set i r.1).set j r'.1).set l r''.1)
theorem ds_par3 {i j l : Nat} {st : Stmt} {a b c : Expr} {ta tb tc : TD} (hp : ∀ ta tb tc, PE X a ta → PE X b tb → PE X c tc → PS X st (tPar3 i j l (tCons ta (tCons tb (tCons tc tNil))))) (ha : DE T X a ta) (hb : DE T X b tb) (hc : DE T X c tc)
    (ni : i ∉ fx := by decide) (nj : j ∉ fx := by decide) (nl : l ∉ fx := by decide) : DS T X fx st (tdPar3 i j l ta tb tc) := by
  obtain ⟨t1, h1, h2⟩ := ha
  obtain ⟨t2, h3, h4⟩ := hb
  obtain ⟨t3, h5, h6⟩ := hc
  refine ⟨_, hp _ _ _ h1 h3 h5, fun ρ σ H Γ ex E D h p c => ?_⟩
  refine h2 σ H Γ ex _ _ h.he p fun v H1 r Γ1 he og p1 => ?_
  refine h4 σ H1 Γ1 _ _ _ he p1 fun w H2 r' Γ2 he2 og2 p2 => ?_
  refine h6 σ H2 Γ2 _ _ _ he2 p2 fun u H3 r'' Γ3 he3 og3 p3 => ?_
  refine ⟨v, w, u, rfl, c.nx _ _ _ ?_ p3⟩
  have q1 : HS (X.K, T) fx ρ H3 σ Γ3 ((some v, r.1) :: (some w, r'.1) :: (some u, r''.1) :: ex) := by
    refine ⟨he3.perm ?_, h.fix⟩
    refine (List.Perm.cons _ (List.Perm.swap _ _ _)).trans ?_
    refine (List.Perm.swap _ _ _).trans (List.Perm.cons _ (List.Perm.swap _ _ _))
  exact ((q1.setv ni).setv nj).setv nl
/-- a name ahead of arguments that work on what it names: it is looked at last -/
def tdLate (i : Nat) (u : TDA) : TDA := fun Γ P => (∃ s, Γ[i]? = some s ∧ s ≠ .no) ∧ u Γ fun rs Γ1 => tdVar i Γ1 fun r Γ2 => P (r :: rs) Γ2
theorem da_late (i : Nat) {x : Str} {pos : Pos} {es : List Expr} {u : TDA} (hv : PE X (.Name x pos) (tVar i)) (hr : DA T X es u) (hs : starEach (.Name x pos :: es) X.env = (false, eval (.Name x pos) X.env) :: starEach es X.env := by rfl) : DA T X (.Name x pos :: es) (tdLate i u) := by
  obtain ⟨tr, h3, h4⟩ := hr
  refine ⟨_, pa_cons hv h3 hs, fun σ H Γ ex P Q h p q => ?_⟩
  obtain ⟨⟨s0, e0, n0⟩, p⟩ := p
  obtain ⟨o, e1, e2⟩ := zip_at h.len e0
  have ok := h.hs.ok _ (List.mem_append_left _ (List.mem_of_getElem? e2))
  obtain ⟨v, rfl⟩ := ok.some n0
  refine ⟨v, e1, h4 σ H Γ ex _ _ h p fun vs H2 rs Γ2 he2 ogs p2 => ?_⟩
  unfold tdVar at p2
  cases e : Γ2[i]? with
  | none => rw [e] at p2; exact p2.elim
  | some s =>
    rw [e] at p2
    obtain ⟨o2, e3, e4⟩ := zip_at he2.len e
    rw [e1] at e3
    cases e3
    have ok2 := he2.hs.ok _ (List.mem_append_left _ (List.mem_of_getElem? e4))
    cases s with
    | no => exact p2.elim
    | d d => exact q (v :: vs) H2 ((.d d, none) :: rs) Γ2 ⟨he2.len, (he2.hs.cons_d ok2).mid⟩ (.cons Og.none ogs) p2
    | m xs => exact q (v :: vs) H2 ((.m xs, some i) :: rs) _ (set_no he2 e1 e4) (.cons (fun j z => by cases z; exact e1) ogs) p2
    | t xs => exact q (v :: vs) H2 ((.t xs, some i) :: rs) _ (set_no he2 e1 e4) (.cons (fun j z => by cases z; exact e1) ogs) p2
/-- a statement, and what is known behind it -/
def tdCut (t u : TDS) : TDS := fun E Γ => ∃ W : G → Prop, t { E with nx := W } Γ ∧ ∀ Γ', W Γ' → u E Γ'
theorem dss_cut {st : Stmt} {sts : List Stmt} {t u : TDS} (h1 : DS T X fx st t) (h2 : DSs T X fx sts u) : DSs T X fx (st :: sts) (tdCut t u) := by
  obtain ⟨t1, h1, h2'⟩ := h1
  obtain ⟨t2, h3, h4⟩ := h2
  refine ⟨_, pss_cons h1 h3, fun ρ σ H Γ ex E D h p c => ?_⟩
  obtain ⟨W, p, k⟩ := p
  exact h2' ρ σ H Γ ex _ _ h p ⟨fun σ' H' Γ' h' p' => h4 ρ σ' H' Γ' ex E D h' (k Γ' p') c, c.rt, c.bk, c.ct⟩
/-- an expression, and what is known of its value -/
def tdCutE (t : TD) : TD := fun Γ P => ∃ C : R → G → Prop, t Γ C ∧ ∀ r Γ', C r Γ' → P r Γ'
theorem de_cut (h : DE T X e t) : DE T X e (tdCutE t) := by
  obtain ⟨te, h1, h2⟩ := h
  refine ⟨te, h1, fun σ H Γ ex P Q h p q => ?_⟩
  obtain ⟨C, p, k⟩ := p
  exact h2 σ H Γ ex C Q h p fun v H' r Γ' he og c => q v H' r Γ' he og (k r Γ' c)
end
end DL

/-! own dicts with PLACES (tuples of ints) as keys: {}, {k: v}, d[k], k in d, d[k] = v -/
namespace L2
open PySem PySem.Spec PyProof.Rows
/-- d[k] -/
def rTGet (K : PySem.W.Frag) : R2 := fun x y H Q => ∃ a b ws k v, x = .ref a ∧ y = .ref b ∧ H a = some (dto a ws) ∧ EnK K H ws ∧ SqT K H b (k.map V.int) ∧ enV ws k = some v ∧ Q v H
/-- k in d -/
def rTIn (K : PySem.W.Frag) : R2 := fun x y H Q => ∃ a b ws k, x = .ref b ∧ y = .ref a ∧ H a = some (dto a ws) ∧ EnK K H ws ∧ SqT K H b (k.map V.int) ∧ Q (.bl (enV ws k).isSome) H
def rTNotIn (K : PySem.W.Frag) : R2 := fun x y H Q => ∃ a b ws k, x = .ref b ∧ y = .ref a ∧ H a = some (dto a ws) ∧ EnK K H ws ∧ SqT K H b (k.map V.int) ∧ Q (.bl (!(enV ws k).isSome)) H
section
variable {X : Cx}
theorem ix_tget (hu : X.A.units + 1 < cLine) : IxR X (rTGet X.K) := by
  intro value slice pins s σ H x y v u Q I rx ry h hs
  obtain ⟨a, b, ws, k, r, rfl, rfl, e, hk, eb, l, q⟩ := h
  cases rx
  cases ry
  obtain ⟨_, _, _, _, dd⟩ := dto_of (P := X.prog) (w := X.w) I.kIn I.hok e hk
  exact tail_any dd.typeIs PySem.F.slot_dict_getitem.lookup (dto_getItem hu I e hk eb l fun w' s' J rw' => ⟨r, H, J, rw', q⟩) hs
theorem op_tin (hu : X.A.units + 1 < cLine) : OpR X (compareOp .In) (rTIn X.K) := by
  intro pins s σ H x y v u Q I rx ry h
  obtain ⟨a, b, ws, k, rfl, rfl, e, hk, eb, q⟩ := h
  cases rx
  cases ry
  exact dto_in hu I e hk eb fun s' J => ⟨.bl _, H, J, rfl, q⟩
theorem op_tnotIn (hu : X.A.units + 1 < cLine) : OpR X (compareOp .NotIn) (rTNotIn X.K) := by
  intro pins s σ H x y v u Q I rx ry h
  obtain ⟨a, b, ws, k, rfl, rfl, e, hk, eb, q⟩ := h
  cases rx
  cases ry
  exact dto_notIn hu I e hk eb fun s' J => ⟨.bl _, H, J, rfl, q⟩
/-- d[k] = v -/
def sTPut (K : PySem.W.Frag) (td ty tv : TE) : TS := fun D σ H => tv σ H fun v H1 => td σ H1 fun x H2 => ty σ H2 fun y H3 => ∃ a b ws k, x = .ref a ∧ y = .ref b ∧ H3 a = some (dto a ws) ∧ EnK K H3 ws ∧ SqT K H3 b (k.map V.int) ∧
  ws.length < sizeLine ∧ D.nx σ (upd H3 a (dto a (enPut ws k b v)))
theorem ps_tput {o i value : Expr} {pos pos' : Pos} {td ty tv : TE} (hu : X.A.units + 1 < cLine) (ho : PE X o td) (hi : PE X i ty) (hv : PE X value tv) (hs : swapsWith value (some (.Subscript o i pos')) pos.line X.env = pure false := by rfl) :
    PS X (.Assign [.Subscript o i pos'] value pos) (sTPut X.K td ty tv) := by
  refine ⟨fun pins s σ H D I h => wpAny_Assign_Subscript (thn (hv.run pins s σ H _ I h) fun r s1 ⟨v, H1, I1, rv, q1⟩ => thn (ho.run pins s1 σ H1 _ I1 q1) fun u s2 ⟨x, H2, I2, rx, q2⟩ => thn (hi.run pins s2 σ H2 _ I2 q2) fun iv s3 ⟨y, H3, I3, ry, g⟩ => ?_) hs⟩
  obtain ⟨a, b, ws, k, rfl, rfl, e, hk, eb, hl, q⟩ := g
  cases rx
  cases ry
  exact dto_setItem hu I3 e hk eb rv hl fun s4 I4 => ⟨σ, _, I4, q⟩
/-- {} -/
def tTNew : TE := fun _ H Q => ∀ p, H p = none → Q (.ref p) (upd H p (dto p []))
theorem pe_tnew {pos : Pos} : PE X (.Dict [] [] pos) tTNew := ⟨fun pins s σ H Q I h =>
  wpAny_Dict_empty ⟨.ref s.heap.objs.size, _, I.laid (a := s.heap.objs.size) (o := dto s.heap.objs.size []) (t' := s.toks) (fun _ _ q => Heap.get?_push_of_some _ q) (Nat.le_refl _) (dto_empty s.heap I.big), rfl, h _ (I.hok.fresh (Nat.le_refl _))⟩⟩
end
end L2
namespace DL
open PySem PySem.Spec PyProof.Rows L2 RZ
abbrev TbL := List (List Int × PyData)
def tbV (t : TbL) (k : List Int) : Option PyData := (t.find? fun p => decide (p.1 = k)).map (·.2)
def tbPut (t : TbL) (k : List Int) (x : PyData) : TbL := if (t.any fun p => decide (p.1 = k)) then t.map (fun p => if p.1 = k then (p.1, x) else p) else t ++ [(k, x)]
abbrev plc (k : List Int) : PyData := .tuple (k.map PyData.int)
section
variable {K : PySem.W.Frag} {H : Hp} {ws : List En} {kvs : TbL}
theorem kvd_val (r : KvD K H ws kvs) (k : List Int) {x : PyData} (h : tbV kvs k = some x) : ∃ v, enV ws k = some v ∧ Dt K H v x := by
  induction r with
  | nil => cases h
  | @cons p q ps qs hp t ih =>
    obtain ⟨h1, _, h2⟩ := hp
    unfold tbV at h ih
    unfold enV at ih ⊢
    simp only [List.find?_cons] at h ⊢
    rw [h1]
    by_cases z : q.1 = k
    · rw [decide_eq_true z] at h ⊢
      obtain rfl : q.2 = x := Option.some.inj h
      exact ⟨p.2.2, rfl, h2⟩
    · rw [decide_eq_false z] at h ⊢
      exact ih h
theorem kvd_any (r : KvD K H ws kvs) (k : List Int) : (ws.any fun p => decide (p.1 = k)) = kvs.any fun p => decide (p.1 = k) := by
  induction r with
  | nil => rfl
  | @cons p q ps qs hp t ih => simp only [List.any_cons, ih, hp.1]
theorem tbV_any (t : TbL) (k : List Int) : (tbV t k).isSome = t.any fun p => decide (p.1 = k) := by
  unfold tbV
  rw [Option.isSome_map]
  induction t with
  | nil => rfl
  | cons p ps ih =>
    simp only [List.find?_cons, List.any_cons, ← ih]
    cases decide (p.1 = k) <;> simp
theorem enV_any (t : List En) (k : List Int) : (enV t k).isSome = t.any fun p => decide (p.1 = k) := by
  unfold enV
  rw [Option.isSome_map]
  induction t with
  | nil => rfl
  | cons p ps ih =>
    simp only [List.find?_cons, List.any_cons, ← ih]
    cases decide (p.1 = k) <;> simp
theorem kvd_isSome (r : KvD K H ws kvs) (k : List Int) : (enV ws k).isSome = (tbV kvs k).isSome := by rw [enV_any, tbV_any, kvd_any r]
theorem kvd_put (r : KvD K H ws kvs) (k : List Int) {b : Addr} {v : V} {x : PyData} (hb : SqT K H b (k.map V.int)) (hv : Dt K H v x) : KvD K H (enPut ws k b v) (tbPut kvs k x) := by
  unfold enPut tbPut
  rw [kvd_any r k]
  by_cases z : (kvs.any fun p => decide (p.1 = k)) = true
  · rw [if_pos z, if_pos z]
    clear z
    induction r with
    | nil => exact .nil
    | @cons p q ps qs h t ih =>
      refine .cons ?_ ih
      obtain ⟨h1, h2, h3⟩ := h
      dsimp only
      rw [h1]
      by_cases e : q.1 = k
      · rw [if_pos e, if_pos e]; exact ⟨rfl, by rw [← h1]; exact h2, hv⟩
      · rw [if_neg e, if_neg e]; exact ⟨h1, h2, h3⟩
  · rw [if_neg z, if_neg z]
    exact Paired.snoc r ⟨rfl, hb, hv⟩
theorem kvd_keys (r : KvD K H ws kvs) : EnK K H ws := by
  induction r with
  | nil => intro p hp; cases hp
  | @cons p q ps qs h t ih =>
    intro x hx
    rcases List.mem_cons.mp hx with z | z
    · rw [z]; exact h.2.1
    · exact ih x z
theorem ints_of {K : PySem.W.Frag} {H : Hp} : ∀ {vs : List V} {k : List Int}, DtAll K H vs (k.map PyData.int) → vs = k.map V.int
  | _, [], r => by cases r; rfl
  | _, i :: k, r => by
    cases r with
    | cons h t =>
      cases h
      rw [ints_of t]; rfl
end
section
variable {K : KF}
def cTGet : CT := fun ss P => match ss with
  | [.t kvs, .d (.tuple xs)] => ∃ k x, xs = k.map PyData.int ∧ tbV kvs k = some x ∧ P (.d x) ss
  | _ => False
def cTIn (f : Bool → Bool) : CT := fun ss P => match ss with
  | [.d (.tuple xs), .t kvs] => ∃ k, xs = k.map PyData.int ∧ P (.d (.bool (f (tbV kvs k).isSome))) ss
  | _ => False
theorem Hs.plc {H : Hp} {ps : List Sl} {v : V} {k : List Int} (h : Hs K H ps) (m : ((some v, .d (.tuple (k.map PyData.int))) : Sl) ∈ ps) : ∃ b, v = .ref b ∧ SqT K.1 (hid (ads ps) H) b (k.map V.int) := by
  have d := h.ok _ m
  cases (show Dt K.1 (hid (ads ps) H) v (.tuple (k.map PyData.int)) from d) with
  | tup h1 r => exact ⟨_, rfl, by rw [ints_of r] at h1; exact h1⟩
theorem snd_tget : Snd2 K (rTGet K.1) cTGet := by
  intro x y H s1 s2 ex P Q h c q
  unfold cTGet at c
  split at c
  · rename_i kvs xs e
    cases e
    obtain ⟨k, x, rfl, e, p⟩ := c
    obtain ⟨b, rfl, hb⟩ := h.plc (List.mem_cons_of_mem _ List.mem_cons_self)
    obtain ⟨a, ws, rfl, ha, kv, n⟩ := h.get_t
    obtain ⟨v, ev, dv⟩ := kvd_val kv k e
    refine ⟨a, b, ws, k, v, rfl, rfl, ha, fun p hp => hid_sub.sqT (kvd_keys kv p hp), hid_sub.sqT hb, ev, q _ _ _ _ _ p (h.cons_d ?_)⟩
    exact dv
  · exact c.elim
theorem snd_tin : Snd2 K (rTIn K.1) (cTIn id) := by
  intro x y H s1 s2 ex P Q h c q
  unfold cTIn at c
  split at c
  · rename_i xs kvs e
    cases e
    obtain ⟨k, rfl, p⟩ := c
    obtain ⟨b, rfl, hb⟩ := h.plc List.mem_cons_self
    obtain ⟨a, ws, rfl, ha, kv, n⟩ := h.swap2.get_t
    refine ⟨a, b, ws, k, rfl, rfl, ha, fun p hp => hid_sub.sqT (kvd_keys kv p hp), hid_sub.sqT hb, ?_⟩
    rw [kvd_isSome kv k]
    exact q _ _ _ _ _ p (h.cons_d (.bl _))
  · exact c.elim
theorem snd_tnotIn : Snd2 K (rTNotIn K.1) (cTIn not) := by
  intro x y H s1 s2 ex P Q h c q
  unfold cTIn at c
  split at c
  · rename_i xs kvs e
    cases e
    obtain ⟨k, rfl, p⟩ := c
    obtain ⟨b, rfl, hb⟩ := h.plc List.mem_cons_self
    obtain ⟨a, ws, rfl, ha, kv, n⟩ := h.swap2.get_t
    refine ⟨a, b, ws, k, rfl, rfl, ha, fun p hp => hid_sub.sqT (kvd_keys kv p hp), hid_sub.sqT hb, ?_⟩
    rw [kvd_isSome kv k]
    exact q _ _ _ _ _ p (h.cons_d (.bl _))
  · exact c.elim
end
section
variable {T : Tbs} {X : Cx} {a b : Expr} {ta tb : TD} {pos : Pos} {fx : List Nat}
theorem de_tget (hu : X.A.units + 1 < cLine) (ha : DE T X a ta) (hb : DE T X b tb) (hp : PlainIx b := by exact fun _ _ => rfl) : DE T X (.Subscript a b pos) (tAp2 ta tb cTGet) := de_ix (ix_tget hu) snd_tget ha hb hp
theorem de_tin (hu : X.A.units + 1 < cLine) (ha : DE T X a ta) (hb : DE T X b tb) (hm : behindInMarks .In b = false := by rfl) : DE T X (.Compare a [.In] [b] pos) (tAp2 ta tb (cTIn id)) := de_cmp (op_tin hu) snd_tin ha hb hm
theorem dt_tin (hu : X.A.units + 1 < cLine) (ha : DE T X a ta) (hb : DE T X b tb) (hm : behindInMarks .In b = false := by rfl) : DT T X (.Compare a [.In] [b] pos) (tdTest (tAp2 ta tb (cTIn id))) := dt_cmp (op_tin hu) snd_tin ha hb hm
theorem de_tnotIn (hu : X.A.units + 1 < cLine) (ha : DE T X a ta) (hb : DE T X b tb) (hm : behindInMarks .NotIn b = false := by rfl) : DE T X (.Compare a [.NotIn] [b] pos) (tAp2 ta tb (cTIn not)) := de_cmp (op_tnotIn hu) snd_tnotIn ha hb hm
theorem dt_tnotIn (hu : X.A.units + 1 < cLine) (ha : DE T X a ta) (hb : DE T X b tb) (hm : behindInMarks .NotIn b = false := by rfl) : DT T X (.Compare a [.NotIn] [b] pos) (tdTest (tAp2 ta tb (cTIn not))) := dt_cmp (op_tnotIn hu) snd_tnotIn ha hb hm
/-- {} -/
def tdTNew : TD := fun Γ P => P (.t [], none) Γ
theorem de_tnew : DE T X (.Dict [] [] pos) tdTNew := by
  refine ⟨_, pe_tnew, fun σ H Γ ex P Q h p q => ?_⟩
  intro n hn
  refine q _ _ (.t [], none) Γ ⟨h.len, ?_⟩ Og.none p
  exact (h.hs.new_t (ws := []) (kvs := []) hn .nil).mid
/-- d[k] = e -/
def tdTPut (te to ti : TD) : TDS := fun E Γ => te Γ fun r Γ1 => to Γ1 fun ro Γ2 => ti Γ2 fun ri Γ3 => ∃ y kvs k, dat r.1 = some y ∧ ro.1 = .t kvs ∧ ri.1 = .d (plc k) ∧ kvs.length < sizeLine ∧
  E.nx (back [ro] [.t (tbPut kvs k y)] (back [r] [frz r.1] Γ3))
theorem ds_tput {o i e : Expr} {pos' : Pos} {te to ti : TD} (hu : X.A.units + 1 < cLine) (he : DE T X e te) (ho : DE T X o to) (hi : DE T X i ti) (hs : swapsWith e (some (.Subscript o i pos')) pos.line X.env = pure false := by rfl) :
    DS T X fx (.Assign [.Subscript o i pos'] e pos) (tdTPut te to ti) := by
  obtain ⟨t1, h1, h2⟩ := he
  obtain ⟨t2, h3, h4⟩ := ho
  obtain ⟨t3, h5, h6⟩ := hi
  refine ⟨_, ps_tput hu h3 h5 h1 hs, fun ρ σ H Γ ex E D h p c => ?_⟩
  refine h2 σ H Γ ex _ _ h.he p fun v H1 r Γ1 he og p1 => ?_
  refine h4 σ H1 Γ1 _ _ _ he p1 fun w H2 ro Γ2 he2 og2 p2 => ?_
  refine h6 σ H2 Γ2 _ _ _ he2 p2 fun z H3 ri Γ3 he3 og3 p3 => ?_
  obtain ⟨y, kvs, k, e1, e2, e3, e4, p3⟩ := p3
  obtain ⟨so, oo⟩ := ro
  obtain ⟨si, oi⟩ := ri
  cases e2
  cases e3
  have h0 : HE (X.K, T) H3 σ Γ3 ((some v, r.1) :: (some w, .t kvs) :: (some z, .d (plc k)) :: ex) := he3.perm (((List.Perm.swap _ _ _).trans (List.Perm.cons _ (List.Perm.swap _ _ _))).trans (List.Perm.swap _ _ _))
  have h1 : HE (X.K, T) H3 σ (DL.back [r] [frz r.1] Γ3) ((some v, frz r.1) :: (some w, .t kvs) :: (some z, .d (plc k)) :: ex) := HE.frzAll (rs := [r]) (vs := [v]) (ex := (some w, .t kvs) :: (some z, .d (plc k)) :: ex) (.cons og .nil) h0
  rw [frz_dat e1] at h1 p3
  have h2 : Hs (X.K, T) H3 ((some w, .t kvs) :: (some v, .d y) :: (some z, .d (plc k)) :: (σ.zip (DL.back [r] [.d y] Γ3) ++ ex)) :=
    h1.hs.perm ((List.perm_middle.trans (List.Perm.cons _ (List.perm_middle.trans (List.Perm.cons _ List.perm_middle)))).trans (List.Perm.swap _ _ _))
  obtain ⟨b, rfl, hb⟩ := h2.plc (v := z) (k := k) (List.mem_cons_of_mem _ (List.mem_cons_of_mem _ List.mem_cons_self))
  have dv := h2.ok (some v, .d y) (List.mem_cons_of_mem _ List.mem_cons_self)
  obtain ⟨a, ws, rfl, ha, kv, _⟩ := h2.get_t
  refine ⟨a, b, ws, k, rfl, rfl, ha, fun p hp => hid_sub.sqT (kvd_keys kv p hp), hid_sub.sqT hb, by rw [Paired.length kv]; exact e4, c.nx _ _ _ ⟨?_, h.fix⟩ p3⟩
  have h7 := (h2.writeT (kvd_put kv k hb dv)).swap2.tail.swap2.tail
  exact HE.back (rs := [(.t kvs, oo)]) (vs := [.ref a]) rfl (.cons og2 .nil) ⟨h1.len, h7.mid⟩
end
end DL

/-! {k: v}: a dict of one PLACE -/
namespace L2
open PySem PySem.Spec PyProof.Rows
def tTOne (K : PySem.W.Frag) (tk tv : TE) : TE := fun σ H Q => ∀ p, H p = none → tk σ (upd H p (dto p [])) fun y H1 => tv σ H1 fun v H2 => ∃ b k, y = .ref b ∧ H2 p = some (dto p []) ∧ SqT K H2 b (k.map V.int) ∧
  Q (.ref p) (upd H2 p (dto p [(k, b, v)]))
section
variable {X : Cx}
theorem one_xs {ks : List Int} {b : Addr} {u : Value} : storedAllH ([] : List Er) [(ks, b, u)] = [(ks, b, u)] := by
  simp [storedAllH, storedH, atKey]
theorem pe_tone {k v : Expr} {pos : Pos} {tk tv : TE} (hu : X.A.units + 1 < cLine) (hk : PE X k tk) (hv : PE X v tv) : PE X (.Dict [some k] [v] pos) (tTOne X.K tk tv) := by
  refine ⟨fun pins s σ H Q I q => ?_⟩
  have I1 := I.laid (a := s.heap.objs.size) (o := dto s.heap.objs.size []) (h' := s.heap.push { cls := .type "dict", data := .dict #[] }) (t' := s.toks) (fun _ _ q => Heap.get?_push_of_some _ q) (Nat.le_refl _) (dto_empty s.heap I.big)
  have q0 := q _ (I.hok.fresh (Nat.le_refl s.heap.objs.size))
  have core : wpAny (model X.prog X.w) X.A (subDict (pairTrees [some k] [v] X.env pos)) (fun d s' => EP X pins σ Q (.ref d) s') X.xe s := by
    refine wpAny_subDictH (knd := tupleKind (intKind X.prog X.w)) (show X.A.units < cLine by omega) (show 1 ≤ 15 by decide) ?_
    refine pairTrees_cons_walk (thn (hk.run pins _ σ _ _ I1 q0) fun u s1 ⟨y, H1, I2, ry, q1⟩ => thn (hv.run pins s1 σ H1 _ I2 q1) fun w2 s2 ⟨z, H2, I3, rv, b, ks, ey, e, hb, q2⟩ => pairTrees_nil_walk ?_)
    subst ey
    cases ry
    obtain ⟨_, hd, xs, rel, dd⟩ := dto_of (P := X.prog) (w := X.w) I3.kIn I3.hok e (fun p hp => by cases hp)
    cases rel
    refine ⟨[(ks, b, w2)], ⟨rfl, rfl, tup_key I3.kIn I3.hok hb, trivial⟩, dd, fun h' tk' dd' hs => ⟨.ref s.heap.objs.size, _, ?_, rfl, q2⟩⟩
    rw [one_xs] at dd'
    obtain ⟨o, es, ep, h1, h2, h3, h4, _, h5⟩ := dd'
    exact d_write I3 (by rw [e]; exact True.intro) hs ⟨o, h1⟩ (dto_ok ⟨by rw [sizeLine_eq]; show 1 ≤ _; omega, hd, _, .cons ⟨rfl, rfl, rv⟩ .nil, o, es, ep, h1, h2, h3, h4, h5⟩)
  rw [arm_eval_Dict, zip_pairTrees [some k] [v] X.env pos rfl rfl, dictDisplay_pairs (pairTrees [some k] [v] X.env pos) (by intro z; cases z) (show 1 < 17 by decide)]
  exact wpAny_bind (wpAny_standAt (wpAny_bind (wpAny_mono core (fun d s' r => wpAny_pure r) fun _ _ e => e)))
end
end L2
namespace DL
open PySem PySem.Spec PyProof.Rows L2 RZ
section
variable {T : Tbs} {X : Cx} {k v : Expr} {tk tv : TD} {pos : Pos}
def tdTOne (tk tv : TD) : TD := fun Γ P => tk Γ fun rk Γ1 => tv Γ1 fun rv Γ2 => ∃ ks y, rk.1 = .d (plc ks) ∧ dat rv.1 = some y ∧ P (.t [(ks, y)], none) (back [rv] [frz rv.1] Γ2)
theorem de_tone (hu : X.A.units + 1 < cLine) (hk : DE T X k tk) (hv : DE T X v tv) : DE T X (.Dict [some k] [v] pos) (tdTOne tk tv) := by
  obtain ⟨t1, h1, h2⟩ := hk
  obtain ⟨t2, h3, h4⟩ := hv
  refine ⟨_, pe_tone hu h1 h3, fun σ H Γ ex P Q h p q => ?_⟩
  intro n hn
  refine h2 σ _ Γ ((some (.ref n), .t []) :: ex) _ _ ⟨h.len, (h.hs.new_t (ws := []) (kvs := []) hn .nil).mid⟩ p fun y H1 rk Γ1 he og p1 => ?_
  refine h4 σ H1 Γ1 _ _ _ he p1 fun z H2 rv Γ2 he2 og2 p2 => ?_
  obtain ⟨ks, d, e1, e2, p2⟩ := p2
  obtain ⟨sk, ok⟩ := rk
  cases e1
  have g1 : HE (X.K, T) H2 σ (DL.back [rv] [frz rv.1] Γ2) ((some z, frz rv.1) :: (some y, .d (plc ks)) :: (some (.ref n), .t []) :: ex) := HE.frzAll (rs := [rv]) (vs := [z]) (ex := (some y, .d (plc ks)) :: (some (.ref n), .t []) :: ex) (.cons og2 .nil) he2
  rw [frz_dat e2] at g1 p2
  have g2 : Hs (X.K, T) H2 ((some (.ref n), .t []) :: (some z, .d d) :: (some y, .d (plc ks)) :: (σ.zip (DL.back [rv] [.d d] Γ2) ++ ex)) := by
    refine g1.hs.perm ?_
    refine (List.perm_middle.trans (List.Perm.cons _ (List.perm_middle.trans (List.Perm.cons _ List.perm_middle)))).trans ?_
    exact (List.Perm.cons _ (List.Perm.swap _ _ _)).trans (List.Perm.swap _ _ _)
  obtain ⟨b, rfl, hb⟩ := g2.plc (v := y) (k := ks) (List.mem_cons_of_mem _ (List.mem_cons_of_mem _ List.mem_cons_self))
  have dv := g2.ok (some z, .d d) (List.mem_cons_of_mem _ List.mem_cons_self)
  obtain ⟨a, ws, ea, ha, kv, _⟩ := g2.get_t
  cases ea
  cases kv
  refine ⟨b, ks, rfl, ha, hid_sub.sqT hb, ?_⟩
  have g3 := (g2.writeT (ws' := [(ks, b, z)]) (kvs' := [(ks, d)]) (.cons ⟨rfl, hb, dv⟩ .nil)).swap2.tail.swap2.tail
  exact q _ _ (.t [(ks, d)], none) _ ⟨g1.len, g3.mid⟩ Og.none p2
end
end DL

/-! all(is_number(x) for x in a tuple of ints), a generator expression whose element calls a def of one's own -/
namespace DL
open PySem PySem.Spec PyProof.Rows L2 RZ
section
variable {prog : Program} {w : World} {A : Around} {E : Value → Shared → Prop} {s : Shared} {K : PySem.W.Frag} {mg : Str → Option Value} {env : Env} {x : Str} {u : Value} {pos : Pos} {Q : Value → Shared → Prop}
theorem un1 {k : Nat} {A : Around} (r : Room k A) : A.units + 1 < cLine := by have := r.un; omega
theorem mod_keeps {h h' : Heap} (M : L2.Mod K mg h) (k : ∀ b o, h.get? b = some o → h'.get? b = some o) : L2.Mod K mg h' :=
  ⟨M.kin.keeps k, M.glob.keeps k, let ⟨mb, a, b⟩ := M.blt; ⟨mb, a.keeps k, b⟩, M.nolimit.keeps k⟩
/-- where a name of the module, of the built-ins is looked up -/
structure Out (env : Env) : Prop where
  kind : env.scope.kind = .function
  glob : env.globals = mainGlobals
  blt : env.builtins = builtinsNs
theorem nm_glob (O : Out env) (M : L2.Mod K mg s.heap) (hg : env.kindOf x = some .globalImplicit) (hm : mg x = some u) (h : Q u s) (hd : (x == ("__debug__" : Str)) = false := by decide) : wpAny (model prog w) A (eval (.Name x pos) env) Q E s :=
  Calls.Name_function_global O.kind hg (Calls.loadGlobal_global (by rw [O.glob]; exact M.glob) hm h) hd
theorem nm_blt (O : Out env) (M : L2.Mod K mg s.heap) (hg : env.kindOf x = some .globalImplicit) (hm : mg x = none) (hv : bootBuiltins x = some u) (h : Q u s) (hn : x ≠ "__name__" := by decide) (hd : (x == ("__debug__" : Str)) = false := by decide) :
    wpAny (model prog w) A (eval (.Name x pos) env) Q E s := by
  obtain ⟨mb, h1, h2⟩ := M.blt
  exact Calls.Name_function_global O.kind hg (Calls.loadGlobal_builtin (by rw [O.glob]; exact M.glob) hm (by rw [O.blt]; exact h1) ((h2 x hn).trans hv) h) hd
theorem nm_loc {m : Str → Option Value} (hk : env.scope.kind = .function) (hl : env.scope.names.lookup x = some .local) (hn : s.heap.Ns env.locals m) (hm : m x = some u) (h : Q u s) (hd : (x == ("__debug__" : Str)) = false := by decide) :
    wpAny (model prog w) A (eval (.Name x pos) env) Q E s := wpAny_Name (wpAny_loadName_local hk hl hn hm h) hd
/-- isinstance(x, T) of an int -/
theorem isi_at {m : Str → Option Value} {y : Str} {T : String} {i : Int} {t : Tok} {b : Bool} {p1 p2 p3 : Pos} (O : Out env) (M : L2.Mod K mg s.heap) (hi : env.kindOf "isinstance" = some .globalImplicit) (hy : env.kindOf y = some .globalImplicit) (mi : mg "isinstance" = none) (my : mg y = none)
    (ty : bootBuiltins y = some (.type T)) (hl : env.scope.names.lookup x = some .local) (hn : s.heap.Ns env.locals m) (hm : m x = some (.int i t)) (e : ansOf T "int" = some b) (kits : ∀ S b, ansOf T S = some b → PySem.W.kitOne K (.type S) (.type T) = some b)
    (h : ∀ tk, Q (.bool b) { s with toks := tk }) (hn2 : y ≠ "__name__" := by decide) (hd : (x == ("__debug__" : Str)) = false := by decide) (hd2 : (y == ("__debug__" : Str)) = false := by decide)
    (he : starEach [.Name x p2, .Name y p3] env = (false, eval (.Name x p2) env) :: (false, eval (.Name y p3) env) :: [] := by rfl) :
    wpAny (model prog w) A (eval (.Call (.Name "isinstance" p1) [.Name x p2, .Name y p3] [] pos) env) Q E s := by
  refine wpAny_Call_Name_kw (nm_blt O M hi mi (by decide +kernel : bootBuiltins "isinstance" = some (.builtin "isinstance")) ?_)
  refine PyProof.Rows.callWith_builtin1 ?_ (by rfl) (by rfl)
  rw [he]
  show wpAny _ _ (spliced ((false, eval (.Name x p2) env) :: (false, eval (.Name y p3) env) :: [])) _ _ s
  refine Calls.spliced_cons (nm_loc O.kind hl hn hm ?_ hd)
  refine Calls.spliced_cons (nm_blt O M hy my ty ?_ hn2 hd2)
  refine Calls.spliced_nil ?_
  exact PySem.W.kia_one PySem.W.kitx_int M.kin True.intro (kits _ _ e) (fun z => nomatch z) h
/-- the def is_number stands in the written part -/
structure NumF (K : PySem.W.Frag) (mg : Str → Option Value) (f : Addr) (st : Stmt) : Prop where
  fn : ∃ (oc : Value) (od : Option Addr) (kV doc pm : Value) (an : Option Addr) (cdv ct : Value) (osl : Array (Option Value)),
    K.lookup f = some ⟨oc, od, .func (PySem.W.fnOf "is_number" "is_number" (defArgs st) (defBody st) (defScope st) .none kV doc pm an cdv ct), osl⟩ ∧ PySem.W.codeIn K cdv "is_number" = true ∧
    ∀ (s : Shared) (u : Value), BindsTo s (PySem.W.fnOf "is_number" "is_number" (defArgs st) (defBody st) (defScope st) .none kV doc pm an cdv ct) ⟨[u], []⟩ [("thing", u)]
  kp : PySem.W.keepIn K (.ref f) = true
  at_ : mg "is_number" = some (.ref f)
  body : ∃ p1 p2 p3 p4 p5 p6 p7 p8 p9 p10 p11 : Pos, defBody st = [.Return (some (.BoolOp .And [.Call (.Name "isinstance" p1) [.Name "thing" p2, .Name "int" p3] [] p4, .UnaryOp .Not (.Call (.Name "isinstance" p5) [.Name "thing" p6, .Name "bool" p7] [] p8) p9] p10)) p11]
  co : (defScope st).isCoroutine = false
  gen : (defScope st).isGenerator = false
  kind : (defScope st).kind = .function
  cell : ∀ x ∈ (defScope st).names, x.2 ≠ .cell
  loc : (defScope st).names.lookup ("thing" : Str) = some .local
  gi : (defScope st).names.lookup ("isinstance" : Str) = some .globalImplicit
  gt : (defScope st).names.lookup ("int" : Str) = some .globalImplicit
  gb : (defScope st).names.lookup ("bool" : Str) = some .globalImplicit
/-- is_number(x) of an int, wherever it is asked -/
theorem num_at {m : Str → Option Value} {f : Addr} {st : Stmt} {i : Int} {t : Tok} {p1 p2 : Pos} (N : NumF K mg f st) (O : Out env) (M : L2.Mod K mg s.heap) (mi : mg "isinstance" = none) (mint : mg "int" = none) (mbool : mg "bool" = none)
    (hg : env.kindOf "is_number" = some .globalImplicit) (hl : env.scope.names.lookup x = some .local) (hn : s.heap.Ns env.locals m) (hm : m x = some (.int i t)) (hroom : A.depth < recursionLimit) (hd : (x == ("__debug__" : Str)) = false)
    (he : starEach [.Name x p2] env = (false, eval (.Name x p2) env) :: [] := by rfl) :
    wpAny (model prog w) A (eval (.Call (.Name "is_number" p1) [.Name x p2] [] pos) env) (fun y s' => y = .bool true ∧ Keeps s s') E s := by
  obtain ⟨oc, od, kV, doc, pm, an, cdv, ct, osl, lk, hcd, hb⟩ := N.fn
  obtain ⟨q1, q2, q3, q4, q5, q6, q7, q8, q9, q10, q11, body⟩ := N.body
  refine wpAny_Call_Name_kw (nm_glob O M hg N.at_ ?_)
  refine PySem.W.callWith_K (h₀ := s.heap) M.kin N.kp ?_ (by rfl) (by rfl)
  rw [he]
  show wpAny _ _ (spliced ((false, eval (.Name x p2) env) :: [])) _ _ s
  refine Calls.spliced_cons (nm_loc O.kind hl hn hm ?_ hd)
  refine Calls.spliced_nil ⟨M.kin, ?_⟩
  refine wpAny_call (codeAny_call_def hroom (M.kin _ _ lk) rfl M.nolimit (PySem.W.codeRec_of M.kin hcd) rfl (hb _ _) N.cell (fun y hy => ?_) (fun h₀ hns hk => ?_) N.co N.gen N.kind)
  · rw [List.mem_singleton.mp hy]; exact N.loc
  · have M2 : L2.Mod K mg h₀ := mod_keeps M hk
    show wpAny _ _ (execs (defBody st) _) _ _ _
    rw [body]
    refine wpAny_execs_cons (wpAny_Return_some ?_)
    refine BoolOp_and (isi_at (mg := mg) (K := K) (T := "int") (b := true) ⟨N.kind, rfl, rfl⟩ M2 N.gi N.gt mi mint (by decide +kernel) N.loc hns rfl (by decide +kernel) (ans_one kits_int) fun tk1 => ?_)
    refine wpAny_truthy_bool (BoolOp_one (UnaryOp_ (isi_at (mg := mg) (K := K) (T := "bool") (b := false) ⟨N.kind, rfl, rfl⟩ M2 N.gi N.gb mi mbool (by decide +kernel) N.loc hns rfl (by decide +kernel) (ans_one kits_bool) fun tk2 => ?_)))
    exact not_of (wpAny_truthy_bool ⟨rfl, h₀, _, rfl, hk⟩)
end
section
variable {X : Cx} {pins : List (Addr × Obj)} {σ : L2.St} {H : Hp} {s : Shared}
/-- a generator g of n tests that are all True, ready to be walked at s5; H1: what was held ahead -/
def AllYes (X : Cx) (pins : List (Addr × Obj)) (σ : L2.St) (H1 : Hp) (P : Addr) (n : Nat) (g : Addr) (s5 : Shared) : Prop :=
  ∃ (fp wr : List Addr) (G : Array GenState → Array GenState → Prop) (F : Nat → Value → Prop) (St : Nat → Shared → Prop), WalksS X.prog X.w X.A.in1 g fp wr G n F St ∧ St 0 s5 ∧ TruthOf X.prog X.w X.A.in1 F (fun _ => true) ∧
    ∀ s', Moved wr G s5 s' → ∃ H2, GxR.Tabbed P H1 H2 ∧ Inv X pins σ H2 s'
/-- what is asked of the element: True of each int, wherever it is asked -/
def YesInt (X : Cx) (scope : Scope) (x : Str) (elt : Expr) : Prop := ∀ (cenv : Env) (A' : Around) (E' : Value → Shared → Prop) (i : Int) (t : Tok) (s2 : Shared) (m2 : Str → Option Value), Out cenv → cenv.scope = scope → L2.Mod X.K X.mg s2.heap → A'.depth < recursionLimit →
  s2.heap.Ns cenv.locals m2 → m2 x = some (.int i t) → wpAny (model X.prog X.w) A' (eval elt cenv) (fun y s3 => y = .bool true ∧ Keeps s2 s3) E' s2
theorem vals_int_at : ∀ {ns : List Int} {us : List Value} {j : Nat} {v : Value}, Vals (ns.map V.int) us → us[j]? = some v → ∃ i t, v = .int i t
  | [], _, _, _, r, e => by cases r; simp at e
  | n :: ns, _, 0, v, r, e => by
    cases r with
    | cons h _ => obtain ⟨t, rfl⟩ := h; simp at e; exact ⟨n, t, e.symm⟩
  | n :: ns, _, j + 1, v, r, e => by
    cases r with
    | cons _ r => exact vals_int_at r (by simpa using e)
theorem gen_ints {c P : Addr} {elt iter : Expr} {x : Str} {px gpos : Pos} {scope : Scope} {te : TE} {k : Nat} {R : Addr → List Int → Hp → Prop} {Q' : Value → Shared → Prop}
    (hr : Room k X.A) (TB : GxR.TabB X.base X.mg c P) (hcode : X.env.code = .ref c) (S : GxR.GenS X.env scope x) (hi : PE X iter te) (hel : YesInt X scope x elt)
    (hs : ∀ v, genFold iter X.env v = pure v) (I : Inv X pins σ H s) (h : te σ H fun v H1 => ∃ (a : Addr) (ns : List Int), v = .ref a ∧ SqT X.K H1 a (ns.map V.int) ∧ GxR.TabG H1 P ∧ R a ns H1)
    (hQ : ∀ a ns H1 g s5, R a ns H1 → AllYes X pins σ H1 P ns.length g s5 → Q' (.ref g) s5) :
    wpAny (model X.prog X.w) X.A (eval (.GeneratorExp elt [⟨.Name x px, iter, [], 0⟩] scope gpos) X.env) Q' X.xe s := by
  have hdp : X.A.depth + 1 < recursionLimit := by have := hr.dp; omega
  refine wpAny_GeneratorExp_walksQD hr.hd S.co (closure_ok S.free) S.cell S.dot S.loc S.kind hr.depth ?_ hs
  refine thn (hi.run pins s σ H _ I h) fun xv s1 ⟨v, H1, I1, r1, a, ns, ev, sq, ⟨ps, hP, ht⟩, q1⟩ => ?_
  subst ev
  obtain rfl : xv = Value.ref a := r1
  obtain ⟨us, rv, isT, _⟩ := I1.tuple sq
  have tupA : s1.heap.IsTuple a us.toArray := isT
  have lenU : us.length = ns.length := by have := Paired.length rv; rw [List.length_map] at this; exact this.symm
  have atP : s1.heap.get? P = some { cls := .none, data := .fields ps } := I1.hok P _ hP
  have ltP : P < s1.heap.objs.size := Heap.lt_size atP
  have ltA : a < s1.heap.objs.size := by obtain ⟨_, e, _⟩ := tupA; exact Heap.lt_size e
  have neA : a ≠ P := fun z => by
    obtain ⟨o, e, c1, _⟩ := tupA
    rw [z, atP] at e; cases e; cases c1
  refine wpAny_pyIter_tuple tupA ?_
  generalize ho : ({ cls := .type "tuple_iterator", data := .fields #[.ref a, .int 0 0] } : Obj) = o
  have atP2 : (s1.heap.push o).get? P = some { cls := .none, data := .fields ps } := Heap.get?_push_of_some _ atP
  have code2 : PySem.W.CodeHd (s1.heap.push o) c P := TB.code.keeps fun b u e => Heap.get?_push_of_some _ (I1.bk b u e)
  have lim2 : (s1.heap.push o).NoLimit := I1.nolimit.push o
  have st2 : (s1.heap.push o).IsTupleIter s1.heap.objs.size a 0 ∧ (s1.heap.push o).IsTuple a us.toArray := ⟨by subst ho; exact ⟨_, Heap.get?_push_size _ rfl, rfl, rfl⟩, tupA.push o⟩
  have rest : ∀ (code : Value) (h3 : Heap) (tk : Nat) (ps' : Array Value), Heap.ExtBut P (s1.heap.push o) h3 → (s1.heap.push o).objs.size ≤ h3.objs.size → h3.get? P = some { cls := .none, data := .fields ps' } → (∃ more, ps' = ps ++ more) → TriplesOk ps'.toList →
      wpAny (model X.prog X.w) X.A (builtinsFor X.env.globals X.env.builtins) (fun bi s₄ =>
        ∃ Ia fp wr n₀ Pf St₀ pz F, Value.ref s1.heap.objs.size = .ref Ia ∧ (∀ A' : Around, A'.handled = none → PySem.Walks X.prog X.w A' Ia fp wr n₀ Pf St₀) ∧ St₀ 0 s₄.heap ∧ (∀ b ∈ fp, b < s₄.heap.objs.size) ∧ s₄.heap.NoLimit ∧ cStatics ∉ wr ∧
          (∀ href : Heap, (∀ b o, s₄.heap.get? b = some o → href.get? b = some o) → QuietGenD X.prog X.w (genEnv scope (cloFrom X.env.cells scope.names []) s₄.heap.objs.size code bi X.env) x [] elt (List.range s₄.heap.objs.size) wr Pf pz F href (X.A.depth + 1) (X.A.units + 8)) ∧
          (∀ a h₅ tk gs, gs.bare = true → s₄.heap.objs.size < a → h₅.objs.size = a + 1 → (∀ b o, s₄.heap.get? b = some o → h₅.get? b = some o) →
            WalksS X.prog X.w X.A.in4 a (a :: s₄.heap.objs.size :: List.range s₄.heap.objs.size) (s₄.heap.objs.size :: wr) (GenOnlyQ s₄.gens.size) (passing pz n₀ 0).length (fun j y => ∃ i, (passing pz n₀ 0)[j]? = some i ∧ F i y) (GenAt X.prog X.w X.A.in4 a s₄.gens.size s₄.heap.objs.size (List.range s₄.heap.objs.size) wr pz n₀ F) →
            GenAt X.prog X.w X.A.in4 a s₄.gens.size s₄.heap.objs.size (List.range s₄.heap.objs.size) wr pz n₀ F 0 { s₄ with gens := s₄.gens.push gs, toks := tk, heap := h₅ } → Q' (.ref a) { s₄ with gens := s₄.gens.push gs, toks := tk, heap := h₅ })) X.xe { s1 with heap := h3, toks := tk } := by
    intro code h3 tk ps' hx hsz hP3 hmore ht3
    obtain ⟨bm, ob, e1, e2, e3, e4, e5, e6, e7, e8⟩ := TB.bm
    have tabNs : ∀ {L : Addr} {m : Str → Option Value}, s1.heap.Ns L m → L ≠ P := fun {L m} n z => by
      obtain ⟨o', es, ep, e, d, _⟩ := n
      rw [z, atP] at e; cases e; cases d
    have neS : cStatics ≠ P := let ⟨_, n, _⟩ := I1.nolimit; tabNs n
    have ltS : cStatics < s1.heap.objs.size := let ⟨_, n, _⟩ := I1.nolimit; n.lt
    have sz2 : (s1.heap.push o).objs.size = s1.heap.objs.size + 1 := Heap.size_push ..
    have up : ∀ b u, b ≠ P → s1.heap.get? b = some u → h3.get? b = some u := fun b u nb e => hx b u nb (Heap.get?_push_of_some _ e)
    have baseP : ∀ b u, X.base.get? b = some u → b ≠ P := fun b u e z => by have := (I1.bs b u e).2; rw [z, hP] at this; cases this
    refine wpAny_builtinsFor (m := X.mg) (by rw [I1.ok.glob]; exact ((I1.mod.glob.keeps I1.bk).push o).extBut hx TB.gP) e1 e2 (up _ _ e4 (I1.bk _ _ e5)) e6 e7 e8 ?_
    refine ⟨s1.heap.objs.size, [s1.heap.objs.size, a], [s1.heap.objs.size], us.toArray.size, _, _, fun _ => true, fun _ y => y = .bool true, rfl, fun A' hA => PySem.Walks.tuple hA _ _ (Nat.ne_of_lt ltA) us.toArray, ?_, ?_, lim2.extBut hx neS, ?_, ?_, ?_⟩
    · have neI : s1.heap.objs.size ≠ P := fun z => Nat.ne_of_lt ltP z.symm
      exact ⟨st2.1.at fun o' e => hx _ o' neI e, st2.2.at fun o' e => hx _ o' neA e⟩
    · intro b hb
      have h9 : s1.heap.objs.size + 1 ≤ h3.objs.size := by rw [← sz2]; exact hsz
      have h10 : b < s1.heap.objs.size + 1 := by
        simp only [List.mem_cons, List.mem_nil_iff, or_false] at hb
        rcases hb with rfl | rfl
        · exact Nat.lt_succ_self _
        · exact Nat.lt_succ_of_lt ltA
      exact Nat.lt_of_lt_of_le h10 h9
    · intro z
      rw [List.mem_singleton] at z
      exact Nat.ne_of_lt ltS z
    · intro href hk
      refine ⟨fun A' E' i v s₂ m₂ hA hD hU hv hn hm hp => ?_, fun A' E' i v s₂ m₂ hA hD hU hv hz hn hm hp => ?_⟩
      · simp only [List.forIn_nil]
        exact wpAny_pure ⟨rfl, GxR.keeps_refl _⟩
      · rw [List.getElem?_toArray] at hv
        obtain ⟨j, t, rfl⟩ := vals_int_at rv hv
        refine hel _ A' E' j t s₂ m₂ ⟨S.kind, I1.ok.glob, rfl⟩ rfl (mod_keeps I1.mod fun b u e => ?_) (by omega) hn hm
        have e' := I1.bk b u e
        have lb := Heap.lt_size e'
        refine hp b (List.mem_range.mpr (Nat.lt_of_lt_of_le lb (Nat.le_trans (show s1.heap.objs.size ≤ s1.heap.objs.size + 1 from Nat.le_succ _) (show s1.heap.objs.size + 1 ≤ h3.objs.size by rw [← sz2]; exact hsz)))) (fun z => ?_) u (hk b u (up b u (baseP b u e) e'))
        rw [List.mem_singleton] at z
        exact Nat.ne_of_lt lb z
    · intro g h5 tk5 gs hgb hag hsz5 hk5 W5 hat
      simp only [GxR.passing_true, List.length_range] at W5
      have en : us.toArray.size = ns.length := by rw [List.size_toArray, lenU]
      rw [en] at W5 hat
      refine hQ a ns H1 g _ q1 ⟨_, _, _, _, _, W5.in4_1, hat, ?_, fun s' hm => ?_⟩
      rotate_left 1
      · obtain ⟨more, em⟩ := hmore
        have notW : ∀ b u, s1.heap.get? b = some u → b ∉ h3.objs.size :: [s1.heap.objs.size] := fun b u e hb => by
          have hl := Heap.lt_size e
          have h9 : s1.heap.objs.size + 1 ≤ h3.objs.size := by rw [← sz2]; exact hsz
          simp only [List.mem_cons, List.mem_nil_iff, or_false] at hb
          rcases hb with rfl | rfl
          · have h11 : (h3.objs.size : Nat) < s1.heap.objs.size := hl
            exact absurd (Nat.lt_of_lt_of_le (Nat.lt_of_lt_of_le (Nat.lt_succ_self _) h9) (Nat.le_of_lt h11)) (Nat.lt_irrefl _)
          · exact Nat.lt_irrefl _ hl
        have J := GxR.inv_tab (more := more) (h' := s'.heap) (g' := s'.gens) (d' := s'.drawn) (t' := s'.toks) I1 hP (fun b u hb e => hm.heap b u (notW b u e) (hk5 b u (up b u hb e)))
          (by rw [← em]; exact hm.heap P _ (notW P _ atP) (hk5 P _ hP3)) (AllBare.movedS (I1.bare.push hgb) hm)
        rw [GxR.sh_eta s1 s' hm.os] at J
        exact ⟨_, ⟨⟨ps ++ more, upd_same, by rw [← em]; exact ht3⟩, fun b hb => upd_ne hb⟩, J⟩
      · intro j y sj Qj Ej hy hQj
        obtain ⟨i, _, rfl⟩ := hy
        exact wpAny_truthy_bool hQj
  refine ⟨lim2, ?_⟩
  cases hf : codeAmong gpos ps.toList with
  | some cv => exact wpAny_genexprCode_hit hcode (code2.code atP2 ht) hf (rest cv (s1.heap.push o) s1.toks ps (Heap.ExtBut.refl _ _) (Nat.le_refl _) atP2 ⟨#[], by simp⟩ ht)
  | none =>
    refine wpAny_genexprCodeX hcode (code2.code atP2 ht) (code2.tab atP2) hf fun c' h' tk hx hge hlt hco' _ htab' _ => ?_
    obtain ⟨o1, vs, f1, tf, fl, tg, inF, tx, tt, op, _, _, _, _, _, _, _, _, _, htr, _⟩ := hco'
    exact rest _ h' tk _ hx (Nat.le_trans hge (Nat.le_of_lt hlt)) htab'.2 ⟨_, rfl⟩ htr
/-- all(test for x in e), e a tuple of ints, of each of which the test is True; behind it the def's table may have grown -/
def tAllI (K : PySem.W.Frag) (P : Addr) (te : TE) : TE := fun σ H Q => te σ H fun v H1 => ∃ (a : Addr) (ns : List Int), v = .ref a ∧ SqT K H1 a (ns.map V.int) ∧ GxR.TabG H1 P ∧ ∀ H2, GxR.Tabbed P H1 H2 → Q (.bl true) H2
theorem pe_allI {c P : Addr} {elt iter : Expr} {x : Str} {px p pos gpos : Pos} {scope : Scope} {te : TE} {k : Nat} (hr : Room k X.A) (hg : Gl X "all") (hm : X.mg "all" = none) (TB : GxR.TabB X.base X.mg c P) (hcode : X.env.code = .ref c) (S : GxR.GenS X.env scope x) (hi : PE X iter te)
    (hel : YesInt X scope x elt) (hs : ∀ v, genFold iter X.env v = pure v) (he : starEach [.GeneratorExp elt [⟨.Name x px, iter, [], 0⟩] scope gpos] X.env = (false, eval (.GeneratorExp elt [⟨.Name x px, iter, [], 0⟩] scope gpos) X.env) :: starEach [] X.env := by rfl) :
    PE X (.Call (.Name "all" p) [.GeneratorExp elt [⟨.Name x px, iter, [], 0⟩] scope gpos] [] pos) (tAllI X.K P te) := by
  refine ⟨fun pins s σ H Q I h => wpAny_Call_Name_kw (ld_blt I hg hm (by decide +kernel : bootBuiltins "all" = some (.builtin "all")) ?_)⟩
  refine PyProof.Rows.callWith_builtin1 ?_ he (by rfl)
  rw [he]
  show wpAny _ _ (spliced ((false, eval (.GeneratorExp elt [⟨.Name x px, iter, [], 0⟩] scope gpos) X.env) :: [])) _ _ s
  refine Calls.spliced_cons (gen_ints (R := fun _ _ H1 => ∀ H2, GxR.Tabbed P H1 H2 → Q (.bl true) H2) hr TB hcode S hi hel hs I h fun a ns H1 g s5 q ⟨fp, wr, G, F, Sx, W, st, tr, fin⟩ => ?_)
  refine Calls.spliced_nil (call_all_walkS (W.self 0 _ _ _ st ⟨g, fp, wr, G, _, F, Sx, _, rfl, W, st, tr, fun s' mv => ?_⟩))
  obtain ⟨H2, t, J⟩ := fin s' mv
  exact ⟨.bl _, H2, J, by rw [show (List.range ns.length).all (fun _ => true) = true from List.all_eq_true.mpr fun _ _ => rfl]; rfl, q H2 t⟩
end
section
variable {T : Tbs} {X : Cx} {t : TD}
/-- the data of a tuple of ints -/
theorem dts_ints {K : PySem.W.Frag} {H : Hp} : ∀ {vs : List V} {ns : List Int}, DtAll K H vs (ns.map PyData.int) → vs = ns.map V.int
  | [], [], _ => rfl
  | [], _ :: _, h => by cases h
  | _ :: _, [], h => by cases h
  | v :: vs, n :: ns, h => by
    cases h with
    | cons a b => cases a; rw [dts_ints b]; rfl
def tdAllI (t : TD) : TD := fun Γ P => t Γ fun r Γ1 => ∃ ns : List Int, r.1 = .d (.tuple (ns.map .int)) ∧ P (.d (.bool true), none) Γ1
theorem de_allI {c P : Addr} {elt iter : Expr} {x : Str} {px p pos gpos : Pos} {scope : Scope} {k : Nat} (hP : P ∈ T.1) (hr : Room k X.A) (hm : X.mg "all" = none) (TB : GxR.TabB X.base X.mg c P) (hcode : X.env.code = .ref c) (S : GxR.GenS X.env scope x) (hel : YesInt X scope x elt)
    (hi : DE T X iter t) (hg : Gl X "all" := by rfl) (hs : ∀ v, genFold iter X.env v = pure v := by intro _; rfl)
    (he : starEach [.GeneratorExp elt [⟨.Name x px, iter, [], 0⟩] scope gpos] X.env = (false, eval (.GeneratorExp elt [⟨.Name x px, iter, [], 0⟩] scope gpos) X.env) :: starEach [] X.env := by rfl) :
    DE T X (.Call (.Name "all" p) [.GeneratorExp elt [⟨.Name x px, iter, [], 0⟩] scope gpos] [] pos) (tdAllI t) := by
  obtain ⟨te, h1, h2⟩ := hi
  refine ⟨_, pe_allI hr hg hm TB hcode S h1 hel hs he, fun σ H Γ ex Pp Q h p q => ?_⟩
  refine h2 σ H Γ ex _ _ h p fun v H1 r Γ1 h3 og p1 => ?_
  obtain ⟨ns, er, p1⟩ := p1
  obtain ⟨sr, orr⟩ := r
  cases er
  have h4 := h3.hs.front
  have g := h4.get_d
  cases g with
  | @tup a xs ds sq d =>
    have ex2 := dts_ints d
    subst ex2
    refine ⟨_, ns, rfl, Le.sqT hid_sub sq, h3.hs.tb P hP, fun H2 t2 => ?_⟩
    exact q _ _ (.d (.bool true), none) _ ⟨h3.len, ((h4.tail.tabbed hP t2).cons_d (.bl true)).mid⟩ Og.none p1
end
end DL

/-! all('a' <= x <= 'z' for x in a text); len of a text; what is asked of a generator expression, in short -/
namespace DL
open PySem PySem.Spec PyProof.Rows L2 RZ
theorem genS {env : Env} {scope : Scope} {x : Str} (h1 : scope.kind = .function) (h2 : scope.isCoroutine = false) (h3 : ∀ y ∈ scope.names, y.2 ≠ .cell) (h4 : scope.names.lookup (".0" : Str) = some NameKind.local) (h5 : scope.names.lookup x = some .local)
    (h6 : ∀ y ∈ scope.names, y.2 ≠ .free) : GxR.GenS env scope x := ⟨h1, h2, h3, h4, h5, fun y hy e => absurd e (h6 y hy)⟩
section
variable {X : Cx} {scope : Scope} {x : Str}
/-- is_number(x) is such an element -/
theorem yes_num {f : Addr} {st : Stmt} {p1 p2 p3 : Pos} (N : NumF X.K X.mg f st) (B : BI X.mg) (hg : scope.names.lookup ("is_number" : Str) = some .globalImplicit) (hl : scope.names.lookup x = some .local) (hd : (x == ("__debug__" : Str)) = false := by decide) :
    YesInt X scope x (.Call (.Name "is_number" p1) [.Name x p2] [] p3) := fun cenv A' E' i t s2 m2 O e M hdp hn hm =>
  num_at N O M B.isinstance B.int B.bool (show cenv.scope.names.lookup _ = _ by rw [e]; exact hg) (by rw [e]; exact hl) hn hm hdp hd
/-- 'a' <= x <= 'z' -/
def azB (c : Nat) : Bool := decide (97 ≤ c) && decide (c ≤ 122)
theorem elt_az {prog : Program} {w : World} {k1 k2 : Nat} {p1 p2 p3 p4 : Pos} (hk : scope.kind = .function) (hl : scope.names.lookup x = some .local) (hd : (x == ("__debug__" : Str)) = false := by decide) :
    GxR.EltP prog w scope x (.Compare (.Constant (.str "a") k1 p1) [.LtE, .LtE] [.Name x p2, .Constant (.str "z") k2 p3] p4) azB := by
  intro cenv A' E' c t s2 m2 hs hn hm
  refine Compare_chain ?_
  refine Calls.Constant_str (chain_link ?_)
  refine nm_loc (by rw [hs]; exact hk) (by rw [hs]; exact hl) (show Heap.Ns _ _ _ from ?_) hm ?_ hd
  · exact hn
  refine PySem.P.le_str (wpAny_truthy_bool ?_)
  have e1 : (!decide ((⟨#[c]⟩ : Str).cps.toList < (Str.ofString "a").cps.toList)) = decide (97 ≤ c) := by
    rw [show (Str.ofString "a").cps.toList = [97] by decide]
    by_cases h : 97 ≤ c
    · rw [decide_eq_true h, decide_eq_false]; · rfl
      intro z; rcases (List.cons_lt_cons_iff.mp z) with y | ⟨_, y⟩
      · omega
      · exact absurd y (by simp)
    · rw [decide_eq_false h, decide_eq_true]; · rfl
      exact List.cons_lt_cons_iff.mpr (.inl (by omega))
  rw [e1]
  unfold azB
  by_cases h : 97 ≤ c
  · rw [decide_eq_true h]
    refine chain_last (Calls.Constant_str (PySem.P.le_str ⟨?_, ?_⟩))
    · have e2 : (!decide ((Str.ofString "z").cps.toList < (⟨#[c]⟩ : Str).cps.toList)) = decide (c ≤ 122) := by
        rw [show (Str.ofString "z").cps.toList = [122] by decide]
        by_cases h : c ≤ 122
        · rw [decide_eq_true h, decide_eq_false]; · rfl
          intro z; rcases (List.cons_lt_cons_iff.mp z) with y | ⟨_, y⟩
          · omega
          · exact absurd y (by simp)
        · rw [decide_eq_false h, decide_eq_true]; · rfl
          exact List.cons_lt_cons_iff.mpr (.inl (by omega))
      rw [e2, Bool.true_and]
    · exact GxR.keeps_tok _ _
  · rw [decide_eq_false h]
    exact ⟨rfl, GxR.keeps_tok _ _⟩
end
section
variable {T : Tbs} {X : Cx} {t : TD}
def tdAllS (pb : Nat → Bool) (t : TD) : TD := fun Γ P => t Γ fun r Γ1 => ∃ a : Str, r.1 = .d (.str a) ∧ P (.d (.bool (a.cps.toList.all pb)), none) Γ1
theorem de_allS {c P : Addr} {elt iter : Expr} {x : Str} {px p pos gpos : Pos} {scope : Scope} {k : Nat} {pb : Nat → Bool} (hP : P ∈ T.1) (hr : Room k X.A) (hm : X.mg "all" = none) (TB : GxR.TabB X.base X.mg c P) (hcode : X.env.code = .ref c) (S : GxR.GenS X.env scope x)
    (hel : GxR.EltP X.prog X.w scope x elt pb) (hi : DE T X iter t) (hg : Gl X "all" := by rfl) (hs : ∀ v, genFold iter X.env v = pure v := by intro _; rfl)
    (he : starEach [.GeneratorExp elt [⟨.Name x px, iter, [], 0⟩] scope gpos] X.env = (false, eval (.GeneratorExp elt [⟨.Name x px, iter, [], 0⟩] scope gpos) X.env) :: starEach [] X.env := by rfl) :
    DE T X (.Call (.Name "all" p) [.GeneratorExp elt [⟨.Name x px, iter, [], 0⟩] scope gpos] [] pos) (tdAllS pb t) := by
  obtain ⟨te, h1, h2⟩ := hi
  refine ⟨_, GxR.pe_allS hr hg hm (by decide +kernel) TB hcode S h1 hel hs he, fun σ H Γ ex Pp Q h p q => ?_⟩
  refine h2 σ H Γ ex _ _ h p fun v H1 r Γ1 h3 og p1 => ?_
  obtain ⟨a, er, p1⟩ := p1
  obtain ⟨sr, orr⟩ := r
  cases er
  have h4 := h3.hs.front
  have g := h4.get_d
  cases g
  refine ⟨a, rfl, h3.hs.tb P hP, fun H2 t2 => ?_⟩
  exact q _ _ (.d (.bool _), none) _ ⟨h3.len, ((h4.tail.tabbed hP t2).cons_d (.bl _)).mid⟩ Og.none p1
/-- len of a text -/
def cLenS : CT := fun ss P => match ss with
  | [.d (.str a)] => a.length ≤ sizeLine ∧ P (.d (.int a.length)) ss
  | _ => False
theorem snd_lenS {K : KF} : Snd K (fun xs H Q => ∃ z : Str, xs = [.str z] ∧ z.length ≤ sizeLine ∧ Q (.int z.length) H) cLenS := by
  intro vs H ss ex P Q hl h hc q
  unfold cLenS at hc
  split at hc
  · rename_i a
    obtain ⟨v, rfl⟩ := one_slot hl
    have g := h.get_d
    cases g
    exact ⟨a, rfl, hc.1, q _ _ _ _ hc.2 rfl (h.cons_d (.int _))⟩
  · exact hc.elim
theorem de_lenS {e : Expr} {es : List Expr} {u : TDA} {p pos : Pos} (hm : X.mg "len" = none) (ha : DA T X (e :: es) u) (hg : Gl X "len" := by rfl)
    (he : starEach (e :: es) X.env = (false, eval e X.env) :: starEach es X.env := by rfl) (hpl : (backTo pos (starEach es X.env)).any (·.1) = false := by rfl) : DE T X (.Call (.Name "len" p) (e :: es) [] pos) (tAp u cLenS) :=
  de_callB call_len_str snd_lenS hm (by decide +kernel) ha hg (by decide) (by decide) he hpl
end
end DL
namespace DL
open PySem PySem.Spec PyProof.Rows L2 RZ
/-- a statement that is never reached -/
theorem ds_never {T : Tbs} {X : Cx} {fx : List Nat} {st : Stmt} : DS T X fx st (fun _ _ => False) := ⟨fun _ _ _ => False, ⟨fun _ _ _ _ _ _ h => h.elim⟩, fun _ _ _ _ _ _ _ _ p _ => p⟩
end DL
namespace DL
open PySem PySem.Spec PyProof.Rows L2 RZ
section
variable {T : Tbs} {X : Cx} {e : Expr} {u : TDA} {pos apos : Pos}
/-- V.append(e), e may read V -/
theorem de_appV (i : Nat) {x : Str} {xp : Pos} (hv : PE X (.Name x xp) (tVar i)) (ha : DA T X [e] u) (hbase : attributeBase (.Name x xp) "append" X.env (eval (.Name x xp) X.env) = eval (.Name x xp) X.env := by rfl)
    (hline : (apos.endLine == pos.line) = true := by rfl) (hs : starEach [e] X.env = (false, eval e X.env) :: starEach [] X.env := by rfl)
    (hfew : ((backTo pos (starEach [e] X.env)).all (fun x => !x.1) && (backToKw pos (keywordEach [] X.env)).all (fun x => x.1.isSome) && decide ([e].length + ([] : List Keyword).length + (if ([] : List Keyword).isEmpty then 0 else 1) < 30)) = true := by rfl)
    (hplain : (backTo pos (starEach [] X.env)).any (·.1) = false := by rfl) : DE T X (.Call (.Attribute (.Name x xp) "append" apos) [e] [] pos) (tMv i u cAppend) :=
  de_methV (fun ta h2 => ⟨_, pe_bm PySem.F.plainAttrs_list PySem.F.slot_list_append PySem.F.type_list_append mt_append hv h2 hbase hfew hline hs hplain, fun σ H Q z => z⟩) snd_append ha
end
end DL

/-! an own list that from here on is only looked at -/
namespace DL
open PySem PySem.Spec PyProof.Rows L2
/-- the name of an own list: from here on it is data -/
def tdVarF (i : Nat) : TD := fun Γ P => match Γ[i]? with
  | some (.d x) => P (.d x, none) Γ
  | some (.m xs) => P (.d (.list xs), none) (Γ.set i (.d (.list xs)))
  | _ => False
theorem tdVarF_of {i : Nat} {Γ : G} {P : R → G → Prop} {s : SV} {xs : List PyData} (h : Γ[i]? = some s) (e : s = .m xs ∨ s = .d (.list xs)) (p : P (.d (.list xs), none) (Γ.set i (.d (.list xs)))) : tdVarF i Γ P := by
  unfold tdVarF
  rw [h]
  rcases e with rfl | rfl
  · exact p
  · have e2 : Γ.set i (.d (.list xs)) = Γ := by
      refine List.ext_getElem? fun j => ?_
      rw [List.getElem?_set]
      split
      · rename_i q
        subst q
        obtain ⟨hi, _⟩ := List.getElem?_eq_some_iff.mp h
        rw [if_pos hi, h]
      · rfl
    rw [e2] at p
    exact p
theorem de_varF {X : Cx} {T : Tbs} (i : Nat) {x : Str} {pos : Pos} (hv : PE X (.Name x pos) (tVar i)) : DE T X (.Name x pos) (tdVarF i) := by
  refine ⟨_, hv, fun σ H Γ ex P Q h p q => ?_⟩
  unfold tdVarF at p
  cases e : Γ[i]? with
  | none => rw [e] at p; exact p.elim
  | some s =>
    rw [e] at p
    obtain ⟨o, e1, e2⟩ := zip_at h.len e
    have ok := h.hs.ok _ (List.mem_append_left _ (List.mem_of_getElem? e2))
    cases s with
    | no => exact p.elim
    | d x =>
      obtain ⟨v, rfl⟩ := ok.some (by intro z; cases z)
      refine ⟨v, e1, q v H (.d x, none) Γ ⟨h.len, ?_⟩ Og.none p⟩
      exact (h.hs.cons_d ok).mid
    | m xs =>
      obtain ⟨v, rfl⟩ := ok.some (by intro z; cases z)
      have h1 := set_no h e1 e2
      have h2 := h1.hs.front.freeze.copy
      have h3 : HE (X.K, T) H σ (Γ.set i .no) ((some v, .d (.list xs)) :: (some v, .d (.list xs)) :: ex) := ⟨h1.len, (h2.perm (by
        refine (List.Perm.trans ?_ List.perm_middle.symm)
        exact List.Perm.cons _ List.perm_middle.symm))⟩
      have h4 := h3.put (i := i) e1
      rw [List.set_set] at h4
      exact ⟨v, e1, q v H (.d (.list xs), none) _ h4 Og.none p⟩
    | t xs => exact p.elim
end DL


namespace DL
open PySem PySem.Spec PyProof.Rows L2 RZ
/-! ## FORMS -/
inductive Fm where
  | op
  | nd (n : Str) (ps : List Fm)
mutual
def Fm.d : Fm → PyData
  | .op => .tuple []
  | .nd n ps => .tuple (.str n :: Fm.ds ps)
def Fm.ds : List Fm → List PyData
  | [] => []
  | f :: r => f.d :: Fm.ds r
end
mutual
/-- how many places -/
def Fm.size : Fm → Nat
  | .op => 1
  | .nd _ ps => 1 + Fm.sizes ps
def Fm.sizes : List Fm → Nat
  | [] => 0
  | f :: r => f.size + Fm.sizes r
end
mutual
def Fm.dep : Fm → Nat
  | .op => 1
  | .nd _ ps => Fm.deps ps + 1
def Fm.deps : List Fm → Nat
  | [] => 0
  | f :: r => max f.dep (Fm.deps r)
end
/-- a NAME: 1 to 8 letters from a to z, a text that can be laid -/
def nmOk (n : Str) : Bool := PyData.strOk n && (decide (1 ≤ n.cps.size) && (decide (n.cps.size ≤ 8) && n.cps.toList.all fun c => decide (97 ≤ c) && decide (c ≤ 122)))
theorem nm_str {n : Str} (h : nmOk n = true) : PyData.strOk n = true := by unfold nmOk at h; rw [Bool.and_eq_true] at h; exact h.1
mutual
def Fm.ok : Fm → Bool
  | .op => true
  | .nd n ps => nmOk n && decide (ps.length ≤ 3) && Fm.oks ps
def Fm.oks : List Fm → Bool
  | [] => true
  | f :: r => f.ok && Fm.oks r
end
theorem Fm.ds_eq : ∀ ps : List Fm, Fm.ds ps = ps.map Fm.d
  | [] => by simp [Fm.ds]
  | f :: r => by rw [Fm.ds, Fm.ds_eq r]; rfl
theorem Fm.ds_len (ps : List Fm) : (Fm.ds ps).length = ps.length := by rw [Fm.ds_eq, List.length_map]
mutual
theorem Fm.lay : ∀ f : Fm, f.ok = true → f.d.canLay0 = true
  | .op, _ => by simp [Fm.d, PyData.canLay0, PyData.canLayAll0]
  | .nd n ps, h => by
    simp only [Fm.ok, Bool.and_eq_true] at h
    simp only [Fm.d, PyData.canLay0, PyData.canLayAll0, Bool.and_eq_true]
    exact ⟨nm_str h.1.1, Fm.lays ps h.2⟩
theorem Fm.lays : ∀ ps : List Fm, Fm.oks ps = true → PyData.canLayAll0 (Fm.ds ps) = true
  | [], _ => by simp [Fm.ds, PyData.canLayAll0]
  | f :: r, h => by
    simp only [Fm.oks, Bool.and_eq_true] at h
    simp only [Fm.ds, PyData.canLayAll0, Bool.and_eq_true]
    exact ⟨Fm.lay f h.1, Fm.lays r h.2⟩
end
mutual
theorem Fm.depth_d : ∀ f : Fm, f.d.depth = f.dep
  | .op => by simp [Fm.d, PyData.depth, PyData.depthAll, Fm.dep]
  | .nd n ps => by
    simp only [Fm.d, PyData.depth, PyData.depthAll, Fm.dep, Fm.depth_ds ps]
    omega
theorem Fm.depth_ds : ∀ ps : List Fm, PyData.depthAll (Fm.ds ps) = Fm.deps ps
  | [] => by simp [Fm.ds, PyData.depthAll, Fm.deps]
  | f :: r => by simp only [Fm.ds, PyData.depthAll, Fm.deps, Fm.depth_d f, Fm.depth_ds r]
end
/-- FORMS that may be compared -/
structure Fm.Fit (f : Fm) : Prop where
  ok : f.ok = true
  dep : f.dep ≤ 60
theorem Fm.Fit.shaped {f : Fm} (h : f.Fit) : SeqAt.shaped f.d = true := by
  unfold SeqAt.shaped
  rw [Fm.lay f h.ok, Fm.depth_d, Bool.true_and]
  exact decide_eq_true (Nat.le_trans h.dep (by decide))
theorem shaped_empty : SeqAt.shaped (.tuple []) = true := by decide +kernel
theorem Fm.eqv_op (f : Fm) : PyData.eqv f.d (.tuple []) = (match f with | .op => true | .nd _ _ => false) := by
  cases f with
  | op => simp [Fm.d, PyData.eqv, PyData.eqvAll]
  | nd n ps => simp [Fm.d, PyData.eqv, PyData.eqvAll]
/-- the SIGN -/
def Fm.sg : Fm → PyData
  | .op => .none
  | .nd n ps => .tuple [.str n, .int ps.length]

theorem atI_zero {α : Type} {x : α} {r : List α} : atI (x :: r) 0 = some x := atI_nat (j := 0) rfl
theorem sz (n : Nat) (h : n ≤ 16000000 := by decide) : n ≤ sizeLine := Nat.le_trans h (by decide)
theorem szl {n : Nat} (h : n ≤ 16000000) : n < sizeLine := Nat.lt_of_le_of_lt h (by decide)
theorem ct0_0 : ([0] : List Nat).contains 0 = true := rfl
theorem ct0_1 : ([0] : List Nat).contains 1 = false := rfl
theorem ct0_2 : ([0] : List Nat).contains 2 = false := rfl
theorem ct0_3 : ([0] : List Nat).contains 3 = false := rfl
theorem ct0_4 : ([0] : List Nat).contains 4 = false := rfl
theorem ct0_5 : ([0] : List Nat).contains 5 = false := rfl
theorem ct1_0 : ([1] : List Nat).contains 0 = false := rfl
theorem ct1_1 : ([1] : List Nat).contains 1 = true := rfl
theorem ct1_2 : ([1] : List Nat).contains 2 = false := rfl
theorem ct1_3 : ([1] : List Nat).contains 3 = false := rfl
theorem ct1_4 : ([1] : List Nat).contains 4 = false := rfl
theorem ct1_5 : ([1] : List Nat).contains 5 = false := rfl
theorem ct2_0 : ([2] : List Nat).contains 0 = false := rfl
theorem ct2_1 : ([2] : List Nat).contains 1 = false := rfl
theorem ct2_2 : ([2] : List Nat).contains 2 = true := rfl
theorem ct2_3 : ([2] : List Nat).contains 3 = false := rfl
theorem ct2_4 : ([2] : List Nat).contains 4 = false := rfl
theorem ct2_5 : ([2] : List Nat).contains 5 = false := rfl
theorem ct3_0 : ([3] : List Nat).contains 0 = false := rfl
theorem ct3_1 : ([3] : List Nat).contains 1 = false := rfl
theorem ct3_2 : ([3] : List Nat).contains 2 = false := rfl
theorem ct3_3 : ([3] : List Nat).contains 3 = true := rfl
theorem ct3_4 : ([3] : List Nat).contains 4 = false := rfl
theorem ct3_5 : ([3] : List Nat).contains 5 = false := rfl
/-- the data's words reckoned out -/
local macro_rules | `(tactic| walk_at "dl") => `(tactic| simp (config := { maxSteps := 1000000 }) only [tdSeq, tdIf, tdIfE, tdRet, tdSet, tdDrop, tdTest, tdTruth, tdNot, tdNotE, tdAnd, tdOr, tdOrE, tdAndE, tdPar, tdAsg, tdNeg, tdSl, tdNo, tdSome, tdRev, tdDelT, tdStore, tMp, tgTup, tgCons, tgNil, tgName, tdFor, tdRange1, tdRange2, tdRevRange1, tdSeqI, tdEnum, tdZip, zipS, tdLc, tdChain, tdIsi, tyS, tdYes,
  tAp, tAp2, tdVar, tdC, tdCons, tdNil, cN, cEq, cNe, cIx, cAdd, cII, cI2, cLen, cTup, cLst, cInt, cAbs, cMin2, cMax2, cTupOf, cLstOf, cAppend, cPop, cPopAt, cExtA, cLstZip, zipD, cIsN, cNotN, isN, dats, dat, lis, seqS, truthS, back, frz, edOf, fin,
  List.getD_cons_zero, List.getD_cons_succ, ct0_0, ct0_1, ct0_2, ct0_3, ct0_4, ct0_5, ct1_0, ct1_1, ct1_2, ct1_3, ct1_4, ct1_5, ct2_0, ct2_1, ct2_2, ct2_3, ct2_4, ct2_5, ct3_0, ct3_1, ct3_2, ct3_3, ct3_4, ct3_5,
  List.map, List.length_cons, List.length_nil, List.replicate, List.cons_append, List.nil_append, List.getElem?_cons_zero, List.getElem?_cons_succ, List.set_cons_zero, List.set_cons_succ, List.range, List.range.loop, List.contains_nil, List.elem_nil, Bool.false_eq_true, if_false, if_true, Nat.reduceSub, Nat.reduceAdd, Nat.sub_self, Nat.zero_add, Nat.add_zero,
  Option.some.injEq, exists_eq_left', exists_eq_left, exists_eq_right, exists_eq_right', exists_and_left, exists_and_right, and_assoc, exists_eq, exists_eq', true_and, and_true, SV.d.injEq, SV.m.injEq, PyData.int.injEq, PyData.tuple.injEq, PyData.list.injEq, PyData.bool.injEq, reduceCtorEq, false_and, and_false, exists_false, List.cons.injEq])

def topS (i : Nat) : Stmt := PySem.Challenge.pw_notinvain_k55_across_calls_never_lessen.main.body.getD i (.Pass ⟨0, 0, 0, 0⟩)
section
variable {P : Program} {w : World} {K : PySem.W.Frag} {T : Tbs} {mg : Str → Option Value} {base : Heap} {f : Addr} {fd : FuncData}
abbrev s_own_sign : Stmt := topS 14
theorem sc_own_sign : FnScope ["form"] ["form"] (defScope s_own_sign) := ⟨rfl, rfl, rfl, by decide +kernel, rfl, by decide +kernel, by decide +kernel⟩
def cSign : CT := fun ss P => ∃ f : Fm, ss = [.d f.d] ∧ f.Fit ∧ P (.d f.sg) [.no]
theorem ok_own_sign (B : BI mg) (g_OPEN : ConstAt K mg "OPEN" (.tuple [])) (F : Fun K "own_sign" "own_sign" s_own_sign f fd) (b : Binds K fd ["form"] []) (m : mg "own_sign" = some (.ref f)) : Fnd P w K T mg base 1 "own_sign" ["form"] cSign := by
  refine fn_d F sc_own_sign b m [] (by decide) fun cdv A outer s H E hr => ?_
  refine ⟨_, (dss_one (ds_ret (de_ifExp (dt_eq hr.units (de_var 0 (pv 0)) (de_const g_OPEN)) de_non (de_tup (da_cons (de_item (de_var 0 (pv 0)) de_int) (da_cons (de_sub (de_len B.len (da_cons (de_var 0 (pv 0)) da_nil)) de_int) da_nil)))))), ?_⟩
  intro ss Q _ ⟨f, e, hf, q⟩
  subst e
  walk_at "dl"
  refine ⟨hf.shaped, shaped_empty, ?_⟩
  rw [Fm.eqv_op]
  cases f with
  | op => exact q
  | nd n ps =>
    simp only [Bool.false_eq_true, if_false, Fm.d, Option.some.injEq, exists_eq_left', List.length_cons, Fm.ds_len]
    refine ⟨_, atI_zero, sz 2, ?_⟩
    have e : (((ps.length + 1 : Nat) : Int) - 1) = (ps.length : Int) := by omega
    rw [e]
    exact q
end

/-! ## what stands where -/
def plD (p : List Int) : PyData := .tuple (p.map PyData.int)
def prD (p : List Int) (f : Fm) : PyData := .tuple [plD p, f.d]
mutual
/-- the places of a FORM that stands at p, ascending, and what stands there -/
def Fm.sp (p : List Int) : Fm → List (List Int × Fm)
  | .op => [(p, .op)]
  | .nd n ps => (p, .nd n ps) :: Fm.sps p 0 ps
def Fm.sps (p : List Int) (k : Nat) : List Fm → List (List Int × Fm)
  | [] => []
  | f :: r => f.sp (p ++ [(k : Int)]) ++ Fm.sps p (k + 1) r
end
/-- the parts, each with its place -/
def kids (p : List Int) (k : Nat) : List Fm → List (List Int × Fm)
  | [] => []
  | f :: r => (p ++ [(k : Int)], f) :: kids p (k + 1) r
def Fm.parts : Fm → List Fm
  | .op => []
  | .nd _ ps => ps
def Fm.kd (p : List Int) (f : Fm) : List (List Int × Fm) := kids p 0 f.parts
theorem sps_kids (p : List Int) : ∀ (ps : List Fm) (k : Nat), Fm.sps p k ps = (kids p k ps).flatMap fun x => x.2.sp x.1
  | [], k => by simp [Fm.sps, kids]
  | f :: r, k => by rw [Fm.sps, kids, List.flatMap_cons, sps_kids p r (k + 1)]
theorem sp_eq (p : List Int) (f : Fm) : f.sp p = (p, f) :: (f.kd p).flatMap fun x => x.2.sp x.1 := by
  cases f with
  | op => simp [Fm.sp, Fm.kd, Fm.parts, kids]
  | nd n ps => rw [Fm.sp, sps_kids]; rfl
theorem kids_len (p : List Int) : ∀ (ps : List Fm) (k : Nat), (kids p k ps).length = ps.length
  | [], _ => rfl
  | f :: r, k => by rw [kids, List.length_cons, List.length_cons, kids_len p r (k + 1)]
theorem kids_get (p : List Int) : ∀ (ps : List Fm) (k i : Nat) (h : i < ps.length), (kids p k ps)[i]? = some (p ++ [((k + i : Nat) : Int)], ps[i])
  | [], _, _, h => by simp at h
  | f :: r, k, 0, _ => by simp [kids]
  | f :: r, k, i + 1, h => by
    have := kids_get p r (k + 1) i (by simpa using h)
    rw [kids, List.getElem?_cons_succ, this]
    have e : k + 1 + i = k + (i + 1) := by omega
    rw [e]
    rfl
theorem kd_len (p : List Int) (f : Fm) : (f.kd p).length = f.parts.length := kids_len _ _ _
/-- how many places, of a stack -/
def sizeS (l : List (List Int × Fm)) : Nat := (l.map fun x => x.2.size).sum
theorem sizes_kids (p : List Int) : ∀ (ps : List Fm) (k : Nat), sizeS (kids p k ps) = Fm.sizes ps
  | [], _ => rfl
  | f :: r, k => by
    show (f.size + sizeS (kids p (k + 1) r)) = _
    rw [sizes_kids p r (k + 1), Fm.sizes]
theorem size_kd (p : List Int) (f : Fm) : f.size = 1 + sizeS (f.kd p) := by
  cases f with
  | op => simp [Fm.size, Fm.kd, Fm.parts, kids, sizeS]
  | nd n ps => rw [Fm.size]; unfold Fm.kd; rw [sizes_kids]; rfl
theorem sizeS_append (a b : List (List Int × Fm)) : sizeS (a ++ b) = sizeS a + sizeS b := by unfold sizeS; rw [List.map_append, List.sum_append]
theorem sizeS_rev (a : List (List Int × Fm)) : sizeS a.reverse = sizeS a := by
  induction a with
  | nil => rfl
  | cons x r ih => rw [List.reverse_cons, sizeS_append, ih]; show _ = x.2.size + sizeS r; unfold sizeS; simp; omega
theorem size_pos : ∀ f : Fm, 0 < f.size
  | .op => by simp [Fm.size]
  | .nd _ _ => by simp only [Fm.size]; omega
theorem len_sizeS (l : List (List Int × Fm)) : l.length ≤ sizeS l := by
  induction l with
  | nil => exact Nat.le_refl _
  | cons x r ih =>
    show r.length + 1 ≤ x.2.size + sizeS r
    have := size_pos x.2
    omega
def spD (x : List Int × Fm) : PyData := prD x.1 x.2
theorem d_len (f : Fm) : (match f.d with | .tuple xs => xs.length | _ => 0) = (match f with | .op => 0 | .nd _ ps => ps.length + 1) := by
  cases f with
  | op => simp [Fm.d]
  | nd n ps => simp [Fm.d, Fm.ds_len]
/-- the tuple that a FORM is -/
def Fm.its : Fm → List PyData
  | .op => []
  | .nd n ps => .str n :: Fm.ds ps
theorem Fm.d_its (f : Fm) : f.d = .tuple f.its := by cases f <;> simp [Fm.d, Fm.its]
theorem Fm.its_len (f : Fm) : ((f.its.length : Int) - 1).toNat = f.parts.length := by
  cases f with
  | op => simp [Fm.its, Fm.parts]
  | nd n ps => simp only [Fm.its, Fm.parts, List.length_cons, Fm.ds_len]; omega
theorem Fm.its_at (f : Fm) (i : Nat) (h : i < f.parts.length) : atI f.its ((i : Int) + 1) = some (f.parts[i]).d := by
  cases f with
  | op => simp [Fm.parts] at h
  | nd n ps =>
    have en : ((i : Int) + 1) = ((i + 1 : Nat) : Int) := by omega
    rw [en]
    refine atI_nat ?_
    have h' : i < ps.length := h
    show (PyData.str n :: Fm.ds ps)[i + 1]? = some (ps[i]'h').d
    rw [List.getElem?_cons_succ, Fm.ds_eq, List.getElem?_map, List.getElem?_eq_getElem h']
    rfl
theorem its_small (f : Fm) (h : f.size ≤ 1000000) : f.parts.length ≤ 1000000 := by
  have := size_kd [] f
  have h2 := len_sizeS (f.kd [])
  rw [kd_len] at h2
  omega
mutual
theorem sp_len (p : List Int) : ∀ f : Fm, (f.sp p).length = f.size
  | .op => by simp [Fm.sp, Fm.size]
  | .nd n ps => by rw [Fm.sp, List.length_cons, sps_len p 0 ps, Fm.size]; omega
theorem sps_len (p : List Int) (k : Nat) : ∀ ps : List Fm, (Fm.sps p k ps).length = Fm.sizes ps
  | [] => by simp [Fm.sps, Fm.sizes]
  | f :: r => by rw [Fm.sps, List.length_append, sp_len _ f, sps_len p (k + 1) r, Fm.sizes]
end
theorem flat_len (l : List (List Int × Fm)) : (l.flatMap fun x => x.2.sp x.1).length = sizeS l := by
  induction l with
  | nil => rfl
  | cons x r ih => rw [List.flatMap_cons, List.length_append, ih, sp_len]; rfl
theorem plD_cat (p : List Int) (i : Int) : plD (p ++ [i]) = .tuple (p.map PyData.int ++ [.int i]) := by unfold plD; rw [List.map_append]; rfl
theorem mem_kids (p : List Int) : ∀ (ps : List Fm) (k : Nat) (x : List Int × Fm), x ∈ kids p k ps → x.1.length = p.length + 1 ∧ x.2.size ≤ Fm.sizes ps ∧ x.2 ∈ ps
  | [], _, _, h => by simp [kids] at h
  | f :: r, k, x, h => by
    rcases List.mem_cons.mp h with (z | z)
    · subst z
      exact ⟨by simp, by rw [Fm.sizes]; exact Nat.le_add_right _ _, List.mem_cons_self⟩
    · obtain ⟨h1, h2, h3⟩ := mem_kids p r (k + 1) x z
      exact ⟨h1, by rw [Fm.sizes]; omega, List.mem_cons_of_mem _ h3⟩
theorem mem_kd {p : List Int} {g : Fm} {x : List Int × Fm} (h : x ∈ g.kd p) : x.1.length + x.2.size ≤ p.length + g.size := by
  obtain ⟨h1, h2, _⟩ := mem_kids p g.parts 0 x h
  have := size_kd p g
  unfold Fm.kd at this
  rw [sizes_kids] at this
  omega
theorem take_one {α : Type} {l : List α} {i : Nat} {x : α} (h : l[i]? = some x) : l.take (i + 1) = l.take i ++ [x] := by
  rw [List.take_succ, h]; rfl
theorem rev_get {α : Type} {l : List α} {i : Nat} (h : i < l.length) : l.reverse[i]? = l[l.length - 1 - i]? := List.getElem?_reverse h
theorem rgD_rev_get {n i : Nat} {x : PyData} (h : (rgD 0 n).reverse[i]? = some x) : i < n ∧ x = .int ((n - 1 - i : Nat) : Int) := by
  have hi : i < n := by
    obtain ⟨h1, _⟩ := List.getElem?_eq_some_iff.mp h
    rw [List.length_reverse, rgD_len] at h1; exact h1
  rw [rev_get (by rw [rgD_len]; exact hi), rgD_len] at h
  obtain ⟨_, rfl⟩ := rgD_get h
  exact ⟨hi, by rw [Int.zero_add]⟩

mutual
/-- the places of a FORM that stands at p, from below, and what stands there -/
def Fm.po (p : List Int) : Fm → List (List Int × Fm)
  | .op => [(p, .op)]
  | .nd n ps => Fm.pos p 0 ps ++ [(p, .nd n ps)]
def Fm.pos (p : List Int) (k : Nat) : List Fm → List (List Int × Fm)
  | [] => []
  | f :: r => f.po (p ++ [(k : Int)]) ++ Fm.pos p (k + 1) r
end
theorem pos_kids (p : List Int) : ∀ (ps : List Fm) (k : Nat), Fm.pos p k ps = (kids p k ps).flatMap fun x => x.2.po x.1
  | [], k => by simp [Fm.pos, kids]
  | f :: r, k => by rw [Fm.pos, kids, List.flatMap_cons, pos_kids p r (k + 1)]
theorem po_eq (p : List Int) (f : Fm) : f.po p = ((f.kd p).flatMap fun x => x.2.po x.1) ++ [(p, f)] := by
  cases f with
  | op => simp [Fm.po, Fm.kd, Fm.parts, kids]
  | nd n ps => rw [Fm.po, pos_kids]; rfl
theorem po_rev (p : List Int) (f : Fm) : (f.po p).reverse = (p, f) :: (f.kd p).reverse.flatMap fun x => (x.2.po x.1).reverse := by
  rw [po_eq, List.reverse_append, List.reverse_flatMap]; rfl
mutual
theorem po_len (p : List Int) : ∀ f : Fm, (f.po p).length = f.size
  | .op => by simp [Fm.po, Fm.size]
  | .nd n ps => by rw [Fm.po, List.length_append, pos_len p 0 ps, Fm.size, List.length_singleton]; omega
theorem pos_len (p : List Int) (k : Nat) : ∀ ps : List Fm, (Fm.pos p k ps).length = Fm.sizes ps
  | [] => by simp [Fm.pos, Fm.sizes]
  | f :: r => by rw [Fm.pos, List.length_append, po_len _ f, pos_len p (k + 1) r, Fm.sizes]
end
theorem flatp_len (l : List (List Int × Fm)) : (l.flatMap fun x => (x.2.po x.1).reverse).length = sizeS l := by
  induction l with
  | nil => rfl
  | cons x r ih => rw [List.flatMap_cons, List.length_append, ih, List.length_reverse, po_len]; rfl
section
variable {P : Program} {w : World} {K : PySem.W.Frag} {T : Tbs} {mg : Str → Option Value} {base : Heap} {f : Addr} {fd : FuncData}
abbrev s_spots_from_below : Stmt := topS 9
theorem sc_spots_from_below : FnScope ["form", "waiting", "rows", "place", "part", "number"] ["form"] (defScope s_spots_from_below) := ⟨rfl, rfl, rfl, by decide +kernel, rfl, by decide +kernel, by decide +kernel⟩
def cSpotsB : CT := fun ss P => ∃ f : Fm, ss = [.d f.d] ∧ f.size ≤ 1000000 ∧ P (.m ((f.po []).map spD)) [.no]
theorem ok_spots_from_below (B : BI mg) (F : Fun K "spots_from_below" "spots_from_below" s_spots_from_below f fd) (b : Binds K fd ["form"] []) (m : mg "spots_from_below" = some (.ref f)) : Fnd P w K T mg base 1 "spots_from_below" ["form"] cSpotsB := by
  refine fn_d F sc_spots_from_below b m [] (by decide) fun cdv A outer s H E hr => ?_
  refine ⟨_, (dss_cons (ds_par (i := 1) (j := 2) (fun ta tb h1 h2 => ps_par rfl sc_spots_from_below.nd rfl rfl (by decide) rfl rfl (pa_cons h1 (pa_cons h2 pa_nil)) (by rfl)) (de_lst (da_cons (de_tup (da_cons (de_tup da_nil) (da_cons (de_var 0 (pv 0)) da_nil))) da_nil)) (de_lst da_nil)) (dss_cons (ds_while PassesOwn.never (dt_truth (de_var 1 (pv 1))) (dss_cons (ds_asg (fun te g h1 h2 => ps_asg h1 h2) (de_pop (de_var 1 (pv 1))) (dg_tup (n := 2) rfl (dgs_cons (dg_name (i := 3) (pg_name sc_spots_from_below.nd rfl (Or.inl rfl))) (dgs_cons (dg_name (i := 4) (pg_name sc_spots_from_below.nd rfl (Or.inl rfl))) dgs_nil)))) (dss_cons (ds_expr (de_append (de_var 2 (pv 2)) (da_cons (de_tup (da_cons (de_var 3 (pv 3)) (da_cons (de_var 4 (pv 4)) da_nil))) da_nil))) (dss_one (ds_for PassesOwn.never rfl (di_range1 rfl B.range (de_sub (de_len B.len (da_cons (de_var 4 (pv 4)) da_nil)) de_int)) (dg_name (i := 5) (pg_name sc_spots_from_below.nd rfl (Or.inl rfl))) (dss_one (ds_expr (de_append (de_var 1 (pv 1)) (da_cons (de_tup (da_cons (de_add (de_var 3 (pv 3)) (de_tup (da_cons (de_var 5 (pv 5)) da_nil))) (da_cons (de_item (de_var 4 (pv 4)) (de_add (de_var 5 (pv 5)) de_int)) da_nil))) da_nil))))))))) (dss_one (ds_ret (de_rev (de_var 2 (pv 2))))))), ?_⟩
  intro ss Q _ ⟨f, e, hf, q⟩
  subst e
  walk_at "dl"
  refine ⟨sz 0, sz 2, sz 1, sz 0, ?_⟩
  refine ⟨fun m Γ => ∃ (st out : List (List Int × Fm)) (a b c : SV), Γ = [.d f.d, .m (st.map spD), .m (out.map spD), a, b, c] ∧ out ++ (st.reverse.flatMap fun x => (x.2.po x.1).reverse) = (f.po []).reverse ∧ (∀ x ∈ st, x.1.length + x.2.size ≤ 1000000) ∧ m = sizeS st, ⟨f.size, [([], f)], [], _, _, _, rfl, by simp, by simpa using hf, by simp [sizeS]⟩, ?_⟩
  rintro m Γ ⟨st, out, a, b, c, rfl, hinv, hpl0, rfl⟩
  walk_at "dl"
  rcases List.eq_nil_or_concat st with rfl | ⟨init, ⟨p, g⟩, rfl⟩
  · have e : out = (f.po []).reverse := by simpa using hinv
    subst e
    simp only [List.map_nil, List.isEmpty_nil, Bool.not_true, Bool.false_eq_true, if_false]
    have e2 : (List.map spD (f.po []).reverse).reverse = List.map spD (f.po []) := by rw [List.map_reverse, List.reverse_reverse]
    rw [e2]
    exact q
  · have e1 : (!(List.map spD (init ++ [(p, g)])).isEmpty) = true := by simp
    rw [List.concat_eq_append, e1, if_pos rfl]
    have hlen : out.length + sizeS (init ++ [(p, g)]) = f.size := by
      rw [← po_len [] f, ← List.length_reverse (as := f.po []), ← hinv, List.length_append, flatp_len, List.concat_eq_append, sizeS_rev]
    have hl1 : out.length ≤ 1000000 := by omega
    simp only [List.map_append, List.map_cons, List.map_nil, List.length_append, List.length_cons, List.length_nil, List.dropLast_concat]
    refine ⟨spD (p, g), by simp, ?_⟩
    show ∃ xs, PyData.tuple [plD p, g.d] = .tuple xs ∧ _
    walk_at "dl"
    refine ⟨sz 2, szl (by rw [List.length_map]; omega), ?_⟩
    simp only [Fm.d_its g, Option.some.injEq, exists_eq_left']
    have hg := size_kd p g
    have hsz : sizeS (init ++ [(p, g)]) = sizeS init + g.size := by rw [sizeS_append]; simp [sizeS]
    have hpl := its_small g (by omega)
    have hil0 := len_sizeS init
    have hil := g.its_len
    refine ⟨⟨by omega, by omega⟩, ?_⟩
    rw [hil]
    refine ⟨fun i Γ => ∃ nb, Γ = [.d f.d, .m ((init ++ (g.kd p).take i).map spD), .m (List.map spD out ++ [PyData.tuple [plD p, PyData.tuple g.its]]), .d (plD p), .d (.tuple g.its), nb], ⟨c, by simp⟩, ?_, ?_⟩
    · rintro i x Γ hx ⟨nb, rfl⟩
      obtain ⟨hi, rfl⟩ := rgD_get hx
      walk_at "dl"
      simp only [plD, Option.some.injEq, exists_eq_left', List.length_map, List.length_append, List.length_cons, List.length_nil, List.length_take, kd_len, Int.zero_add]
      have hr : (g.kd p)[i]? = some (p ++ [(i : Int)], g.parts[i]) := by
        unfold Fm.kd
        rw [kids_get p g.parts 0 _ hi, Nat.zero_add]
      have hpg := hpl0 (p, g) (by simp)
      simp only at hpg
      refine ⟨sz 1, sz _ (by omega), _, Fm.its_at g _ hi, sz 2, szl (by omega), ?_⟩
      rw [take_one hr, ← List.append_assoc, List.map_append (l₁ := init ++ _)]
      simp only [List.map_cons, List.map_nil, spD, prD, plD_cat]
    · rintro Γ ⟨nb, rfl⟩
      rw [rgD_len]
      have e2 : (g.kd p).take g.parts.length = g.kd p := List.take_of_length_le (by rw [kd_len]; exact Nat.le_refl _)
      rw [e2]
      refine ⟨sizeS (init ++ g.kd p), ?_, init ++ g.kd p, out ++ [(p, g)], ?_, ?_, ?_, rfl⟩
      · rw [sizeS_append, hsz]; omega
      · refine ⟨.d (plD p), .d (.tuple g.its), nb, ?_⟩
        rw [List.map_append (l₁ := out)]
        simp only [List.map_cons, List.map_nil, spD, prD, Fm.d_its]
      · rw [← hinv, List.concat_eq_append]
        simp only [List.reverse_append, List.reverse_cons, List.reverse_nil, List.nil_append, List.flatMap_append, List.flatMap_cons, List.flatMap_nil, List.append_nil, List.append_assoc, List.cons_append]
        rw [po_rev p g]
        simp only [List.cons_append]
      · intro x hx
        rcases List.mem_append.mp hx with (z | z)
        · exact hpl0 x (by simp [z])
        · have h1 := mem_kd z
          have h2 := hpl0 (p, g) (by simp)
          simp only at h2
          omega
end

/-! ## lists made tuples -/
mutual
def tupD : PyData → PyData
  | .list xs => .tuple (tupDs xs)
  | .tuple xs => .tuple (tupDs xs)
  | .none => .none
  | .bool b => .bool b
  | .int i => .int i
  | .str s => .str s
  | .dict kvs => .dict kvs
def tupDs : List PyData → List PyData
  | [] => []
  | x :: r => tupD x :: tupDs r
end
mutual
/-- how many things -/
def cnt : PyData → Nat
  | .list xs => 1 + cnts xs
  | .tuple xs => 1 + cnts xs
  | .none => 1
  | .bool _ => 1
  | .int _ => 1
  | .str _ => 1
  | .dict _ => 1
def cnts : List PyData → Nat
  | [] => 0
  | x :: r => cnt x + cnts r
end
mutual
/-- no dict in it -/
def nod : PyData → Bool
  | .list xs => nods xs
  | .tuple xs => nods xs
  | .none => true
  | .bool _ => true
  | .int _ => true
  | .str _ => true
  | .dict _ => false
def nods : List PyData → Bool
  | [] => true
  | x :: r => nod x && nods r
end
mutual
/-- all that is in it, from below -/
def pst : PyData → List PyData
  | .list xs => psts xs ++ [.list xs]
  | .tuple xs => psts xs ++ [.tuple xs]
  | .none => [.none]
  | .bool b => [.bool b]
  | .int i => [.int i]
  | .str s => [.str s]
  | .dict kvs => [.dict kvs]
def psts : List PyData → List PyData
  | [] => []
  | x :: r => pst x ++ psts r
end
def kidD : PyData → List PyData
  | .list xs => xs
  | .tuple xs => xs
  | _ => []
def isSq : PyData → Bool
  | .list _ => true
  | .tuple _ => true
  | _ => false
theorem psts_eq : ∀ xs, psts xs = xs.flatMap pst
  | [] => by simp [psts]
  | x :: r => by rw [psts, List.flatMap_cons, psts_eq r]
theorem pst_eq (x : PyData) : pst x = (kidD x).flatMap pst ++ [x] := by
  cases x <;> simp [pst, kidD, psts_eq]
theorem pst_rev (x : PyData) : (pst x).reverse = x :: (kidD x).reverse.flatMap fun y => (pst y).reverse := by
  rw [pst_eq, List.reverse_append, List.reverse_flatMap]; rfl
def cntS (l : List PyData) : Nat := (l.map cnt).sum
theorem cnts_eq : ∀ xs, cnts xs = cntS xs
  | [] => by simp [cnts, cntS]
  | x :: r => by rw [cnts, cnts_eq r]; simp [cntS]
theorem cnt_eq (x : PyData) : cnt x = 1 + cntS (kidD x) := by
  cases x <;> simp [cnt, kidD, cnts_eq] <;> simp [cntS]
theorem cntS_append (a b : List PyData) : cntS (a ++ b) = cntS a + cntS b := by unfold cntS; rw [List.map_append, List.sum_append]
theorem cnt_pos (x : PyData) : 0 < cnt x := by rw [cnt_eq]; omega
theorem len_cntS (l : List PyData) : l.length ≤ cntS l := by
  induction l with
  | nil => exact Nat.le_refl _
  | cons x r ih =>
    show r.length + 1 ≤ (((x :: r).map cnt).sum)
    have := cnt_pos x
    have e : (((x :: r).map cnt).sum) = cnt x + cntS r := by simp [cntS]
    omega
mutual
theorem pst_len : ∀ x : PyData, (pst x).length = cnt x
  | .list xs => by rw [pst, List.length_append, psts_len xs, cnt]; simp; omega
  | .tuple xs => by rw [pst, List.length_append, psts_len xs, cnt]; simp; omega
  | .none => by simp [pst, cnt]
  | .bool _ => by simp [pst, cnt]
  | .int _ => by simp [pst, cnt]
  | .str _ => by simp [pst, cnt]
  | .dict _ => by simp [pst, cnt]
theorem psts_len : ∀ xs : List PyData, (psts xs).length = cnts xs
  | [] => by simp [psts, cnts]
  | x :: r => by rw [psts, List.length_append, pst_len x, psts_len r, cnts]
end
theorem flatq_len (l : List PyData) : (l.flatMap fun y => (pst y).reverse).length = cntS l := by
  induction l with
  | nil => rfl
  | cons x r ih => rw [List.flatMap_cons, List.length_append, ih, List.length_reverse, pst_len]; simp [cntS]
theorem cntS_rev (a : List PyData) : cntS a.reverse = cntS a := by unfold cntS; rw [List.map_reverse, List.sum_reverse]
theorem nods_all : ∀ xs, nods xs = true ↔ ∀ y ∈ xs, nod y = true
  | [] => by simp [nods]
  | x :: r => by simp [nods, nods_all r]
theorem nod_kid {x y : PyData} (h : nod x = true) (m : y ∈ kidD x) : nod y = true := by
  cases x <;> simp [kidD] at m
  · exact (nods_all _).mp (by simpa [nod] using h) y m
  · exact (nods_all _).mp (by simpa [nod] using h) y m
mutual
theorem nod_pst : ∀ x : PyData, nod x = true → ∀ y ∈ pst x, nod y = true
  | .list xs, h, y, m => by
    rw [pst] at m
    rcases List.mem_append.mp m with (z | z)
    · exact nod_psts xs (by simpa [nod] using h) y z
    · rw [List.mem_singleton.mp z]; exact h
  | .tuple xs, h, y, m => by
    rw [pst] at m
    rcases List.mem_append.mp m with (z | z)
    · exact nod_psts xs (by simpa [nod] using h) y z
    · rw [List.mem_singleton.mp z]; exact h
  | .none, h, y, m => by rw [pst] at m; rw [List.mem_singleton.mp m]; exact h
  | .bool _, h, y, m => by rw [pst] at m; rw [List.mem_singleton.mp m]; exact h
  | .int _, h, y, m => by rw [pst] at m; rw [List.mem_singleton.mp m]; exact h
  | .str _, h, y, m => by rw [pst] at m; rw [List.mem_singleton.mp m]; exact h
  | .dict _, h, _, _ => by simp [nod] at h
theorem nod_psts : ∀ xs : List PyData, nods xs = true → ∀ y ∈ psts xs, nod y = true
  | [], _, _, m => by simp [psts] at m
  | x :: r, h, y, m => by
    rw [psts] at m
    have h' : nod x = true ∧ nods r = true := by simpa [nods] using h
    rcases List.mem_append.mp m with (z | z)
    · exact nod_pst x h'.1 y z
    · exact nod_psts r h'.2 y z
end
/-- one thing more, from below: behind what is made of its parts -/
def stepO (st : List PyData) (y : PyData) : Option (List PyData) :=
  if isSq y = true then (if (kidD y).length ≤ st.length then some (st.take (st.length - (kidD y).length) ++ [.tuple (st.drop (st.length - (kidD y).length))]) else none) else some (st ++ [y])
def runO (st : List PyData) (ys : List PyData) : Option (List PyData) := ys.foldlM stepO st
theorem runO_append (st a b : List PyData) : runO st (a ++ b) = (runO st a).bind fun s => runO s b := by
  unfold runO; rw [List.foldlM_append]; rfl
theorem tupDs_len : ∀ xs, (tupDs xs).length = xs.length
  | [] => by simp [tupDs]
  | x :: r => by rw [tupDs, List.length_cons, List.length_cons, tupDs_len r]
theorem step_sq (st xs : List PyData) (y : PyData) (h : isSq y = true) (e : kidD y = xs) : stepO (st ++ tupDs xs) y = some (st ++ [.tuple (tupDs xs)]) := by
  subst e
  unfold stepO
  have hl : (st ++ tupDs (kidD y)).length - (kidD y).length = st.length := by rw [List.length_append, tupDs_len]; omega
  rw [if_pos h, if_pos (by rw [List.length_append, tupDs_len]; omega), hl, List.take_left, List.drop_left]
mutual
theorem run_pst : ∀ (x : PyData) (st : List PyData), runO st (pst x) = some (st ++ [tupD x])
  | .list xs, st => by
    rw [pst, runO_append, run_psts xs st]
    show runO (st ++ tupDs xs) [.list xs] = _
    unfold runO
    simp only [List.foldlM_cons, List.foldlM_nil, step_sq st xs (.list xs) rfl rfl]
    rfl
  | .tuple xs, st => by
    rw [pst, runO_append, run_psts xs st]
    show runO (st ++ tupDs xs) [.tuple xs] = _
    unfold runO
    simp only [List.foldlM_cons, List.foldlM_nil, step_sq st xs (.tuple xs) rfl rfl]
    rfl
  | .none, st => by simp [pst, runO, stepO, isSq, tupD]
  | .bool _, st => by simp [pst, runO, stepO, isSq, tupD]
  | .int _, st => by simp [pst, runO, stepO, isSq, tupD]
  | .str _, st => by simp [pst, runO, stepO, isSq, tupD]
  | .dict _, st => by simp [pst, runO, stepO, isSq, tupD]
theorem run_psts : ∀ (xs : List PyData) (st : List PyData), runO st (psts xs) = some (st ++ tupDs xs)
  | [], st => by simp [psts, runO, tupDs]
  | x :: r, st => by
    rw [psts, runO_append, run_pst x st]
    show runO (st ++ [tupD x]) (psts r) = _
    rw [run_psts r, tupDs, List.append_assoc]; rfl
end
theorem runO_len : ∀ (ys st s' : List PyData), runO st ys = some s' → s'.length ≤ st.length + ys.length
  | [], st, s', h => by
    have e : some st = some s' := h
    cases e; simp
  | y :: r, st, s', h => by
    have h2 : (stepO st y).bind (fun s => runO s r) = some s' := h
    cases e : stepO st y with
    | none => (rw [e] at h2; cases h2)
    | some s1 =>
      rw [e] at h2
      have := runO_len r s1 s' h2
      have l1 : s1.length ≤ st.length + 1 := by
        unfold stepO at e
        split at e
        · split at e
          · cases e; simp only [List.length_append, List.length_take, List.length_singleton]; omega
          · cases e
        · cases e; simp
      simp only [List.length_cons]
      omega
/-- amid the run -/
theorem run_at {x : PyData} {i : Nat} {y : PyData} {s : List PyData} (h : runO [] ((pst x).take i) = some s) (e : (pst x)[i]? = some y) : ∃ s', stepO s y = some s' ∧ runO [] ((pst x).take (i + 1)) = some s' := by
  have w := run_pst x []
  rw [← List.take_append_drop (i + 1) (pst x), runO_append, take_one e, runO_append, h] at w
  have w2 : ((stepO s y).bind fun s' => runO s' []).bind (fun s' => runO s' ((pst x).drop (i + 1))) = some ([] ++ [tupD x]) := w
  cases q : stepO s y with
  | none => (rw [q] at w2; cases w2)
  | some s' =>
    refine ⟨s', rfl, ?_⟩
    rw [take_one e, runO_append, h]
    show (stepO s y).bind (fun s' => runO s' []) = _
    rw [q]; rfl
theorem step_inv {st s2 : List PyData} {y : PyData} (h : stepO st y = some s2) (q : isSq y = true) : (kidD y).length ≤ st.length ∧ s2 = st.take (st.length - (kidD y).length) ++ [.tuple (st.drop (st.length - (kidD y).length))] := by
  unfold stepO at h
  rw [if_pos q] at h
  split at h
  · rename_i hl; cases h; exact ⟨hl, rfl⟩
  · cases h
theorem step_leaf {st s2 : List PyData} {y : PyData} (h : stepO st y = some s2) (q : isSq y = false) : s2 = st ++ [y] := by
  unfold stepO at h
  rw [if_neg (by rw [q]; exact Bool.false_ne_true)] at h
  cases h; rfl
theorem isq_none : ansOf2 "list" "tuple" "NoneType" = some false := by decide +kernel
theorem isq_bool : ansOf2 "list" "tuple" "bool" = some false := by decide +kernel
theorem isq_int : ansOf2 "list" "tuple" "int" = some false := by decide +kernel
theorem isq_str : ansOf2 "list" "tuple" "str" = some false := by decide +kernel
theorem isq_list : ansOf2 "list" "tuple" "list" = some true := by decide +kernel
theorem isq_tuple : ansOf2 "list" "tuple" "tuple" = some true := by decide +kernel
theorem toNat_sub {n m : Nat} (h : m ≤ n) : ((n : Int) - (m : Int)).toNat = n - m := by omega
theorem cut_from {xs : List PyData} {a : Nat} (h : a ≤ xs.length) : cutD xs (some (a : Int)) none = xs.drop a := by
  unfold cutD
  rw [HT.sIx_nat, HT.sIx_none, Nat.min_eq_left h]
  exact List.take_of_length_le (by rw [List.length_drop]; exact Nat.le_refl _)
theorem cut_tail {xs : List PyData} {m : Nat} (h : m ≤ xs.length) : cutD xs (some ((xs.length : Int) - (m : Int))) none = xs.drop (xs.length - m) := by
  have e : ((xs.length : Int) - (m : Int)) = ((xs.length - m : Nat) : Int) := by omega
  rw [e, cut_from (by omega)]
section
variable {P : Program} {w : World} {K : PySem.W.Frag} {T : Tbs} {mg : Str → Option Value} {base : Heap} {f : Addr} {fd : FuncData}
abbrev s_tupled : Stmt := topS 7
theorem sc_tupled : FnScope ["given", "waiting", "rows", "part", "done", "start", "own"] ["given"] (defScope s_tupled) := ⟨rfl, rfl, rfl, by decide +kernel, rfl, by decide +kernel, by decide +kernel⟩
def cTupled : CT := fun ss P => ∃ x : PyData, ss = [.d x] ∧ nod x = true ∧ cnt x ≤ 1000000 ∧ P (.d (tupD x)) [.no]
theorem ok_tupled (B : BI mg) (F : Fun K "tupled" "tupled" s_tupled f fd) (b : Binds K fd ["given"] []) (m : mg "tupled" = some (.ref f)) : Fnd P w K T mg base 1 "tupled" ["given"] cTupled := by
  refine fn_d F sc_tupled b m [] (by decide) fun cdv A outer s H E hr => ?_
  refine ⟨_, (dss_cons (ds_par (i := 1) (j := 2) (fun ta tb h1 h2 => ps_par rfl sc_tupled.nd rfl rfl (by decide) rfl rfl (pa_cons h1 (pa_cons h2 pa_nil)) (by rfl)) (de_lst (da_cons (de_var 0 (pv 0)) da_nil)) (de_lst da_nil)) (dss_cons (ds_while PassesOwn.never (dt_truth (de_var 1 (pv 1))) (dss_cons (ds_set (i := 3) (fun te h => ps_set sc_tupled.nd rfl (Or.inl rfl) h) (de_pop (de_var 1 (pv 1)))) (dss_cons (ds_expr (de_append (de_var 2 (pv 2)) (da_cons (de_var 3 (pv 3)) da_nil))) (dss_one (ds_if (dt_truth (isi_list_tuple B (de_var 3 (pv 3)))) (dss_one (ds_expr (de_extA (de_var 1 (pv 1)) (da_cons (de_var 3 (pv 3)) da_nil)))) dss_nil))))) (dss_cons (ds_set (i := 4) (fun te h => ps_set sc_tupled.nd rfl (Or.inl rfl) h) (de_lst da_nil)) (dss_cons (ds_for PassesOwn.never rfl (di_seq (de_rev (de_var 2 (pv 2)))) (dg_name (i := 3) (pg_name sc_tupled.nd rfl (Or.inl rfl))) (dss_cons (ds_if (dt_not (dt_truth (isi_list_tuple B (de_var 3 (pv 3))))) (dss_cons (ds_expr (de_append (de_var 4 (pv 4)) (da_cons (de_var 3 (pv 3)) da_nil))) (dss_one ds_continue)) dss_nil) (dss_cons (ds_set (i := 5) (fun te h => ps_set sc_tupled.nd rfl (Or.inl rfl) h) (de_sub (de_len B.len (da_cons (de_var 4 (pv 4)) da_nil)) (de_len B.len (da_cons (de_var 3 (pv 3)) da_nil)))) (dss_cons (ds_set (i := 6) (fun te h => ps_set sc_tupled.nd rfl (Or.inl rfl) h) (de_tupOf B.tuple (da_cons (de_slice (de_var 4 (pv 4)) (do_some (de_var 5 (pv 5))) do_none) da_nil))) (dss_cons (ds_delT (de_var 4 (pv 4)) (de_var 5 (pv 5))) (dss_one (ds_expr (de_append (de_var 4 (pv 4)) (da_cons (de_var 6 (pv 6)) da_nil))))))))) (dss_one (ds_ret (de_item (de_var 4 (pv 4)) de_int))))))), ?_⟩
  intro ss Q _ ⟨x0, e, hn, hc, q⟩
  subst e
  walk_at "dl"
  refine ⟨sz 1, sz 0, ?_⟩
  refine ⟨fun m Γ => ∃ (st out : List PyData) (a : SV), Γ = [.d x0, .m st, .m out, a, .no, .no, .no] ∧ out ++ (st.reverse.flatMap fun y => (pst y).reverse) = (pst x0).reverse ∧ (∀ y ∈ st, nod y = true) ∧ m = cntS st, ⟨cntS [x0], [x0], [], _, rfl, by simp, by simpa using hn, rfl⟩, ?_⟩
  rintro m Γ ⟨st, out, a, rfl, hinv, hnd, rfl⟩
  walk_at "dl"
  rcases List.eq_nil_or_concat st with rfl | ⟨init, y, rfl⟩
  · have e : out = (pst x0).reverse := by simpa using hinv
    subst e
    simp only [List.isEmpty_nil, Bool.not_true, Bool.false_eq_true, if_false, List.reverse_reverse]
    refine ⟨sz 0, fun i Γ => ∃ (s' : List PyData) (b c d : SV), Γ = [.d x0, .m [], .m (pst x0).reverse, b, .m s', c, d] ∧ runO [] ((pst x0).take i) = some s', ⟨[], _, _, _, rfl, rfl⟩, ?_, ?_⟩
    · rintro i y Γ hy ⟨s', b, c, d, rfl, hrun⟩
      obtain ⟨s2, hst, hrun2⟩ := run_at hrun hy
      have hyn := nod_pst x0 hn y (List.mem_of_getElem? hy)
      have hil : i < cnt x0 := by rw [← pst_len]; exact (List.getElem?_eq_some_iff.mp hy).1
      have hsl := runO_len _ _ _ hrun
      rw [List.length_take] at hsl
      have hsl1 : s'.length ≤ 1000000 := by simp at hsl; omega
      cases y <;> simp [nod] at hyn
      all_goals walk_at "dl"
      · rw [step_leaf hst rfl] at hrun2; exact ⟨false, isq_none, by rw [Bool.not_false, if_pos rfl]; exact ⟨szl (Nat.le_trans hsl1 (by decide)), hrun2⟩⟩
      · rw [step_leaf hst rfl] at hrun2; exact ⟨false, isq_bool, by rw [Bool.not_false, if_pos rfl]; exact ⟨szl (Nat.le_trans hsl1 (by decide)), hrun2⟩⟩
      · rw [step_leaf hst rfl] at hrun2; exact ⟨false, isq_int, by rw [Bool.not_false, if_pos rfl]; exact ⟨szl (Nat.le_trans hsl1 (by decide)), hrun2⟩⟩
      · rw [step_leaf hst rfl] at hrun2; exact ⟨false, isq_str, by rw [Bool.not_false, if_pos rfl]; exact ⟨szl (Nat.le_trans hsl1 (by decide)), hrun2⟩⟩
      all_goals (
        rename_i ks
        obtain ⟨hle, e2⟩ := step_inv hst rfl
        have hle' : ks.length ≤ s'.length := hle
        subst e2
        refine ⟨true, by first | exact isq_list | exact isq_tuple, ?_⟩
        rw [Bool.not_true, if_neg Bool.false_ne_true, cut_tail hle', toNat_sub hle']
        exact ⟨by omega, by omega, szl (by rw [List.length_take]; omega), hrun2⟩)
    · rintro Γ ⟨s', b, c, d, rfl, hrun⟩
      rw [List.take_of_length_le (Nat.le_refl _), run_pst] at hrun
      cases hrun
      walk_at "dl"
      exact ⟨_, atI_zero, q⟩
  · have e1 : (!(init ++ [y]).isEmpty) = true := by simp
    rw [List.concat_eq_append, e1, if_pos rfl]
    have hlen : out.length + cntS (init ++ [y]) = cnt x0 := by
      rw [← pst_len x0, ← List.length_reverse (as := pst x0), ← hinv, List.length_append, flatq_len, List.concat_eq_append, cntS_rev]
    have hl1 : out.length ≤ 1000000 := by omega
    simp only [List.length_append, List.length_cons, List.length_nil, List.dropLast_concat]
    refine ⟨y, by simp, ?_⟩
    have hy : nod y = true := hnd y (by simp)
    have hsz : cntS (init ++ [y]) = cntS init + cnt y := by rw [cntS_append]; simp [cntS]
    have hil := len_cntS init
    have hkl := len_cntS (kidD y)
    have hcy := cnt_eq y
    have next : ∃ m', m' < cntS (init ++ [y]) ∧ out ++ [y] ++ ((init ++ kidD y).reverse.flatMap fun y => (pst y).reverse) = (pst x0).reverse ∧ (∀ z ∈ init ++ kidD y, nod z = true) ∧ m' = cntS (init ++ kidD y) := by
      refine ⟨cntS (init ++ kidD y), by rw [cntS_append]; omega, ?_, ?_, rfl⟩
      · rw [← hinv, List.concat_eq_append]
        simp only [List.reverse_append, List.reverse_cons, List.reverse_nil, List.nil_append, List.flatMap_append, List.flatMap_cons, List.flatMap_nil, List.append_nil, List.append_assoc, List.cons_append]
        rw [pst_rev y]
        simp only [List.cons_append]
      · intro z hz
        rcases List.mem_append.mp hz with (v | v)
        · exact hnd z (by simp [v])
        · exact nod_kid hy v
    refine ⟨szl (by omega), ?_⟩
    have hkb : init.length + (kidD y).length ≤ 16000000 := by omega
    cases y <;> simp [nod] at hy <;> simp only [kidD, List.append_nil] at next hkb
    all_goals walk_at "dl"
    · exact ⟨false, isq_none, by rw [if_neg Bool.false_ne_true]; exact next⟩
    · exact ⟨false, isq_bool, by rw [if_neg Bool.false_ne_true]; exact next⟩
    · exact ⟨false, isq_int, by rw [if_neg Bool.false_ne_true]; exact next⟩
    · exact ⟨false, isq_str, by rw [if_neg Bool.false_ne_true]; exact next⟩
    · exact ⟨true, isq_list, by rw [if_pos rfl]; exact ⟨sz _ hkb, next⟩⟩
    · exact ⟨true, isq_tuple, by rw [if_pos rfl]; exact ⟨sz _ hkb, next⟩⟩
end

section
variable {P : Program} {w : World} {K : PySem.W.Frag} {T : Tbs} {mg : Str → Option Value} {base : Heap} {f : Addr} {fd : FuncData}
abbrev s_over_last : Stmt := topS 10
theorem sc_over_last : FnScope ["part", "done", "start", "node"] ["part", "done"] (defScope s_over_last) := ⟨rfl, rfl, rfl, by decide +kernel, rfl, by decide +kernel, by decide +kernel⟩
/-- the FORM with other parts -/
def Fm.over : Fm → List Fm → Fm
  | .op, _ => .op
  | .nd n _, hs => .nd n hs
def cOver : CT := fun ss P => ∃ (f : Fm) (gs : List Fm), ss = [.d f.d, .m (gs.map Fm.d)] ∧ f.Fit ∧ f.parts.length ≤ gs.length ∧ gs.length ≤ 1000000 ∧
  P (.d (f.over (gs.drop (gs.length - f.parts.length))).d) [.no, .m ((gs.take (gs.length - f.parts.length)).map Fm.d)]
theorem ok_over_last (B : BI mg) (g_OPEN : ConstAt K mg "OPEN" (.tuple [])) (F : Fun K "over_last" "over_last" s_over_last f fd) (b : Binds K fd ["part", "done"] []) (m : mg "over_last" = some (.ref f)) : Fnd P w K T mg base 1 "over_last" ["part", "done"] cOver := by
  refine fn_d F sc_over_last b m [1] (by decide) fun cdv A outer s H E hr => ?_
  refine ⟨_, (dss_cons (ds_if (dt_eq hr.units (de_var 0 (pv 0)) (de_const g_OPEN)) (dss_one (ds_ret (de_const g_OPEN))) dss_nil) (dss_cons (ds_set (i := 2) (fun te h => ps_set sc_over_last.nd rfl (Or.inl rfl) h) (de_sub (de_len B.len (da_cons (de_var 1 (pv 1)) da_nil)) (de_sub (de_len B.len (da_cons (de_var 0 (pv 0)) da_nil)) de_int))) (dss_cons (ds_set (i := 3) (fun te h => ps_set sc_over_last.nd rfl (Or.inl rfl) h) (de_add (de_tup (da_cons (de_item (de_var 0 (pv 0)) de_int) da_nil)) (de_tupOf B.tuple (da_cons (de_slice (de_var 1 (pv 1)) (do_some (de_var 2 (pv 2))) do_none) da_nil)))) (dss_cons (ds_delT (de_var 1 (pv 1)) (de_var 2 (pv 2))) (dss_one (ds_ret (de_var 3 (pv 3)))))))), ?_⟩
  intro ss Q _ ⟨f, gs, e, hf, hl, hb, q⟩
  subst e
  walk_at "dl"
  refine ⟨hf.shaped, shaped_empty, ?_⟩
  rw [Fm.eqv_op]
  cases f with
  | op =>
    simp only [if_true]
    simpa [Fm.over, Fm.parts, Fm.d] using q
  | nd n ps =>
    simp only [Bool.false_eq_true, if_false, Fm.d]
    walk_at "dl"
    have hk : ps.length ≤ gs.length := hl
    have e1 : (((gs.map Fm.d).length : Int) - (((Fm.ds ps).length + 1 : Nat) - 1)) = (((gs.map Fm.d).length : Int) - (ps.length : Int)) := by rw [Fm.ds_len]; omega
    have e2 : ps.length ≤ (gs.map Fm.d).length := by rw [List.length_map]; exact hk
    rw [e1, cut_tail e2, toNat_sub e2]
    refine ⟨_, atI_zero, sz 1, ?_, by omega, by omega, ?_⟩
    · refine sz _ ?_
      rw [List.length_drop, List.length_map]; omega
    · rw [← List.map_drop, ← List.map_take, List.length_map]
      simpa [Fm.over, Fm.parts, Fm.d, Fm.ds_eq] using q
end

/-! ## agreeing -/
mutual
def Fm.agr : Fm → Fm → Bool
  | .op, _ => true
  | .nd _ _, .op => true
  | .nd n ps, .nd m qs => n == m && decide (ps.length = qs.length) && Fm.agrs ps qs
def Fm.agrs : List Fm → List Fm → Bool
  | [], _ => true
  | _ :: _, [] => true
  | a :: r, b :: t => a.agr b && Fm.agrs r t
end
theorem agrs_zip : ∀ (ps qs : List Fm), Fm.agrs ps qs = (ps.zip qs).all fun x => x.1.agr x.2
  | [], qs => by simp [Fm.agrs]
  | _ :: _, [] => by simp [Fm.agrs]
  | a :: r, b :: t => by rw [Fm.agrs, agrs_zip r t]; simp
theorem agr_op (f : Fm) : f.agr .op = true := by cases f <;> simp [Fm.agr]
theorem oks_all : ∀ ps : List Fm, Fm.oks ps = true ↔ ∀ f ∈ ps, f.ok = true
  | [] => by simp [Fm.oks]
  | f :: r => by simp [Fm.oks, oks_all r]
theorem deps_le : ∀ (ps : List Fm) (f : Fm), f ∈ ps → f.dep ≤ Fm.deps ps
  | [], f, h => by cases h
  | g :: r, f, h => by
    rw [Fm.deps]
    rcases List.mem_cons.mp h with (z | z)
    · rw [z]; exact Nat.le_max_left _ _
    · exact Nat.le_trans (deps_le r f z) (Nat.le_max_right _ _)
theorem Fm.Fit.part {n : Str} {ps : List Fm} (h : (Fm.nd n ps).Fit) {f : Fm} (m : f ∈ ps) : f.Fit := by
  obtain ⟨h1, h2⟩ := h
  simp only [Fm.ok, Bool.and_eq_true] at h1
  rw [Fm.dep] at h2
  exact ⟨(oks_all ps).mp h1.2 f m, by have := deps_le ps f m; omega⟩
theorem Fm.Fit.nm {n : Str} {ps : List Fm} (h : (Fm.nd n ps).Fit) : nmOk n = true ∧ ps.length ≤ 3 := by
  obtain ⟨h1, _⟩ := h
  simp only [Fm.ok, Bool.and_eq_true, decide_eq_true_eq] at h1
  exact h1.1
theorem Fm.Fit.name {n : Str} {ps : List Fm} (h : (Fm.nd n ps).Fit) : PyData.strOk n = true ∧ ps.length ≤ 3 := ⟨nm_str h.nm.1, h.nm.2⟩
theorem sg_shaped {f : Fm} (h : f.Fit) : SeqAt.shaped f.sg = true := by
  cases f with
  | op => decide +kernel
  | nd n ps =>
    have := h.name.1
    unfold SeqAt.shaped
    simp [Fm.sg, PyData.canLay0, PyData.canLayAll0, PyData.depth, PyData.depthAll, this]
theorem sg_eqv (n m : Str) (ps qs : List Fm) : PyData.eqv (Fm.nd n ps).sg (Fm.nd m qs).sg = (n == m && decide (ps.length = qs.length)) := by
  simp only [Fm.sg, PyData.eqv, PyData.eqvAll, Bool.and_true]
  congr 1
  by_cases h : ps.length = qs.length
  · simp [h]
  · have h' : ¬ ((ps.length : Int) = (qs.length : Int)) := by omega
    simp [h, h']
theorem cut_one (x : PyData) (xs : List PyData) : cutD (x :: xs) (some 1) none = xs := cut_from (xs := x :: xs) (a := 1) (by simp)
def pairD (x : Fm × Fm) : PyData := .tuple [x.1.d, x.2.d]
theorem zip_pairs : ∀ (ps qs : List Fm), zipD (Fm.ds ps) (Fm.ds qs) = (ps.zip qs).map pairD
  | [], qs => by cases qs <;> simp [Fm.ds, zipD]
  | _ :: _, [] => by simp [Fm.ds, zipD]
  | a :: r, b :: t => by
    have ih := zip_pairs r t
    simp only [Fm.ds, zipD, List.zip_cons_cons, List.map_cons, ih, pairD]
def sizeP (l : List (Fm × Fm)) : Nat := (l.map fun x => x.1.size).sum
theorem sizeP_append (a b : List (Fm × Fm)) : sizeP (a ++ b) = sizeP a + sizeP b := by unfold sizeP; rw [List.map_append, List.sum_append]
theorem sizeP_zip : ∀ (ps qs : List Fm), sizeP (ps.zip qs) ≤ Fm.sizes ps
  | [], qs => by simp [sizeP]
  | _ :: _, [] => by simp [sizeP]
  | a :: r, b :: t => by
    have ih := sizeP_zip r t
    have e : sizeP ((a :: r).zip (b :: t)) = a.size + sizeP (r.zip t) := by simp [sizeP]
    rw [e, Fm.sizes]; omega
theorem len_sizeP (l : List (Fm × Fm)) : l.length ≤ sizeP l := by
  induction l with
  | nil => exact Nat.le_refl _
  | cons x r ih =>
    have e : sizeP (x :: r) = x.1.size + sizeP r := by simp [sizeP]
    have := size_pos x.1
    rw [e, List.length_cons]; omega
section
variable {P : Program} {w : World} {K : PySem.W.Frag} {T : Tbs} {mg : Str → Option Value} {base : Heap} {f : Addr} {fd : FuncData}
abbrev s_agree : Stmt := topS 17
theorem sc_agree : FnScope ["form", "other", "waiting", "one", "two"] ["form", "other"] (defScope s_agree) := ⟨rfl, rfl, rfl, by decide +kernel, rfl, by decide +kernel, by decide +kernel⟩
def cAgree : CT := fun ss P => ∃ f g : Fm, ss = [.d f.d, .d g.d] ∧ f.Fit ∧ g.Fit ∧ f.size ≤ 1000000 ∧ P (.d (.bool (f.agr g))) [.no, .no]
theorem ok_agree (B : BI mg) (g_OPEN : ConstAt K mg "OPEN" (.tuple [])) (h_own_sign : Fnd P w K T mg base 1 "own_sign" ["form"] cSign) (F : Fun K "agree" "agree" s_agree f fd) (b : Binds K fd ["form", "other"] []) (m : mg "agree" = some (.ref f)) : Fnd P w K T mg base 2 "agree" ["form", "other"] cAgree := by
  refine fn_d F sc_agree b m [] (by decide) fun cdv A outer s H E hr => ?_
  refine ⟨_, (dss_cons (ds_set (i := 2) (fun te h => ps_set sc_agree.nd rfl (Or.inl rfl) h) (de_lst (da_cons (de_tup (da_cons (de_var 0 (pv 0)) (da_cons (de_var 1 (pv 1)) da_nil))) da_nil))) (dss_cons (ds_while PassesOwn.never (dt_truth (de_var 2 (pv 2))) (dss_cons (ds_asg (fun te g h1 h2 => ps_asg h1 h2) (de_pop (de_var 2 (pv 2))) (dg_tup (n := 2) rfl (dgs_cons (dg_name (i := 3) (pg_name sc_agree.nd rfl (Or.inl rfl))) (dgs_cons (dg_name (i := 4) (pg_name sc_agree.nd rfl (Or.inl rfl))) dgs_nil)))) (dss_cons (ds_if (dw_pt (dw_or (dt_eq hr.units (de_var 3 (pv 3)) (de_const g_OPEN)) (dw_or1 (dt_eq hr.units (de_var 4 (pv 4)) (de_const g_OPEN))))) (dss_one ds_continue) dss_nil) (dss_cons (ds_if (dt_ne hr.units (de_call (h_own_sign.mono (by omega)) hr (da_cons (de_var 3 (pv 3)) da_nil)) (de_call (h_own_sign.mono (by omega)) hr (da_cons (de_var 4 (pv 4)) da_nil))) (dss_one (ds_ret de_bl)) dss_nil) (dss_one (ds_expr (de_extA (de_var 2 (pv 2)) (da_cons (de_lstZip B.list B.zip (da_cons (de_slice (de_var 3 (pv 3)) (do_some de_int) do_none) (da_cons (de_slice (de_var 4 (pv 4)) (do_some de_int) do_none) da_nil))) da_nil)))))))) (dss_one (ds_ret de_bl)))), ?_⟩
  intro ss Q _ ⟨f, g, e, hf, hg, hs, q⟩
  subst e
  walk_at "dl"
  refine ⟨sz 2, sz 1, ?_⟩
  refine ⟨fun m Γ => ∃ (st : List (Fm × Fm)) (a b : SV), Γ = [.d f.d, .d g.d, .m (st.map pairD), a, b] ∧ (st.all fun x => x.1.agr x.2) = f.agr g ∧ (∀ x ∈ st, x.1.Fit ∧ x.2.Fit) ∧ m = sizeP st ∧ m ≤ 1000000, ⟨f.size, [(f, g)], _, _, rfl, by simp, by simpa using ⟨hf, hg⟩, by simp [sizeP], hs⟩, ?_⟩
  rintro m Γ ⟨st, a, b, rfl, hinv, hfit, rfl, hm⟩
  refine ⟨!(st.map pairD).isEmpty, rfl, ?_⟩
  rcases List.eq_nil_or_concat st with rfl | ⟨init, ⟨one, two⟩, rfl⟩
  · have e : f.agr g = true := by rw [← hinv]; rfl
    rw [e] at q
    exact q
  · have e1 : (!(List.map pairD (init ++ [(one, two)])).isEmpty) = true := by simp
    rw [List.concat_eq_append] at hinv hfit hm ⊢
    rw [e1, if_pos rfl]
    have e2 : List.map pairD (init ++ [(one, two)]) = List.map pairD init ++ [.tuple [one.d, two.d]] := by rw [List.map_append]; rfl
    rw [e2]
    refine ⟨⟨_, rfl⟩, ⟨PyData.tuple [one.d, two.d], by simp, rfl, ?_⟩⟩
    rw [List.dropLast_concat]
    refine ⟨_, rfl, ⟨_, rfl, rfl, ⟨_, _, rfl, ⟨_, _, rfl, rfl, ?_⟩⟩⟩⟩
    obtain ⟨f1, f2⟩ := hfit (one, two) (by simp)
    have f1 : one.Fit := f1
    have f2 : two.Fit := f2
    have hsz : sizeP (init ++ [(one, two)]) = sizeP init + one.size := by rw [sizeP_append]; simp [sizeP]
    have hop := size_pos one
    have skip : one.agr two = true → ∃ m', m' < sizeP (init ++ [(one, two)]) ∧ ∃ (st : List (Fm × Fm)) (a b : SV), [SV.d f.d, .d g.d, .m (init.map pairD), .d one.d, .d two.d] = [.d f.d, .d g.d, .m (st.map pairD), a, b] ∧ (st.all fun x => x.1.agr x.2) = f.agr g ∧ (∀ x ∈ st, x.1.Fit ∧ x.2.Fit) ∧ m' = sizeP st ∧ m' ≤ 1000000 := fun ha =>
      ⟨sizeP init, by omega, init, _, _, rfl, by rw [← hinv]; simp [ha], fun x hx => hfit x (by simp [hx]), rfl, by omega⟩
    refine ⟨_, _, rfl, rfl, f1.shaped, shaped_empty, _, rfl, ?_⟩
    rw [Fm.eqv_op]
    cases one with
    | op => exact skip (by simp [Fm.agr])
    | nd n ps =>
      refine ⟨_, _, rfl, rfl, f2.shaped, shaped_empty, _, rfl, ?_⟩
      rw [Fm.eqv_op]
      cases two with
      | op => exact skip (by simp [Fm.agr])
      | nd k qs =>
        refine ⟨rfl, Fm.nd n ps, rfl, f1, ⟨rfl, Fm.nd k qs, rfl, f2, ⟨_, _, rfl, rfl, sg_shaped f1, sg_shaped f2, _, rfl, ?_⟩⟩⟩
        rw [sg_eqv]
        have ha : (Fm.nd n ps).agr (Fm.nd k qs) = (n == k && decide (ps.length = qs.length) && Fm.agrs ps qs) := by rw [Fm.agr]
        by_cases same : (n == k && decide (ps.length = qs.length)) = true
        · show if (!(n == k && decide (ps.length = qs.length))) = true then _ else _
          rw [if_neg (by rw [same]; exact Bool.false_ne_true)]
          have z : zipD (cutD (PyData.str n :: Fm.ds ps) (some 1) none) (cutD (PyData.str k :: Fm.ds qs) (some 1) none) = (ps.zip qs).map pairD := by
            rw [cut_one, cut_one, zip_pairs]
          have hzs := sizeP_zip ps qs
          have hsn : (Fm.nd n ps).size = 1 + Fm.sizes ps := by rw [Fm.size]
          have hlz := len_sizeP (init ++ ps.zip qs)
          have hza := sizeP_append init (ps.zip qs)
          refine ⟨⟨_, rfl⟩, ⟨_, rfl, ⟨_, rfl, ⟨_, _, rfl, rfl, ⟨_, rfl, ?_, rfl, ?_⟩⟩⟩⟩⟩
          · rw [z, List.length_map, List.length_map]
            refine sz _ ?_
            rw [List.length_append] at hlz
            omega
          · refine ⟨sizeP (init ++ ps.zip qs), by omega, init ++ ps.zip qs, .d (Fm.nd n ps).d, .d (Fm.nd k qs).d, ?_, ?_, ?_, rfl, by omega⟩
            · show [SV.d f.d, .d g.d, .m (init.map pairD ++ zipD (cutD (PyData.str n :: Fm.ds ps) (some 1) none) (cutD (PyData.str k :: Fm.ds qs) (some 1) none)), .d (Fm.nd n ps).d, .d (Fm.nd k qs).d] = _
              rw [z, List.map_append]
            · rw [← hinv]
              simp [ha, same, agrs_zip]
            · intro x hx
              rcases List.mem_append.mp hx with (v | v)
              · exact hfit x (by simp [v])
              · exact ⟨f1.part (List.of_mem_zip v).1, f2.part (List.of_mem_zip v).2⟩
        · show if (!(n == k && decide (ps.length = qs.length))) = true then _ else _
          have same' : (n == k && decide (ps.length = qs.length)) = false := by simpa using same
          rw [if_pos (by rw [same']; rfl)]
          have e : f.agr g = false := by rw [← hinv]; simp [ha, same']
          rw [e] at q
          exact q
end

/-! ## the first SIDE that agrees -/
def firstA (gs : List Fm) : Fm → Option Nat
  | .op => none
  | .nd n ps => gs.findIdx? fun g => g.agr (.nd n ps)
def optD : Option Nat → PyData
  | none => .none
  | some i => .int (i : Int)
def sidesD (gs : List Fm) : PyData := .tuple (gs.map Fm.d)
structure Sides (gs : List Fm) : Prop where
  fit : ∀ g ∈ gs, g.Fit
  size : ∀ g ∈ gs, g.size ≤ 1000000
  len : gs.length ≤ 1000000
theorem findIdx_first {α : Type} {p : α → Bool} : ∀ {l : List α} {i : Nat} (h : i < l.length), p l[i] = true → (∀ j (hj : j < i), p (l[j]'(Nat.lt_trans hj h)) = false) → l.findIdx? p = some i := by
  intro l i h hp hn
  rw [List.findIdx?_eq_some_iff_getElem]
  exact ⟨h, hp, fun j hj => by rw [hn j hj]; exact Bool.false_ne_true⟩
theorem findIdx_no {α : Type} {p : α → Bool} {l : List α} (hn : ∀ j (hj : j < l.length), p l[j] = false) : l.findIdx? p = none := by
  rw [List.findIdx?_eq_none_iff]
  intro x hx
  obtain ⟨j, hj, rfl⟩ := List.mem_iff_getElem.mp hx
  exact hn j hj
section
variable {P : Program} {w : World} {K : PySem.W.Frag} {T : Tbs} {mg : Str → Option Value} {base : Heap} {f : Addr} {fd : FuncData}
abbrev s_first_agreeing : Stmt := topS 19
theorem sc_first_agreeing : FnScope ["sides", "form", "number", "side"] ["sides", "form"] (defScope s_first_agreeing) := ⟨rfl, rfl, rfl, by decide +kernel, rfl, by decide +kernel, by decide +kernel⟩
def cFirst : CT := fun ss P => ∃ (gs : List Fm) (f : Fm), ss = [.d (sidesD gs), .d f.d] ∧ Sides gs ∧ f.Fit ∧ P (.d (optD (firstA gs f))) [.no, .no]
theorem ok_first_agreeing (B : BI mg) (g_OPEN : ConstAt K mg "OPEN" (.tuple [])) (h_agree : Fnd P w K T mg base 2 "agree" ["form", "other"] cAgree) (F : Fun K "first_agreeing" "first_agreeing" s_first_agreeing f fd) (b : Binds K fd ["sides", "form"] []) (m : mg "first_agreeing" = some (.ref f)) : Fnd P w K T mg base 3 "first_agreeing" ["sides", "form"] cFirst := by
  refine fn_d F sc_first_agreeing b m [] (by decide) fun cdv A outer s H E hr => ?_
  refine ⟨_, (dss_cons (ds_if (dt_eq hr.units (de_var 1 (pv 1)) (de_const g_OPEN)) (dss_one (ds_ret de_non)) dss_nil) (dss_cons (ds_for PassesOwn.never rfl (di_enum rfl B.enumerate (de_var 0 (pv 0))) (dg_tup (n := 2) rfl (dgs_cons (dg_name (i := 2) (pg_name sc_first_agreeing.nd rfl (Or.inl rfl))) (dgs_cons (dg_name (i := 3) (pg_name sc_first_agreeing.nd rfl (Or.inl rfl))) dgs_nil))) (dss_one (ds_if (dt_truth (de_call (h_agree.mono (by omega)) hr (da_cons (de_var 3 (pv 3)) (da_cons (de_var 1 (pv 1)) da_nil)))) (dss_one (ds_ret (de_var 2 (pv 2)))) dss_nil))) (dss_one (ds_ret de_non)))), ?_⟩
  intro ss Q _ ⟨gs, f, e, hs, hf, q⟩
  subst e
  refine ⟨_, _, rfl, rfl, hf.shaped, shaped_empty, _, rfl, ?_⟩
  rw [Fm.eqv_op]
  cases f with
  | op => exact q
  | nd n ps =>
    refine ⟨gs.map Fm.d, rfl, ?_⟩
    refine ⟨fun i Γ => ∃ a b, Γ = [.d (sidesD gs), .d (Fm.nd n ps).d, a, b] ∧ ∀ j (hj : j < i) (hl : j < gs.length), (gs[j]).agr (.nd n ps) = false, ⟨_, _, rfl, fun j hj => absurd hj (Nat.not_lt_zero _)⟩, ?_, ?_⟩
    · rintro i x Γ hx ⟨a, b, rfl, hno⟩
      obtain ⟨y, hy, rfl⟩ := enumD_get hx
      rw [List.getElem?_map] at hy
      obtain ⟨g, hg, rfl⟩ := Option.map_eq_some_iff.mp hy
      obtain ⟨hi, eg⟩ := List.getElem?_eq_some_iff.mp hg
      have hm := List.mem_of_getElem? hg
      refine ⟨_, rfl, rfl, ⟨_, _, rfl, ⟨_, _, rfl, rfl, ?_⟩⟩⟩
      refine ⟨rfl, g, Fm.nd n ps, rfl, hs.fit g hm, hf, hs.size g hm, _, rfl, ?_⟩
      show if (g.agr (.nd n ps)) = true then _ else _
      by_cases ha : g.agr (.nd n ps) = true
      · rw [if_pos ha]
        have e : firstA gs (.nd n ps) = some i := findIdx_first hi (by rw [eg]; exact ha) fun j hj => hno j hj _
        rw [e] at q
        show Q (.d (.int ((0 + i : Nat) : Int))) [.no, .no]
        rw [Nat.zero_add]
        exact q
      · rw [if_neg ha]
        refine ⟨_, _, rfl, fun j hj hl => ?_⟩
        by_cases ej : j = i
        · subst ej; rw [eg]; simpa using ha
        · exact hno j (by omega) hl
    · rintro Γ ⟨a, b, rfl, hno⟩
      have e : firstA gs (.nd n ps) = none := findIdx_no fun j hj => hno j (by rw [enumD_len, List.length_map]; exact hj) hj
      rw [e] at q
      exact q
end

/-! ## one pass from below -/
def keepA (gs : List Fm) (node : Fm) : Fm := match firstA gs node with
  | none => node
  | some _ => .op
mutual
def blotF (gs : List Fm) : Fm → Fm
  | .op => .op
  | .nd n ps => keepA gs (.nd n (blotFs gs ps))
def blotFs (gs : List Fm) : List Fm → List Fm
  | [] => []
  | f :: r => blotF gs f :: blotFs gs r
end
abbrev Row := List Int × Fm × Option Nat
def mkRow (gs : List Fm) (p : List Int) (node : Fm) : Row := (p, node, firstA gs node)
mutual
def rowsF (gs : List Fm) (p : List Int) : Fm → List Row
  | .op => [mkRow gs p .op]
  | .nd n ps => rowsFs gs p 0 ps ++ [mkRow gs p (.nd n (blotFs gs ps))]
def rowsFs (gs : List Fm) (p : List Int) (k : Nat) : List Fm → List Row
  | [] => []
  | f :: r => rowsF gs (p ++ [(k : Int)]) f ++ rowsFs gs p (k + 1) r
end
theorem blotFs_len (gs : List Fm) : ∀ ps : List Fm, (blotFs gs ps).length = ps.length
  | [] => by simp [blotFs]
  | f :: r => by rw [blotFs, List.length_cons, List.length_cons, blotFs_len gs r]
abbrev PSt := List Fm × List Row
def nodeOf (st : List Fm) (x : List Int × Fm) : Fm := x.2.over (st.drop (st.length - x.2.parts.length))
def stepB (gs : List Fm) (q : PSt) (x : List Int × Fm) : Option PSt :=
  if x.2.parts.length ≤ q.1.length then some (q.1.take (q.1.length - x.2.parts.length) ++ [keepA gs (nodeOf q.1 x)], q.2 ++ [mkRow gs x.1 (nodeOf q.1 x)]) else none
def runB (gs : List Fm) (q : PSt) (xs : List (List Int × Fm)) : Option PSt := xs.foldlM (stepB gs) q
theorem runB_append (gs : List Fm) (q : PSt) (a b : List (List Int × Fm)) : runB gs q (a ++ b) = (runB gs q a).bind fun s => runB gs s b := by
  unfold runB; rw [List.foldlM_append]; rfl
theorem stepB_inv {gs : List Fm} {q q' : PSt} {x : List Int × Fm} (h : stepB gs q x = some q') : x.2.parts.length ≤ q.1.length ∧ q' = (q.1.take (q.1.length - x.2.parts.length) ++ [keepA gs (nodeOf q.1 x)], q.2 ++ [mkRow gs x.1 (nodeOf q.1 x)]) := by
  unfold stepB at h
  split at h
  · rename_i hl; cases h; exact ⟨hl, rfl⟩
  · cases h
theorem stepB_pos {gs : List Fm} {q : PSt} {x : List Int × Fm} (h : x.2.parts.length ≤ q.1.length) : stepB gs q x = some (q.1.take (q.1.length - x.2.parts.length) ++ [keepA gs (nodeOf q.1 x)], q.2 ++ [mkRow gs x.1 (nodeOf q.1 x)]) := if_pos h
theorem keepA_op (gs : List Fm) : keepA gs .op = .op := rfl
mutual
theorem run_po (gs : List Fm) (p : List Int) : ∀ (f : Fm) (st : List Fm) (rs : List Row), runB gs (st, rs) (f.po p) = some (st ++ [blotF gs f], rs ++ rowsF gs p f)
  | .op, st, rs => by
    rw [Fm.po, blotF, rowsF]
    show (stepB gs (st, rs) (p, .op)).bind (fun s => some s) = _
    have e : nodeOf st (p, Fm.op) = .op := rfl
    rw [stepB_pos (Nat.zero_le _), e, keepA_op]
    show some (st.take (st.length - 0) ++ _, _) = _
    rw [Nat.sub_zero, List.take_length]
  | .nd n ps, st, rs => by
    rw [Fm.po, runB_append, run_pos gs p 0 ps st rs, blotF, rowsF]
    show (stepB gs (st ++ blotFs gs ps, rs ++ rowsFs gs p 0 ps) (p, .nd n ps)).bind (fun s => some s) = _
    have hl : (st ++ blotFs gs ps).length - ps.length = st.length := by rw [List.length_append, blotFs_len]; omega
    have e : nodeOf (st ++ blotFs gs ps) (p, Fm.nd n ps) = .nd n (blotFs gs ps) := by
      show Fm.nd n ((st ++ blotFs gs ps).drop ((st ++ blotFs gs ps).length - ps.length)) = _
      rw [hl, List.drop_left]
    rw [stepB_pos (gs := gs) (q := (st ++ blotFs gs ps, rs ++ rowsFs gs p 0 ps)) (x := (p, Fm.nd n ps)) (show ps.length ≤ (st ++ blotFs gs ps).length by rw [List.length_append, blotFs_len]; omega), e]
    show some ((st ++ blotFs gs ps).take ((st ++ blotFs gs ps).length - ps.length) ++ _, _) = _
    rw [hl, List.take_left, List.append_assoc]
theorem run_pos (gs : List Fm) (p : List Int) (k : Nat) : ∀ (ps : List Fm) (st : List Fm) (rs : List Row), runB gs (st, rs) (Fm.pos p k ps) = some (st ++ blotFs gs ps, rs ++ rowsFs gs p k ps)
  | [], st, rs => by simp [Fm.pos, runB, blotFs, rowsFs]
  | f :: r, st, rs => by
    rw [Fm.pos, runB_append, run_po gs _ f st rs]
    show runB gs (st ++ [blotF gs f], rs ++ rowsF gs (p ++ [(k : Int)]) f) (Fm.pos p (k + 1) r) = _
    rw [run_pos gs p (k + 1) r, blotFs, rowsFs, List.append_assoc, List.append_assoc]; rfl
end
theorem runB_pre {gs : List Fm} : ∀ (xs : List (List Int × Fm)) (q q' : PSt), runB gs q xs = some q' → q.2 <+: q'.2 ∧ q'.1.length ≤ q.1.length + xs.length ∧ q'.2.length = q.2.length + xs.length
  | [], q, q', h => by
    have e : some q = some q' := h
    cases e; exact ⟨List.prefix_rfl, by simp, by simp⟩
  | x :: r, q, q', h => by
    have h2 : (stepB gs q x).bind (fun s => runB gs s r) = some q' := h
    cases e : stepB gs q x with
    | none => (rw [e] at h2; cases h2)
    | some q1 =>
      rw [e] at h2
      obtain ⟨a, b, b2⟩ := runB_pre r q1 q' h2
      obtain ⟨c, rfl⟩ := stepB_inv e
      refine ⟨(List.prefix_append _ _).trans a, ?_, ?_⟩
      · simp only [List.length_append, List.length_take, List.length_cons, List.length_nil] at b ⊢
        omega
      · simp only [List.length_append, List.length_cons, List.length_nil] at b2 ⊢
        omega
theorem runB_at {gs : List Fm} {f : Fm} {i : Nat} {x : List Int × Fm} {q : PSt} (h : runB gs ([], []) ((f.po []).take i) = some q) (e : (f.po [])[i]? = some x) :
    ∃ q', stepB gs q x = some q' ∧ runB gs ([], []) ((f.po []).take (i + 1)) = some q' ∧ q'.2 <+: rowsF gs [] f := by
  have w := run_po gs [] f [] []
  rw [← List.take_append_drop (i + 1) (f.po []), runB_append, take_one e, runB_append, h] at w
  have w2 : ((stepB gs q x).bind fun s' => some s').bind (fun s' => runB gs s' ((f.po []).drop (i + 1))) = some ([] ++ [blotF gs f], [] ++ rowsF gs [] f) := w
  cases c : stepB gs q x with
  | none => (rw [c] at w2; cases w2)
  | some q' =>
    rw [c] at w2
    refine ⟨q', rfl, ?_, (runB_pre _ _ _ w2).1⟩
    rw [take_one e, runB_append, h]
    show (stepB gs q x).bind (fun s' => some s') = _
    rw [c]; rfl
/-! what stands in a row fits -/
theorem keepA_fit {gs : List Fm} {g : Fm} (h : g.ok = true) : (keepA gs g).ok = true ∧ (keepA gs g).dep ≤ g.dep := by
  unfold keepA
  cases firstA gs g with
  | none => exact ⟨h, Nat.le_refl _⟩
  | some _ => refine ⟨by simp [Fm.ok], ?_⟩; cases g <;> simp [Fm.dep]
mutual
theorem blotF_fit (gs : List Fm) : ∀ f : Fm, f.ok = true → (blotF gs f).ok = true ∧ (blotF gs f).dep ≤ f.dep
  | .op, _ => by simp [blotF, Fm.ok]
  | .nd n ps, h => by
    simp only [Fm.ok, Bool.and_eq_true, decide_eq_true_eq] at h
    obtain ⟨h1, h2⟩ := blotFs_fit gs ps h.2
    have ho : (Fm.nd n (blotFs gs ps)).ok = true := by
      simp only [Fm.ok, Bool.and_eq_true, decide_eq_true_eq, blotFs_len]; exact ⟨h.1, h1⟩
    obtain ⟨a, b⟩ := keepA_fit (gs := gs) ho
    rw [blotF]
    refine ⟨a, Nat.le_trans b ?_⟩
    rw [Fm.dep, Fm.dep]; omega
theorem blotFs_fit (gs : List Fm) : ∀ ps : List Fm, Fm.oks ps = true → Fm.oks (blotFs gs ps) = true ∧ Fm.deps (blotFs gs ps) ≤ Fm.deps ps
  | [], _ => by simp [blotFs, Fm.oks]
  | f :: r, h => by
    simp only [Fm.oks, Bool.and_eq_true] at h
    obtain ⟨a, b⟩ := blotF_fit gs f h.1
    obtain ⟨c, d⟩ := blotFs_fit gs r h.2
    rw [blotFs]
    refine ⟨by simp only [Fm.oks, Bool.and_eq_true]; exact ⟨a, c⟩, ?_⟩
    rw [Fm.deps, Fm.deps]; omega
end
mutual
theorem rowsF_fit (gs : List Fm) (p : List Int) : ∀ f : Fm, f.ok = true → ∀ r ∈ rowsF gs p f, r.2.1.ok = true ∧ r.2.1.dep ≤ f.dep
  | .op, _, r, m => by
    rw [rowsF] at m; rw [List.mem_singleton.mp m]
    exact ⟨by simp [mkRow, Fm.ok], Nat.le_refl _⟩
  | .nd n ps, h, r, m => by
    simp only [Fm.ok, Bool.and_eq_true, decide_eq_true_eq] at h
    rw [rowsF] at m
    rcases List.mem_append.mp m with (z | z)
    · obtain ⟨a, b⟩ := rowsFs_fit gs p 0 ps h.2 r z
      exact ⟨a, by rw [Fm.dep]; omega⟩
    · rw [List.mem_singleton.mp z]
      obtain ⟨h1, h2⟩ := blotFs_fit gs ps h.2
      refine ⟨by simp only [mkRow, Fm.ok, Bool.and_eq_true, decide_eq_true_eq, blotFs_len]; exact ⟨h.1, h1⟩, ?_⟩
      show (Fm.nd n (blotFs gs ps)).dep ≤ _
      rw [Fm.dep, Fm.dep]; omega
theorem rowsFs_fit (gs : List Fm) (p : List Int) (k : Nat) : ∀ ps : List Fm, Fm.oks ps = true → ∀ r ∈ rowsFs gs p k ps, r.2.1.ok = true ∧ r.2.1.dep ≤ Fm.deps ps
  | [], _, r, m => by simp [rowsFs] at m
  | f :: t, h, r, m => by
    simp only [Fm.oks, Bool.and_eq_true] at h
    rw [rowsFs] at m
    rcases List.mem_append.mp m with (z | z)
    · obtain ⟨a, b⟩ := rowsF_fit gs _ f h.1 r z
      exact ⟨a, by rw [Fm.deps]; omega⟩
    · obtain ⟨a, b⟩ := rowsFs_fit gs p (k + 1) t h.2 r z
      exact ⟨a, by rw [Fm.deps]; omega⟩
end
mutual
theorem po_fit (p : List Int) : ∀ f : Fm, f.ok = true → ∀ x ∈ f.po p, x.2.ok = true ∧ x.2.dep ≤ f.dep
  | .op, _, x, m => by
    rw [Fm.po] at m; rw [List.mem_singleton.mp m]
    exact ⟨by simp [Fm.ok], Nat.le_refl _⟩
  | .nd n ps, h, x, m => by
    rw [Fm.po] at m
    rcases List.mem_append.mp m with (z | z)
    · simp only [Fm.ok, Bool.and_eq_true] at h
      obtain ⟨a, b⟩ := pos_fit p 0 ps h.2 x z
      exact ⟨a, by rw [Fm.dep]; omega⟩
    · rw [List.mem_singleton.mp z]; exact ⟨h, Nat.le_refl _⟩
theorem pos_fit (p : List Int) (k : Nat) : ∀ ps : List Fm, Fm.oks ps = true → ∀ x ∈ Fm.pos p k ps, x.2.ok = true ∧ x.2.dep ≤ Fm.deps ps
  | [], _, x, m => by simp [Fm.pos] at m
  | f :: r, h, x, m => by
    simp only [Fm.oks, Bool.and_eq_true] at h
    rw [Fm.pos] at m
    rcases List.mem_append.mp m with (z | z)
    · obtain ⟨a, b⟩ := po_fit _ f h.1 x z
      exact ⟨a, by rw [Fm.deps]; omega⟩
    · obtain ⟨a, b⟩ := pos_fit p (k + 1) r h.2 x z
      exact ⟨a, by rw [Fm.deps]; omega⟩
end
def rowD (r : Row) : PyData := .tuple [plD r.1, r.2.1.d, optD r.2.2]
section
variable {P : Program} {w : World} {K : PySem.W.Frag} {T : Tbs} {mg : Str → Option Value} {base : Heap} {f : Addr} {fd : FuncData}
abbrev s_pass_from_below : Stmt := topS 21
theorem sc_pass_from_below : FnScope ["sides", "form", "rows", "left", "place", "part", "node", "number"] ["sides", "form"] (defScope s_pass_from_below) := ⟨rfl, rfl, rfl, by decide +kernel, rfl, by decide +kernel, by decide +kernel⟩
def cPass : CT := fun ss P => ∃ (gs : List Fm) (f : Fm), ss = [.d (sidesD gs), .d f.d] ∧ Sides gs ∧ f.Fit ∧ f.size ≤ 1000000 ∧ P (.m ((rowsF gs [] f).map rowD)) [.no, .no]
theorem ok_pass_from_below (B : BI mg) (g_OPEN : ConstAt K mg "OPEN" (.tuple [])) (h_spots_from_below : Fnd P w K T mg base 1 "spots_from_below" ["form"] cSpotsB) (h_over_last : Fnd P w K T mg base 1 "over_last" ["part", "done"] cOver)
    (h_first_agreeing : Fnd P w K T mg base 3 "first_agreeing" ["sides", "form"] cFirst) (F : Fun K "pass_from_below" "pass_from_below" s_pass_from_below f fd) (b : Binds K fd ["sides", "form"] []) (m : mg "pass_from_below" = some (.ref f)) : Fnd P w K T mg base 4 "pass_from_below" ["sides", "form"] cPass := by
  refine fn_d F sc_pass_from_below b m [] (by decide) fun cdv A outer s H E hr => ?_
  refine ⟨_, (dss_cons (ds_par (i := 2) (j := 3) (fun ta tb h1 h2 => ps_par rfl sc_pass_from_below.nd rfl rfl (by decide) rfl rfl (pa_cons h1 (pa_cons h2 pa_nil)) (by rfl)) (de_lst da_nil) (de_lst da_nil)) (dss_cons (ds_for PassesOwn.never rfl (di_seq (de_call (h_spots_from_below.mono (by omega)) hr (da_cons (de_var 1 (pv 1)) da_nil))) (dg_tup (n := 2) rfl (dgs_cons (dg_name (i := 4) (pg_name sc_pass_from_below.nd rfl (Or.inl rfl))) (dgs_cons (dg_name (i := 5) (pg_name sc_pass_from_below.nd rfl (Or.inl rfl))) dgs_nil))) (dss_cons (ds_set (i := 6) (fun te h => ps_set sc_pass_from_below.nd rfl (Or.inl rfl) h) (de_call (h_over_last.mono (by omega)) hr (da_cons (de_var 5 (pv 5)) (da_cons (de_var 3 (pv 3)) da_nil)))) (dss_cons (ds_set (i := 7) (fun te h => ps_set sc_pass_from_below.nd rfl (Or.inl rfl) h) (de_call (h_first_agreeing.mono (by omega)) hr (da_cons (de_var 0 (pv 0)) (da_cons (de_var 6 (pv 6)) da_nil)))) (dss_cons (ds_expr (de_append (de_var 2 (pv 2)) (da_cons (de_tup (da_cons (de_var 4 (pv 4)) (da_cons (de_var 6 (pv 6)) (da_cons (de_var 7 (pv 7)) da_nil)))) da_nil))) (dss_one (ds_expr (de_append (de_var 3 (pv 3)) (da_cons (de_ifExp (dt_isN (de_var 7 (pv 7)) de_non) (de_var 6 (pv 6)) (de_const g_OPEN)) da_nil)))))))) (dss_one (ds_ret (de_var 2 (pv 2)))))), ?_⟩
  intro ss Q _ ⟨gs, f, e, hs, hf, hz, q⟩
  subst e
  refine ⟨_, rfl, sz 0, ⟨_, rfl, sz 0, ?_⟩⟩
  refine ⟨rfl, f, rfl, hz, ⟨_, rfl, ?_⟩⟩
  refine ⟨fun i Γ => ∃ (q : PSt) (a b c d : SV), Γ = [.d (sidesD gs), .d f.d, .m (q.2.map rowD), .m (q.1.map Fm.d), a, b, c, d] ∧ runB gs ([], []) ((f.po []).take i) = some q, ⟨([], []), _, _, _, _, rfl, rfl⟩, ?_, ?_⟩
  · rintro i x Γ hx ⟨⟨st, rs⟩, a, b, c, d, rfl, hrun⟩
    rw [List.getElem?_map] at hx
    obtain ⟨⟨p, g⟩, hg, rfl⟩ := Option.map_eq_some_iff.mp hx
    obtain ⟨q', hst, hrun2, hpre⟩ := runB_at hrun hg
    obtain ⟨hl, rfl⟩ := stepB_inv hst
    have hil : i < f.size := by rw [← po_len [] f]; exact (List.getElem?_eq_some_iff.mp hg).1
    obtain ⟨_, hlen, hlen2⟩ := runB_pre _ _ _ hrun
    simp only [List.length_nil, List.length_take, po_len] at hlen hlen2
    have hb : st.length ≤ 1000000 := by omega
    have hb2 : rs.length ≤ 1000000 := by omega
    have gf := po_fit [] f hf.ok _ (List.mem_of_getElem? hg)
    have nf := rowsF_fit gs [] f hf.ok (mkRow gs p (nodeOf st (p, g))) (hpre.subset (by simp))
    have nfit : (nodeOf st (p, g)).Fit := ⟨nf.1, Nat.le_trans nf.2 hf.dep⟩
    have hd := hf.dep
    refine ⟨_, rfl, rfl, ⟨_, _, rfl, ⟨_, _, rfl, rfl, ?_⟩⟩⟩
    refine ⟨rfl, g, st, rfl, ⟨gf.1, Nat.le_trans gf.2 hd⟩, hl, hb, ?_⟩
    refine ⟨rfl, gs, nodeOf st (p, g), rfl, hs, nfit, ?_⟩
    have fin : ∀ a b c d, ∃ (q : PSt) (a' b' c' d' : SV), [SV.d (sidesD gs), .d f.d, .m (rs.map rowD ++ [.tuple [plD p, (nodeOf st (p, g)).d, optD (firstA gs (nodeOf st (p, g)))]]), .m ((st.take (st.length - g.parts.length)).map Fm.d ++ [(keepA gs (nodeOf st (p, g))).d]), a, b, c, d] = [.d (sidesD gs), .d f.d, .m (q.2.map rowD), .m (q.1.map Fm.d), a', b', c', d'] ∧ runB gs ([], []) ((f.po []).take (i + 1)) = some q := fun a b c d =>
      ⟨_, a, b, c, d, by rw [List.map_append, List.map_append]; rfl, hrun2⟩
    refine ⟨⟨_, rfl⟩, ⟨_, rfl, sz 3, ⟨_, rfl, szl (by rw [List.length_map]; exact Nat.le_trans hb2 (by decide)), rfl, ?_⟩⟩⟩
    have hk : (keepA gs (nodeOf st (p, g))) = match firstA gs (nodeOf st (p, g)) with
      | none => nodeOf st (p, g)
      | some _ => .op := rfl
    have hb3 : ((st.take (st.length - g.parts.length)).map Fm.d).length < sizeLine := szl (by rw [List.length_map, List.length_take]; omega)
    cases hfa : firstA gs (nodeOf st (p, g)) with
    | none =>
      rw [hfa] at fin hk
      rw [hk] at fin
      refine ⟨⟨_, rfl⟩, ⟨_, rfl, ⟨true, rfl, ?_⟩⟩⟩
      exact ⟨_, rfl, hb3, rfl, fin _ _ _ _⟩
    | some j =>
      rw [hfa] at fin hk
      rw [hk] at fin
      refine ⟨⟨_, rfl⟩, ⟨_, rfl, ⟨false, rfl, ?_⟩⟩⟩
      exact ⟨_, rfl, hb3, rfl, fin _ _ _ _⟩
  · rintro Γ ⟨⟨st, rs⟩, a, b, c, d, rfl, hrun⟩
    rw [List.take_of_length_le (by rw [List.length_map]; exact Nat.le_refl _), run_po] at hrun
    cases hrun
    exact q
end

/-! ## the program's own names of point 7 -/
theorem rowsF_last (gs : List Fm) (p : List Int) (f : Fm) : ∃ rs nd, rowsF gs p f = rs ++ [mkRow gs p nd] ∧ blotF gs f = keepA gs nd := by
  cases f with
  | op => exact ⟨[], .op, by rw [rowsF]; rfl, by rw [blotF]; rfl⟩
  | nd n ps => exact ⟨_, _, by rw [rowsF], by rw [blotF]⟩
theorem rowsF_len (gs : List Fm) (f : Fm) : (rowsF gs [] f).length = f.size := by
  have := (runB_pre _ _ _ (run_po gs [] f [] [])).2.2
  rw [po_len] at this
  simpa using this
theorem atI_last {α : Type} (xs : List α) (x : α) : atI (xs ++ [x]) (-1) = some x := by
  unfold atI ixN
  simp
  have h : (1 : Int) ≤ (xs.length : Int) + 1 := by omega
  have e : (-1 + ((xs.length : Int) + 1)).toNat = xs.length := by omega
  rw [if_pos h, e]
  show (xs ++ [x])[xs.length]? = some x
  simp
/-- SIDES and a FORM as they are told, lists in the place of tuples among them -/
structure Told (X Y : PyData) (gs : List Fm) (f : Fm) : Prop where
  nx : nod X = true
  ny : nod Y = true
  cx : cnt X ≤ 1000000
  cy : cnt Y ≤ 1000000
  ex : tupD X = sidesD gs
  ey : tupD Y = f.d
  sides : Sides gs
  fit : f.Fit
  size : f.size ≤ 1000000
def Fm.isOp : Fm → Bool
  | .op => true
  | .nd _ _ => false
def rowP (r : Row) : Option PyData := r.2.2.map fun (k : Nat) => PyData.tuple [plD r.1, .int (k : Int)]
def struckD (gs : List Fm) (f : Fm) : PyData := .tuple ((rowsF gs [] f).filterMap rowP)
section
variable {P : Program} {w : World} {K : PySem.W.Frag} {T : Tbs} {mg : Str → Option Value} {base : Heap} {f : Addr} {fd : FuncData}
abbrev s_blot_of : Stmt := topS 22
theorem sc_blot_of : FnScope ["sides", "form", "_", "node", "number"] ["sides", "form"] (defScope s_blot_of) := ⟨rfl, rfl, rfl, by decide +kernel, rfl, by decide +kernel, by decide +kernel⟩
abbrev s_blot : Stmt := topS 23
theorem sc_blot : FnScope ["sides", "form"] ["sides", "form"] (defScope s_blot) := ⟨rfl, rfl, rfl, by decide +kernel, rfl, by decide +kernel, by decide +kernel⟩
def cBlotOf : CT := fun ss P => ∃ (gs : List Fm) (f : Fm), ss = [.d (sidesD gs), .d f.d] ∧ Sides gs ∧ f.Fit ∧ f.size ≤ 1000000 ∧ P (.d (blotF gs f).d) [.no, .no]
theorem ok_blot_of (B : BI mg) (g_OPEN : ConstAt K mg "OPEN" (.tuple [])) (h_pass_from_below : Fnd P w K T mg base 4 "pass_from_below" ["sides", "form"] cPass) (F : Fun K "blot_of" "blot_of" s_blot_of f fd) (b : Binds K fd ["sides", "form"] []) (m : mg "blot_of" = some (.ref f)) : Fnd P w K T mg base 5 "blot_of" ["sides", "form"] cBlotOf := by
  refine fn_d F sc_blot_of b m [] (by decide) fun cdv A outer s H E hr => ?_
  refine ⟨_, (dss_cons (ds_asg (fun te g h1 h2 => ps_asg h1 h2) (de_item (de_call (h_pass_from_below.mono (by omega)) hr (da_cons (de_var 0 (pv 0)) (da_cons (de_var 1 (pv 1)) da_nil))) (de_neg de_int)) (dg_tup (n := 3) rfl (dgs_cons (dg_name (i := 2) (pg_name sc_blot_of.nd rfl (Or.inl rfl))) (dgs_cons (dg_name (i := 3) (pg_name sc_blot_of.nd rfl (Or.inl rfl))) (dgs_cons (dg_name (i := 4) (pg_name sc_blot_of.nd rfl (Or.inl rfl))) dgs_nil))))) (dss_one (ds_ret (de_ifExp (dt_isN (de_var 4 (pv 4)) de_non) (de_var 3 (pv 3)) (de_const g_OPEN))))), ?_⟩
  intro ss Q _ ⟨gs, f, e, hs, hf, hz, q⟩
  subst e
  refine ⟨rfl, gs, f, rfl, hs, hf, hz, ?_⟩
  obtain ⟨rs, nd, e1, e2⟩ := rowsF_last gs [] f
  rw [e2] at q
  unfold keepA at q
  refine ⟨1, rfl, ⟨_, rowD (mkRow gs [] nd), rfl, by rw [e1, List.map_append]; exact atI_last _ _, ?_⟩⟩
  refine ⟨_, rfl, ⟨_, rfl, rfl, ⟨_, _, rfl, ⟨_, _, rfl, ⟨_, _, rfl, rfl, ?_⟩⟩⟩⟩⟩
  cases hfa : firstA gs nd with
  | none =>
    rw [hfa] at q
    refine ⟨true, ?_, ?_⟩
    · show DL.isN (.d (optD (firstA gs nd))) = _
      rw [hfa]; rfl
    · exact ⟨true, rfl, q⟩
  | some j =>
    rw [hfa] at q
    refine ⟨false, ?_, ?_⟩
    · show DL.isN (.d (optD (firstA gs nd))) = _
      rw [hfa]; rfl
    · exact ⟨false, rfl, q⟩
def cBlot : CT := fun ss P => ∃ X Y gs f, ss = [.d X, .d Y] ∧ Told X Y gs f ∧ P (.d (blotF gs f).d) [.no, .no]
theorem ok_blot (B : BI mg) (h_blot_of : Fnd P w K T mg base 5 "blot_of" ["sides", "form"] cBlotOf) (h_tupled : Fnd P w K T mg base 1 "tupled" ["given"] cTupled) (F : Fun K "blot" "blot" s_blot f fd) (b : Binds K fd ["sides", "form"] []) (m : mg "blot" = some (.ref f)) : Fnd P w K T mg base 6 "blot" ["sides", "form"] cBlot := by
  refine fn_d F sc_blot b m [] (by decide) fun cdv A outer s H E hr => ?_
  refine ⟨_, (dss_one (ds_ret (de_call (h_blot_of.mono (by omega)) hr (da_cons (de_call (h_tupled.mono (by omega)) hr (da_cons (de_var 0 (pv 0)) da_nil)) (da_cons (de_call (h_tupled.mono (by omega)) hr (da_cons (de_var 1 (pv 1)) da_nil)) da_nil))))), ?_⟩
  intro ss Q _ ⟨X, Y, gs, f, e, t, q⟩
  subst e
  refine ⟨rfl, X, rfl, t.nx, t.cx, ?_⟩
  refine ⟨rfl, Y, rfl, t.ny, t.cy, ?_⟩
  rw [t.ex, t.ey]
  exact ⟨rfl, gs, f, rfl, t.sides, t.fit, t.size, q⟩
end

/-! ## drawn numbers: of each only its bounds -/
/-- a box of which n numbers more may be drawn -/
def Tin (n : Nat) (xs : List PyData) : Prop := ∃ a b c : Int, xs = [.int a, .int b, .int c] ∧ 0 ≤ a ∧ 0 ≤ b ∧ b < 2 ^ 62 ∧ 0 ≤ c ∧ c + n ≤ 2 ^ 40
theorem Tin.mono {n m : Nat} {xs : List PyData} (h : Tin n xs) (l : m ≤ n) : Tin m xs := by
  obtain ⟨a, b, c, h1, h2, h3, h4, h5, h6⟩ := h
  exact ⟨a, b, c, h1, h2, h3, h4, h5, by omega⟩
theorem at30 {α : Type} (a b c : α) : atI [a, b, c] 0 = some a := rfl
theorem at31 {α : Type} (a b c : α) : atI [a, b, c] 1 = some b := rfl
theorem at32 {α : Type} (a b c : α) : atI [a, b, c] 2 = some c := rfl
theorem ix30 : ixN 3 0 = some 0 := rfl
theorem ix31 : ixN 3 1 = some 1 := rfl
theorem ix32 : ixN 3 2 = some 2 := rfl
theorem mul_r {i j : Int} (h1 : 0 ≤ j) (h2 : j < 2 ^ 63) : CMul i j := .inr ⟨by omega, by omega⟩
theorem mul_l {i j : Int} (h1 : 0 ≤ i) (h2 : i < 2 ^ 63) : CMul i j := .inl ⟨by omega, by omega⟩
theorem mod_lt' (a : Int) {b : Int} (h : 0 < b) : a % b < b := Int.emod_lt_of_pos a h
theorem mod_ge' (a : Int) {b : Int} (h : 0 < b) : 0 ≤ a % b := Int.emod_nonneg a (by omega)
section
variable {P : Program} {w : World} {K : PySem.W.Frag} {T : Tbs} {mg : Str → Option Value} {base : Heap} {f : Addr} {fd : FuncData}
abbrev s__law_take : Stmt := topS 38
theorem sc__law_take : FnScope ["tin", "below_so", "drawn", "once_so", "wide_so", "twice_so"] ["tin", "below_so"] (defScope s__law_take) := ⟨rfl, rfl, rfl, by decide +kernel, rfl, by decide +kernel, by decide +kernel⟩
def cTake : CT := fun ss P => ∃ (xs : List PyData) (below : Int) (n : Nat), ss = [.m xs, .d (.int below)] ∧ Tin (n + 1) xs ∧ 0 < below ∧ below < 1073741824 ∧ ∀ r xs', 0 ≤ r → r < below → Tin n xs' → P (.d (.int r)) [.m xs', .no]
theorem ok__law_take (B : BI mg) (F : Fun K "_law_take" "_law_take" s__law_take f fd) (b : Binds K fd ["tin", "below_so"] []) (m : mg "_law_take" = some (.ref f)) : Fnd P w K T mg base 1 "_law_take" ["tin", "below_so"] cTake := by
  refine fn_d F sc__law_take b m [0] (by decide) fun cdv A outer s H E hr => ?_
  refine ⟨_, (dss_cons (ds_if (dt_gt (de_item (de_var 0 (pv 0)) de_int) de_int) (dss_cons (ds_set (i := 2) (fun te h => ps_set sc__law_take.nd rfl (Or.inl rfl) h) (de_mod (de_intOf B.int (da_cons (de_item (de_var 0 (pv 0)) de_int) da_nil)) (de_var 1 (pv 1)))) (dss_cons (ds_store (fun te to ti h1 h2 h3 => ps_asg h1 (pg_sub h2 h3 set_list)) (de_fdiv (de_item (de_var 0 (pv 0)) de_int) (de_var 1 (pv 1))) (de_var 0 (pv 0)) de_int) (dss_one (ds_ret (de_var 2 (pv 2)))))) dss_nil) (dss_cons (ds_store (fun te to ti h1 h2 h3 => ps_asg h1 (pg_sub h2 h3 set_list)) (de_add (de_item (de_var 0 (pv 0)) de_int) de_int) (de_var 0 (pv 0)) de_int) (dss_cons (ds_set (i := 3) (fun te h => ps_set sc__law_take.nd rfl (Or.inl rfl) h) (de_mod (de_intOf B.int (da_cons (de_mul (de_add (de_item (de_var 0 (pv 0)) de_int) (de_mul de_int (de_item (de_var 0 (pv 0)) de_int))) (de_add de_int (de_item (de_var 0 (pv 0)) de_int))) da_nil)) de_int)) (dss_cons (ds_set (i := 4) (fun te h => ps_set sc__law_take.nd rfl (Or.inl rfl) h) (de_add (de_mod (de_intOf B.int (da_cons (de_var 3 (pv 3)) da_nil)) de_int) de_int)) (dss_cons (ds_set (i := 5) (fun te h => ps_set sc__law_take.nd rfl (Or.inl rfl) h) (de_mod (de_intOf B.int (da_cons (de_mul (de_add (de_add (de_var 3 (pv 3)) (de_item (de_var 0 (pv 0)) de_int)) (de_fdiv (de_item (de_var 0 (pv 0)) de_int) de_int)) (de_var 4 (pv 4))) da_nil)) de_int)) (dss_one (ds_ret (de_mod (de_intOf B.int (da_cons (de_fdiv (de_mod (de_intOf B.int (da_cons (de_add (de_mul (de_var 5 (pv 5)) de_int) (de_var 3 (pv 3))) da_nil)) de_int) de_int) da_nil)) (de_var 1 (pv 1)))))))))), ?_⟩
  rintro ss Q _ ⟨xs, below, n, e, ⟨x, y, z, rfl, hx, hy, hy2, hz, hz2⟩, hb, hb2, q⟩
  subst e
  walk_at "dl"
  simp only [at30, at31, at32, ix30, ix31, ix32, Option.some.injEq, exists_eq_left', List.set_cons_zero, List.set_cons_succ]
  by_cases h0 : 0 < x
  · rw [if_pos (decide_eq_true h0)]
    refine ⟨hb, ⟨hb, hb2⟩, ?_⟩
    exact q _ _ (mod_ge' _ hb) (mod_lt' _ hb) ⟨x / below, y, z, rfl, Int.ediv_nonneg (by omega) (by omega), hy, hy2, hz, by omega⟩
  · rw [if_neg (by rw [decide_eq_false h0]; exact Bool.false_ne_true)]
    refine ⟨mul_l (by decide) (by decide), mul_r (by omega) (by omega), by decide, by decide, ⟨by decide, by decide⟩, ?_, by decide, mul_r (by decide) (by decide), by decide, ⟨by decide, by decide⟩, hb, ?_⟩
    · have h1 := mod_ge' ((y + 48271 * (z + 1)) * (39373 + (z + 1)) % 2147483647) (b := 40009) (by decide)
      have h2 := mod_lt' ((y + 48271 * (z + 1)) * (39373 + (z + 1)) % 2147483647) (b := 40009) (by decide)
      exact mul_r (by omega) (by omega)
    · exact q _ _ (mod_ge' _ hb) (mod_lt' _ hb) ⟨x, y, z + 1, rfl, hx, hy, hy2, by omega, by omega⟩
end

theorem atI_ints {cs : List Int} {r v : Int} (ev : atI cs r = some v) : atI (cs.map PyData.int) r = some (.int v) := by
  unfold atI at ev ⊢
  rw [List.length_map]
  cases hx : ixN cs.length r with
  | none => (rw [hx] at ev; cases ev)
  | some j =>
    rw [hx] at ev
    show (cs.map PyData.int)[j]? = _
    rw [List.getElem?_map, show cs[j]? = some v from ev]; rfl
theorem ixN_of {n : Nat} {r : Int} (h1 : 0 ≤ r) (h2 : r < n) : ixN n r = some r.toNat := by
  unfold ixN
  rw [if_pos h1, if_pos (by omega)]
theorem cpow18 : CPow 10 18 := ⟨by decide, by decide, by decide⟩
theorem b01 (b : Bool) : (0 : Int) ≤ if b = true then 1 else 0 := by cases b <;> decide
theorem cmul01 (i : Int) (b : Bool) : CMul i (if b = true then 1 else 0) := by cases b <;> exact mul_r (by decide) (by decide)
def SeqIs (s : SV) (gs : List PyData) : Prop := s = .m gs ∨ s = .d (.list gs) ∨ s = .d (.tuple gs)
theorem atI_of {α : Type} {xs : List α} {r : Int} (h1 : 0 ≤ r) (h2 : r < xs.length) : ∃ x, atI xs r = some x ∧ x ∈ xs := by
  have e : r = ((r.toNat : Nat) : Int) := by omega
  have hl : r.toNat < xs.length := by omega
  rw [e]
  exact ⟨xs[r.toNat], atI_nat (List.getElem?_eq_getElem hl), List.getElem_mem hl⟩
section
variable {P : Program} {w : World} {K : PySem.W.Frag} {T : Tbs} {mg : Str → Option Value} {base : Heap} {f : Addr} {fd : FuncData}
abbrev s__law_of : Stmt := topS 40
theorem sc__law_of : FnScope ["tin", "goods_so"] ["tin", "goods_so"] (defScope s__law_of) := ⟨rfl, rfl, rfl, by decide +kernel, rfl, by decide +kernel, by decide +kernel⟩
abbrev s__law_box : Stmt := topS 37
theorem sc__law_box : FnScope ["script", "k", "cell_so"] ["script", "k"] (defScope s__law_box) := ⟨rfl, rfl, rfl, by decide +kernel, rfl, by decide +kernel, by decide +kernel⟩
def cOf0 : CT := fun ss P => ∃ (xs gs : List PyData) (s2 : SV) (n : Nat), ss = [.m xs, s2] ∧ (s2 = .d (.list gs) ∨ s2 = .d (.tuple gs)) ∧ Tin (n + 1) xs ∧ gs ≠ [] ∧ gs.length ≤ 1000000 ∧ ∀ g xs', g ∈ gs → Tin n xs' → P (.d g) [.m xs', .no]
def cOf : CT := fun ss P => ∃ (xs gs : List PyData) (s2 : SV) (n : Nat), ss = [.m xs, s2] ∧ SeqIs s2 gs ∧ Tin (n + 1) xs ∧ gs ≠ [] ∧ gs.length ≤ 1000000 ∧ ∀ g xs', g ∈ gs → Tin n xs' → P (.d g) [.m xs', .no]
theorem ok__law_of (B : BI mg) (h__law_take : Fnd P w K T mg base 1 "_law_take" ["tin", "below_so"] cTake) (F : Fun K "_law_of" "_law_of" s__law_of f fd) (b : Binds K fd ["tin", "goods_so"] []) (m : mg "_law_of" = some (.ref f)) : Fnd P w K T mg base 2 "_law_of" ["tin", "goods_so"] cOf := by
  have h0 : Fnd P w K T mg base 2 "_law_of" ["tin", "goods_so"] cOf0 := by
    refine fn_d F sc__law_of b m [0] (by decide) fun cdv A outer s H E hr => ?_
    refine ⟨_, (dss_one (ds_ret (de_item (de_var 1 (pv 1)) (de_call (h__law_take.mono (by omega)) hr (da_cons (de_var 0 (pv 0)) (da_cons (de_len B.len (da_cons (de_var 1 (pv 1)) da_nil)) da_nil)))))), ?_⟩
    rintro ss Q _ ⟨xs, gs, s2, n, e, h2, ht, hne, hl, q⟩
    subst e
    have hpos : 0 < gs.length := by cases gs with
      | nil => exact absurd rfl hne
      | cons _ _ => simp
    rcases h2 with (rfl | rfl)
    all_goals (
      refine ⟨_, rfl, ⟨rfl, xs, gs.length, n, rfl, ht, by omega, by omega, fun r xs' h0 h1 ht' => ?_⟩⟩
      obtain ⟨g, eg, hg⟩ := atI_of h0 h1
      exact ⟨gs, g, rfl, eg, q g xs' hg ht'⟩)
  refine h0.soft.imp fun ss Q => ?_
  rintro ⟨xs, gs, s2, n, e, h2, ht, hne, hl, q⟩
  subst e
  rcases h2 with (rfl | rfl | rfl)
  · exact ⟨[.m xs, .d (.list gs)], .cons (.inl rfl) (.cons (.inr rfl) .nil), xs, gs, _, n, rfl, .inl rfl, ht, hne, hl, q⟩
  · exact ⟨_, .cons (.inl rfl) (.cons (.inl rfl) .nil), xs, gs, _, n, rfl, .inl rfl, ht, hne, hl, q⟩
  · exact ⟨_, .cons (.inl rfl) (.cons (.inl rfl) .nil), xs, gs, _, n, rfl, .inr rfl, ht, hne, hl, q⟩
def cBox : CT := fun ss P => ∃ (cs : List Int) (k : Nat), ss = [.m (cs.map .int), .d (.int k)] ∧ k ≤ 1000 ∧ ∀ xs, Tin (2 ^ 39) xs → P (.m xs) [.m (cs.map .int), .no]
theorem ok__law_box (B : BI mg) (F : Fun K "_law_box" "_law_box" s__law_box f fd) (b : Binds K fd ["script", "k"] []) (m : mg "_law_box" = some (.ref f)) : Fnd P w K T mg base 1 "_law_box" ["script", "k"] cBox := by
  refine fn_d F sc__law_box b m [0] (by decide) fun cdv A outer s H E hr => ?_
  refine ⟨_, (dss_cons (ds_set (i := 2) (fun te h => ps_set sc__law_box.nd rfl (Or.inl rfl) h) (de_ifExp (dt_lt (de_var 1 (pv 1)) (de_len B.len (da_cons (de_var 0 (pv 0)) da_nil))) (de_item (de_var 0 (pv 0)) (de_var 1 (pv 1))) de_int)) (dss_one (ds_ret (de_lst (da_cons (de_mul (de_abs B.abs (da_cons (de_var 2 (pv 2)) da_nil)) (de_intOf B.int (da_cons (de_ge (de_abs B.abs (da_cons (de_var 2 (pv 2)) da_nil)) (de_pow de_int de_int)) da_nil))) (da_cons (de_add (de_add (de_mod (de_intOf B.int (da_cons (de_var 2 (pv 2)) da_nil)) de_int) (de_mul de_int (de_var 1 (pv 1)))) de_int) (da_cons de_int da_nil))))))), ?_⟩
  rintro ss Q _ ⟨cs, k, e, hk, q⟩
  subst e
  have main : ∀ v : Int, Q (.m [.int ((if v < 0 then -v else v) * (if decide ((10 : Int) ^ 18 ≤ if v < 0 then -v else v) = true then 1 else 0)), .int (v % 2305843009213693951 + 39373 * (k : Int) + 1943055), .int 0]) [.m (cs.map .int), .no] := fun v => by
    refine q _ ⟨_, _, _, rfl, ?_, ?_, ?_, by decide, by decide⟩
    · refine Int.mul_nonneg ?_ (b01 _)
      split <;> omega
    · have := mod_ge' v (b := 2305843009213693951) (by decide); omega
    · have := mod_lt' v (b := 2305843009213693951) (by decide); omega
  walk_at "dl"
  by_cases hlt : (k : Int) < (List.map PyData.int cs).length
  · rw [if_pos (decide_eq_true hlt)]
    rw [List.length_map] at hlt
    obtain ⟨v, ev, hv⟩ := atI_of (xs := cs) (r := (k : Int)) (by omega) hlt
    have ev2 := atI_ints ev
    refine ⟨.int v, ev2, ?_⟩
    exact ⟨cpow18, cmul01 _ _, by decide, mul_l (by decide) (by decide), sz 3, main v⟩
  · rw [if_neg (by rw [decide_eq_false hlt]; exact Bool.false_ne_true)]
    exact ⟨cpow18, cmul01 _ _, by decide, mul_l (by decide) (by decide), sz 3, main 0⟩
end

theorem cut_to {xs : List PyData} {m : Nat} : cutD xs none (some (m : Int)) = xs.take m := by
  unfold cutD
  rw [HT.sIx_nat, HT.sIx_none, List.drop_zero, Nat.sub_zero]
  rcases Nat.le_total m xs.length with (h | h)
  · rw [Nat.min_eq_left h]
  · rw [Nat.min_eq_right h, List.take_length, List.take_of_length_le h]
theorem cut_mem {xs : List PyData} {m : Nat} {hi : Option Int} {i : Nat} {y : PyData} (h : (cutD xs (some (m : Int)) hi)[i]? = some y) : y ∈ xs ∧ m < xs.length := by
  unfold cutD at h
  rw [HT.sIx_nat] at h
  have h1 := List.mem_of_getElem? h
  have h2 := List.mem_of_mem_take h1
  refine ⟨List.mem_of_mem_drop h2, ?_⟩
  have h3 := List.length_pos_of_mem h2
  rw [List.length_drop] at h3
  omega
section
variable {P : Program} {w : World} {K : PySem.W.Frag} {T : Tbs} {mg : Str → Option Value} {base : Heap} {f : Addr} {fd : FuncData}
abbrev s__law_cells : Stmt := topS 39
theorem sc__law_cells : FnScope ["script", "most_so", "cells_so", "k", "cell_so", "at_so"] ["script", "most_so"] (defScope s__law_cells) := ⟨rfl, rfl, rfl, by decide +kernel, rfl, by decide +kernel, by decide +kernel⟩
def cCells : CT := fun ss P => ∃ (cs : List Int) (m : Nat), ss = [.d (scD (cs.map .int)), .d (.int m)] ∧ 0 < m ∧ m ≤ 63 ∧ cs.length ≤ 1000000 ∧ ∀ ds : List Int, ds ≠ [] → ds.length ≤ m → P (.m (ds.map .int)) [.no, .no]
theorem ok__law_cells (B : BI mg) (F : Fun K "_law_cells" "_law_cells" s__law_cells f fd) (b : Binds K fd ["script", "most_so"] []) (m : mg "_law_cells" = some (.ref f)) : Fnd P w K T mg base 1 "_law_cells" ["script", "most_so"] cCells := by
  refine fn_d F sc__law_cells b m [] (by decide) fun cdv A outer s H E hr => ?_
  refine ⟨_, (dss_cons (ds_set (i := 2) (fun te h => ps_set sc__law_cells.nd rfl (Or.inl rfl) h) (de_or (de_lstOf B.list (da_cons (de_sliceF (de_var 0 (pv 0)) do_none (do_some (de_var 1 (pv 1)))) da_nil)) (de_one (de_lst (da_cons de_int da_nil))))) (dss_cons (ds_for PassesOwn.never rfl (di_enum rfl B.enumerate (de_sliceF (de_var 0 (pv 0)) (do_some (de_var 1 (pv 1))) (do_some de_int))) (dg_tup (n := 2) rfl (dgs_cons (dg_name (i := 3) (pg_name sc__law_cells.nd rfl (Or.inl rfl))) (dgs_cons (dg_name (i := 4) (pg_name sc__law_cells.nd rfl (Or.inl rfl))) dgs_nil))) (dss_cons (ds_set (i := 5) (fun te h => ps_set sc__law_cells.nd rfl (Or.inl rfl) h) (de_mod (de_intOf B.int (da_cons (de_var 3 (pv 3)) da_nil)) (de_var 1 (pv 1)))) (dss_one (ds_store (fun te to ti h1 h2 h3 => ps_asg h1 (pg_sub h2 h3 set_list)) (de_add (de_item (de_var 2 (pv 2)) (de_var 5 (pv 5))) (de_mul (de_var 4 (pv 4)) (de_add (de_var 3 (pv 3)) de_int))) (de_var 2 (pv 2)) (de_var 5 (pv 5)))))) (dss_one (ds_ret (de_var 2 (pv 2)))))), ?_⟩
  rintro ss Q _ ⟨cs, m, e, hm, hm2, hl, q⟩
  subst e
  have rest : ∀ ds : List Int, ds ≠ [] → ds.length ≤ m → (m < cs.length → ds.length = m) →
      tdSeq (tdFor (tdEnum (tdSlF (tdVar 0) (tdSome (tdVar 1)) (tdSome (tdC (PyData.int 63))))) (tgTup 2 (tgCons (tgName 3) (tgCons (tgName 4) tgNil)))
        (tdSeq (tdSet 5 (tAp2 (tAp (tdCons (tdVar 3) tdNil) cInt) (tdVar 1) (cII (fun x j => 0 < j) fun i j => PyData.int (i % j))))
          (tdStore (tAp2 (tAp2 (tdVar 2) (tdVar 5) cIx) (tAp2 (tdVar 4) (tAp2 (tdVar 3) (tdC (PyData.int 2)) cAdd) (cII CMul fun i j => PyData.int (i * j))) cAdd) (tdVar 2) (tdVar 5))))
        (tdRet (tdVar 2)) (edOf [] 2 Q) [.d (scD (cs.map .int)), .d (.int m), .m (ds.map .int), .no, .no, .no] := fun ds hne hdl hlen => by
    refine ⟨_, rfl, ⟨_, rfl, ⟨_, rfl, ⟨_, rfl, ?_⟩⟩⟩⟩
    refine ⟨fun i Γ => ∃ (es : List Int) (a b c : SV), es.length = ds.length ∧ Γ = [.d (scD (cs.map .int)), .d (.int m), .m (es.map .int), a, b, c], ⟨ds, _, _, _, rfl, rfl⟩, ?_, ?_⟩
    · rintro i x Γ hx ⟨es, a, b, c, hes, rfl⟩
      obtain ⟨y, hy, rfl⟩ := enumD_get hx
      obtain ⟨hmem, hlt⟩ := cut_mem hy
      rw [List.length_map] at hlt
      obtain ⟨v, _, rfl⟩ := List.mem_map.mp hmem
      have hL := hlen hlt
      refine ⟨_, rfl, rfl, ⟨_, _, rfl, ⟨_, _, rfl, rfl, ?_⟩⟩⟩
      have hm0 : (0 : Int) < (m : Int) := by omega
      refine ⟨hm0, ?_⟩
      have h1 := mod_ge' ((0 + i : Nat) : Int) hm0
      have h2 := mod_lt' ((0 + i : Nat) : Int) hm0
      obtain ⟨u, eu, _⟩ := atI_of (xs := es) (r := ((0 + i : Nat) : Int) % (m : Int)) h1 (by rw [hes, hL]; exact h2)
      have hr : ((0 + i : Nat) : Int) % (m : Int) < es.length := by rw [hes, hL]; exact h2
      have hi : i < 2 ^ 40 := by
        have h3 := (List.getElem?_eq_some_iff.mp hx).1
        rw [enumD_len] at h3
        have h4 : (cutD (cs.map PyData.int) (some (m : Int)) (some 63)).length ≤ cs.length := by
          unfold cutD
          rw [List.length_take, List.length_drop, List.length_map]; omega
        have : cs.length ≤ 1000000 := hl
        omega
      refine ⟨_, .int u, rfl, atI_ints eu, ⟨mul_r (by omega) (by omega), ?_⟩⟩
      refine ⟨_, es.map PyData.int, _, _, rfl, rfl, rfl, ixN_of h1 (by rw [List.length_map]; exact hr), ?_⟩
      exact ⟨es.set (((0 + i : Nat) : Int) % (m : Int)).toNat (u + v * (((0 + i : Nat) : Int) + 2)), .d (.int ((0 + i : Nat) : Int)), .d (.int v), .d (.int (((0 + i : Nat) : Int) % (m : Int))), by rw [List.length_set]; exact hes, by rw [List.map_set]; rfl⟩
    · rintro Γ ⟨es, a, b, c, hes, rfl⟩
      exact q es (fun z => hne (List.length_eq_zero_iff.mp (by rw [← hes, z]; rfl))) (by omega)
  refine ⟨_, rfl, ⟨_, rfl, ⟨_, rfl, ?_⟩⟩⟩
  have ec : cutD (cs.map PyData.int) none (some (m : Int)) = (cs.take m).map PyData.int := by rw [cut_to, List.map_take]
  rw [ec]
  cases hcs : cs with
  | nil =>
    rw [hcs] at rest
    refine ⟨false, by simp [truthS], ?_⟩
    refine ⟨_, rfl, sz 1, ?_⟩
    exact rest [0] (by simp) (by simp; omega) (by simp)
  | cons c0 r =>
    rw [hcs] at rest
    have hne : (c0 :: r).take m ≠ [] := by
      cases m with
      | zero => omega
      | succ m => simp
    refine ⟨true, ?_, rest ((c0 :: r).take m) hne (by rw [List.length_take]; omega) fun h => by rw [List.length_take]; omega⟩
    show some (!(((c0 :: r).take m).map PyData.int).isEmpty) = some true
    cases m with
    | zero => omega
    | succ m => simp
end

/-! ## lists in the place of tuples; alike -/
mutual
def lev : PyData → Nat
  | .list xs => 1 + levs xs
  | .tuple xs => 1 + levs xs
  | .none => 0
  | .bool _ => 0
  | .int _ => 0
  | .str _ => 0
  | .dict _ => 0
def levs : List PyData → Nat
  | [] => 0
  | x :: r => max (lev x) (levs r)
end
mutual
def lisD : PyData → PyData
  | .list xs => .list (lisDs xs)
  | .tuple xs => .list (lisDs xs)
  | .none => .none
  | .bool b => .bool b
  | .int i => .int i
  | .str s => .str s
  | .dict kvs => .dict kvs
def lisDs : List PyData → List PyData
  | [] => []
  | x :: r => lisD x :: lisDs r
end
theorem lisDs_eq : ∀ xs, lisDs xs = xs.map lisD
  | [] => by simp [lisDs]
  | x :: r => by rw [lisDs, lisDs_eq r]; rfl
theorem levs_le : ∀ (xs : List PyData) (x : PyData), x ∈ xs → lev x ≤ levs xs
  | [], _, h => by cases h
  | y :: r, x, h => by
    rw [levs]
    rcases List.mem_cons.mp h with (z | z)
    · rw [z]; exact Nat.le_max_left _ _
    · exact Nat.le_trans (levs_le r x z) (Nat.le_max_right _ _)
theorem lev_kid {x y : PyData} (h : y ∈ kidD x) : lev y < lev x := by
  cases x <;> simp [kidD] at h
  · have := levs_le _ _ h; rw [lev]; omega
  · have := levs_le _ _ h; rw [lev]; omega
theorem cnts_mem : ∀ (xs : List PyData) (x : PyData), x ∈ xs → cnt x ≤ cnts xs
  | [], _, h => by cases h
  | y :: r, x, h => by
    rw [cnts]
    rcases List.mem_cons.mp h with (z | z)
    · rw [z]; exact Nat.le_add_right _ _
    · have := cnts_mem r x z; omega
theorem cnt_kid {x y : PyData} (h : y ∈ kidD x) : cnt y ≤ cnt x := by
  cases x <;> simp [kidD] at h
  · have := cnts_mem _ _ h; rw [cnt]; omega
  · have := cnts_mem _ _ h; rw [cnt]; omega
/-- data that may be walked in d steps down -/
structure Dat (d : Nat) (x : PyData) : Prop where
  nod : nod x = true
  lev : lev x < d
  cnt : cnt x ≤ 1000000
theorem Dat.kid {d : Nat} {x y : PyData} (h : Dat (d + 1) x) (m : y ∈ kidD x) : Dat d y :=
  ⟨nod_kid h.nod m, by have := lev_kid m; have := h.lev; omega, Nat.le_trans (cnt_kid m) h.cnt⟩
theorem Dat.len {d : Nat} {x : PyData} (h : Dat d x) : (kidD x).length ≤ 1000000 := by
  have h1 := len_cntS (kidD x)
  have h2 := cnt_eq x
  have := h.cnt
  omega
section
variable {P : Program} {w : World} {K : PySem.W.Frag} {T : Tbs} {mg : Str → Option Value} {base : Heap} {f : Addr} {fd : FuncData}
abbrev s__law_lists : Stmt := topS 42
theorem sc__law_lists : FnScope ["matter", "bit"] ["matter"] (defScope s__law_lists) := ⟨rfl, rfl, rfl, by decide +kernel, rfl, by decide +kernel, by decide +kernel⟩
theorem dat_lis (y : PyData) : dat (if isSq y = true then SV.m ((kidD y).map lisD) else .d y) = some (lisD y) := by
  cases y <;> simp [isSq, kidD, dat, lisD, lisDs_eq]
def cLists (d : Nat) : CT := fun ss P => ∃ x, ss = [.d x] ∧ Dat d x ∧ P (if isSq x = true then .m ((kidD x).map lisD) else .d x) [.no]
theorem ok__law_lists (B : BI mg) (F : Fun K "_law_lists" "_law_lists" s__law_lists f fd) (b : Binds K fd ["matter"] []) (m : mg "_law_lists" = some (.ref f)) : ∀ d, Fnd P w K T mg base d "_law_lists" ["matter"] (cLists d)
  | 0 => Fnd.zero F b m fun ss Q ⟨x, _, h, _⟩ => absurd h.lev (Nat.not_lt_zero _)
  | d + 1 => by
    have h__law_lists := ok__law_lists B F b m d
    refine fn_d F sc__law_lists b m [] (by decide) fun cdv A outer s H E hr => ?_
    refine ⟨_, (dss_one (ds_ret (de_ifExp (dt_truth (isi_list_tuple B (de_var 0 (pv 0)))) (de_lc (own := [("bit", 1)]) rfl sc__law_lists.nd (di_seq (de_var 0 (pv 0))) (blkOk_by (N := ["matter", "bit"]) (sc := (defScope s__law_lists)) (by decide +kernel)) (by decide) (fun _ => (dg_name (i := 1) (pg_name sc__law_lists.nd rfl (Or.inl rfl)))) (fun _ => dts_nil) (fun _ => (de_call (h__law_lists.mono (by omega)) hr (da_cons (de_var 1 (pv 1)) da_nil)))) (de_var 0 (pv 0))))), ?_⟩
    rintro ss Q _ ⟨x, e, hx, q⟩
    subst e
    have hn := hx.nod
    cases x with
    | dict kvs => simp [nod] at hn
    | none => exact ⟨_, _, rfl, isq_none, false, rfl, q⟩
    | bool b => exact ⟨_, _, rfl, isq_bool, false, rfl, q⟩
    | int i => exact ⟨_, _, rfl, isq_int, false, rfl, q⟩
    | str t => exact ⟨_, _, rfl, isq_str, false, rfl, q⟩
    | list xs =>
      refine ⟨_, _, rfl, isq_list, true, rfl, ?_⟩
      have hl : xs.length ≤ 1000000 := hx.len
      refine ⟨_, rfl, ⟨fun i acc Γ => acc = (xs.take i).map lisD ∧ Γ = [.d (.list xs), .no], ⟨rfl, rfl⟩, ?_, ?_⟩⟩
      · rintro i y acc Γ hy ⟨rfl, rfl⟩
        have hi := (List.getElem?_eq_some_iff.mp hy).1
        have hk : Dat d y := hx.kid (x := .list xs) (List.mem_of_getElem? hy)
        refine ⟨rfl, y, rfl, hk, ?_⟩
        exact ⟨lisD y, dat_lis y, szl (by rw [List.length_map, List.length_take]; omega), by rw [take_one hy, List.map_append]; rfl, rfl⟩
      · rintro acc Γ ⟨rfl, rfl⟩
        rw [List.take_length]
        exact q
    | tuple xs =>
      refine ⟨_, _, rfl, isq_tuple, true, rfl, ?_⟩
      have hl : xs.length ≤ 1000000 := hx.len
      refine ⟨_, rfl, ⟨fun i acc Γ => acc = (xs.take i).map lisD ∧ Γ = [.d (.tuple xs), .no], ⟨rfl, rfl⟩, ?_, ?_⟩⟩
      · rintro i y acc Γ hy ⟨rfl, rfl⟩
        have hi := (List.getElem?_eq_some_iff.mp hy).1
        have hk : Dat d y := hx.kid (x := .tuple xs) (List.mem_of_getElem? hy)
        refine ⟨rfl, y, rfl, hk, ?_⟩
        exact ⟨lisD y, dat_lis y, szl (by rw [List.length_map, List.length_take]; omega), by rw [take_one hy, List.map_append]; rfl, rfl⟩
      · rintro acc Γ ⟨rfl, rfl⟩
        rw [List.take_length]
        exact q
end

/-! ## what isinstance answers, what == answers of small things -/
theorem an_int_NoneType : ansOf "int" "NoneType" = some false := by decide +kernel
theorem an_int_bool : ansOf "int" "bool" = some true := by decide +kernel
theorem an_int_int : ansOf "int" "int" = some true := by decide +kernel
theorem an_int_str : ansOf "int" "str" = some false := by decide +kernel
theorem an_int_list : ansOf "int" "list" = some false := by decide +kernel
theorem an_int_tuple : ansOf "int" "tuple" = some false := by decide +kernel
theorem an_bool_NoneType : ansOf "bool" "NoneType" = some false := by decide +kernel
theorem an_bool_bool : ansOf "bool" "bool" = some true := by decide +kernel
theorem an_bool_int : ansOf "bool" "int" = some false := by decide +kernel
theorem an_bool_str : ansOf "bool" "str" = some false := by decide +kernel
theorem an_bool_list : ansOf "bool" "list" = some false := by decide +kernel
theorem an_bool_tuple : ansOf "bool" "tuple" = some false := by decide +kernel
theorem an_list_NoneType : ansOf "list" "NoneType" = some false := by decide +kernel
theorem an_list_bool : ansOf "list" "bool" = some false := by decide +kernel
theorem an_list_int : ansOf "list" "int" = some false := by decide +kernel
theorem an_list_str : ansOf "list" "str" = some false := by decide +kernel
theorem an_list_list : ansOf "list" "list" = some true := by decide +kernel
theorem an_list_tuple : ansOf "list" "tuple" = some false := by decide +kernel
theorem an_tuple_NoneType : ansOf "tuple" "NoneType" = some false := by decide +kernel
theorem an_tuple_bool : ansOf "tuple" "bool" = some false := by decide +kernel
theorem an_tuple_int : ansOf "tuple" "int" = some false := by decide +kernel
theorem an_tuple_str : ansOf "tuple" "str" = some false := by decide +kernel
theorem an_tuple_list : ansOf "tuple" "list" = some false := by decide +kernel
theorem an_tuple_tuple : ansOf "tuple" "tuple" = some true := by decide +kernel
theorem an_str_NoneType : ansOf "str" "NoneType" = some false := by decide +kernel
theorem an_str_bool : ansOf "str" "bool" = some false := by decide +kernel
theorem an_str_int : ansOf "str" "int" = some false := by decide +kernel
theorem an_str_str : ansOf "str" "str" = some true := by decide +kernel
theorem an_str_list : ansOf "str" "list" = some false := by decide +kernel
theorem an_str_tuple : ansOf "str" "tuple" = some false := by decide +kernel
theorem an2_bs_NoneType : ansOf2 "bool" "str" "NoneType" = some false := by decide +kernel
theorem an2_bs_bool : ansOf2 "bool" "str" "bool" = some true := by decide +kernel
theorem an2_bs_int : ansOf2 "bool" "str" "int" = some false := by decide +kernel
theorem an2_bs_str : ansOf2 "bool" "str" "str" = some true := by decide +kernel
theorem an2_bs_list : ansOf2 "bool" "str" "list" = some false := by decide +kernel
theorem an2_bs_tuple : ansOf2 "bool" "str" "tuple" = some false := by decide +kernel
theorem ev_none : PyData.eqv .none .none = true := by simp [PyData.eqv]
theorem ev_bool (a b : Bool) : PyData.eqv (.bool a) (.bool b) = (a == b) := by simp [PyData.eqv]
theorem ev_int (a b : Int) : PyData.eqv (.int a) (.int b) = (a == b) := by simp [PyData.eqv]
theorem ev_str (a b : Str) : PyData.eqv (.str a) (.str b) = (a == b) := by simp [PyData.eqv]
theorem sh_none : SeqAt.shaped .none = true := by decide +kernel
theorem sh_bool (b : Bool) : SeqAt.shaped (.bool b) = true := by cases b <;> decide +kernel
theorem sh_int (i : Int) : SeqAt.shaped (.int i) = true := by simp [SeqAt.shaped, PyData.canLay0, PyData.depth]
theorem sh_str {s : Str} (h : PyData.strOk s = true) : SeqAt.shaped (.str s) = true := by simp [SeqAt.shaped, PyData.canLay0, PyData.depth, h]
local macro_rules | `(tactic| walk_at "lf") => `(tactic| simp only [an_int_NoneType, an_int_bool, an_int_int, an_int_str, an_int_list, an_int_tuple, an_bool_NoneType, an_bool_bool, an_bool_int, an_bool_str, an_bool_list, an_bool_tuple, an_list_NoneType, an_list_bool, an_list_int, an_list_str, an_list_list, an_list_tuple, an_tuple_NoneType, an_tuple_bool, an_tuple_int, an_tuple_str, an_tuple_list, an_tuple_tuple, an_str_NoneType, an_str_bool, an_str_int, an_str_str, an_str_list, an_str_tuple, an2_bs_NoneType, an2_bs_bool, an2_bs_int, an2_bs_str, an2_bs_list, an2_bs_tuple, isq_none, isq_bool, isq_int, isq_str, isq_list, isq_tuple, ev_none, ev_bool, ev_int, ev_str, sh_none, sh_bool, sh_int, Option.some.injEq, exists_eq_left', exists_eq_left, beq_self_eq_true, Bool.not_true, Bool.not_false, Bool.false_eq_true, if_false, if_true, true_and, and_true, decide_true, decide_false])
theorem lay_kid {x y : PyData} (h : x.canLay0 = true) (m : y ∈ kidD x) : y.canLay0 = true := by
  have all : ∀ xs : List PyData, PyData.canLayAll0 xs = true → ∀ y ∈ xs, y.canLay0 = true := fun xs => by
    induction xs with
    | nil => intro _ y hy; cases hy
    | cons a r ih =>
      intro h y hy
      simp only [PyData.canLayAll0, Bool.and_eq_true] at h
      rcases List.mem_cons.mp hy with (z | z)
      · rw [z]; exact h.1
      · exact ih h.2 y z
  cases x <;> simp [kidD] at m
  · exact all _ (by simpa [PyData.canLay0] using h) y m
  · exact all _ (by simpa [PyData.canLay0] using h) y m
section
variable {P : Program} {w : World} {K : PySem.W.Frag} {T : Tbs} {mg : Str → Option Value} {base : Heap} {f : Addr} {fd : FuncData}
abbrev s__law_same : Stmt := topS 43
theorem sc__law_same : FnScope ["got", "due", "mine", "its"] ["got", "due"] (defScope s__law_same) := ⟨rfl, rfl, rfl, by decide +kernel, rfl, by decide +kernel, by decide +kernel⟩
def cSame (d : Nat) : CT := fun ss P => ∃ x, ss = [.d x, .d x] ∧ Dat d x ∧ x.canLay0 = true ∧ P (.d (.bool true)) [.no, .no]
theorem ok__law_same (B : BI mg) (F : Fun K "_law_same" "_law_same" s__law_same f fd) (b : Binds K fd ["got", "due"] []) (m : mg "_law_same" = some (.ref f)) : ∀ d, Fnd P w K T mg base d "_law_same" ["got", "due"] (cSame d)
  | 0 => Fnd.zero F b m fun ss Q ⟨x, _, h, _⟩ => absurd h.lev (Nat.not_lt_zero _)
  | d + 1 => by
    have h__law_same := ok__law_same B F b m d
    refine fn_d F sc__law_same b m [] (by decide) fun cdv A outer s H E hr => ?_
    refine ⟨_, (dss_cons (ds_if (dt_truth (isi_list_tuple B (de_var 1 (pv 1)))) (dss_cons (ds_if (dw_pt (dw_or (dt_ne hr.units (isi_list B (de_var 0 (pv 0))) (isi_list B (de_var 1 (pv 1)))) (dw_or1 (dt_ne hr.units (isi_tuple B (de_var 0 (pv 0))) (isi_tuple B (de_var 1 (pv 1))))))) (dss_one (ds_ret de_bl)) dss_nil) (dss_one (ds_ret (de_and (de_eq hr.units (de_len B.len (da_cons (de_var 0 (pv 0)) da_nil)) (de_len B.len (da_cons (de_var 1 (pv 1)) da_nil))) (de_one (de_all B.all rfl (da_cons (de_lc (own := [("mine", 2), ("its", 3)]) rfl sc__law_same.nd (di_zip rfl B.zip (de_var 0 (pv 0)) (de_var 1 (pv 1))) (blkOk_by (N := ["got", "due", "mine", "its"]) (sc := (defScope s__law_same)) (by decide +kernel)) (by decide) (fun _ => (dg_tup (n := 2) rfl (dgs_cons (dg_name (i := 2) (pg_name sc__law_same.nd rfl (Or.inl rfl))) (dgs_cons (dg_name (i := 3) (pg_name sc__law_same.nd rfl (Or.inl rfl))) dgs_nil)))) (fun _ => dts_nil) (fun _ => (de_call (h__law_same.mono (by omega)) hr (da_cons (de_var 2 (pv 2)) (da_cons (de_var 3 (pv 3)) da_nil))))) da_nil))))))) dss_nil) (dss_cons (ds_if (dw_pt (dw_or (dt_isN (de_var 1 (pv 1)) de_non) (dw_or1 (dt_truth (isi_bool_str B (de_var 1 (pv 1))))))) (dss_one (ds_ret (de_and (de_eq hr.units (de_var 0 (pv 0)) (de_var 1 (pv 1))) (de_and (de_eq hr.units (isi_bool B (de_var 0 (pv 0))) (isi_bool B (de_var 1 (pv 1)))) (de_one (de_eq hr.units (de_isN (de_var 0 (pv 0)) de_non) (de_isN (de_var 1 (pv 1)) de_non))))))) dss_nil) (dss_one (ds_ret (de_and (isi_int B (de_var 0 (pv 0))) (de_and (de_not (isi_bool B (de_var 0 (pv 0)))) (de_one (de_eq hr.units (de_var 0 (pv 0)) (de_var 1 (pv 1)))))))))), ?_⟩
    rintro ss Q _ ⟨x, e, hx, hlay, q⟩
    subst e
    have hn := hx.nod
    cases x with
    | dict kvs => simp [nod] at hn
    | none => walk_at "dl"; walk_at "lf"; exact q
    | bool b => walk_at "dl"; walk_at "lf"; exact q
    | int i => walk_at "dl"; walk_at "lf"; exact q
    | str t =>
      have ht := sh_str (s := t) (by simpa [PyData.canLay0] using hlay)
      walk_at "dl"; walk_at "lf"; exact ⟨ht, ht, q⟩
    | list xs =>
      walk_at "dl"
      walk_at "lf"
      have hl : xs.length ≤ 1000000 := hx.len
      refine ⟨fun i acc Γ => acc = List.replicate i (.bool true) ∧ Γ = [.d (.list xs), .d (.list xs), .no, .no], ⟨rfl, rfl⟩, ?_, ?_⟩
      · rintro i y acc Γ hy ⟨rfl, rfl⟩
        obtain ⟨a, b, ea, eb, rfl⟩ := zipD_get hy
        rw [ea] at eb
        cases eb
        have hi := (List.getElem?_eq_some_iff.mp ea).1
        have hm := List.mem_of_getElem? ea
        refine ⟨_, rfl, rfl, ⟨_, _, rfl, ⟨_, _, rfl, rfl, ?_⟩⟩⟩
        refine ⟨rfl, a, rfl, hx.kid (x := .list xs) hm, lay_kid (x := .list xs) hlay hm, ?_⟩
        exact ⟨_, rfl, szl (by rw [List.length_replicate]; omega), by rw [List.replicate_succ'], rfl⟩
      · rintro acc Γ ⟨rfl, rfl⟩
        refine ⟨List.replicate (zipD xs xs).length true, by simp [lis, List.map_replicate], ?_⟩
        have e : (List.replicate (zipD xs xs).length true).all id = true := by simp
        rw [e]
        exact q
    | tuple xs =>
      walk_at "dl"
      walk_at "lf"
      have hl : xs.length ≤ 1000000 := hx.len
      refine ⟨fun i acc Γ => acc = List.replicate i (.bool true) ∧ Γ = [.d (.tuple xs), .d (.tuple xs), .no, .no], ⟨rfl, rfl⟩, ?_, ?_⟩
      · rintro i y acc Γ hy ⟨rfl, rfl⟩
        obtain ⟨a, b, ea, eb, rfl⟩ := zipD_get hy
        rw [ea] at eb
        cases eb
        have hi := (List.getElem?_eq_some_iff.mp ea).1
        have hm := List.mem_of_getElem? ea
        refine ⟨_, rfl, rfl, ⟨_, _, rfl, ⟨_, _, rfl, rfl, ?_⟩⟩⟩
        refine ⟨rfl, a, rfl, hx.kid (x := .tuple xs) hm, lay_kid (x := .tuple xs) hlay hm, ?_⟩
        exact ⟨_, rfl, szl (by rw [List.length_replicate]; omega), by rw [List.replicate_succ'], rfl⟩
      · rintro acc Γ ⟨rfl, rfl⟩
        refine ⟨List.replicate (zipD xs xs).length true, by simp [lis, List.map_replicate], ?_⟩
        have e : (List.replicate (zipD xs xs).length true).all id = true := by simp
        rw [e]
        exact q
end

/-! ## the law's own places -/
def spl (f : Fm) : List (List Int) := (f.sp []).map (·.1)
mutual
theorem sp_pre (p q : List Int) : ∀ f : Fm, f.sp (q ++ p) = (f.sp p).map fun x => (q ++ x.1, x.2)
  | .op => by simp [Fm.sp]
  | .nd n ps => by
    rw [Fm.sp, Fm.sp, sps_pre p q 0 ps]; rfl
theorem sps_pre (p q : List Int) (k : Nat) : ∀ ps : List Fm, Fm.sps (q ++ p) k ps = (Fm.sps p k ps).map fun x => (q ++ x.1, x.2)
  | [] => by simp [Fm.sps]
  | f :: r => by
    rw [Fm.sps, Fm.sps, List.map_append, ← sps_pre p q (k + 1) r, ← sp_pre _ q f, List.append_assoc]
end
theorem sp_fst (p : List Int) (f : Fm) : (f.sp p).map (·.1) = (spl f).map (p ++ ·) := by
  have := sp_pre [] p f
  rw [List.append_nil] at this
  rw [this]
  unfold spl
  rw [List.map_map, List.map_map]; rfl
theorem sps_snoc (p : List Int) : ∀ (ps : List Fm) (k : Nat) (f : Fm), Fm.sps p k (ps ++ [f]) = Fm.sps p k ps ++ f.sp (p ++ [((k + ps.length : Nat) : Int)])
  | [], k, f => by simp [Fm.sps]
  | g :: r, k, f => by
    rw [List.cons_append, Fm.sps, Fm.sps, sps_snoc p r (k + 1) f, List.append_assoc, List.length_cons]
    have e : k + 1 + r.length = k + (r.length + 1) := by omega
    rw [e]
/-- the places of the first i parts -/
def splk (ps : List Fm) : List (List Int) := [] :: (Fm.sps [] 0 ps).map (·.1)
theorem splk_snoc (ps : List Fm) (f : Fm) : splk (ps ++ [f]) = splk ps ++ (spl f).map ([(ps.length : Int)] ++ ·) := by
  unfold splk
  rw [sps_snoc, List.map_append, sp_fst, Nat.zero_add, List.nil_append]; rfl
theorem splk_len (ps : List Fm) : (splk ps).length = 1 + Fm.sizes ps := by
  unfold splk
  rw [List.length_cons, List.length_map, sps_len]; omega
theorem sizes_app : ∀ a b : List Fm, Fm.sizes (a ++ b) = Fm.sizes a + Fm.sizes b
  | [], b => by simp [Fm.sizes]
  | f :: r, b => by rw [List.cons_append, Fm.sizes, Fm.sizes, sizes_app r b]; omega
theorem sizes_take (ps : List Fm) (i : Nat) : Fm.sizes (ps.take i) ≤ Fm.sizes ps := by
  have := sizes_app (ps.take i) (ps.drop i)
  rw [List.take_append_drop] at this
  omega
theorem spl_parts (f : Fm) : spl f = splk f.parts := by
  cases f with
  | op => simp [spl, splk, Fm.sp, Fm.parts, Fm.sps]
  | nd n ps => simp [spl, splk, Fm.sp, Fm.parts]
theorem cut_its (f : Fm) : cutD f.its (some 1) none = f.parts.map Fm.d := by
  cases f with
  | op => rfl
  | nd n ps => rw [Fm.its, cut_one, Fm.ds_eq]; rfl
theorem spl_len (f : Fm) : (spl f).length = f.size := by unfold spl; rw [List.length_map, sp_len]
theorem dep_pos : ∀ f : Fm, 0 < f.dep
  | .op => by simp [Fm.dep]
  | .nd _ _ => by simp only [Fm.dep]; omega
theorem part_dep {f g : Fm} (h : g ∈ f.parts) : g.dep < f.dep := by
  cases f with
  | op => cases h
  | nd n ps => have := deps_le ps g h; rw [Fm.dep]; omega
theorem sizes_mem : ∀ (ps : List Fm) (g : Fm), g ∈ ps → g.size ≤ Fm.sizes ps
  | [], _, h => by cases h
  | f :: r, g, h => by
    rw [Fm.sizes]
    rcases List.mem_cons.mp h with (z | z)
    · rw [z]; exact Nat.le_add_right _ _
    · have := sizes_mem r g z; omega
theorem part_size {f g : Fm} (h : g ∈ f.parts) : g.size ≤ f.size := by
  cases f with
  | op => cases h
  | nd n ps => have := sizes_mem ps g h; rw [Fm.size]; omega
mutual
theorem sp_dep (p : List Int) : ∀ (f : Fm) (x : List Int × Fm), x ∈ f.sp p → x.1.length + 1 ≤ p.length + f.dep
  | .op, x, h => by
    rw [Fm.sp] at h; rw [List.mem_singleton.mp h]; simp [Fm.dep]
  | .nd n ps, x, h => by
    rw [Fm.sp] at h
    rcases List.mem_cons.mp h with (z | z)
    · rw [z, Fm.dep]; show p.length + 1 ≤ _; omega
    · have := sps_dep p 0 ps x z; rw [Fm.dep]; omega
theorem sps_dep (p : List Int) (k : Nat) : ∀ (ps : List Fm) (x : List Int × Fm), x ∈ Fm.sps p k ps → x.1.length + 1 ≤ p.length + 1 + Fm.deps ps
  | [], x, h => by simp [Fm.sps] at h
  | f :: r, x, h => by
    rw [Fm.sps] at h
    rw [Fm.deps]
    rcases List.mem_append.mp h with (z | z)
    · have := sp_dep _ f x z
      rw [List.length_append, List.length_singleton] at this; omega
    · have := sps_dep p (k + 1) r x z; omega
end
theorem spl_dep {f : Fm} {p : List Int} (h : p ∈ spl f) : p.length + 1 ≤ f.dep := by
  obtain ⟨x, hx, rfl⟩ := List.mem_map.mp h
  have := sp_dep [] f x hx
  simpa using this
section
variable {P : Program} {w : World} {K : PySem.W.Frag} {T : Tbs} {mg : Str → Option Value} {base : Heap} {f : Addr} {fd : FuncData}
abbrev s__law_spots : Stmt := topS 44
theorem sc__law_spots : FnScope ["leaf", "found", "k", "bit", "own"] ["leaf"] (defScope s__law_spots) := ⟨rfl, rfl, rfl, by decide +kernel, rfl, by decide +kernel, by decide +kernel⟩
def cLSpots (d : Nat) : CT := fun ss P => ∃ f : Fm, ss = [.d f.d] ∧ f.dep ≤ d ∧ f.dep + f.size ≤ 1000000 ∧ P (.m ((spl f).map plD)) [.no]
theorem ok__law_spots (B : BI mg) (F : Fun K "_law_spots" "_law_spots" s__law_spots f fd) (b : Binds K fd ["leaf"] []) (m : mg "_law_spots" = some (.ref f)) : ∀ d, Fnd P w K T mg base d "_law_spots" ["leaf"] (cLSpots d)
  | 0 => Fnd.zero F b m fun ss Q ⟨x, _, h, _⟩ => absurd h (by have := dep_pos x; omega)
  | d + 1 => by
    have h__law_spots := ok__law_spots B F b m d
    refine fn_d F sc__law_spots b m [] (by decide) fun cdv A outer s H E hr => ?_
    refine ⟨_, (dss_cons (ds_set (i := 1) (fun te h => ps_set sc__law_spots.nd rfl (Or.inl rfl) h) (de_lst (da_cons (de_tup da_nil) da_nil))) (dss_cons (ds_for PassesOwn.never rfl (di_enum rfl B.enumerate (de_slice (de_var 0 (pv 0)) (do_some de_int) do_none)) (dg_tup (n := 2) rfl (dgs_cons (dg_name (i := 2) (pg_name sc__law_spots.nd rfl (Or.inr rfl))) (dgs_cons (dg_name (i := 3) (pg_name sc__law_spots.nd rfl (Or.inl rfl))) dgs_nil))) (dss_one (ds_set (i := 1) (fun te h => ps_set sc__law_spots.nd rfl (Or.inl rfl) h) (de_add (de_var 1 (pv 1)) (de_lc (own := [("own", 4)]) rfl sc__law_spots.nd (di_seq (de_call (h__law_spots.mono (by omega)) hr (da_cons (de_var 3 (pv 3)) da_nil))) (blkOk_by (N := ["leaf", "found", "k", "bit", "own"]) (sc := (defScope s__law_spots)) (by decide +kernel)) (by decide) (fun _ => (dg_name (i := 4) (pg_name sc__law_spots.nd rfl (Or.inl rfl)))) (fun _ => dts_nil) (fun _ => (de_add (de_tup (da_cons (de_var 2 (pv 2)) da_nil)) (de_var 4 (pv 4))))))))) (dss_one (ds_ret (de_var 1 (pv 1)))))), ?_⟩
    rintro ss Q _ ⟨f, e, hd, hz, q⟩
    subst e
    rw [Fm.d_its]
    walk_at "dl"
    refine ⟨sz 0, sz 1, ?_⟩
    refine ⟨fun i Γ => ∃ a b, Γ = [.d (.tuple f.its), .m ((splk (f.parts.take i)).map plD), a, b, .no], ⟨_, _, rfl⟩, ?_, ?_⟩
    · rintro i x Γ hx ⟨a, b, rfl⟩
      rw [cut_its] at hx
      obtain ⟨y, hy, rfl⟩ := enumD_get hx
      rw [List.getElem?_map] at hy
      obtain ⟨g, hg, rfl⟩ := Option.map_eq_some_iff.mp hy
      obtain ⟨hi, _⟩ := List.getElem?_eq_some_iff.mp hg
      have hm := List.mem_of_getElem? hg
      have hgd := part_dep hm
      have hgs := part_size hm
      refine ⟨_, rfl, rfl, ⟨_, _, rfl, ⟨_, _, rfl, rfl, ?_⟩⟩⟩
      refine ⟨rfl, g, rfl, by omega, by omega, ?_⟩
      refine ⟨_, rfl, ⟨fun j acc Γ => acc = ((spl g).take j).map (fun p => plD ([((0 + i : Nat) : Int)] ++ p)) ∧ Γ = [.d (.tuple f.its), .no, .d (.int ((0 + i : Nat) : Int)), .d g.d, .no], ⟨rfl, rfl⟩, ?_, ?_⟩⟩
      · rintro j y acc Γ hy ⟨rfl, rfl⟩
        rw [List.getElem?_map] at hy
        obtain ⟨p, hp, rfl⟩ := Option.map_eq_some_iff.mp hy
        have hj := (List.getElem?_eq_some_iff.mp hp).1
        rw [spl_len] at hj
        have hpl := spl_dep (List.mem_of_getElem? hp)
        refine ⟨_, rfl, sz 1, ⟨sz _ (by rw [List.length_map]; simp; omega), ?_⟩⟩
        exact ⟨_, rfl, szl (by rw [List.length_map, List.length_take]; omega), by rw [take_one hp, List.map_append]; rfl, rfl⟩
      · rintro acc Γ ⟨rfl, rfl⟩
        have e1 : (List.map plD (splk (f.parts.take i)) ++ List.map (fun p => plD ([((0 + i : Nat) : Int)] ++ p)) ((spl g).take (List.map plD (spl g)).length)) = List.map plD (splk (f.parts.take (i + 1))) := by
          rw [take_one hg, splk_snoc, List.map_append, List.length_map, List.take_length, List.length_take, Nat.min_eq_left (by omega), Nat.zero_add, List.map_map]
          rfl
        have e2 : (splk (f.parts.take (i + 1))).length ≤ f.size := by
          have h1 := splk_len (f.parts.take (i + 1))
          have h2 := sizes_take f.parts (i + 1)
          have h3 : f.size = 1 + Fm.sizes f.parts := by rw [size_kd [] f]; unfold Fm.kd; rw [sizes_kids]
          omega
        have e3 := congrArg List.length e1
        rw [List.length_append, List.length_map (as := splk (f.parts.take (i + 1)))] at e3
        refine ⟨_, _, rfl, rfl, sz _ (by rw [e3]; omega), ?_⟩
        refine ⟨.d (.int ((0 + i : Nat) : Int)), .d g.d, ?_⟩
        rw [← e1]
        rfl
    · rintro Γ ⟨a, b, rfl⟩
      rw [enumD_len, cut_its, List.length_map, List.take_length, ← spl_parts]
      exact q
end

/-! ## what stands at a place; put there -/
def Fm.at? : Fm → List Int → Option Fm
  | f, [] => some f
  | f, i :: r => if 0 ≤ i then (f.parts[i.toNat]?).bind fun g => g.at? r else none
theorem at_append : ∀ (p q : List Int) (f : Fm), f.at? (p ++ q) = (f.at? p).bind fun g => g.at? q
  | [], q, f => rfl
  | i :: r, q, f => by
    show (if 0 ≤ i then (f.parts[i.toNat]?).bind fun g => g.at? (r ++ q) else none) = (if 0 ≤ i then (f.parts[i.toNat]?).bind fun g => g.at? r else none).bind _
    split
    · cases f.parts[i.toNat]? with
      | none => rfl
      | some g => exact at_append r q g
    · rfl
theorem its_item {f g : Fm} {i : Int} (h0 : 0 ≤ i) (h : f.parts[i.toNat]? = some g) : atI f.its (i + 1) = some g.d := by
  obtain ⟨hi, rfl⟩ := List.getElem?_eq_some_iff.mp h
  have e : i = ((i.toNat : Nat) : Int) := by omega
  have := f.its_at i.toNat hi
  rw [← e] at this
  exact this
section
variable {P : Program} {w : World} {K : PySem.W.Frag} {T : Tbs} {mg : Str → Option Value} {base : Heap} {f : Addr} {fd : FuncData}
abbrev s__law_at : Stmt := topS 45
theorem sc__law_at : FnScope ["leaf", "spot_so", "here", "k"] ["leaf", "spot_so"] (defScope s__law_at) := ⟨rfl, rfl, rfl, by decide +kernel, rfl, by decide +kernel, by decide +kernel⟩
def cAt : CT := fun ss P => ∃ (f g : Fm) (p : List Int), ss = [.d f.d, .d (plD p)] ∧ f.at? p = some g ∧ P (.d g.d) [.no, .no]
theorem ok__law_at (B : BI mg) (F : Fun K "_law_at" "_law_at" s__law_at f fd) (b : Binds K fd ["leaf", "spot_so"] []) (m : mg "_law_at" = some (.ref f)) : Fnd P w K T mg base 1 "_law_at" ["leaf", "spot_so"] cAt := by
  refine fn_d F sc__law_at b m [] (by decide) fun cdv A outer s H E hr => ?_
  refine ⟨_, (dss_cons (ds_set (i := 2) (fun te h => ps_set sc__law_at.nd rfl (Or.inl rfl) h) (de_var 0 (pv 0))) (dss_cons (ds_for PassesOwn.never rfl (di_seq (de_var 1 (pv 1))) (dg_name (i := 3) (pg_name sc__law_at.nd rfl (Or.inl rfl))) (dss_one (ds_set (i := 2) (fun te h => ps_set sc__law_at.nd rfl (Or.inl rfl) h) (de_item (de_var 2 (pv 2)) (de_add (de_var 3 (pv 3)) de_int))))) (dss_one (ds_ret (de_var 2 (pv 2)))))), ?_⟩
  rintro ss Q _ ⟨f, g, p, e, ha, q⟩
  subst e
  refine ⟨p.map PyData.int, rfl, ?_⟩
  refine ⟨fun i Γ => ∃ h a, Γ = [.d f.d, .d (plD p), .d h.d, a] ∧ f.at? (p.take i) = some h, ⟨f, _, rfl, rfl⟩, ?_, ?_⟩
  · rintro i x Γ hx ⟨h, a, rfl, hh⟩
    rw [List.getElem?_map] at hx
    obtain ⟨k, hk, rfl⟩ := Option.map_eq_some_iff.mp hx
    have e : f.at? (p.take (i + 1)) = h.at? [k] := by rw [take_one hk, at_append, hh]; rfl
    have e2 : f.at? p = (f.at? (p.take (i + 1))).bind fun g => g.at? (p.drop (i + 1)) := by rw [← at_append, List.take_append_drop]
    rw [ha, e] at e2
    have e3 : h.at? [k] = if 0 ≤ k then (h.parts[k.toNat]?).bind fun g => some g else none := rfl
    by_cases h0 : 0 ≤ k
    · rw [if_pos h0] at e3
      cases hp : h.parts[k.toNat]? with
      | none => (rw [e3, hp] at e2; cases e2)
      | some g2 =>
        rw [hp] at e3
        refine ⟨h.its, g2.d, by rw [Fm.d_its]; rfl, its_item h0 hp, ?_⟩
        exact ⟨g2, _, rfl, by rw [e, e3]; rfl⟩
    · rw [if_neg h0] at e3
      rw [e3] at e2; cases e2
  · rintro Γ ⟨h, a, rfl, hh⟩
    rw [List.length_map, List.take_length, ha] at hh
    cases hh
    exact q
end

def Fm.put : Fm → List Int → Fm → Fm
  | _, [], g => g
  | .op, _ :: _, _ => .op
  | .nd n ps, i :: r, g => match ps[i.toNat]? with
    | some h => .nd n (ps.set i.toNat (h.put r g))
    | none => .nd n ps
theorem pl_lay (p : List Int) : PyData.canLayAll0 (p.map PyData.int) = true := by
  induction p with
  | nil => simp [PyData.canLayAll0]
  | cons a r ih => simp [PyData.canLayAll0, PyData.canLay0, ih]
theorem pl_depth (p : List Int) : PyData.depthAll (p.map PyData.int) ≤ 1 := by
  induction p with
  | nil => simp [PyData.depthAll]
  | cons a r ih => simp only [List.map_cons, PyData.depthAll, PyData.depth]; omega
theorem sh_pl (p : List Int) : SeqAt.shaped (plD p) = true := by
  have h1 := pl_lay p
  have h2 := pl_depth p
  unfold SeqAt.shaped plD
  simp only [PyData.canLay0, h1, Bool.true_and]
  exact decide_eq_true (by simp only [PyData.depth]; omega)
theorem ev_pl (p : List Int) : PyData.eqv (plD p) (.tuple []) = p.isEmpty := by
  cases p <;> simp [plD, PyData.eqv, PyData.eqvAll]
theorem at_cons {f g : Fm} {i : Int} {r : List Int} (h : f.at? (i :: r) = some g) : ∃ n ps h', f = .nd n ps ∧ 0 ≤ i ∧ ps[i.toNat]? = some h' ∧ h'.at? r = some g := by
  have h2 : (if 0 ≤ i then (f.parts[i.toNat]?).bind fun g => g.at? r else none) = some g := h
  split at h2
  · rename_i h0
    cases f with
    | op => simp [Fm.parts] at h2
    | nd n ps =>
      cases e : ps[i.toNat]? with
      | none => (rw [show (Fm.nd n ps).parts = ps from rfl, e] at h2; cases h2)
      | some h' =>
        rw [show (Fm.nd n ps).parts = ps from rfl, e] at h2
        exact ⟨n, ps, h', rfl, h0, e, h2⟩
  · cases h2
theorem cut_toI {xs : List PyData} {i : Int} (h : 0 ≤ i) : cutD xs none (some (i + 1)) = xs.take (i.toNat + 1) := by
  have e : i + 1 = ((i.toNat + 1 : Nat) : Int) := by omega
  rw [e, cut_to]
theorem cut_fromI {xs : List PyData} {i : Int} (h : 0 ≤ i) (hl : i.toNat + 2 ≤ xs.length) : cutD xs (some (i + 1 + 1)) none = xs.drop (i.toNat + 2) := by
  have e : i + 1 + 1 = ((i.toNat + 2 : Nat) : Int) := by omega
  rw [e, cut_from hl]
theorem set_parts (n : Str) (ps : List Fm) (i : Nat) (x : Fm) (h : i < ps.length) : (PyData.str n :: Fm.ds ps).take (i + 1) ++ [x.d] ++ (PyData.str n :: Fm.ds ps).drop (i + 2) = PyData.str n :: Fm.ds (ps.set i x) := by
  rw [Fm.ds_eq, Fm.ds_eq, List.map_set, List.set_eq_take_append_cons_drop, if_pos (by rw [List.length_map]; exact h)]
  simp
section
variable {P : Program} {w : World} {K : PySem.W.Frag} {T : Tbs} {mg : Str → Option Value} {base : Heap} {f : Addr} {fd : FuncData}
abbrev s__law_put : Stmt := topS 46
theorem sc__law_put : FnScope ["leaf", "spot_so", "fresh_so", "k"] ["leaf", "spot_so", "fresh_so"] (defScope s__law_put) := ⟨rfl, rfl, rfl, by decide +kernel, rfl, by decide +kernel, by decide +kernel⟩
def cPut (d : Nat) : CT := fun ss P => ∃ (f g h : Fm) (p : List Int), ss = [.d f.d, .d (plD p), .d g.d] ∧ f.at? p = some h ∧ f.size ≤ 1000000 ∧ p.length < d ∧ p.length ≤ 1000 ∧ P (.d (f.put p g).d) [.no, .no, .no]
theorem ok__law_put (B : BI mg) (F : Fun K "_law_put" "_law_put" s__law_put f fd) (b : Binds K fd ["leaf", "spot_so", "fresh_so"] []) (m : mg "_law_put" = some (.ref f)) : ∀ d, Fnd P w K T mg base d "_law_put" ["leaf", "spot_so", "fresh_so"] (cPut d)
  | 0 => Fnd.zero F b m fun ss Q ⟨_, _, _, _, _, _, _, h, _⟩ => absurd h (Nat.not_lt_zero _)
  | d + 1 => by
    have h__law_put := ok__law_put B F b m d
    refine fn_d F sc__law_put b m [] (by decide) fun cdv A outer s H E hr => ?_
    refine ⟨_, (dss_cons (ds_if (dt_eq hr.units (de_var 1 (pv 1)) (de_tup da_nil)) (dss_one (ds_ret (de_var 2 (pv 2)))) dss_nil) (dss_cons (ds_set (i := 3) (fun te h => ps_set sc__law_put.nd rfl (Or.inl rfl) h) (de_add (de_item (de_var 1 (pv 1)) de_int) de_int)) (dss_one (ds_ret (de_add (de_add (de_slice (de_var 0 (pv 0)) do_none (do_some (de_var 3 (pv 3)))) (de_tup (da_cons (de_call (h__law_put.mono (by omega)) hr (da_cons (de_item (de_var 0 (pv 0)) (de_var 3 (pv 3))) (da_cons (de_slice (de_var 1 (pv 1)) (do_some de_int) do_none) (da_cons (de_var 2 (pv 2)) da_nil)))) da_nil))) (de_slice (de_var 0 (pv 0)) (do_some (de_add (de_var 3 (pv 3)) de_int)) do_none)))))), ?_⟩
    rintro ss Q _ ⟨f, g, h, p, e, ha, hz, hd, hp, q⟩
    subst e
    refine ⟨_, rfl, sz 0, ⟨_, _, rfl, rfl, sh_pl p, shaped_empty, _, rfl, ?_⟩⟩
    rw [ev_pl]
    cases p with
    | nil => exact q
    | cons i r =>
      obtain ⟨n, ps, h', rfl, h0, e1, e2⟩ := at_cons ha
      have e3 : (Fm.nd n ps).put (i :: r) g = .nd n (ps.set i.toNat (h'.put r g)) := by
        show (match ps[i.toNat]? with | some h => _ | none => _) = _
        rw [e1]
      rw [e3] at q
      have hi := (List.getElem?_eq_some_iff.mp e1).1
      have hsz : ps.length ≤ 1000000 := its_small (.nd n ps) hz
      have hps := part_size (f := .nd n ps) (List.mem_of_getElem? e1)
      refine ⟨_, .int i, rfl, atI_zero, ?_⟩
      have hlen : (PyData.str n :: Fm.ds ps).length = ps.length + 1 := by rw [List.length_cons, Fm.ds_len]
      refine ⟨_, rfl, ?_⟩
      refine ⟨_, h'.d, rfl, its_item (f := .nd n ps) h0 e1, ?_⟩
      refine ⟨_, rfl, ?_⟩
      refine ⟨rfl, h', g, h, r, ?_, e2, by omega, by simp at hd; omega, by simp at hp; omega, ?_⟩
      · show [SV.d h'.d, .d (.tuple (cutD (PyData.int i :: r.map PyData.int) (some 1) none)), .d g.d] = _
        rw [cut_one]; rfl
      · refine ⟨_, rfl, sz 1, ⟨sz _ ?_, ?_⟩⟩
        · rw [cut_toI h0, List.length_take, hlen]; show _ + 1 ≤ _; omega
        · refine ⟨_, rfl, ⟨sz _ ?_, ?_⟩⟩
          · rw [cut_toI h0, cut_fromI h0 (by rw [hlen]; omega), List.length_append, List.length_take, List.length_drop, hlen]; show _ + 1 + _ ≤ _; omega
          · rw [cut_toI h0, cut_fromI h0 (by rw [hlen]; omega), set_parts n ps i.toNat _ hi]
            exact q
end

section
variable {P : Program} {w : World} {K : PySem.W.Frag} {T : Tbs} {mg : Str → Option Value} {base : Heap} {f : Addr} {fd : FuncData}
abbrev s__law_agree : Stmt := topS 49
theorem sc__law_agree : FnScope ["one_so", "two_so", "mine", "its"] ["one_so", "two_so"] (defScope s__law_agree) := ⟨rfl, rfl, rfl, by decide +kernel, rfl, by decide +kernel, by decide +kernel⟩
def cLAgree (d : Nat) : CT := fun ss P => ∃ f g : Fm, ss = [.d f.d, .d g.d] ∧ f.Fit ∧ g.Fit ∧ f.dep ≤ d ∧ P (.d (.bool (f.agr g))) [.no, .no]
theorem ok__law_agree (B : BI mg) (F : Fun K "_law_agree" "_law_agree" s__law_agree f fd) (b : Binds K fd ["one_so", "two_so"] []) (m : mg "_law_agree" = some (.ref f)) : ∀ d, Fnd P w K T mg base d "_law_agree" ["one_so", "two_so"] (cLAgree d)
  | 0 => Fnd.zero F b m fun ss Q ⟨f, _, _, _, _, h, _⟩ => absurd h (by have := dep_pos f; omega)
  | d + 1 => by
    have h__law_agree := ok__law_agree B F b m d
    refine fn_d F sc__law_agree b m [] (by decide) fun cdv A outer s H E hr => ?_
    refine ⟨_, (dss_cons (ds_if (dw_pt (dw_or (dt_eq hr.units (de_var 0 (pv 0)) (de_tup da_nil)) (dw_or1 (dt_eq hr.units (de_var 1 (pv 1)) (de_tup da_nil))))) (dss_one (ds_ret de_bl)) dss_nil) (dss_cons (ds_if (dw_pt (dw_or (dt_ne hr.units (de_item (de_var 0 (pv 0)) de_int) (de_item (de_var 1 (pv 1)) de_int)) (dw_or1 (dt_ne hr.units (de_len B.len (da_cons (de_var 0 (pv 0)) da_nil)) (de_len B.len (da_cons (de_var 1 (pv 1)) da_nil)))))) (dss_one (ds_ret de_bl)) dss_nil) (dss_one (ds_ret (de_all B.all rfl (da_cons (de_lc (own := [("mine", 2), ("its", 3)]) rfl sc__law_agree.nd (di_zip rfl B.zip (de_slice (de_var 0 (pv 0)) (do_some de_int) do_none) (de_slice (de_var 1 (pv 1)) (do_some de_int) do_none)) (blkOk_by (N := ["one_so", "two_so", "mine", "its"]) (sc := (defScope s__law_agree)) (by decide +kernel)) (by decide) (fun _ => (dg_tup (n := 2) rfl (dgs_cons (dg_name (i := 2) (pg_name sc__law_agree.nd rfl (Or.inl rfl))) (dgs_cons (dg_name (i := 3) (pg_name sc__law_agree.nd rfl (Or.inl rfl))) dgs_nil)))) (fun _ => dts_nil) (fun _ => (de_call (h__law_agree.mono (by omega)) hr (da_cons (de_var 2 (pv 2)) (da_cons (de_var 3 (pv 3)) da_nil))))) da_nil)))))), ?_⟩
    rintro ss Q _ ⟨f, g, e, hf, hg, hd, q⟩
    subst e
    refine ⟨_, rfl, sz 0, ⟨_, _, rfl, rfl, hf.shaped, shaped_empty, _, rfl, ?_⟩⟩
    rw [Fm.eqv_op]
    cases f with
    | op => exact q
    | nd n ps =>
      refine ⟨_, rfl, sz 0, ⟨_, _, rfl, rfl, hg.shaped, shaped_empty, _, rfl, ?_⟩⟩
      rw [Fm.eqv_op]
      cases g with
      | op => rw [agr_op] at q; exact q
      | nd k qs =>
        have s1 := sh_str hf.name.1
        have s2 := sh_str hg.name.1
        refine ⟨_, .str n, rfl, atI_zero, ⟨_, .str k, rfl, atI_zero, ⟨_, _, rfl, rfl, s1, s2, _, rfl, ?_⟩⟩⟩
        rw [ev_str]
        have ha : (Fm.nd n ps).agr (Fm.nd k qs) = (n == k && decide (ps.length = qs.length) && Fm.agrs ps qs) := by rw [Fm.agr]
        rw [ha] at q
        have l1 : (Fm.ds ps).length = ps.length := Fm.ds_len ps
        have l2 : (Fm.ds qs).length = qs.length := Fm.ds_len qs
        cases hnk : (n == k) with
        | false =>
          rw [hnk] at q
          exact q
        | true =>
          rw [hnk] at q
          refine ⟨_, rfl, ⟨_, rfl, ⟨_, _, rfl, rfl, sh_int _, sh_int _, _, rfl, ?_⟩⟩⟩
          rw [ev_int]
          by_cases hle : ps.length = qs.length
          · have e1 : ((((PyData.str n :: Fm.ds ps).length : Nat) : Int) == (((PyData.str k :: Fm.ds qs).length : Nat) : Int)) = true := by simp [l1, l2, hle]
            rw [decide_eq_true hle] at q
            have q : Q (.d (.bool (Fm.agrs ps qs))) [.no, .no] := by simpa using q
            rw [e1]
            have z : zipD (cutD (PyData.str n :: Fm.ds ps) (some 1) none) (cutD (PyData.str k :: Fm.ds qs) (some 1) none) = (ps.zip qs).map pairD := by rw [cut_one, cut_one, zip_pairs]
            have hzl : (ps.zip qs).length ≤ 3 := by have := hf.name.2; rw [List.length_zip]; omega
            refine ⟨_, rfl, ⟨_, rfl, ⟨(ps.zip qs).map pairD, by rw [← z]; rfl, ?_⟩⟩⟩
            refine ⟨fun i acc Γ => acc = ((ps.zip qs).take i).map (fun x => PyData.bool (x.1.agr x.2)) ∧ Γ = [.d (Fm.nd n ps).d, .d (Fm.nd k qs).d, .no, .no], ⟨rfl, rfl⟩, ?_, ?_⟩
            · rintro i y acc Γ hy ⟨rfl, rfl⟩
              rw [List.getElem?_map] at hy
              obtain ⟨⟨a, c⟩, hac, rfl⟩ := Option.map_eq_some_iff.mp hy
              have hm := List.of_mem_zip (List.mem_of_getElem? hac)
              have hdp := part_dep (f := .nd n ps) hm.1
              refine ⟨_, rfl, rfl, ⟨_, _, rfl, ⟨_, _, rfl, rfl, ?_⟩⟩⟩
              refine ⟨rfl, a, c, rfl, hf.part hm.1, hg.part hm.2, by omega, ?_⟩
              exact ⟨_, rfl, szl (by rw [List.length_map, List.length_take]; omega), by rw [take_one hac, List.map_append]; rfl, rfl⟩
            · rintro acc Γ ⟨rfl, rfl⟩
              rw [List.length_map, List.take_length]
              refine ⟨(ps.zip qs).map fun x => x.1.agr x.2, by show some _ = some _; rw [List.map_map]; rfl, ?_⟩
              rw [agrs_zip] at q
              have e2 : ((ps.zip qs).map fun x => x.1.agr x.2).all id = (ps.zip qs).all fun x => x.1.agr x.2 := by rw [List.all_map]; rfl
              rw [e2]
              exact q
          · have e1 : ((((PyData.str n :: Fm.ds ps).length : Nat) : Int) == (((PyData.str k :: Fm.ds qs).length : Nat) : Int)) = false := by simp [l1, l2]; omega
            rw [decide_eq_false hle] at q
            rw [e1]
            exact q
end

/-! ## touched; the first SIDE, by the law -/
def touchedB (gs : List Fm) (f : Fm) : Bool := !f.isOp && gs.any fun g => g.agr f
theorem lay_sides {gs : List Fm} (h : ∀ g ∈ gs, g.Fit) : PyData.canLayAll0 (gs.map Fm.d) = true := by
  induction gs with
  | nil => simp [PyData.canLayAll0]
  | cons a r ih =>
    simp only [List.map_cons, PyData.canLayAll0, Bool.and_eq_true]
    exact ⟨Fm.lay a (h a List.mem_cons_self).ok, ih fun g hg => h g (List.mem_cons_of_mem _ hg)⟩
theorem depth_sides {gs : List Fm} (h : ∀ g ∈ gs, g.Fit) : PyData.depthAll (gs.map Fm.d) ≤ 60 := by
  induction gs with
  | nil => simp [PyData.depthAll]
  | cons a r ih =>
    have h1 := (h a List.mem_cons_self).dep
    have h2 := ih fun g hg => h g (List.mem_cons_of_mem _ hg)
    simp only [List.map_cons, PyData.depthAll, Fm.depth_d]
    omega
theorem sh_lsides {gs : List Fm} (h : ∀ g ∈ gs, g.Fit) : SeqAt.shaped (.list (gs.map Fm.d)) = true := by
  have h1 := lay_sides h
  have h2 := depth_sides h
  unfold SeqAt.shaped
  simp only [PyData.canLay0, h1, Bool.true_and]
  exact decide_eq_true (by simp only [PyData.depth]; omega)
theorem sh_nil : SeqAt.shaped (.list []) = true := by decide +kernel
theorem ev_lnil (xs : List PyData) : PyData.eqv (.list xs) (.list []) = xs.isEmpty := by cases xs <;> simp [PyData.eqv, PyData.eqvAll]
theorem any_filter {α : Type} (p : α → Bool) (l : List α) : (!(l.filter p).isEmpty) = l.any p := by
  induction l with
  | nil => rfl
  | cons a r ih =>
    rw [List.filter_cons, List.any_cons]
    cases p a with
    | true => simp
    | false => simpa using ih
section
variable {P : Program} {w : World} {K : PySem.W.Frag} {T : Tbs} {mg : Str → Option Value} {base : Heap} {f : Addr} {fd : FuncData}
abbrev s__law_touched : Stmt := topS 51
theorem sc__law_touched : FnScope ["page_so", "leaf", "own"] ["page_so", "leaf"] (defScope s__law_touched) := ⟨rfl, rfl, rfl, by decide +kernel, rfl, by decide +kernel, by decide +kernel⟩
def cTouched : CT := fun ss P => ∃ (gs : List Fm) (f : Fm), ss = [.d (sidesD gs), .d f.d] ∧ Sides gs ∧ f.Fit ∧ P (.d (.bool (touchedB gs f))) [.no, .no]
theorem ok__law_touched (B : BI mg) (h__law_agree : Fnd P w K T mg base 60 "_law_agree" ["one_so", "two_so"] (cLAgree 60)) (F : Fun K "_law_touched" "_law_touched" s__law_touched f fd) (b : Binds K fd ["page_so", "leaf"] []) (m : mg "_law_touched" = some (.ref f)) : Fnd P w K T mg base 61 "_law_touched" ["page_so", "leaf"] cTouched := by
  refine fn_d F sc__law_touched b m [] (by decide) fun cdv A outer s H E hr => ?_
  refine ⟨_, (dss_one (ds_ret (de_and (de_ne hr.units (de_var 1 (pv 1)) (de_tup da_nil)) (de_one (de_ne hr.units (de_lc (own := [("own", 2)]) rfl sc__law_touched.nd (di_seq (de_var 0 (pv 0))) (blkOk_by (N := ["page_so", "leaf", "own"]) (sc := (defScope s__law_touched)) (by decide +kernel)) (by decide) (fun _ => (dg_name (i := 2) (pg_name sc__law_touched.nd rfl (Or.inl rfl)))) (fun _ => (dts_one (dt_truth (de_call (h__law_agree.mono (by omega)) hr (da_cons (de_var 2 (pv 2)) (da_cons (de_var 1 (pv 1)) da_nil)))))) (fun _ => (de_var 2 (pv 2)))) (de_lst da_nil)))))), ?_⟩
  rintro ss Q _ ⟨gs, f, e, hs, hf, q⟩
  subst e
  refine ⟨_, rfl, sz 0, ⟨_, _, rfl, rfl, hf.shaped, shaped_empty, _, rfl, ?_⟩⟩
  rw [Fm.eqv_op]
  cases f with
  | op => exact q
  | nd n ps =>
    have q : Q (.d (.bool (gs.any fun g => g.agr (.nd n ps)))) [.no, .no] := by simpa [touchedB, Fm.isOp] using q
    refine ⟨_, rfl, ⟨fun i acc Γ => acc = ((gs.take i).filter fun g => g.agr (.nd n ps)).map Fm.d ∧ Γ = [.d (sidesD gs), .d (Fm.nd n ps).d, .no], ⟨rfl, rfl⟩, ?_, ?_⟩⟩
    · rintro i y acc Γ hy ⟨rfl, rfl⟩
      rw [List.getElem?_map] at hy
      obtain ⟨g, hg, rfl⟩ := Option.map_eq_some_iff.mp hy
      have hm := List.mem_of_getElem? hg
      have hi := (List.getElem?_eq_some_iff.mp hg).1
      have hgl := hs.len
      have hfl := List.length_filter_le (fun g => g.agr (.nd n ps)) (gs.take i)
      rw [List.length_take] at hfl
      refine ⟨rfl, g, _, rfl, hs.fit g hm, hf, (hs.fit g hm).dep, _, rfl, ?_⟩
      show if (g.agr (.nd n ps)) = true then _ else _
      cases hag : g.agr (.nd n ps) with
      | true =>
        rw [if_pos rfl]
        exact ⟨_, rfl, szl (by rw [List.length_map]; omega), by rw [take_one hg, List.filter_append]; simp [hag], rfl⟩
      | false =>
        rw [if_neg Bool.false_ne_true]
        exact ⟨by rw [take_one hg, List.filter_append]; simp [hag], rfl⟩
    · rintro acc Γ ⟨rfl, rfl⟩
      rw [List.length_map, List.take_length]
      refine ⟨_, rfl, sz 0, ⟨_, _, rfl, rfl, sh_lsides fun g hg => hs.fit g ((List.mem_filter.mp hg).1), sh_nil, ?_⟩⟩
      rw [ev_lnil]
      have e2 : (!(List.map Fm.d (List.filter (fun g => g.agr (Fm.nd n ps)) gs)).isEmpty) = gs.any fun g => g.agr (.nd n ps) := by
        rw [← any_filter, List.isEmpty_map]
      rw [e2]
      exact q
end

theorem fm_one {α β : Type} (f : α → Option β) (x : α) : [x].filterMap f = (f x).toList := by cases h : f x <;> simp [h]
theorem blotFs_eq (gs : List Fm) : ∀ ps, blotFs gs ps = ps.map (blotF gs)
  | [] => by simp [blotFs]
  | f :: r => by rw [blotFs, blotFs_eq gs r]; rfl
theorem rowsFs_snoc (gs : List Fm) (p : List Int) : ∀ (ps : List Fm) (k : Nat) (f : Fm), rowsFs gs p k (ps ++ [f]) = rowsFs gs p k ps ++ rowsF gs (p ++ [((k + ps.length : Nat) : Int)]) f
  | [], k, f => by simp [rowsFs]
  | g :: r, k, f => by
    rw [List.cons_append, rowsFs, rowsFs, rowsFs_snoc gs p r (k + 1) f, List.append_assoc, List.length_cons]
    have e : k + 1 + r.length = k + (r.length + 1) := by omega
    rw [e]
theorem rowsF_plen (gs : List Fm) (p : List Int) (f : Fm) : (rowsF gs p f).length = f.size := by
  have := (runB_pre _ _ _ (run_po gs p f [] [])).2.2
  rw [po_len] at this
  simpa using this
theorem rowsFs_plen (gs : List Fm) (p : List Int) (k : Nat) (ps : List Fm) : (rowsFs gs p k ps).length = Fm.sizes ps := by
  have := (runB_pre _ _ _ (run_pos gs p k ps [] [])).2.2
  rw [pos_len] at this
  simpa using this

/-! ## striking from outside, one by one, leaves what one pass from below leaves -/
mutual
theorem agr_blot (gs : List Fm) : ∀ (f s : Fm), s.agr f = true → s.agr (blotF gs f) = true
  | .op, s, _ => by rw [blotF]; exact agr_op s
  | .nd n ps, s, h => by
    rw [blotF]
    unfold keepA
    cases firstA gs (.nd n (blotFs gs ps)) with
    | some k => exact agr_op s
    | none =>
      cases s with
      | op => rw [Fm.agr]
      | nd m qs =>
        rw [Fm.agr] at h ⊢
        simp only [Bool.and_eq_true, blotFs_len] at h ⊢
        exact ⟨h.1, agrs_blot gs ps qs h.2⟩
theorem agrs_blot (gs : List Fm) : ∀ (ps qs : List Fm), Fm.agrs qs ps = true → Fm.agrs qs (blotFs gs ps) = true
  | [], qs, h => by rw [blotFs]; exact h
  | f :: r, [], _ => by simp [Fm.agrs]
  | f :: r, s :: t, h => by
    rw [blotFs]
    rw [Fm.agrs] at h ⊢
    simp only [Bool.and_eq_true] at h ⊢
    exact ⟨agr_blot gs f s h.1, agrs_blot gs r t h.2⟩
end
theorem agr_under {gs : List Fm} {n : Str} {ps : List Fm} {s : Fm} (h : s.agr (.nd n ps) = true) : s.agr (.nd n (blotFs gs ps)) = true := by
  cases s with
  | op => rw [Fm.agr]
  | nd m qs =>
    rw [Fm.agr] at h ⊢
    simp only [Bool.and_eq_true, blotFs_len] at h ⊢
    exact ⟨h.1, agrs_blot gs ps qs h.2⟩
theorem touched_blot {gs : List Fm} {f : Fm} (h : touchedB gs f = true) : blotF gs f = .op := by
  cases f with
  | op => rw [blotF]
  | nd n ps =>
    have h' : (gs.any fun g => g.agr (.nd n ps)) = true := by simpa [touchedB, Fm.isOp] using h
    obtain ⟨s, hs, ha⟩ := List.any_eq_true.mp h'
    rw [blotF]
    unfold keepA
    cases hf : firstA gs (.nd n (blotFs gs ps)) with
    | some k => rfl
    | none =>
      have hn : gs.findIdx? (fun g => g.agr (.nd n (blotFs gs ps))) = none := hf
      rw [List.findIdx?_eq_none_iff] at hn
      have := hn s hs
      rw [agr_under ha] at this
      cases this
theorem blotFs_set (gs : List Fm) : ∀ (ps : List Fm) (i : Nat) (x : Fm), blotFs gs (ps.set i x) = (blotFs gs ps).set i (blotF gs x) := fun ps i x => by rw [blotFs_eq, blotFs_eq, List.map_set]
theorem put_blot (gs : List Fm) : ∀ (p : List Int) (f h : Fm), f.at? p = some h → blotF gs h = .op → blotF gs (f.put p .op) = blotF gs f
  | [], f, h, e, hb => by
    cases e
    rw [Fm.put, blotF, hb]
  | i :: r, f, h, e, hb => by
    obtain ⟨n, ps, h', rfl, h0, e1, e2⟩ := at_cons e
    have e3 : (Fm.nd n ps).put (i :: r) .op = .nd n (ps.set i.toNat (h'.put r .op)) := by
      show (match ps[i.toNat]? with | some h => _ | none => _) = _
      rw [e1]
    rw [e3, blotF, blotF, blotFs_set, put_blot gs r h' h e2 hb]
    have e4 : (blotFs gs ps)[i.toNat]? = some (blotF gs h') := by rw [blotFs_eq, List.getElem?_map, e1]; rfl
    obtain ⟨hi, e5⟩ := List.getElem?_eq_some_iff.mp e4
    rw [← e5, List.set_getElem_self]
theorem mem_sps (p : List Int) : ∀ (ps : List Fm) (k : Nat) (x : List Int × Fm), x ∈ Fm.sps p k ps ↔ ∃ (i : Nat) (g : Fm), ps[i]? = some g ∧ x ∈ g.sp (p ++ [((k + i : Nat) : Int)])
  | [], k, x => by simp [Fm.sps]
  | f :: r, k, x => by
    rw [Fm.sps, List.mem_append, mem_sps p r (k + 1) x]
    constructor
    · rintro (h | ⟨i, g, h1, h2⟩)
      · exact ⟨0, f, rfl, h⟩
      · exact ⟨i + 1, g, h1, by have e : k + (i + 1) = k + 1 + i := by omega
                                rw [e]; exact h2⟩
    · rintro ⟨i, g, h1, h2⟩
      cases i with
      | zero => cases h1; exact .inl h2
      | succ i => exact .inr ⟨i, g, h1, by have e : k + 1 + i = k + (i + 1) := by omega
                                           rw [e]; exact h2⟩
theorem mem_spl {f : Fm} {p : List Int} : p ∈ spl f ↔ p = [] ∨ ∃ (i : Nat) (g : Fm) (r : List Int), f.parts[i]? = some g ∧ r ∈ spl g ∧ p = (i : Int) :: r := by
  rw [spl_parts]
  unfold splk
  rw [List.mem_cons]
  refine or_congr Iff.rfl ?_
  constructor
  · intro h
    obtain ⟨x, hx, rfl⟩ := List.mem_map.mp h
    obtain ⟨i, g, h1, h2⟩ := (mem_sps _ _ _ _).mp hx
    have h3 : x.1 ∈ (g.sp ([] ++ [((0 + i : Nat) : Int)])).map (·.1) := List.mem_map.mpr ⟨x, h2, rfl⟩
    rw [sp_fst] at h3
    obtain ⟨r, hr, e⟩ := List.mem_map.mp h3
    exact ⟨i, g, r, h1, hr, by rw [← e, Nat.zero_add]; rfl⟩
  · rintro ⟨i, g, r, h1, h2, rfl⟩
    have h3 : ((i : Int) :: r) ∈ (g.sp ([] ++ [((0 + i : Nat) : Int)])).map (·.1) := by
      rw [sp_fst, Nat.zero_add]
      exact List.mem_map.mpr ⟨r, h2, rfl⟩
    obtain ⟨x, hx, e⟩ := List.mem_map.mp h3
    exact List.mem_map.mpr ⟨x, (mem_sps _ _ _ _).mpr ⟨i, g, h1, hx⟩, e⟩
theorem at_step {f g : Fm} {i : Nat} {r : List Int} (h : f.parts[i]? = some g) : f.at? ((i : Int) :: r) = g.at? r := by
  show (if (0 : Int) ≤ i then (f.parts[((i : Int)).toNat]?).bind fun g => g.at? r else none) = _
  rw [if_pos (by omega), Int.toNat_natCast, h]; rfl
theorem spl_at : ∀ (p : List Int) (f : Fm), p ∈ spl f → ∃ h, f.at? p = some h
  | [], f, _ => ⟨f, rfl⟩
  | k :: r, f, h => by
    rcases mem_spl.mp h with (z | ⟨i, g, r', h1, h2, e⟩)
    · cases z
    · cases e
      rw [at_step h1]
      exact spl_at r g h2
mutual
theorem blot_still (gs : List Fm) : ∀ f : Fm, (∀ p ∈ spl f, ∀ h, f.at? p = some h → touchedB gs h = false) → blotF gs f = f
  | .op, _ => by rw [blotF]
  | .nd n ps, hu => by
    have e : blotFs gs ps = ps := blots_still gs ps fun i g hi p hp h ha => hu ((i : Int) :: p) (mem_spl.mpr (.inr ⟨i, g, p, hi, hp, rfl⟩)) h (by rw [at_step (f := .nd n ps) hi]; exact ha)
    have ht := hu [] (mem_spl.mpr (.inl rfl)) (.nd n ps) rfl
    rw [blotF, e]
    unfold keepA
    have hn : firstA gs (.nd n ps) = none := by
      show gs.findIdx? _ = none
      rw [List.findIdx?_eq_none_iff]
      intro s hs
      have h' : (gs.any fun g => g.agr (.nd n ps)) = false := by simpa [touchedB, Fm.isOp] using ht
      rw [List.any_eq_false] at h'
      simpa using h' s hs
    rw [hn]
theorem blots_still (gs : List Fm) : ∀ ps : List Fm, (∀ (i : Nat) (g : Fm), ps[i]? = some g → ∀ p ∈ spl g, ∀ h, g.at? p = some h → touchedB gs h = false) → blotFs gs ps = ps
  | [], _ => by rw [blotFs]
  | f :: r, hu => by
    rw [blotFs, blot_still gs f (hu 0 f rfl), blots_still gs r fun i g hi => hu (i + 1) g hi]
end
mutual
/-- the places that are not OPEN -/
def Fm.nds : Fm → Nat
  | .op => 0
  | .nd _ ps => 1 + Fm.ndss ps
def Fm.ndss : List Fm → Nat
  | [] => 0
  | f :: r => f.nds + Fm.ndss r
end
theorem ndss_eq : ∀ ps, Fm.ndss ps = (ps.map Fm.nds).sum
  | [] => by simp [Fm.ndss]
  | f :: r => by rw [Fm.ndss, ndss_eq r]; rfl
theorem ndss_set : ∀ (ps : List Fm) (i : Nat) (g x : Fm), ps[i]? = some g → Fm.ndss (ps.set i x) + g.nds = Fm.ndss ps + x.nds
  | [], _, _, _, h => by simp at h
  | f :: r, 0, g, x, h => by
    have e : f = g := by simpa using h
    subst e
    simp only [List.set_cons_zero, Fm.ndss]; omega
  | f :: r, i + 1, g, x, h => by
    have ih := ndss_set r i g x (by simpa using h)
    simp only [List.set_cons_succ, Fm.ndss]; omega
theorem put_nds : ∀ (p : List Int) (f h : Fm), f.at? p = some h → (f.put p .op).nds + h.nds = f.nds
  | [], f, h, e => by cases e; simp [Fm.put, Fm.nds]
  | i :: r, f, h, e => by
    obtain ⟨n, ps, h', rfl, h0, e1, e2⟩ := at_cons e
    have e3 : (Fm.nd n ps).put (i :: r) .op = .nd n (ps.set i.toNat (h'.put r .op)) := by
      show (match ps[i.toNat]? with | some h => _ | none => _) = _
      rw [e1]
    have ih := put_nds r h' h e2
    have hs := ndss_set ps i.toNat h' (h'.put r .op) e1
    rw [e3, Fm.nds, Fm.nds]
    omega

theorem mem_set' {α : Type} {l : List α} {i : Nat} {x y : α} (h : y ∈ l.set i x) : y ∈ l ∨ y = x := List.mem_or_eq_of_mem_set h
theorem deps_of {D : Nat} : ∀ (ps : List Fm), (∀ g ∈ ps, g.dep ≤ D) → Fm.deps ps ≤ D
  | [], _ => by rw [Fm.deps]; exact Nat.zero_le _
  | f :: r, h => by
    rw [Fm.deps]
    exact Nat.max_le.mpr ⟨h f List.mem_cons_self, deps_of r fun g hg => h g (List.mem_cons_of_mem _ hg)⟩
theorem sizes_set : ∀ (ps : List Fm) (i : Nat) (g x : Fm), ps[i]? = some g → Fm.sizes (ps.set i x) + g.size = Fm.sizes ps + x.size
  | [], _, _, _, h => by simp at h
  | f :: r, 0, g, x, h => by
    have e : f = g := by simpa using h
    subst e
    simp only [List.set_cons_zero, Fm.sizes]; omega
  | f :: r, i + 1, g, x, h => by
    have ih := sizes_set r i g x (by simpa using h)
    simp only [List.set_cons_succ, Fm.sizes]; omega
theorem put_ok : ∀ (p : List Int) (f h : Fm), f.at? p = some h → f.ok = true → (f.put p .op).ok = true ∧ (f.put p .op).dep ≤ f.dep ∧ (f.put p .op).size ≤ f.size ∧ h.ok = true ∧ h.dep ≤ f.dep
  | [], f, h, e, ho => by
    cases e
    refine ⟨by simp [Fm.put, Fm.ok], ?_, ?_, ho, Nat.le_refl _⟩
    · have := dep_pos f; simp only [Fm.put, Fm.dep]; omega
    · have := size_pos f; simp only [Fm.put, Fm.size]; omega
  | i :: r, f, h, e, ho => by
    obtain ⟨n, ps, h', rfl, h0, e1, e2⟩ := at_cons e
    have e3 : (Fm.nd n ps).put (i :: r) .op = .nd n (ps.set i.toNat (h'.put r .op)) := by
      show (match ps[i.toNat]? with | some h => _ | none => _) = _
      rw [e1]
    simp only [Fm.ok, Bool.and_eq_true, decide_eq_true_eq] at ho
    have hm := List.mem_of_getElem? e1
    obtain ⟨a, b, c, d, e4⟩ := put_ok r h' h e2 ((oks_all ps).mp ho.2 h' hm)
    have hd := deps_le ps h' hm
    have hs := sizes_set ps i.toNat h' (h'.put r .op) e1
    rw [e3]
    refine ⟨?_, ?_, ?_, d, ?_⟩
    · simp only [Fm.ok, Bool.and_eq_true, decide_eq_true_eq, List.length_set]
      refine ⟨ho.1, (oks_all _).mpr fun g hg => ?_⟩
      rcases mem_set' hg with (z | z)
      · exact (oks_all ps).mp ho.2 g z
      · rw [z]; exact a
    · rw [Fm.dep, Fm.dep]
      refine Nat.succ_le_succ (deps_of _ fun g hg => ?_)
      rcases mem_set' hg with (z | z)
      · exact deps_le ps g z
      · rw [z]; omega
    · rw [Fm.size, Fm.size]; omega
    · rw [Fm.dep]; omega
theorem lpl_lay : ∀ ps : List (List Int), PyData.canLayAll0 (ps.map plD) = true
  | [] => by simp [PyData.canLayAll0]
  | p :: r => by
    simp only [List.map_cons, PyData.canLayAll0, Bool.and_eq_true]
    exact ⟨by unfold plD; simp only [PyData.canLay0]; exact pl_lay p, lpl_lay r⟩
theorem lpl_depth : ∀ ps : List (List Int), PyData.depthAll (ps.map plD) ≤ 3
  | [] => by simp [PyData.depthAll]
  | p :: r => by
    have h1 := pl_depth p
    have h2 := lpl_depth r
    have e : PyData.depth (plD p) = PyData.depth (.tuple (p.map PyData.int)) := rfl
    simp only [List.map_cons, PyData.depthAll, e, PyData.depth]
    omega
theorem sh_lpl (ps : List (List Int)) : SeqAt.shaped (.list (ps.map plD)) = true := by
  have h1 := lpl_lay ps
  have h2 := lpl_depth ps
  unfold SeqAt.shaped
  simp only [PyData.canLay0, h1, Bool.true_and]
  exact decide_eq_true (by simp only [PyData.depth]; omega)
def hitB (gs : List Fm) (g : Fm) (p : List Int) : Bool := match g.at? p with
  | some h => touchedB gs h
  | none => false
section
variable {P : Program} {w : World} {K : PySem.W.Frag} {T : Tbs} {mg : Str → Option Value} {base : Heap} {f : Addr} {fd : FuncData}
abbrev s__law_blot : Stmt := topS 52
theorem sc__law_blot : FnScope ["page_so", "leaf", "left_so", "lap", "hit_so", "spot_so"] ["page_so", "leaf"] (defScope s__law_blot) := ⟨rfl, rfl, rfl, by decide +kernel, rfl, by decide +kernel, by decide +kernel⟩
def cLBlot : CT := fun ss P => ∃ (gs : List Fm) (f : Fm), ss = [.d (sidesD gs), .d f.d] ∧ Sides gs ∧ f.Fit ∧ f.size ≤ 900000 ∧ f.nds < 400 ∧ P (.d (blotF gs f).d) [.no, .no]
theorem ok__law_blot (B : BI mg) (h__law_touched : Fnd P w K T mg base 61 "_law_touched" ["page_so", "leaf"] cTouched) (h__law_at : Fnd P w K T mg base 1 "_law_at" ["leaf", "spot_so"] cAt)
    (h__law_spots : Fnd P w K T mg base 60 "_law_spots" ["leaf"] (cLSpots 60)) (h__law_put : Fnd P w K T mg base 60 "_law_put" ["leaf", "spot_so", "fresh_so"] (cPut 60)) (F : Fun K "_law_blot" "_law_blot" s__law_blot f fd) (b : Binds K fd ["page_so", "leaf"] []) (m : mg "_law_blot" = some (.ref f)) : Fnd P w K T mg base 62 "_law_blot" ["page_so", "leaf"] cLBlot := by
  refine fn_d F sc__law_blot b m [] (by decide) fun cdv A outer s H E hr => ?_
  refine ⟨_, (dss_cons (ds_set (i := 2) (fun te h => ps_set sc__law_blot.nd rfl (Or.inr rfl) h) (de_var 1 (pv 1))) (dss_cons (ds_for PassesOwn.never rfl (di_range1 rfl B.range de_int) (dg_name (i := 3) (pg_name sc__law_blot.nd rfl (Or.inl rfl))) (dss_cons (ds_setLc (i := 4) (own := [("spot_so", 5)]) rfl sc__law_blot.nd rfl rfl (sw_true rfl rfl rfl (by decide +kernel)) (di_seq (de_call (h__law_spots.mono (by omega)) hr (da_cons (de_var 2 (pv 2)) da_nil))) (blkOk_by (N := ["page_so", "leaf", "left_so", "lap", "hit_so", "spot_so"]) (sc := (defScope s__law_blot)) (by decide +kernel)) (by decide) (fun _ => (dg_name (i := 5) (pg_name sc__law_blot.nd rfl (Or.inl rfl)))) (fun _ => (dts_one (dt_truth (de_call (h__law_touched.mono (by omega)) hr (da_cons (de_var 0 (pv 0)) (da_cons (de_call (h__law_at.mono (by omega)) hr (da_cons (de_var 2 (pv 2)) (da_cons (de_var 5 (pv 5)) da_nil))) da_nil)))))) (fun _ => (de_var 5 (pv 5)))) (dss_cons (ds_if (dt_eq hr.units (de_var 4 (pv 4)) (de_lst da_nil)) (dss_one (ds_ret (de_var 2 (pv 2)))) dss_nil) (dss_one (ds_set (i := 2) (fun te h => ps_set sc__law_blot.nd rfl (Or.inr rfl) h) (de_call (h__law_put.mono (by omega)) hr (da_cons (de_var 2 (pv 2)) (da_cons (de_item (de_var 4 (pv 4)) de_int) (da_cons (de_tup da_nil) da_nil))))))))) (dss_one (ds_ret (de_var 2 (pv 2)))))), ?_⟩
  rintro ss Q _ ⟨gs, f, e, hs, hf, hz, hn, q⟩
  subst e
  refine ⟨400, rfl, ⟨by decide, by decide⟩, ?_⟩
  refine ⟨fun i Γ => ∃ (g : Fm) (a b : SV), Γ = [.d (sidesD gs), .d f.d, .d g.d, a, b, .no] ∧ g.Fit ∧ g.size ≤ f.size ∧ blotF gs g = blotF gs f ∧ g.nds + i ≤ f.nds, ⟨f, _, _, rfl, hf, Nat.le_refl _, rfl, Nat.le_refl _⟩, ?_, ?_⟩
  · rintro i x Γ hx ⟨g, a, b, rfl, hg, hgz, hgb, hgn⟩
    have hdep := hg.dep
    refine ⟨rfl, g, rfl, hdep, by omega, ⟨_, rfl, ?_⟩⟩
    refine ⟨fun j acc Γ => acc = (((spl g).take j).filter (hitB gs g)).map plD ∧ Γ = [.d (sidesD gs), .d f.d, .d g.d, .d x, b, .no], ⟨rfl, rfl⟩, ?_, ?_⟩
    · rintro j y acc Γ hy ⟨rfl, rfl⟩
      rw [List.getElem?_map] at hy
      obtain ⟨p, hp, rfl⟩ := Option.map_eq_some_iff.mp hy
      have hm := List.mem_of_getElem? hp
      obtain ⟨h, ha⟩ := spl_at p g hm
      have hj := (List.getElem?_eq_some_iff.mp hp).1
      rw [spl_len] at hj
      have hfl := List.length_filter_le (hitB gs g) ((spl g).take j)
      rw [List.length_take] at hfl
      obtain ⟨_, _, _, ho, hd⟩ := put_ok p g h ha hg.ok
      have hhit : hitB gs g p = touchedB gs h := by unfold hitB; rw [ha]
      refine ⟨rfl, g, h, p, rfl, ha, ?_⟩
      refine ⟨rfl, gs, h, rfl, hs, ⟨ho, by omega⟩, _, rfl, ?_⟩
      show if touchedB gs h = true then _ else _
      cases ht : touchedB gs h with
      | true =>
        rw [if_pos rfl]
        rw [ht] at hhit
        exact ⟨_, rfl, szl (by rw [List.length_map]; omega), by rw [take_one hp, List.filter_append]; simp [hhit], rfl⟩
      | false =>
        rw [if_neg Bool.false_ne_true]
        rw [ht] at hhit
        exact ⟨by rw [take_one hp, List.filter_append]; simp [hhit], rfl⟩
    · rintro acc Γ ⟨rfl, rfl⟩
      rw [List.length_map, List.take_length]
      refine ⟨_, rfl, sz 0, ⟨_, _, rfl, rfl, sh_lpl _, sh_nil, _, rfl, ?_⟩⟩
      rw [ev_lnil]
      cases hh : (spl g).filter (hitB gs g) with
      | nil =>
        have still : blotF gs g = g := blot_still gs g fun p hp h ha => by
          have := (List.filter_eq_nil_iff.mp hh) p hp
          unfold hitB at this
          rw [ha] at this
          simpa using this
        rw [← hgb, still] at q
        exact q
      | cons p r =>
        have hpm : p ∈ (spl g).filter (hitB gs g) := by rw [hh]; exact List.mem_cons_self
        obtain ⟨hps, hpt⟩ := List.mem_filter.mp hpm
        obtain ⟨h, ha⟩ := spl_at p g hps
        have ht : touchedB gs h = true := by unfold hitB at hpt; rw [ha] at hpt; exact hpt
        have hpl := spl_dep hps
        obtain ⟨o1, o2, o3, _, _⟩ := put_ok p g h ha hg.ok
        have hnd := put_nds p g h ha
        have hpos : 0 < h.nds := by
          cases h with
          | op => simp [touchedB, Fm.isOp] at ht
          | nd n ps => rw [Fm.nds]; omega
        refine ⟨_, plD p, rfl, atI_zero, ?_⟩
        refine ⟨_, rfl, sz 0, ?_⟩
        refine ⟨rfl, g, .op, h, p, rfl, ha, by omega, by omega, by omega, ?_⟩
        exact ⟨g.put p .op, _, _, rfl, ⟨o1, by omega⟩, by omega, (put_blot gs p g h ha (touched_blot ht)).trans hgb, by omega⟩
  · rintro Γ ⟨g, a, b, rfl, hg, hgz, hgb, hgn⟩
    rw [rgD_len] at hgn
    exact absurd hgn (by show ¬ (g.nds + 400 ≤ f.nds); omega)
end

theorem seqIx {r : Int} {n : Nat} (h0 : 0 ≤ r) (h1 : r < n) : seqIndex? r n = some r.toNat := by
  unfold seqIndex?
  simp
  omega
section
variable {P : Program} {w : World} {K : PySem.W.Frag} {T : Tbs} {mg : Str → Option Value} {base : Heap} {f : Addr} {fd : FuncData}
abbrev s__law_pick : Stmt := topS 41
theorem sc__law_pick : FnScope ["tin", "goods_so", "count_so", "pool_so", "found", "lap"] ["tin", "goods_so", "count_so"] (defScope s__law_pick) := ⟨rfl, rfl, rfl, by decide +kernel, rfl, by decide +kernel, by decide +kernel⟩
abbrev s__law_three : Stmt := topS 60
theorem sc__law_three : FnScope ["one_so", "two_so"] [] (defScope s__law_three) := ⟨rfl, rfl, rfl, by decide +kernel, rfl, by decide +kernel, by decide +kernel⟩
def cPick : CT := fun ss P => ∃ (xs gs : List PyData) (s2 : SV) (c n : Nat), ss = [.m xs, s2, .d (.int c)] ∧ SeqIs s2 gs ∧ Tin (n + c) xs ∧ gs.length ≤ 1000000 ∧ c ≤ 1000000 ∧ ∀ found xs', (∀ x ∈ found, x ∈ gs) → found.length ≤ c → Tin n xs' → P (.m found) [.m xs', .no, .no]
def cPick0 : CT := fun ss P => ∃ (xs gs : List PyData) (s2 : SV) (c n : Nat), ss = [.m xs, s2, .d (.int c)] ∧ (s2 = .d (.list gs) ∨ s2 = .d (.tuple gs)) ∧ Tin (n + c) xs ∧ gs.length ≤ 1000000 ∧ c ≤ 1000000 ∧ ∀ found xs', (∀ x ∈ found, x ∈ gs) → found.length ≤ c → Tin n xs' → P (.m found) [.m xs', .no, .no]
theorem ok__law_pick (B : BI mg) (h__law_take : Fnd P w K T mg base 1 "_law_take" ["tin", "below_so"] cTake) (F : Fun K "_law_pick" "_law_pick" s__law_pick f fd) (b : Binds K fd ["tin", "goods_so", "count_so"] []) (m : mg "_law_pick" = some (.ref f)) : Fnd P w K T mg base 2 "_law_pick" ["tin", "goods_so", "count_so"] cPick := by
  have h0 : Fnd P w K T mg base 2 "_law_pick" ["tin", "goods_so", "count_so"] cPick0 := by
    refine fn_d F sc__law_pick b m [0] (by decide) fun cdv A outer s H E hr => ?_
    refine ⟨_, (dss_cons (ds_par (i := 3) (j := 4) (fun ta tb h1 h2 => ps_par rfl sc__law_pick.nd rfl rfl (by decide) rfl rfl (pa_cons h1 (pa_cons h2 pa_nil)) (by rfl)) (de_lstOf B.list (da_cons (de_var 1 (pv 1)) da_nil)) (de_lst da_nil)) (dss_cons (ds_for PassesOwn.never rfl (di_range1 rfl B.range (de_min2 B.min rfl (da_cons (de_intOf B.int (da_cons (de_var 2 (pv 2)) da_nil)) (da_cons (de_len B.len (da_cons (de_var 3 (pv 3)) da_nil)) da_nil)))) (dg_name (i := 5) (pg_name sc__law_pick.nd rfl (Or.inl rfl))) (dss_one (ds_expr (de_append (de_var 4 (pv 4)) (da_cons (de_popV 3 (pv 3) (da_cons (de_call (h__law_take.mono (by omega)) hr (da_cons (de_var 0 (pv 0)) (da_cons (de_len B.len (da_cons (de_var 3 (pv 3)) da_nil)) da_nil))) da_nil)) da_nil))))) (dss_one (ds_ret (de_var 4 (pv 4)))))), ?_⟩
    rintro ss Q _ ⟨xs, gs, s2, c, n, e, h2, ht, hl, hc, q⟩
    subst e
    rcases h2 with (rfl | rfl)
    all_goals (
      refine ⟨_, rfl, ⟨_, rfl, sz 0, ?_⟩⟩
      refine ⟨gs, rfl, ⟨_, rfl, ⟨by split <;> omega, by split <;> omega⟩, ?_⟩⟩
      refine ⟨fun i Γ => ∃ (s2 : SV) (pool found xs' : List PyData) (a : SV), Γ = [.m xs', s2, .d (.int c), .m pool, .m found, a] ∧ pool.length + i = gs.length ∧ (∀ x ∈ pool, x ∈ gs) ∧ (∀ x ∈ found, x ∈ gs) ∧ found.length = i ∧ Tin (n + (c - i)) xs', ⟨_, gs, [], xs, _, rfl, rfl, (fun x hx => hx), (fun x hx => by cases hx), rfl, ht⟩, ?_, ?_⟩
      · rintro i x Γ hx ⟨s2, pool, found, xs', a, rfl, h1, h2, h3, h4, h5⟩
        have hi := (List.getElem?_eq_some_iff.mp hx).1
        rw [rgD_len] at hi
        have hi2 : i < c ∧ i < gs.length := by
          split at hi <;> omega
        refine ⟨⟨_, rfl⟩, ⟨⟨_, rfl⟩, ⟨pool, rfl, ⟨rfl, xs', pool.length, n + (c - (i + 1)), rfl, h5.mono (by omega), by omega, by omega, fun r xs2 r0 r1 ht2 => ?_⟩⟩⟩⟩
        have hr : r.toNat < pool.length := by omega
        refine ⟨pool, rfl, ⟨r.toNat, pool[r.toNat], by omega, by omega, seqIx r0 r1, List.getElem?_eq_getElem hr, rfl, ?_⟩⟩
        refine ⟨_, rfl, szl (by omega), rfl, ?_⟩
        refine ⟨_, pool.eraseIdx r.toNat, found ++ [pool[r.toNat]], xs2, .d x, rfl, ?_, ?_, ?_, ?_, ht2⟩
        · rw [List.length_eraseIdx_of_lt hr]; omega
        · exact fun y hy => h2 y (List.mem_of_mem_eraseIdx hy)
        · intro y hy
          rcases List.mem_append.mp hy with (z | z)
          · exact h3 y z
          · rw [List.mem_singleton.mp z]; exact h2 _ (List.getElem_mem hr)
        · rw [List.length_append, h4]; rfl
      · rintro Γ ⟨s2, pool, found, xs', a, rfl, h1, h2, h3, h4, h5⟩
        rw [rgD_len] at h4 h5
        exact q found xs' h3 (by rw [h4]; split <;> omega) (h5.mono (by omega)))
  refine h0.soft.imp fun ss Q => ?_
  rintro ⟨xs, gs, s2, c, n, e, h2, ht, hl, hc, q⟩
  subst e
  rcases h2 with (rfl | rfl | rfl)
  · exact ⟨[.m xs, .d (.list gs), .d (.int c)], .cons (.inl rfl) (.cons (.inr rfl) (.cons (.inl rfl) .nil)), xs, gs, _, c, n, rfl, .inl rfl, ht, hl, hc, q⟩
  · exact ⟨_, .cons (.inl rfl) (.cons (.inl rfl) (.cons (.inl rfl) .nil)), xs, gs, _, c, n, rfl, .inl rfl, ht, hl, hc, q⟩
  · exact ⟨_, .cons (.inl rfl) (.cons (.inl rfl) (.cons (.inl rfl) .nil)), xs, gs, _, c, n, rfl, .inr rfl, ht, hl, hc, q⟩
/-- three SIDES that are tight -/
def three : List Fm := [.nd "f" [.op, .nd "a" [], .nd "b" []], .nd "f" [.nd "a" [], .nd "b" [], .op], .nd "f" [.nd "b" [], .op, .nd "a" []]]
def cThree : CT := fun ss P => ss = [] ∧ P (.d (sidesD three)) []
theorem ok__law_three (B : BI mg) (F : Fun K "_law_three" "_law_three" s__law_three f fd) (b : Binds K fd [] []) (m : mg "_law_three" = some (.ref f)) : Fnd P w K T mg base 1 "_law_three" [] cThree := by
  refine fn_d F sc__law_three b m [] (by decide) fun cdv A outer s H E hr => ?_
  refine ⟨_, (dss_cons (ds_asg (fun te g h1 h2 => ps_asg h1 h2) (de_tup (da_cons (de_tup (da_cons de_str da_nil)) (da_cons (de_tup (da_cons de_str da_nil)) da_nil))) (dg_tup (n := 2) rfl (dgs_cons (dg_name (i := 0) (pg_name sc__law_three.nd rfl (Or.inl rfl))) (dgs_cons (dg_name (i := 1) (pg_name sc__law_three.nd rfl (Or.inl rfl))) dgs_nil)))) (dss_one (ds_ret (de_tup (da_cons (de_tup (da_cons de_str (da_cons (de_tup da_nil) (da_cons (de_var 0 (pv 0)) (da_cons (de_var 1 (pv 1)) da_nil))))) (da_cons (de_tup (da_cons de_str (da_cons (de_var 0 (pv 0)) (da_cons (de_var 1 (pv 1)) (da_cons (de_tup da_nil) da_nil))))) (da_cons (de_tup (da_cons de_str (da_cons (de_var 1 (pv 1)) (da_cons (de_tup da_nil) (da_cons (de_var 0 (pv 0)) da_nil))))) da_nil))))))), ?_⟩
  rintro ss Q _ ⟨e, q⟩
  subst e
  walk_at "dl"
  exact ⟨sz 1, sz 1, sz 2, sz 0, sz 4, sz 0, sz 4, sz 0, sz 4, sz 3, q⟩
end

/-! ## NAMES that no drawn SIDE has -/
def wd (n : Str) : Bool := !(n == ("end" : Str)) && !(n == ("stop" : Str))
mutual
def Fm.noW : Fm → Bool
  | .op => true
  | .nd n ps => wd n && Fm.noWs ps
def Fm.noWs : List Fm → Bool
  | [] => true
  | f :: r => f.noW && Fm.noWs r
end
theorem noWs_all : ∀ ps : List Fm, Fm.noWs ps = true ↔ ∀ f ∈ ps, f.noW = true
  | [] => by simp [Fm.noWs]
  | f :: r => by simp [Fm.noWs, noWs_all r]
theorem at_noW : ∀ (p : List Int) (f g : Fm), f.at? p = some g → f.noW = true → g.noW = true
  | [], f, g, e, h => by cases e; exact h
  | i :: r, f, g, e, h => by
    obtain ⟨n, ps, h', rfl, h0, e1, e2⟩ := at_cons e
    rw [Fm.noW, Bool.and_eq_true] at h
    exact at_noW r h' g e2 ((noWs_all ps).mp h.2 h' (List.mem_of_getElem? e1))
/-- what a drawn SIDE is -/
structure Drawn (f : Fm) (z d : Nat) : Prop where
  nop : f.isOp = false
  ok : f.ok = true
  size : f.size ≤ z
  dep : f.dep ≤ d
  nw : f.noW = true
structure DrawnG (f : Fm) (z d : Nat) : Prop where
  nop : f.isOp = false
  ok : f.ok = true
  size : f.size ≤ z
  dep : f.dep ≤ d
section
variable {P : Program} {w : World} {K : PySem.W.Frag} {T : Tbs} {mg : Str → Option Value} {base : Heap} {f : Addr} {fd : FuncData}
abbrev s__law_side : Stmt := topS 58
theorem sc__law_side : FnScope ["tin", "word_so", "many_so", "bits_so", "k", "small_so"] ["tin"] (defScope s__law_side) := ⟨rfl, rfl, rfl, by decide +kernel, rfl, by decide +kernel, by decide +kernel⟩
def cSide : CT := fun ss P => ∃ (xs : List PyData) (n : Nat), ss = [.m xs] ∧ Tin (n + 7) xs ∧ ∀ f xs', Drawn f 10 4 → Tin n xs' → P (.d f.d) [.m xs']
theorem ok__law_side (B : BI mg) (h__law_of : Fnd P w K T mg base 2 "_law_of" ["tin", "goods_so"] cOf) (F : Fun K "_law_side" "_law_side" s__law_side f fd) (b : Binds K fd ["tin"] []) (m : mg "_law_side" = some (.ref f)) : Fnd P w K T mg base 3 "_law_side" ["tin"] cSide := by
  refine fn_d F sc__law_side b m [0] (by decide) fun cdv A outer s H E hr => ?_
  refine ⟨_, (dss_cons (ds_asg (fun te g h1 h2 => ps_asg h1 h2) (de_call (h__law_of.mono (by omega)) hr (da_cons (de_var 0 (pv 0)) (da_cons (de_lst (da_cons (de_tup (da_cons de_str (da_cons de_int da_nil))) (da_cons (de_tup (da_cons de_str (da_cons de_int da_nil))) (da_cons (de_tup (da_cons de_str (da_cons de_int da_nil))) (da_cons (de_tup (da_cons de_str (da_cons de_int da_nil))) da_nil))))) da_nil))) (dg_tup (n := 2) rfl (dgs_cons (dg_name (i := 1) (pg_name sc__law_side.nd rfl (Or.inl rfl))) (dgs_cons (dg_name (i := 2) (pg_name sc__law_side.nd rfl (Or.inl rfl))) dgs_nil)))) (dss_cons (ds_set (i := 3) (fun te h => ps_set sc__law_side.nd rfl (Or.inl rfl) h) (de_lst da_nil)) (dss_cons (ds_for PassesOwn.never rfl (di_range1 rfl B.range (de_var 2 (pv 2))) (dg_name (i := 4) (pg_name sc__law_side.nd rfl (Or.inl rfl))) (dss_cons (ds_set (i := 5) (fun te h => ps_set sc__law_side.nd rfl (Or.inl rfl) h) (de_call (h__law_of.mono (by omega)) hr (da_cons (de_var 0 (pv 0)) (da_cons (de_lst (da_cons (de_tup da_nil) (da_cons (de_tup (da_cons de_str da_nil)) (da_cons (de_tup (da_cons de_str da_nil)) da_nil)))) da_nil)))) (dss_one (ds_expr (de_append (de_var 3 (pv 3)) (da_cons (de_call (h__law_of.mono (by omega)) hr (da_cons (de_var 0 (pv 0)) (da_cons (de_lst (da_cons (de_tup da_nil) (da_cons (de_tup da_nil) (da_cons (de_tup da_nil) (da_cons (de_tup (da_cons de_str da_nil)) (da_cons (de_tup (da_cons de_str da_nil)) (da_cons (de_tup (da_cons de_str da_nil)) (da_cons (de_tup (da_cons de_str (da_cons (de_var 5 (pv 5)) da_nil))) (da_cons (de_tup (da_cons de_str (da_cons (de_var 5 (pv 5)) da_nil))) da_nil))))))))) da_nil))) da_nil)))))) (dss_one (ds_ret (de_add (de_tup (da_cons (de_var 1 (pv 1)) da_nil)) (de_tupOf B.tuple (da_cons (de_var 3 (pv 3)) da_nil)))))))), ?_⟩
  rintro ss Q _ ⟨xs, n, e, ht, q⟩
  subst e
  walk_at "dl"
  refine ⟨sz 2, sz 2, sz 2, sz 2, sz 4, xs, _, _, n + 6, rfl, .inl rfl, ht, by simp, by simp, fun g xs1 hg ht1 => ?_⟩
  have hgm : ∃ (nm : Str) (m : Nat), g = .tuple [.str nm, .int m] ∧ (nmOk nm = true ∧ wd nm = true) ∧ 1 ≤ m ∧ m ≤ 3 := by
    simp only [List.mem_cons, List.mem_nil_iff, or_false] at hg
    rcases hg with (e | e | e | e)
    · exact ⟨"f", 2, e, ⟨by decide +kernel, by decide +kernel⟩, by decide, by decide⟩
    · exact ⟨"f", 2, e, ⟨by decide +kernel, by decide +kernel⟩, by decide, by decide⟩
    · exact ⟨"k", 3, e, ⟨by decide +kernel, by decide +kernel⟩, by decide, by decide⟩
    · exact ⟨"h", 1, e, ⟨by decide +kernel, by decide +kernel⟩, by decide, by decide⟩
  obtain ⟨nm, m, rfl, ⟨hnm, hwd⟩, hm1, hm3⟩ := hgm
  refine ⟨_, rfl, _, rfl, rfl, _, _, rfl, _, _, rfl, rfl, sz 0, _, rfl, ⟨by omega, by omega⟩, ?_⟩
  refine ⟨fun i Γ => ∃ (fs : List Fm) (xs' : List PyData) (a b : SV), Γ = [.m xs', .d (.str nm), .d (.int m), .m (fs.map Fm.d), a, b] ∧ fs.length = i ∧ (∀ f ∈ fs, (f.ok = true ∧ f.noW = true) ∧ f.size ≤ 2 ∧ f.dep ≤ 2) ∧ Tin (n + 2 * (m - i)) xs', ⟨[], xs1, _, _, rfl, rfl, (fun f hf => by cases hf), ht1.mono (by omega)⟩, ?_, ?_⟩
  · rintro i x Γ hx ⟨fs, xs2, a, b, rfl, hl, hf, ht2⟩
    have hi := (List.getElem?_eq_some_iff.mp hx).1
    rw [rgD_len, Int.toNat_natCast] at hi
    refine ⟨_, rfl, sz 0, ⟨_, rfl, sz 1, ⟨_, rfl, sz 1, ⟨_, rfl, sz 3, ?_⟩⟩⟩⟩
    refine ⟨rfl, xs2, _, _, n + 2 * (m - (i + 1)) + 1, rfl, .inl rfl, ht2.mono (by omega), by simp, by simp, fun g1 xs3 hg1 ht3 => ?_⟩
    have h1 : ∃ s : Fm, g1 = s.d ∧ (s.ok = true ∧ s.noW = true) ∧ s.size = 1 ∧ s.dep = 1 := by
      simp only [List.mem_cons, List.mem_nil_iff, or_false] at hg1
      rcases hg1 with (e | e | e)
      · exact ⟨.op, e, ⟨rfl, rfl⟩, rfl, rfl⟩
      · exact ⟨.nd "a" [], e, ⟨by decide +kernel, by decide +kernel⟩, rfl, rfl⟩
      · exact ⟨.nd "b" [], e, ⟨by decide +kernel, by decide +kernel⟩, rfl, rfl⟩
    obtain ⟨s, rfl, ⟨s1, sw⟩, s2, s3⟩ := h1
    refine ⟨⟨_, rfl⟩, ⟨_, rfl, sz 0, ⟨_, rfl, sz 0, ⟨_, rfl, sz 0, ⟨_, rfl, sz 1, ⟨_, rfl, sz 1, ⟨_, rfl, sz 1, ⟨_, rfl, sz 2, ⟨_, rfl, sz 2, ⟨_, rfl, sz 8, ?_⟩⟩⟩⟩⟩⟩⟩⟩⟩⟩
    refine ⟨rfl, xs3, _, _, n + 2 * (m - (i + 1)), rfl, .inl rfl, ht3, by simp, by simp, fun g2 xs4 hg2 ht4 => ?_⟩
    have h2 : ∃ t : Fm, g2 = t.d ∧ (t.ok = true ∧ t.noW = true) ∧ t.size ≤ 2 ∧ t.dep ≤ 2 := by
      have one : ∀ c : Str, nmOk c = true → wd c = true → ∃ t : Fm, PyData.tuple [PyData.str c, s.d] = t.d ∧ (t.ok = true ∧ t.noW = true) ∧ t.size ≤ 2 ∧ t.dep ≤ 2 := fun c hc hw =>
        ⟨.nd c [s], by simp [Fm.d, Fm.ds], ⟨by simp [Fm.ok, Fm.oks, hc, s1], by simp [Fm.noW, Fm.noWs, hw, sw]⟩, by simp [Fm.size, Fm.sizes, s2], by simp [Fm.dep, Fm.deps, s3]⟩
      simp only [List.mem_cons, List.mem_nil_iff, or_false] at hg2
      rcases hg2 with (e | e | e | e | e | e | e | e)
      · exact ⟨.op, e, ⟨rfl, rfl⟩, by decide, by decide⟩
      · exact ⟨.op, e, ⟨rfl, rfl⟩, by decide, by decide⟩
      · exact ⟨.op, e, ⟨rfl, rfl⟩, by decide, by decide⟩
      · exact ⟨.nd "a" [], e, ⟨by decide +kernel, by decide +kernel⟩, by decide, by decide⟩
      · exact ⟨.nd "b" [], e, ⟨by decide +kernel, by decide +kernel⟩, by decide, by decide⟩
      · exact ⟨.nd "a" [], e, ⟨by decide +kernel, by decide +kernel⟩, by decide, by decide⟩
      · rw [e]; exact one "g" (by decide +kernel) (by decide +kernel)
      · rw [e]; exact one "h" (by decide +kernel) (by decide +kernel)
    obtain ⟨t, rfl, t1, t2, t3⟩ := h2
    refine ⟨_, rfl, szl (by rw [List.length_map]; omega), rfl, ?_⟩
    refine ⟨fs ++ [t], xs4, .d x, .d s.d, by rw [List.map_append]; rfl, by rw [List.length_append, hl]; rfl, fun f hf' => ?_, ht4⟩
    rcases List.mem_append.mp hf' with (z | z)
    · exact hf f z
    · rw [List.mem_singleton.mp z]; exact ⟨t1, t2, t3⟩
  · rintro Γ ⟨fs, xs2, a, b, rfl, hl, hf, ht2⟩
    rw [rgD_len, Int.toNat_natCast] at hl ht2
    have hsz : ∀ l : List Fm, (∀ f ∈ l, (f.ok = true ∧ f.noW = true) ∧ f.size ≤ 2 ∧ f.dep ≤ 2) → (Fm.oks l = true ∧ Fm.noWs l = true) ∧ Fm.sizes l ≤ 2 * l.length ∧ Fm.deps l ≤ 2 := fun l => by
      induction l with
      | nil => intro _; simp [Fm.oks, Fm.noWs, Fm.sizes, Fm.deps]
      | cons a r ih =>
        intro h
        obtain ⟨⟨a1, aw⟩, a2, a3⟩ := h a List.mem_cons_self
        obtain ⟨⟨b1, bw⟩, b2, b3⟩ := ih fun f hf => h f (List.mem_cons_of_mem _ hf)
        refine ⟨⟨by simp only [Fm.oks, Bool.and_eq_true]; exact ⟨a1, b1⟩, by simp only [Fm.noWs, Bool.and_eq_true]; exact ⟨aw, bw⟩⟩, ?_, ?_⟩
        · rw [Fm.sizes, List.length_cons]; omega
        · rw [Fm.deps]; omega
    obtain ⟨⟨o1, ow⟩, o2, o3⟩ := hsz fs hf
    refine ⟨_, rfl, sz 1, ⟨_, rfl, ⟨sz _ (by rw [List.length_map, hl]; show 1 + m ≤ _; omega), ?_⟩⟩⟩
    have ed : PyData.tuple ([PyData.str nm] ++ fs.map Fm.d) = (Fm.nd nm fs).d := by rw [Fm.d, Fm.ds_eq]; rfl
    rw [ed]
    refine q (.nd nm fs) xs2 ⟨rfl, ?_, ?_, ?_, by rw [Fm.noW, hwd, ow]; rfl⟩ (ht2.mono (by omega))
    · simp only [Fm.ok, Bool.and_eq_true, decide_eq_true_eq]; exact ⟨⟨hnm, by omega⟩, o1⟩
    · rw [Fm.size]; omega
    · rw [Fm.dep]; omega
end

/-! ## drawn FORMS -/
/-- SIGNS: names and how many parts -/
def sgD (x : Str × Nat) : PyData := .tuple [.str x.1, .int (x.2 : Int)]
def Signs (l : List (Str × Nat)) : Prop := ∀ x ∈ l, nmOk x.1 = true ∧ x.2 ≤ 3
theorem deps_of' {D : Nat} : ∀ {ps : List Fm}, (∀ g ∈ ps, g.dep ≤ D) → Fm.deps ps ≤ D
  | [], _ => by rw [Fm.deps]; exact Nat.zero_le _
  | f :: r, h => by
    rw [Fm.deps]
    exact Nat.max_le.mpr ⟨h f List.mem_cons_self, deps_of' fun g hg => h g (List.mem_cons_of_mem _ hg)⟩
theorem sgl_lay : ∀ {l : List (Str × Nat)}, Signs l → PyData.canLayAll0 (l.map sgD) = true
  | [], _ => by simp [PyData.canLayAll0]
  | x :: r, h => by
    have h1 := nm_str (h x List.mem_cons_self).1
    have h2 := sgl_lay (l := r) fun y hy => h y (List.mem_cons_of_mem _ hy)
    simp [PyData.canLayAll0, PyData.canLay0, sgD, h1] at h2 ⊢
    exact h2
theorem sgl_depth : ∀ (l : List (Str × Nat)), PyData.depthAll (l.map sgD) ≤ 3
  | [] => by simp [PyData.depthAll]
  | x :: r => by
    have h2 := sgl_depth r
    simp only [List.map_cons, PyData.depthAll, sgD, PyData.depth] at h2 ⊢
    omega
theorem sh_sgl {l : List (Str × Nat)} (h : Signs l) : SeqAt.shaped (.list (l.map sgD)) = true := by
  have h1 := sgl_lay h
  have h2 := sgl_depth l
  unfold SeqAt.shaped
  simp only [PyData.canLay0, h1, Bool.true_and]
  exact decide_eq_true (by simp only [PyData.depth]; omega)
section
variable {P : Program} {w : World} {K : PySem.W.Frag} {T : Tbs} {mg : Str → Option Value} {base : Heap} {f : Addr} {fd : FuncData}
abbrev s__law_leaf : Stmt := topS 56
theorem sc__law_leaf : FnScope ["tin", "signs_so", "fuel_so", "deep_so", "small_so", "word_so", "many_so", "left_so", "bits_so", "k", "share_so", "own"] ["tin", "signs_so", "fuel_so", "deep_so"] (defScope s__law_leaf) := ⟨rfl, rfl, rfl, by decide +kernel, rfl, by decide +kernel, by decide +kernel⟩
def cLeaf (d : Nat) : CT := fun ss P => ∃ (xs : List PyData) (l : List (Str × Nat)) (fuel deep n : Nat), ss = [.m xs, .d (.list (l.map sgD)), .d (.int fuel), .d (.int deep)] ∧ Signs l ∧ l.length ≤ 1000 ∧ 1 ≤ fuel ∧ fuel ≤ 1000 ∧ deep < d ∧ Tin (n + 5 * fuel) xs ∧
  ∀ (f : Fm) (xs' : List PyData), f.ok = true → f.size ≤ fuel → f.dep ≤ deep + 1 → Tin n xs' → P (.d f.d) [.m xs', .no, .no, .no]
set_option maxHeartbeats 3000001 in
theorem ok__law_leaf (B : BI mg) (h__law_take : Fnd P w K T mg base 1 "_law_take" ["tin", "below_so"] cTake) (h__law_of : Fnd P w K T mg base 2 "_law_of" ["tin", "goods_so"] cOf) (F : Fun K "_law_leaf" "_law_leaf" s__law_leaf f fd) (b : Binds K fd ["tin", "signs_so", "fuel_so", "deep_so"] []) (m : mg "_law_leaf" = some (.ref f)) : ∀ d, Fnd P w K T mg base (2 + d) "_law_leaf" ["tin", "signs_so", "fuel_so", "deep_so"] (cLeaf d)
  | 0 => (Fnd.zero F b m fun ss Q ⟨_, _, _, deep, _, _, _, _, _, _, h, _⟩ => absurd h (Nat.not_lt_zero _)).mono (Nat.zero_le _)
  | d + 1 => by
    have h__law_leaf := ok__law_leaf B h__law_take h__law_of F b m d
    show Fnd P w K T mg base ((2 + d) + 1) _ _ _
    refine fn_d F sc__law_leaf b m [0] (by decide) fun cdv A outer s H E hr => ?_
    refine ⟨_, (dss_cons (ds_setLc (i := 4) (own := [("own", 11)]) rfl sc__law_leaf.nd rfl rfl (sw_true rfl rfl rfl (by decide +kernel)) (di_seq (de_var 1 (pv 1))) (blkOk_by (N := ["tin", "signs_so", "fuel_so", "deep_so", "small_so", "word_so", "many_so", "left_so", "bits_so", "k", "share_so", "own"]) (sc := (defScope s__law_leaf)) (by decide +kernel)) (by decide) (fun _ => (dg_name (i := 11) (pg_name sc__law_leaf.nd rfl (Or.inl rfl)))) (fun _ => (dts_one (dw_pt (dw_and (dt_lt (de_item (de_var 11 (pv 11)) de_int) (de_var 2 (pv 2))) (dw_and1 (dw_pt (dw_or (dt_gt (de_var 3 (pv 3)) de_int) (dw_or1 (dt_eq hr.units (de_item (de_var 11 (pv 11)) de_int) de_int))))))))) (fun _ => (de_var 11 (pv 11)))) (dss_cons (ds_if (dw_pt (dw_or (dt_eq hr.units (de_call (h__law_take.mono (by omega)) hr (da_cons (de_var 0 (pv 0)) (da_cons de_int da_nil))) de_int) (dw_or1 (dt_eq hr.units (de_var 4 (pv 4)) (de_lst da_nil))))) (dss_one (ds_ret (de_tup da_nil))) dss_nil) (dss_cons (ds_asg (fun te g h1 h2 => ps_asg h1 h2) (de_call (h__law_of.mono (by omega)) hr (da_cons (de_var 0 (pv 0)) (da_cons (de_var 4 (pv 4)) da_nil))) (dg_tup (n := 2) rfl (dgs_cons (dg_name (i := 5) (pg_name sc__law_leaf.nd rfl (Or.inl rfl))) (dgs_cons (dg_name (i := 6) (pg_name sc__law_leaf.nd rfl (Or.inl rfl))) dgs_nil)))) (dss_cons (ds_par (i := 7) (j := 8) (fun ta tb h1 h2 => ps_par rfl sc__law_leaf.nd rfl rfl (by decide) rfl rfl (pa_cons h1 (pa_cons h2 pa_nil)) (by rfl)) (de_sub (de_var 2 (pv 2)) de_int) (de_lst da_nil)) (dss_cons (ds_for PassesOwn.never rfl (di_range1 rfl B.range (de_var 6 (pv 6))) (dg_name (i := 9) (pg_name sc__law_leaf.nd rfl (Or.inl rfl))) (dss_cons (ds_set (i := 10) (fun te h => ps_set sc__law_leaf.nd rfl (Or.inl rfl) h) (de_add de_int (de_call (h__law_take.mono (by omega)) hr (da_cons (de_var 0 (pv 0)) (da_cons (de_sub (de_var 7 (pv 7)) (de_sub (de_sub (de_var 6 (pv 6)) (de_var 9 (pv 9))) de_int)) da_nil))))) (dss_cons (ds_expr (de_append (de_var 8 (pv 8)) (da_cons (de_call (h__law_leaf.mono (by omega)) hr (da_cons (de_var 0 (pv 0)) (da_cons (de_var 1 (pv 1)) (da_cons (de_var 10 (pv 10)) (da_cons (de_sub (de_var 3 (pv 3)) de_int) da_nil))))) da_nil))) (dss_one (ds_set (i := 7) (fun te h => ps_set sc__law_leaf.nd rfl (Or.inl rfl) h) (de_sub (de_var 7 (pv 7)) (de_var 10 (pv 10)))))))) (dss_one (ds_ret (de_add (de_tup (da_cons (de_var 5 (pv 5)) da_nil)) (de_tupOf B.tuple (da_cons (de_var 8 (pv 8)) da_nil)))))))))), ?_⟩
    rintro ss Q _ ⟨xs, l, fuel, deep, n, e, hs, hl, hf1, hf2, hd, ht, q⟩
    subst e
    refine ⟨_, rfl, ⟨fun i acc Γ => ∃ l' : List (Str × Nat), acc = l'.map sgD ∧ l'.length ≤ i ∧ (∀ x ∈ l', x ∈ l ∧ x.2 < fuel ∧ (deep = 0 → x.2 = 0)) ∧ Γ = [.m xs, .d (.list (l.map sgD)), .d (.int fuel), .d (.int deep), .no, .no, .no, .no, .no, .no, .no, .no], ⟨[], rfl, Nat.le_refl _, (fun x hx => by cases hx), rfl⟩, ?_, ?_⟩⟩
    · rintro i x acc Γ hx ⟨l', rfl, h1, h2, rfl⟩
      rw [List.getElem?_map] at hx
      obtain ⟨⟨nm, c⟩, hc, rfl⟩ := Option.map_eq_some_iff.mp hx
      have hm := List.mem_of_getElem? hc
      have hi := (List.getElem?_eq_some_iff.mp hc).1
      have next : ∃ l'' : List (Str × Nat), l'.map sgD ++ [sgD (nm, c)] = l''.map sgD ∧ l''.length ≤ i + 1 ∧ ((c < fuel ∧ (deep = 0 → c = 0)) → ∀ x ∈ l'', x ∈ l ∧ x.2 < fuel ∧ (deep = 0 → x.2 = 0)) := by
        refine ⟨l' ++ [(nm, c)], by rw [List.map_append]; rfl, by rw [List.length_append]; simp; omega, fun hcc x hx => ?_⟩
        rcases List.mem_append.mp hx with (z | z)
        · exact h2 x z
        · rw [List.mem_singleton.mp z]; exact ⟨hm, hcc.1, hcc.2⟩
      obtain ⟨l'', n1, n2, n3⟩ := next
      refine ⟨_, .int (c : Int), rfl, rfl, ?_⟩
      refine ⟨trivial, _, rfl, ?_⟩
      show if decide ((c : Int) < (fuel : Int)) = true then _ else _
      by_cases hcf : (c : Int) < (fuel : Int)
      · rw [if_pos (decide_eq_true hcf)]
        refine ⟨trivial, _, rfl, ?_⟩
        show if decide ((0 : Int) < (deep : Int)) = true then _ else _
        by_cases hd0 : (0 : Int) < (deep : Int)
        · rw [if_pos (decide_eq_true hd0)]
          exact ⟨_, rfl, szl (by rw [List.length_map]; omega), ⟨l'', n1, n2, n3 ⟨by omega, fun z => by omega⟩, rfl⟩⟩
        · rw [if_neg (by rw [decide_eq_false hd0]; exact Bool.false_ne_true)]
          refine ⟨_, .int (c : Int), rfl, rfl, ⟨_, _, rfl, rfl, sh_int _, sh_int _, _, rfl, ?_⟩⟩
          rw [ev_int]
          cases hc0 : ((c : Int) == 0) with
          | true =>
            have hc1 : (c : Int) = 0 := by simpa using hc0
            exact ⟨_, rfl, szl (by rw [List.length_map]; omega), ⟨l'', n1, n2, n3 ⟨by omega, fun z => by omega⟩, rfl⟩⟩
          | false => exact ⟨l', rfl, by omega, h2, rfl⟩
      · rw [if_neg (by rw [decide_eq_false hcf]; exact Bool.false_ne_true)]
        exact ⟨l', rfl, by omega, h2, rfl⟩
    · rintro acc Γ ⟨l', rfl, h1, h2, rfl⟩
      rw [List.length_map] at h1
      have hs' : Signs l' := fun x hx => hs x (h2 x hx).1
      refine ⟨rfl, xs, 5, n + 5 * fuel - 1, rfl, ht.mono (by omega), by decide, by decide, fun r xs1 r0 r1 ht1 => ?_⟩
      refine ⟨_, _, rfl, rfl, sh_int _, sh_int _, _, rfl, ?_⟩
      rw [ev_int]
      have leafop : ∀ xs', Tin n xs' → Q (.d (.tuple [])) [.m xs', .no, .no, .no] := fun xs' h => q .op xs' rfl (by simp [Fm.size]; omega) (by simp [Fm.dep]) h
      cases hr0 : (r == 0) with
      | true => exact ⟨_, rfl, sz 0, leafop xs1 (ht1.mono (by omega))⟩
      | false =>
        refine ⟨_, rfl, sz 0, ⟨_, _, rfl, rfl, sh_sgl hs', sh_nil, _, rfl, ?_⟩⟩
        rw [ev_lnil]
        cases hl' : l' with
        | nil => exact ⟨_, rfl, sz 0, leafop xs1 (ht1.mono (by omega))⟩
        | cons x0 r0' =>
          rw [← hl']
          have hne : (l'.map sgD).isEmpty = false := by rw [hl']; rfl
          rw [hne]
          refine ⟨rfl, xs1, l'.map sgD, _, n + 5 * fuel - 2, rfl, .inl rfl, ht1.mono (by omega), by rw [hl']; simp, by rw [List.length_map]; omega, fun g xs2 hg ht2 => ?_⟩
          obtain ⟨⟨nm, c⟩, hc, rfl⟩ := List.mem_map.mp hg
          obtain ⟨hcl, hcf, hcd⟩ := h2 _ hc
          obtain ⟨hnm, hc3⟩ := hs _ hcl
          simp only at hcf hcd hnm hc3
          refine ⟨_, rfl, _, rfl, rfl, _, _, rfl, _, _, rfl, rfl, ?_⟩
          refine ⟨trivial, _, rfl, sz 0, ?_⟩
          refine ⟨_, rfl, ⟨by omega, by omega⟩, ?_⟩
          refine ⟨fun i Γ => ∃ (fs : List Fm) (xs' : List PyData) (left : Nat) (a b w : SV), Γ = [.m xs', .d (.list (l.map sgD)), .d (.int fuel), .d (.int deep), w, .d (.str nm), .d (.int c), .d (.int left), .m (fs.map Fm.d), a, b, .no] ∧ fs.length = i ∧ c - i ≤ left ∧ Fm.sizes fs + left + 1 ≤ fuel ∧ Fm.oks fs = true ∧ Fm.deps fs ≤ deep ∧ Tin (n + (c - i) + 5 * left) xs', ⟨[], xs2, fuel - 1, .no, .no, .no, ?_, rfl, by omega, by simp [Fm.sizes]; omega, rfl, by simp [Fm.deps], ht2.mono (by omega)⟩, ?_, ?_⟩
          · have e : ((fuel - 1 : Nat) : Int) = (fuel : Int) - 1 := by omega
            rw [e]; rfl
          · rintro i x Γ hx ⟨fs, xs3, left, a, b, w, rfl, hl1, hl2, hz, ho, hdp, ht3⟩
            obtain ⟨hi, rfl⟩ := rgD_get hx
            rw [Int.toNat_natCast] at hi
            have hdeep : deep ≠ 0 := fun z => by have := hcd z; omega
            refine ⟨trivial, trivial, trivial, rfl, xs3, _, n + (c - (i + 1)) + 5 * left, rfl, ht3.mono (by omega), by omega, by omega, fun r xs4 r0 r1 ht4 => ?_⟩
            obtain ⟨rn, rfl⟩ : ∃ rn : Nat, r = (rn : Int) := ⟨r.toNat, by omega⟩
            have hshare : 1 + rn + (c - (i + 1)) ≤ left := by omega
            refine ⟨⟨_, rfl⟩, ⟨trivial, ?_⟩⟩
            refine ⟨rfl, xs4, l, 1 + rn, deep - 1, n + (c - (i + 1)) + 5 * (left - (1 + rn)), ?_, hs, hl, by omega, by omega, by omega, ht4.mono (by omega), fun f xs5 g1 g2 g3 ht5 => ?_⟩
            · have e1 : ((1 + rn : Nat) : Int) = 1 + (rn : Int) := by omega
              have e2 : ((deep - 1 : Nat) : Int) = (deep : Int) - 1 := by omega
              rw [e1, e2]; rfl
            · refine ⟨_, rfl, szl (by rw [List.length_map]; omega), rfl, ⟨trivial, ?_⟩⟩
              refine ⟨fs ++ [f], xs5, left - (1 + rn), .d (.int (0 + (i : Int))), .d (.int (1 + (rn : Int))), w, ?_, by rw [List.length_append, hl1]; rfl, by omega, ?_, ?_, ?_, ht5⟩
              · have e3 : ((left - (1 + rn) : Nat) : Int) = (left : Int) - (1 + (rn : Int)) := by omega
                rw [e3, List.map_append]; rfl
              · rw [sizes_app]; simp only [Fm.sizes]; omega
              · have all := (oks_all fs).mp ho
                refine (oks_all _).mpr fun g hg => ?_
                rcases List.mem_append.mp hg with (z | z)
                · exact all g z
                · rw [List.mem_singleton.mp z]; exact g1
              · refine deps_of' fun g hg => ?_
                rcases List.mem_append.mp hg with (z | z)
                · exact Nat.le_trans (deps_le fs g z) hdp
                · rw [List.mem_singleton.mp z]; omega
          · rintro Γ ⟨fs, xs3, left, a, b, w, rfl, hl1, hl2, hz, ho, hdp, ht3⟩
            rw [rgD_len, Int.toNat_natCast] at hl1 ht3
            refine ⟨_, rfl, sz 1, ⟨_, rfl, ⟨sz _ (by rw [List.length_map, hl1]; show 1 + c ≤ _; omega), ?_⟩⟩⟩
            have ed : PyData.tuple ([PyData.str nm] ++ fs.map Fm.d) = (Fm.nd nm fs).d := by rw [Fm.d, Fm.ds_eq]; rfl
            rw [ed]
            refine q (.nd nm fs) xs3 ?_ ?_ ?_ (ht3.mono (by omega))
            · simp only [Fm.ok, Bool.and_eq_true, decide_eq_true_eq]; exact ⟨⟨hnm, by omega⟩, ho⟩
            · rw [Fm.size]; omega
            · rw [Fm.dep]; omega
end

section
variable {P : Program} {w : World} {K : PySem.W.Frag} {T : Tbs} {mg : Str → Option Value} {base : Heap} {f : Addr} {fd : FuncData}
abbrev s__law_great : Stmt := topS 57
theorem sc__law_great : FnScope ["tin", "signs_so", "fuel_so", "deep_so", "wide_so", "word_so", "many_so", "share_so", "own", "k"] ["tin", "signs_so", "fuel_so", "deep_so"] (defScope s__law_great) := ⟨rfl, rfl, rfl, by decide +kernel, rfl, by decide +kernel, by decide +kernel⟩
def cGreat (d : Nat) : CT := fun ss P => ∃ (xs : List PyData) (l : List (Str × Nat)) (fuel deep n : Nat), ss = [.m xs, .d (.list (l.map sgD)), .d (.int fuel), .d (.int deep)] ∧ Signs l ∧ l.length ≤ 1000 ∧ 2 ≤ fuel ∧ fuel ≤ 900 ∧ 1 ≤ deep ∧ deep ≤ d ∧ Tin (n + 5 * fuel + 20) xs ∧
  ∀ (f : Fm) (xs' : List PyData), DrawnG f (fuel + 3) (deep + 1) → Tin n xs' → P (.d f.d) [.m xs', .no, .no, .no]
set_option maxHeartbeats 3000001 in
theorem ok__law_great (B : BI mg) (d : Nat) (h__law_of : Fnd P w K T mg base 2 "_law_of" ["tin", "goods_so"] cOf) (h__law_leaf : Fnd P w K T mg base (2 + d) "_law_leaf" ["tin", "signs_so", "fuel_so", "deep_so"] (cLeaf d)) (F : Fun K "_law_great" "_law_great" s__law_great f fd) (b : Binds K fd ["tin", "signs_so", "fuel_so", "deep_so"] []) (m : mg "_law_great" = some (.ref f)) : Fnd P w K T mg base ((2 + d) + 1) "_law_great" ["tin", "signs_so", "fuel_so", "deep_so"] (cGreat d) := by
  refine fn_d F sc__law_great b m [0] (by decide) fun cdv A outer s H E hr => ?_
  refine ⟨_, (dss_cons (ds_set (i := 4) (fun te h => ps_set sc__law_great.nd rfl (Or.inl rfl) h) (de_or (de_lc (own := [("own", 8)]) rfl sc__law_great.nd (di_seq (de_var 1 (pv 1))) (blkOk_by (N := ["tin", "signs_so", "fuel_so", "deep_so", "wide_so", "word_so", "many_so", "share_so", "own", "k"]) (sc := (defScope s__law_great)) (by decide +kernel)) (by decide) (fun _ => (dg_name (i := 8) (pg_name sc__law_great.nd rfl (Or.inl rfl)))) (fun _ => (dts_one (dt_chainLL de_int (de_item (de_var 8 (pv 8)) de_int) (de_var 2 (pv 2))))) (fun _ => (de_var 8 (pv 8)))) (de_one (de_lst (da_cons (de_tup (da_cons de_str (da_cons de_int da_nil))) da_nil))))) (dss_cons (ds_asg (fun te g h1 h2 => ps_asg h1 h2) (de_call (h__law_of.mono (by omega)) hr (da_cons (de_var 0 (pv 0)) (da_cons (de_var 4 (pv 4)) da_nil))) (dg_tup (n := 2) rfl (dgs_cons (dg_name (i := 5) (pg_name sc__law_great.nd rfl (Or.inl rfl))) (dgs_cons (dg_name (i := 6) (pg_name sc__law_great.nd rfl (Or.inl rfl))) dgs_nil)))) (dss_cons (ds_set (i := 7) (fun te h => ps_set sc__law_great.nd rfl (Or.inr rfl) h) (de_max2 B.max rfl (da_cons de_int (da_cons (de_fdiv (de_sub (de_var 2 (pv 2)) de_int) (de_var 6 (pv 6))) da_nil)))) (dss_one (ds_ret (de_add (de_tup (da_cons (de_var 5 (pv 5)) da_nil)) (de_tupOf B.tuple (da_cons (de_lc (own := [("k", 9)]) rfl sc__law_great.nd (di_range1 rfl B.range (de_var 6 (pv 6))) (blkOk_by (N := ["tin", "signs_so", "fuel_so", "deep_so", "wide_so", "word_so", "many_so", "share_so", "own", "k"]) (sc := (defScope s__law_great)) (by decide +kernel)) (by decide) (fun _ => (dg_name (i := 9) (pg_name sc__law_great.nd rfl (Or.inl rfl)))) (fun _ => dts_nil) (fun _ => (de_call (h__law_leaf.mono (by omega)) hr (da_cons (de_var 0 (pv 0)) (da_cons (de_var 1 (pv 1)) (da_cons (de_var 7 (pv 7)) (da_cons (de_sub (de_var 3 (pv 3)) de_int) da_nil))))))) da_nil)))))))), ?_⟩
  rintro ss Q _ ⟨xs, l, fuel, deep, n, e, hs, hl, hf1, hf2, hd1, hd, ht, q⟩
  subst e
  have tail : ∀ l' : List (Str × Nat), l' ≠ [] → l'.length ≤ 1000 → (∀ x ∈ l', nmOk x.1 = true ∧ 0 < x.2 ∧ x.2 ≤ 3) →
      tdSeq (tdAsg (tAp (tdCons (tdVar 0) (tdCons (tdVar 4) tdNil)) (cN 2 cOf)) (tgTup 2 (tgCons (tgName 5) (tgCons (tgName 6) tgNil))))
        (tdSeq (tdSet 7 (tAp (tdCons (tdC (PyData.int 1)) (tdCons (tAp2 (tAp2 (tdVar 2) (tdC (PyData.int 1)) (cI2 fun i j => PyData.int (i - j))) (tdVar 6) (cII CDiv fun i j => PyData.int (i / j))) tdNil)) cMax2))
          (tdRet (tAp2 (tAp (tdCons (tdVar 5) tdNil) cTup) (tAp (tdCons (tdLc (tdRange1 (tdVar 6)) (tgName 9) tdYes (tAp (tdCons (tdVar 0) (tdCons (tdVar 1) (tdCons (tdVar 7) (tdCons (tAp2 (tdVar 3) (tdC (PyData.int 1)) (cI2 fun i j => PyData.int (i - j))) tdNil)))) (cN 4 (cLeaf d))) [9]) tdNil) cTupOf) cAdd)))
        (edOf [0] 4 Q) [.m xs, .d (.list (l.map sgD)), .d (.int fuel), .d (.int deep), .m (l'.map sgD), .no, .no, .no, .no, .no] := fun l' hne hll hok => by
    refine ⟨rfl, xs, l'.map sgD, _, n + 5 * fuel + 19, rfl, .inl rfl, ht, fun z => hne (List.map_eq_nil_iff.mp z), by rw [List.length_map]; omega, fun g xs2 hg ht2 => ?_⟩
    obtain ⟨⟨nm, c⟩, hc, rfl⟩ := List.mem_map.mp hg
    obtain ⟨hnm, hc0, hc3⟩ := hok _ hc
    simp only at hnm hc0 hc3
    refine ⟨_, rfl, _, rfl, rfl, _, _, rfl, _, _, rfl, rfl, ?_⟩
    refine ⟨trivial, ⟨by omega, by omega⟩, ?_⟩
    obtain ⟨sh, esh, hsh1, hsh2⟩ : ∃ sh : Nat, (if ((fuel : Int) - 1) / (c : Int) > 1 then ((fuel : Int) - 1) / (c : Int) else 1) = (sh : Int) ∧ 1 ≤ sh ∧ sh * c ≤ fuel + 2 := by
      have hq : ((fuel : Int) - 1) / (c : Int) = (((fuel - 1) / c : Nat) : Int) := by
        rw [show (fuel : Int) - 1 = ((fuel - 1 : Nat) : Int) by omega]; exact (Int.natCast_ediv _ _).symm
      rw [hq]
      have hm := Nat.div_mul_le_self (fuel - 1) c
      by_cases h1 : (((fuel - 1) / c : Nat) : Int) > 1
      · exact ⟨(fuel - 1) / c, by rw [if_pos h1], by omega, by omega⟩
      · exact ⟨1, by rw [if_neg h1]; rfl, Nat.le_refl _, by omega⟩
    have hshf : sh ≤ fuel + 2 := Nat.le_trans (Nat.le_mul_of_pos_right sh hc0) hsh2
    have after : tdRet (tAp2 (tAp (tdCons (tdVar 5) tdNil) cTup) (tAp (tdCons (tdLc (tdRange1 (tdVar 6)) (tgName 9) tdYes (tAp (tdCons (tdVar 0) (tdCons (tdVar 1) (tdCons (tdVar 7) (tdCons (tAp2 (tdVar 3) (tdC (PyData.int 1)) (cI2 fun i j => PyData.int (i - j))) tdNil)))) (cN 4 (cLeaf d))) [9]) tdNil) cTupOf) cAdd) (edOf [0] 4 Q)
        [.m xs2, .d (.list (l.map sgD)), .d (.int fuel), .d (.int deep), .no, .d (.str nm), .d (.int c), .d (.int sh), .no, .no] := by
      refine ⟨_, rfl, sz 1, ?_⟩
      refine ⟨_, rfl, ⟨by omega, by omega⟩, ?_⟩
      refine ⟨fun i acc Γ => ∃ (fs : List Fm) (xs' : List PyData), acc = fs.map Fm.d ∧ fs.length = i ∧ Fm.sizes fs ≤ i * sh ∧ Fm.oks fs = true ∧ Fm.deps fs ≤ deep ∧ Tin (n + (c - i) * (5 * sh)) xs' ∧ Γ = [.m xs', .d (.list (l.map sgD)), .d (.int fuel), .d (.int deep), .no, .d (.str nm), .d (.int c), .d (.int sh), .no, .no],
        ⟨[], xs2, rfl, rfl, by simp [Fm.sizes], rfl, by simp [Fm.deps], ht2.mono ?_, rfl⟩, ?_, ?_⟩
      · have e : (c - 0) * (5 * sh) = 5 * (sh * c) := by rw [Nat.sub_zero, Nat.mul_comm c, Nat.mul_assoc]
        rw [e]; omega
      · rintro i x acc Γ hx ⟨fs, xs3, rfl, hl1, hz, ho, hdp, ht3, rfl⟩
        obtain ⟨hi, rfl⟩ := rgD_get hx
        rw [Int.toNat_natCast] at hi
        have em : (c - i) * (5 * sh) = (c - (i + 1)) * (5 * sh) + 5 * sh := by
          rw [show c - i = (c - (i + 1)) + 1 by omega, Nat.succ_mul]
        refine ⟨trivial, ?_⟩
        refine ⟨rfl, xs3, l, sh, deep - 1, n + (c - (i + 1)) * (5 * sh), ?_, hs, hl, by omega, by omega, by omega, ht3.mono (by omega), fun f xs5 g1 g2 g3 ht5 => ?_⟩
        · have e2 : ((deep - 1 : Nat) : Int) = (deep : Int) - 1 := by omega
          rw [e2]; rfl
        · refine ⟨_, rfl, szl (by rw [List.length_map]; omega), ⟨fs ++ [f], xs5, by rw [List.map_append]; rfl, by rw [List.length_append, hl1]; rfl, ?_, ?_, ?_, ht5, rfl⟩⟩
          · rw [sizes_app, Nat.succ_mul]; simp only [Fm.sizes]; omega
          · refine (oks_all _).mpr fun g hg => ?_
            rcases List.mem_append.mp hg with (z | z)
            · exact (oks_all fs).mp ho g z
            · rw [List.mem_singleton.mp z]; exact g1
          · refine deps_of' fun g hg => ?_
            rcases List.mem_append.mp hg with (z | z)
            · exact Nat.le_trans (deps_le fs g z) hdp
            · rw [List.mem_singleton.mp z]; omega
      · rintro acc Γ ⟨fs, xs3, rfl, hl1, hz, ho, hdp, ht3, rfl⟩
        rw [rgD_len, Int.toNat_natCast] at hl1 ht3 hz
        refine ⟨_, rfl, ?_⟩
        refine ⟨sz _ (by rw [List.length_map, hl1]; show 1 + c ≤ _; omega), ?_⟩
        have ed : PyData.tuple ([PyData.str nm] ++ fs.map Fm.d) = (Fm.nd nm fs).d := by rw [Fm.d, Fm.ds_eq]; rfl
        rw [ed]
        refine q (.nd nm fs) xs3 ⟨rfl, ?_, ?_, ?_⟩ (ht3.mono (by omega))
        · simp only [Fm.ok, Bool.and_eq_true, decide_eq_true_eq]; exact ⟨⟨hnm, by omega⟩, ho⟩
        · rw [Fm.size]
          have := Nat.mul_comm c sh
          omega
        · rw [Fm.dep]; omega
    rw [← esh] at after
    exact after
  refine ⟨_, rfl, ⟨fun i acc Γ => ∃ l' : List (Str × Nat), acc = l'.map sgD ∧ l'.length ≤ i ∧ (∀ x ∈ l', x ∈ l ∧ 0 < x.2) ∧ Γ = [.m xs, .d (.list (l.map sgD)), .d (.int fuel), .d (.int deep), .no, .no, .no, .no, .no, .no], ⟨[], rfl, Nat.le_refl _, (fun x hx => by cases hx), rfl⟩, ?_, ?_⟩⟩
  · rintro i x acc Γ hx ⟨l', rfl, h1, h2, rfl⟩
    rw [List.getElem?_map] at hx
    obtain ⟨⟨nm, c⟩, hc, rfl⟩ := Option.map_eq_some_iff.mp hx
    have hm := List.mem_of_getElem? hc
    have hi := (List.getElem?_eq_some_iff.mp hc).1
    refine ⟨_, .int (c : Int), rfl, rfl, 0, (c : Int), rfl, rfl, ?_⟩
    show if decide ((0 : Int) < (c : Int)) = true then _ else _
    by_cases hc0 : (0 : Int) < (c : Int)
    · rw [if_pos (decide_eq_true hc0)]
      refine ⟨_, rfl, _, rfl, ?_⟩
      show if decide ((c : Int) < (fuel : Int)) = true then _ else _
      by_cases hcf : (c : Int) < (fuel : Int)
      · rw [if_pos (decide_eq_true hcf)]
        refine ⟨_, rfl, szl (by rw [List.length_map]; omega), ⟨l' ++ [(nm, c)], by rw [List.map_append]; rfl, by rw [List.length_append]; simp; omega, fun x hx => ?_, rfl⟩⟩
        rcases List.mem_append.mp hx with (z | z)
        · exact h2 x z
        · rw [List.mem_singleton.mp z]; exact ⟨hm, by show 0 < c; omega⟩
      · rw [if_neg (by rw [decide_eq_false hcf]; exact Bool.false_ne_true)]
        exact ⟨l', rfl, by omega, h2, rfl⟩
    · rw [if_neg (by rw [decide_eq_false hc0]; exact Bool.false_ne_true)]
      refine ⟨_, rfl, ?_⟩
      exact ⟨l', rfl, by omega, h2, rfl⟩
  · rintro acc Γ ⟨l', rfl, h1, h2, rfl⟩
    rw [List.length_map] at h1
    refine ⟨_, rfl, ?_⟩
    cases e : l' with
    | nil =>
      refine ⟨_, rfl, sz 2, _, rfl, sz 1, ?_⟩
      exact tail [("g", 1)] (by simp) (by simp) fun x hx => by
        rw [List.mem_singleton.mp hx]
        exact ⟨by decide +kernel, by decide, by decide⟩
    | cons x r =>
      have t := tail l' (by rw [e]; simp) (by omega) fun x hx => ⟨(hs x (h2 x hx).1).1, (h2 x hx).2, (hs x (h2 x hx).1).2⟩
      rw [e] at t
      exact t
end

/-! ## the PARTS of drawn SIDES -/
mutual
def Fm.nk : Fm → NestedKey
  | .op => .tup []
  | .nd n ps => .tup (.text n :: Fm.nks ps)
def Fm.nks : List Fm → List NestedKey
  | [] => []
  | f :: r => f.nk :: Fm.nks r
end
mutual
theorem nk_d : ∀ f : Fm, f.nk.data = f.d
  | .op => by simp [Fm.nk, Fm.d, NestedKey.data, NestedKey.datas]
  | .nd n ps => by simp only [Fm.nk, Fm.d, NestedKey.data, NestedKey.datas, nks_d ps]
theorem nks_d : ∀ ps : List Fm, NestedKey.datas (Fm.nks ps) = Fm.ds ps
  | [] => by simp [Fm.nks, Fm.ds, NestedKey.datas]
  | f :: r => by simp only [Fm.nks, Fm.ds, NestedKey.datas, nk_d f, nks_d r]
end
mutual
theorem fm_alike : ∀ f g : Fm, PySem.W.alike f.d g.d = true
  | .op, .op => by simp [Fm.d, PySem.W.alike, PySem.W.alikeAll]
  | .op, .nd _ _ => by simp [Fm.d, PySem.W.alike, PySem.W.alikeAll]
  | .nd _ _, .op => by simp [Fm.d, PySem.W.alike, PySem.W.alikeAll]
  | .nd n ps, .nd m qs => by simp only [Fm.d, PySem.W.alike, PySem.W.alikeAll, Bool.true_and]; exact fms_alike ps qs
theorem fms_alike : ∀ ps qs : List Fm, PySem.W.alikeAll (Fm.ds ps) (Fm.ds qs) = true
  | [], _ => by simp [Fm.ds, PySem.W.alikeAll]
  | _ :: _, [] => by simp [Fm.ds, PySem.W.alikeAll]
  | f :: r, g :: t => by simp only [Fm.ds, PySem.W.alikeAll, fm_alike f g, fms_alike r t, Bool.and_self]
end
theorem nk_dep (f : Fm) : f.nk.depth = f.dep := by rw [← nk_depth, nk_d, Fm.depth_d]
mutual
theorem fm_noL : ∀ f : Fm, noL f.d = true
  | .op => by simp [Fm.d, noL, noLs]
  | .nd n ps => by simp only [Fm.d, noL, noLs, Bool.true_and]; exact fms_noL ps
theorem fms_noL : ∀ ps : List Fm, noLs (Fm.ds ps) = true
  | [] => by simp [Fm.ds, noLs]
  | f :: r => by simp only [Fm.ds, noLs, fm_noL f, fms_noL r, Bool.and_self]
end
theorem fmap_noL (fs : List Fm) : noLs (fs.map Fm.d) = true := by rw [← Fm.ds_eq]; exact fms_noL fs
theorem nk_map (fs : List Fm) : (fs.map Fm.nk).map NestedKey.data = fs.map Fm.d := by
  rw [List.map_map]
  exact List.map_congr_left fun f _ => nk_d f
/-- FORMS, not OPEN, can be sorted -/
theorem fm_sorts {fs : List Fm} (h : ∀ f ∈ fs, f.isOp = false ∧ f.dep ≤ 8) (l : fs.length < 64) : Sorts (fs.map Fm.nk) where
  flat k hk := by
    obtain ⟨f, hf, rfl⟩ := List.mem_map.mp hk
    rw [nk_dep]; exact (h f hf).2
  tup k hk := by
    obtain ⟨f, hf, rfl⟩ := List.mem_map.mp hk
    cases f with
    | op => have := (h _ hf).1; simp [Fm.isOp] at this
    | nd n ps => exact ⟨_, rfl⟩
  like a ha b hb := by
    obtain ⟨f, _, rfl⟩ := List.mem_map.mp ha
    obtain ⟨g, _, rfl⟩ := List.mem_map.mp hb
    rw [nk_d, nk_d]; exact fm_alike f g
  few := by rw [List.length_map]; exact l
/-- the keys of FORMS are those of FORMS -/
theorem nk_back {fs : List Fm} : ∀ {ks : List NestedKey}, (∀ k ∈ ks, k ∈ fs.map Fm.nk) → ∃ gs : List Fm, ks = gs.map Fm.nk ∧ ∀ g ∈ gs, g ∈ fs
  | [], _ => ⟨[], rfl, fun _ h => by cases h⟩
  | k :: r, h => by
    obtain ⟨f, hf, rfl⟩ := List.mem_map.mp (h k List.mem_cons_self)
    obtain ⟨gs, rfl, hg⟩ := nk_back (ks := r) fun x hx => h x (List.mem_cons_of_mem _ hx)
    exact ⟨f :: gs, rfl, fun g hg' => by
      rcases List.mem_cons.mp hg' with z | z
      · rw [z]; exact hf
      · exact hg g z⟩
/-- what stands at a place of a drawn FORM -/
theorem at_size : ∀ (p : List Int) (f g : Fm), f.at? p = some g → g.size ≤ f.size
  | [], f, g, h => by
    have e : f = g := Option.some.inj h
    rw [e]; exact Nat.le_refl _
  | i :: r, f, g, h => by
    unfold Fm.at? at h
    by_cases h0 : 0 ≤ i
    · rw [if_pos h0] at h
      obtain ⟨x, hx, hy⟩ := Option.bind_eq_some_iff.mp h
      exact Nat.le_trans (at_size r x g hy) (part_size (List.mem_of_getElem? hx))
    · rw [if_neg h0] at h; cases h
theorem at_sp {p : List Int} {f : Fm} (h : p ∈ spl f) (ok : f.ok = true) : ∃ g, f.at? p = some g ∧ g.size ≤ f.size ∧ g.dep ≤ f.dep ∧ g.ok = true := by
  obtain ⟨g, e⟩ := spl_at p f h
  have k := put_ok p f g e ok
  exact ⟨g, e, at_size p f g e, k.2.2.2.2, k.2.2.2.1⟩
theorem spl_tl (f : Fm) : ∃ r, spl f = [] :: r ∧ ∀ p ∈ r, p ∈ spl f := by
  refine ⟨_, spl_parts f, fun p hp => ?_⟩
  rw [spl_parts f]
  exact List.mem_cons_of_mem _ hp
section
variable {P : Program} {w : World} {K : PySem.W.Frag} {T : Tbs} {mg : Str → Option Value} {base : Heap} {f : Addr} {fd : FuncData}
abbrev s__law_bits : Stmt := topS 50
theorem sc__law_bits : FnScope ["page_so", "found", "own", "spot_so", "bit"] ["page_so"] (defScope s__law_bits) := ⟨rfl, rfl, rfl, by decide +kernel, rfl, by decide +kernel, by decide +kernel⟩
def cBits : CT := fun ss P => ∃ (gs : List Fm) (s : SV), ss = [s] ∧ (s = .d (.list (gs.map Fm.d)) ∨ s = .d (.tuple (gs.map Fm.d))) ∧ gs.length ≤ 6 ∧ (∀ g ∈ gs, Drawn g 10 4) ∧
  ∀ bs : List Fm, bs.length ≤ 9 * gs.length → (∀ b ∈ bs, Drawn b 10 4) → P (.m (bs.map Fm.d)) [.no]
theorem ok__law_bits (B : BI mg) (h__law_spots : Fnd P w K T mg base 62 "_law_spots" ["leaf"] (cLSpots 60)) (h__law_at : Fnd P w K T mg base 1 "_law_at" ["leaf", "spot_so"] cAt) (F : Fun K "_law_bits" "_law_bits" s__law_bits f fd) (b : Binds K fd ["page_so"] []) (m : mg "_law_bits" = some (.ref f)) : Fnd P w K T mg base 63 "_law_bits" ["page_so"] cBits := by
  refine fn_d F sc__law_bits b m [] (by decide) fun cdv A outer s H E hr => ?_
  refine ⟨_, (dss_cons (ds_set (i := 1) (fun te h => ps_set sc__law_bits.nd rfl (Or.inl rfl) h) (de_lst da_nil)) (dss_cons (ds_for PassesOwn.never rfl (di_seq (de_var 0 (pv 0))) (dg_name (i := 2) (pg_name sc__law_bits.nd rfl (Or.inr rfl))) (dss_one (ds_set (i := 1) (fun te h => ps_set sc__law_bits.nd rfl (Or.inl rfl) h) (de_add (de_var 1 (pv 1)) (de_lc (own := [("spot_so", 3)]) rfl sc__law_bits.nd (di_seq (de_slice (de_call (h__law_spots.mono (by omega)) hr (da_cons (de_var 2 (pv 2)) da_nil)) (do_some de_int) do_none)) (blkOk_by (N := ["page_so", "found", "own", "spot_so", "bit"]) (sc := (defScope s__law_bits)) (by decide +kernel)) (by decide) (fun _ => (dg_name (i := 3) (pg_name sc__law_bits.nd rfl (Or.inl rfl)))) (fun _ => dts_nil) (fun _ => (de_call (h__law_at.mono (by omega)) hr (da_cons (de_var 2 (pv 2)) (da_cons (de_var 3 (pv 3)) da_nil))))))))) (dss_one (ds_ret (de_sortSet B.sorted B.set rfl (un100 hr) (de_lc (own := [("bit", 4)]) rfl sc__law_bits.nd (di_seq (de_var 1 (pv 1))) (blkOk_by (N := ["page_so", "found", "own", "spot_so", "bit"]) (sc := (defScope s__law_bits)) (by decide +kernel)) (by decide) (fun _ => (dg_name (i := 4) (pg_name sc__law_bits.nd rfl (Or.inl rfl)))) (fun _ => (dts_one (dt_ne hr.units (de_var 4 (pv 4)) (de_tup da_nil)))) (fun _ => (de_var 4 (pv 4))))))))), ?_⟩
  rintro ss Q _ ⟨gs, s, rfl, hs, hl, hd, q⟩
  have hsq : seqS s = some (gs.map Fm.d) := by rcases hs with rfl | rfl <;> rfl
  have hsb : ∃ x, s = .d x := by rcases hs with rfl | rfl <;> exact ⟨_, rfl⟩
  obtain ⟨x0, rfl⟩ := hsb
  refine ⟨_, rfl, sz 0, ?_⟩
  refine ⟨_, hsq, ?_⟩
  refine ⟨fun i Γ => ∃ (fs : List Fm) (a c d : SV), Γ = [.d x0, .m (fs.map Fm.d), a, c, d] ∧ fs.length ≤ 9 * i ∧ ∀ f ∈ fs, (f.ok = true ∧ f.noW = true) ∧ f.size ≤ 10 ∧ f.dep ≤ 4, ⟨[], _, _, _, rfl, Nat.le_refl _, fun f hf => by cases hf⟩, ?_, ?_⟩
  · rintro i x Γ hx ⟨fs, a, c, d, rfl, h1, h2⟩
    rw [List.getElem?_map] at hx
    obtain ⟨g, hg, rfl⟩ := Option.map_eq_some_iff.mp hx
    have hi := (List.getElem?_eq_some_iff.mp hg).1
    have dg := hd g (List.mem_of_getElem? hg)
    obtain ⟨r, er, hr'⟩ := spl_tl g
    refine ⟨rfl, g, rfl, by have := dg.dep; omega, by have := dg.dep; have := dg.size; omega, ?_⟩
    refine ⟨_, rfl, ⟨_, rfl, ⟨_, rfl, ⟨fun j acc Γ => ∃ fs2 : List Fm, acc = fs2.map Fm.d ∧ fs2.length ≤ j ∧ (∀ f ∈ fs2, (f.ok = true ∧ f.noW = true) ∧ f.size ≤ 10 ∧ f.dep ≤ 4) ∧ Γ = [.d x0, .no, .d g.d, .no, d], ⟨[], rfl, Nat.le_refl _, (fun f hf => by cases hf), rfl⟩, ?_, ?_⟩⟩⟩⟩
    · rintro j y acc Γ hy ⟨fs2, rfl, k1, k2, rfl⟩
      rw [er, List.map_cons, cut_one, List.getElem?_map] at hy
      obtain ⟨p, hp, rfl⟩ := Option.map_eq_some_iff.mp hy
      have hj := (List.getElem?_eq_some_iff.mp hp).1
      have hsz : (spl g).length ≤ 10 := by rw [spl_len]; exact dg.size
      rw [er, List.length_cons] at hsz
      obtain ⟨h, e, a1, a2, a3⟩ := at_sp (hr' p (List.mem_of_getElem? hp)) dg.ok
      refine ⟨rfl, g, h, p, rfl, e, ?_⟩
      refine ⟨_, rfl, szl (by rw [List.length_map]; omega), ⟨fs2 ++ [h], by rw [List.map_append]; rfl, by rw [List.length_append]; simp; omega, fun f hf => ?_, rfl⟩⟩
      rcases List.mem_append.mp hf with z | z
      · exact k2 f z
      · rw [List.mem_singleton.mp z]; have := dg.size; have := dg.dep; exact ⟨⟨a3, at_noW p g h e dg.nw⟩, by omega, by omega⟩
    · rintro acc Γ ⟨fs2, rfl, k1, k2, rfl⟩
      have hsz : (spl g).length ≤ 10 := by rw [spl_len]; exact dg.size
      rw [er, List.map_cons, cut_one, List.length_map] at k1
      rw [er, List.length_cons] at hsz
      refine ⟨_, _, rfl, rfl, sz _ (by rw [List.length_map, List.length_map]; omega), ?_⟩
      refine ⟨fs ++ fs2, .d g.d, .no, d, by rw [List.map_append]; rfl, by rw [List.length_append]; omega, fun f hf => ?_⟩
      rcases List.mem_append.mp hf with z | z
      · exact h2 f z
      · exact k2 f z
  · rintro Γ ⟨fs, a, c, d, rfl, h1, h2⟩
    rw [List.length_map] at h1
    refine ⟨_, rfl, ⟨fun j acc Γ => ∃ bs : List Fm, acc = bs.map Fm.d ∧ bs.length ≤ j ∧ (∀ f ∈ bs, Drawn f 10 4) ∧ Γ = [.d x0, .d (.list (fs.map Fm.d)), a, c, .no], ⟨[], rfl, Nat.le_refl _, (fun f hf => by cases hf), rfl⟩, ?_, ?_⟩⟩
    · rintro j y acc Γ hy ⟨bs, rfl, k1, k2, rfl⟩
      rw [List.getElem?_map] at hy
      obtain ⟨h, hh, rfl⟩ := Option.map_eq_some_iff.mp hy
      have hj := (List.getElem?_eq_some_iff.mp hh).1
      obtain ⟨⟨a1, aw⟩, a2, a3⟩ := h2 h (List.mem_of_getElem? hh)
      have fit : h.Fit := ⟨a1, by omega⟩
      refine ⟨_, rfl, sz 0, ⟨_, _, rfl, rfl, fit.shaped, shaped_empty, _, rfl, ?_⟩⟩
      rw [Fm.eqv_op]
      cases h with
      | op => exact ⟨bs, rfl, by omega, k2, rfl⟩
      | nd n ps =>
        refine ⟨_, rfl, szl (by rw [List.length_map]; omega), ⟨bs ++ [.nd n ps], by rw [List.map_append]; rfl, by rw [List.length_append]; simp; omega, fun f hf => ?_, rfl⟩⟩
        rcases List.mem_append.mp hf with z | z
        · exact k2 f z
        · rw [List.mem_singleton.mp z]; exact ⟨rfl, a1, a2, a3, aw⟩
    · rintro acc Γ ⟨bs, rfl, k1, k2, rfl⟩
      rw [List.length_map] at k1
      have lb : bs.length < 64 := by omega
      refine ⟨bs.map Fm.nk, by rw [nk_map]; rfl, fm_sorts (fun f hf => ⟨(k2 f hf).nop, by have := (k2 f hf).dep; omega⟩) lb, fun ks' nd same ll => ?_⟩
      obtain ⟨gs', rfl, sub⟩ := nk_back fun k hk => (same k).mp hk
      rw [nk_map]
      rw [List.length_map, List.length_map] at ll
      exact q gs' (by omega) fun f hf => k2 f (sub f hf)
end

section
variable {P : Program} {w : World} {K : PySem.W.Frag} {T : Tbs} {mg : Str → Option Value} {base : Heap} {f : Addr} {fd : FuncData}
theorem drawn_fit {g : Fm} {z d : Nat} (h : Drawn g z d) (l : d ≤ 60) : g.Fit := ⟨h.ok, by have := h.dep; omega⟩
theorem keep_bits {ss : List SV} {Q : SV → List SV → Prop} {gs : List Fm} (e : ss = [.m (gs.map Fm.d)] ∨ ss = [.d (.tuple (gs.map Fm.d))]) (hl : gs.length ≤ 6) (hd : ∀ g ∈ gs, Drawn g 10 4)
    (q : ∀ bs : List Fm, bs.length ≤ 9 * gs.length → (∀ b ∈ bs, Drawn b 10 4) → Q (.m (bs.map Fm.d)) ss) : keepC cBits ss Q := by
  rcases e with rfl | rfl
  · exact ⟨[.d (.list (gs.map Fm.d))], .cons (.inr rfl) .nil, fun s hs => ⟨_, List.mem_singleton.mp hs⟩, gs, _, rfl, .inl rfl, hl, hd, fun bs h1 h2 => ⟨.inr ⟨_, rfl, fmap_noL bs⟩, q bs h1 h2⟩⟩
  · exact ⟨[.d (.tuple (gs.map Fm.d))], .cons (.inl rfl) .nil, fun s hs => ⟨_, List.mem_singleton.mp hs⟩, gs, _, rfl, .inr rfl, hl, hd, fun bs h1 h2 => ⟨.inr ⟨_, rfl, fmap_noL bs⟩, q bs h1 h2⟩⟩
abbrev s__law_page : Stmt := topS 59
theorem sc__law_page : FnScope ["tin", "many_so", "found", "bits_so", "lap", "bit"] ["tin", "many_so"] (defScope s__law_page) := ⟨rfl, rfl, rfl, by decide +kernel, rfl, by decide +kernel, by decide +kernel⟩
def cPage : CT := fun ss P => ∃ (xs : List PyData) (many n : Nat), ss = [.m xs, .d (.int many)] ∧ 1 ≤ many ∧ many ≤ 4 ∧ Tin (n + 7 * many + 2) xs ∧
  ∀ (gs : List Fm) (xs' : List PyData), gs ≠ [] → gs.length ≤ 5 → (∀ g ∈ gs, Drawn g 10 4) → Tin n xs' → P (.d (.tuple (gs.map Fm.d))) [.m xs', .no]
theorem ok__law_page (B : BI mg) (h__law_take : Fnd P w K T mg base 1 "_law_take" ["tin", "below_so"] cTake) (h__law_of : Fnd P w K T mg base 2 "_law_of" ["tin", "goods_so"] cOf) (h__law_side : Fnd P w K T mg base 3 "_law_side" ["tin"] cSide)
    (h__law_bits : Fnd P w K T mg base 63 "_law_bits" ["page_so"] (keepC cBits)) (F : Fun K "_law_page" "_law_page" s__law_page f fd) (b : Binds K fd ["tin", "many_so"] []) (m : mg "_law_page" = some (.ref f)) : Fnd P w K T mg base 64 "_law_page" ["tin", "many_so"] cPage := by
  refine fn_d F sc__law_page b m [0] (by decide) fun cdv A outer s H E hr => ?_
  refine ⟨_, (dss_cons (ds_setLc (i := 2) (own := [("lap", 4)]) rfl sc__law_page.nd rfl rfl (sw_true rfl rfl rfl (by decide +kernel)) (di_range1 rfl B.range (de_var 1 (pv 1))) (blkOk_by (N := ["tin", "many_so", "found", "bits_so", "lap", "bit"]) (sc := (defScope s__law_page)) (by decide +kernel)) (by decide) (fun _ => (dg_name (i := 4) (pg_name sc__law_page.nd rfl (Or.inl rfl)))) (fun _ => dts_nil) (fun _ => (de_call (h__law_side.mono (by omega)) hr (da_cons (de_var 0 (pv 0)) da_nil)))) (dss_cons (ds_setLc (i := 3) (own := [("bit", 5)]) rfl sc__law_page.nd rfl rfl (sw_true rfl rfl rfl (by decide +kernel)) (di_seq (de_call (h__law_bits.mono (by omega)) hr (da_cons (de_var 2 (pv 2)) da_nil))) (blkOk_by (N := ["tin", "many_so", "found", "bits_so", "lap", "bit"]) (sc := (defScope s__law_page)) (by decide +kernel)) (by decide) (fun _ => (dg_name (i := 5) (pg_name sc__law_page.nd rfl (Or.inl rfl)))) (fun _ => dts_nil) (fun _ => (de_var 5 (pv 5)))) (dss_cons (ds_if (dw_pt (dw_and (dt_ne hr.units (de_var 3 (pv 3)) (de_lst da_nil)) (dw_and1 (dt_eq hr.units (de_call (h__law_take.mono (by omega)) hr (da_cons (de_var 0 (pv 0)) (da_cons de_int da_nil))) de_int)))) (dss_one (ds_expr (de_append (de_var 2 (pv 2)) (da_cons (de_call (h__law_of.mono (by omega)) hr (da_cons (de_var 0 (pv 0)) (da_cons (de_var 3 (pv 3)) da_nil))) da_nil)))) dss_nil) (dss_one (ds_ret (de_tupOf B.tuple (da_cons (de_sortSet B.sorted B.set rfl (un100 hr) (de_var 2 (pv 2))) da_nil))))))), ?_⟩
  rintro ss Q _ ⟨xs, many, n, rfl, hm1, hm2, ht, q⟩
  have last : ∀ (fs : List Fm) (xs1 : List PyData) (a c d : SV), fs ≠ [] → fs.length ≤ 5 → (∀ g ∈ fs, Drawn g 10 4) → Tin n xs1 →
      tdRet (tAp (tdCons (tAp (tdCons (tdVar 2) tdNil) cSortSet) tdNil) cTupOf) (edOf [0] 2 Q) [.m xs1, .d (.int many), .m (fs.map Fm.d), a, c, d] := fun fs xs1 a c d h0 h1 h2 ht1 => by
    refine ⟨fs.map Fm.nk, by rw [nk_map]; rfl, fm_sorts (fun f hf => ⟨(h2 f hf).nop, by have := (h2 f hf).dep; omega⟩) (by omega), fun ks' nd same ll => ?_⟩
    obtain ⟨gs', rfl, sub⟩ := nk_back fun k hk => (same k).mp hk
    rw [List.length_map, List.length_map] at ll
    rw [nk_map]
    refine ⟨_, rfl, q gs' xs1 (fun e => ?_) (by omega) (fun g hg => h2 g (sub g hg)) ht1⟩
    cases fs with
    | nil => exact h0 rfl
    | cons x r =>
      have z := (same x.nk).mpr List.mem_cons_self
      rw [e] at z
      cases z
  refine ⟨_, rfl, ⟨by omega, by omega⟩, ?_⟩
  refine ⟨fun i acc Γ => ∃ (fs : List Fm) (xs1 : List PyData), acc = fs.map Fm.d ∧ fs.length = i ∧ (∀ g ∈ fs, Drawn g 10 4) ∧ Tin (n + 7 * (many - i) + 2) xs1 ∧ Γ = [.m xs1, .d (.int many), .no, .no, .no, .no], ⟨[], xs, rfl, rfl, (fun g hg => by cases hg), ht, rfl⟩, ?_, ?_⟩
  · rintro i x acc Γ hx ⟨fs, xs1, rfl, h1, h2, ht1, rfl⟩
    obtain ⟨hi, rfl⟩ := rgD_get hx
    rw [Int.toNat_natCast] at hi
    refine ⟨rfl, xs1, n + 7 * (many - (i + 1)) + 2, rfl, ht1.mono (by omega), fun f xs2 hf ht2 => ?_⟩
    refine ⟨_, rfl, szl (by rw [List.length_map]; omega), ⟨fs ++ [f], xs2, by rw [List.map_append]; rfl, by rw [List.length_append, h1]; rfl, fun g hg => ?_, ht2, rfl⟩⟩
    rcases List.mem_append.mp hg with z | z
    · exact h2 g z
    · rw [List.mem_singleton.mp z]; exact hf
  · rintro acc Γ ⟨fs, xs1, rfl, h1, h2, ht1, rfl⟩
    rw [rgD_len, Int.toNat_natCast] at h1 ht1
    have ht1 : Tin (n + 2) xs1 := ht1.mono (by omega)
    have hne : fs ≠ [] := fun e => by rw [e] at h1; simp at h1; omega
    refine ⟨rfl, keep_bits (gs := fs) (.inl rfl) (by omega) h2 fun bs b1 b2 => ?_⟩
    refine ⟨_, rfl, ⟨fun j acc Γ => ∃ cs : List Fm, acc = cs.map Fm.d ∧ cs.length ≤ j ∧ (∀ g ∈ cs, Drawn g 10 4) ∧ Γ = [.m xs1, .d (.int many), .m (fs.map Fm.d), .no, .no, .no], ⟨[], rfl, Nat.le_refl _, (fun g hg => by cases hg), rfl⟩, ?_, ?_⟩⟩
    · rintro j y acc Γ hy ⟨cs, rfl, c1, c2, rfl⟩
      rw [List.getElem?_map] at hy
      obtain ⟨g, hg, rfl⟩ := Option.map_eq_some_iff.mp hy
      have hj := (List.getElem?_eq_some_iff.mp hg).1
      refine ⟨_, rfl, szl (by rw [List.length_map]; omega), ⟨cs ++ [g], by rw [List.map_append]; rfl, by rw [List.length_append]; simp; omega, fun f hf => ?_, rfl⟩⟩
      rcases List.mem_append.mp hf with z | z
      · exact c2 f z
      · rw [List.mem_singleton.mp z]; exact b2 g (List.mem_of_getElem? hg)
    · rintro acc Γ ⟨cs, rfl, c1, c2, rfl⟩
      rw [List.length_map] at c1
      refine ⟨_, rfl, sz 0, ⟨_, _, rfl, rfl, sh_lsides fun g hg => drawn_fit (c2 g hg) (by decide), sh_nil, _, rfl, ?_⟩⟩
      rw [ev_lnil]
      cases hcs : cs with
      | nil => exact last fs xs1 _ _ _ hne (by omega) h2 (ht1.mono (by omega))
      | cons c0 cr =>
        rw [← hcs]
        have e1 : (!(cs.map Fm.d).isEmpty) = true := by rw [hcs]; rfl
        rw [e1, if_pos rfl]
        refine ⟨rfl, xs1, 3, n + 1, rfl, ht1, by decide, by decide, fun r xs2 r0 r1 ht2 => ?_⟩
        refine ⟨_, _, rfl, rfl, sh_int _, sh_int _, _, rfl, ?_⟩
        rw [ev_int]
        cases hr0 : (r == 0) with
        | false => exact last fs xs2 _ _ _ hne (by omega) h2 (ht2.mono (by omega))
        | true =>
          rw [if_pos rfl]
          refine ⟨⟨_, rfl⟩, rfl, xs2, cs.map Fm.d, _, n, rfl, .inl rfl, ht2, by rw [hcs]; simp, by rw [List.length_map]; omega, fun g xs3 hg ht3 => ?_⟩
          obtain ⟨c, hc, rfl⟩ := List.mem_map.mp hg
          refine ⟨_, rfl, szl (by rw [List.length_map]; omega), ?_⟩
          have t := last (fs ++ [c]) xs3 .no .no .no (by simp) (by rw [List.length_append]; simp; omega) (fun g hg => ?_) ht3
          · rw [List.map_append] at t
            exact ⟨rfl, t⟩
          · rcases List.mem_append.mp hg with z | z
            · exact h2 g z
            · rw [List.mem_singleton.mp z]; exact c2 c hc
end

/-! ## SIGNS -/
def sgK (x : Str × Nat) : NestedKey := .tup [.text x.1, .num (x.2 : Int)]
theorem sgK_d (x : Str × Nat) : (sgK x).data = sgD x := by simp [sgK, sgD, NestedKey.data, NestedKey.datas]
theorem sgK_map (l : List (Str × Nat)) : (l.map sgK).map NestedKey.data = l.map sgD := by
  rw [List.map_map]
  exact List.map_congr_left fun x _ => sgK_d x
theorem sg_sorts {l : List (Str × Nat)} (h : l.length < 64) : Sorts (l.map sgK) where
  flat k hk := by
    obtain ⟨x, _, rfl⟩ := List.mem_map.mp hk
    simp [sgK, NestedKey.depth, NestedKey.depthAll]
  tup k hk := by
    obtain ⟨x, _, rfl⟩ := List.mem_map.mp hk
    exact ⟨_, rfl⟩
  like a ha b hb := by
    obtain ⟨x, _, rfl⟩ := List.mem_map.mp ha
    obtain ⟨y, _, rfl⟩ := List.mem_map.mp hb
    rw [sgK_d, sgK_d]
    simp [sgD, PySem.W.alike, PySem.W.alikeAll]
  few := by rw [List.length_map]; exact h
theorem sgK_back {l : List (Str × Nat)} : ∀ {ks : List NestedKey}, (∀ k ∈ ks, k ∈ l.map sgK) → ∃ l' : List (Str × Nat), ks = l'.map sgK ∧ ∀ x ∈ l', x ∈ l
  | [], _ => ⟨[], rfl, fun _ h => by cases h⟩
  | k :: r, h => by
    obtain ⟨x, hx, rfl⟩ := List.mem_map.mp (h k List.mem_cons_self)
    obtain ⟨l', rfl, hl⟩ := sgK_back (ks := r) fun y hy => h y (List.mem_cons_of_mem _ hy)
    exact ⟨x :: l', rfl, fun y hy => by
      rcases List.mem_cons.mp hy with z | z
      · rw [z]; exact hx
      · exact hl y z⟩
theorem sgn_eq (nm : Str) (ps : List Fm) : PyData.tuple [.str nm, .int (((PyData.str nm :: Fm.ds ps).length : Int) - 1)] = sgD (nm, ps.length) := by
  have e : (((PyData.str nm :: Fm.ds ps).length : Int) - 1) = (ps.length : Int) := by
    rw [List.length_cons, Fm.ds_len]; omega
  rw [e]; rfl
theorem drawn_nd {g : Fm} {z d : Nat} (h : Drawn g z d) : ∃ nm ps, g = .nd nm ps ∧ nmOk nm = true ∧ ps.length ≤ 3 := by
  cases g with
  | op => have := h.nop; simp [Fm.isOp] at this
  | nd nm ps =>
    have := h.ok
    simp only [Fm.ok, Bool.and_eq_true, decide_eq_true_eq] at this
    exact ⟨nm, ps, rfl, this.1.1, this.1.2⟩
theorem signs_app {a b : List (Str × Nat)} (h : Signs a) (k : Signs b) : Signs (a ++ b) := fun x hx => (List.mem_append.mp hx).elim (h x) (k x)
section
variable {P : Program} {w : World} {K : PySem.W.Frag} {T : Tbs} {mg : Str → Option Value} {base : Heap} {f : Addr} {fd : FuncData}
abbrev s__law_signs_of : Stmt := topS 61
theorem sc__law_signs_of : FnScope ["page_so", "found", "bit", "own"] ["page_so"] (defScope s__law_signs_of) := ⟨rfl, rfl, rfl, by decide +kernel, rfl, by decide +kernel, by decide +kernel⟩
def cSigns : CT := fun ss P => ∃ gs : List Fm, ss = [.d (.tuple (gs.map Fm.d))] ∧ gs.length ≤ 5 ∧ (∀ g ∈ gs, Drawn g 10 4) ∧
  ∀ l : List (Str × Nat), Signs l → l.length ≤ 200 → P (.m (l.map sgD)) [.no]
theorem ok__law_signs_of (B : BI mg) (h__law_bits : Fnd P w K T mg base 63 "_law_bits" ["page_so"] (keepC cBits)) (F : Fun K "_law_signs_of" "_law_signs_of" s__law_signs_of f fd) (b : Binds K fd ["page_so"] []) (m : mg "_law_signs_of" = some (.ref f)) : Fnd P w K T mg base 64 "_law_signs_of" ["page_so"] cSigns := by
  refine fn_d F sc__law_signs_of b m [] (by decide) fun cdv A outer s H E hr => ?_
  refine ⟨_, (dss_cons (ds_setLc (i := 1) (own := [("own", 3)]) rfl sc__law_signs_of.nd rfl rfl (sw_true rfl rfl rfl (by decide +kernel)) (di_seq (de_var 0 (pv 0))) (blkOk_by (N := ["page_so", "found", "bit", "own"]) (sc := (defScope s__law_signs_of)) (by decide +kernel)) (by decide) (fun _ => (dg_name (i := 3) (pg_name sc__law_signs_of.nd rfl (Or.inl rfl)))) (fun _ => dts_nil) (fun _ => (de_tup (da_cons (de_item (de_var 3 (pv 3)) de_int) (da_cons (de_sub (de_len B.len (da_cons (de_var 3 (pv 3)) da_nil)) de_int) da_nil))))) (dss_cons (ds_for PassesOwn.never rfl (di_seq (de_call (h__law_bits.mono (by omega)) hr (da_cons (de_var 0 (pv 0)) da_nil))) (dg_name (i := 2) (pg_name sc__law_signs_of.nd rfl (Or.inl rfl))) (dss_one (ds_expr (de_append (de_var 1 (pv 1)) (da_cons (de_tup (da_cons (de_item (de_var 2 (pv 2)) de_int) (da_cons (de_sub (de_len B.len (da_cons (de_var 2 (pv 2)) da_nil)) de_int) da_nil))) da_nil))))) (dss_one (ds_ret (de_add (de_add (de_sortSet B.sorted B.set rfl (un100 hr) (de_var 1 (pv 1))) (de_sortSet B.sorted B.set rfl (un100 hr) (de_lc (own := [("own", 3)]) rfl sc__law_signs_of.nd (di_seq (de_var 0 (pv 0))) (blkOk_by (N := ["page_so", "found", "bit", "own"]) (sc := (defScope s__law_signs_of)) (by decide +kernel)) (by decide) (fun _ => (dg_name (i := 3) (pg_name sc__law_signs_of.nd rfl (Or.inl rfl)))) (fun _ => dts_nil) (fun _ => (de_tup (da_cons (de_item (de_var 3 (pv 3)) de_int) (da_cons (de_sub (de_len B.len (da_cons (de_var 3 (pv 3)) da_nil)) de_int) da_nil))))))) (de_lst (da_cons (de_tup (da_cons de_str (da_cons de_int da_nil))) (da_cons (de_tup (da_cons de_str (da_cons de_int da_nil))) da_nil)))))))), ?_⟩
  rintro ss Q _ ⟨gs, rfl, hl, hd, q⟩
  -- the comprehension, at any other slots
  have comp : ∀ (s1 s2 : SV) (R : List (Str × Nat) → Prop) (P : DL.R → G → Prop), (∀ l, Signs l → l.length ≤ gs.length → P (.m (l.map sgD), none) [.d (.tuple (gs.map Fm.d)), s1, s2, .no]) →
      tdLc (tdSeqI (tdVar 0)) (tgName 3) tdYes (tAp (tdCons (tAp2 (tdVar 3) (tdC (PyData.int 0)) cIx) (tdCons (tAp2 (tAp (tdCons (tdVar 3) tdNil) cLen) (tdC (PyData.int 1)) (cI2 fun i j => PyData.int (i - j))) tdNil)) cTup) [3] [.d (.tuple (gs.map Fm.d)), s1, s2, .no] P := fun s1 s2 R P k => by
    refine ⟨_, rfl, ⟨fun i acc Γ => ∃ l : List (Str × Nat), acc = l.map sgD ∧ l.length ≤ i ∧ Signs l ∧ Γ = [.d (.tuple (gs.map Fm.d)), s1, s2, .no], ⟨[], rfl, Nat.le_refl _, (fun x hx => by cases hx), rfl⟩, ?_, ?_⟩⟩
    · rintro i x acc Γ hx ⟨l, rfl, h1, h2, rfl⟩
      rw [List.getElem?_map] at hx
      obtain ⟨g, hg, rfl⟩ := Option.map_eq_some_iff.mp hx
      have hi := (List.getElem?_eq_some_iff.mp hg).1
      obtain ⟨nm, ps, rfl, hn, hp⟩ := drawn_nd (hd g (List.mem_of_getElem? hg))
      refine ⟨_, .str nm, rfl, atI_zero, ⟨_, rfl, ⟨trivial, ⟨_, rfl, sz 2, ⟨_, rfl, szl (by rw [List.length_map]; omega), ?_⟩⟩⟩⟩⟩
      refine ⟨l ++ [(nm, ps.length)], ?_, by rw [List.length_append]; simp; omega, signs_app h2 fun x hx => by rw [List.mem_singleton.mp hx]; exact ⟨hn, hp⟩, rfl⟩
      rw [List.map_append, List.map_cons, List.map_nil, ← sgn_eq]
    · rintro acc Γ ⟨l, rfl, h1, h2, rfl⟩
      rw [List.length_map] at h1
      exact k l h2 h1
  refine comp .no .no (fun _ => True) _ fun l0 s0 n0 => ?_
  refine ⟨rfl, keep_bits (gs := gs) (.inr rfl) (by omega) hd fun bs b1 b2 => ?_⟩
  refine ⟨_, rfl, ⟨fun i Γ => ∃ (l : List (Str × Nat)) (a : SV), Γ = [.d (.tuple (gs.map Fm.d)), .m (l.map sgD), a, .no] ∧ l.length ≤ gs.length + i ∧ Signs l, ⟨l0, _, rfl, n0, s0⟩, ?_, ?_⟩⟩
  · rintro i x Γ hx ⟨l, a, rfl, h1, h2⟩
    rw [List.getElem?_map] at hx
    obtain ⟨g, hg, rfl⟩ := Option.map_eq_some_iff.mp hx
    have hi := (List.getElem?_eq_some_iff.mp hg).1
    obtain ⟨nm, ps, rfl, hn, hp⟩ := drawn_nd (b2 g (List.mem_of_getElem? hg))
    refine ⟨⟨_, rfl⟩, ⟨_, .str nm, rfl, atI_zero, ⟨_, rfl, ⟨trivial, ⟨_, rfl, sz 2, ⟨_, rfl, szl (by rw [List.length_map]; omega), rfl, ?_⟩⟩⟩⟩⟩⟩
    refine ⟨l ++ [(nm, ps.length)], .d (Fm.nd nm ps).d, ?_, by rw [List.length_append]; simp; omega, signs_app h2 fun x hx => by rw [List.mem_singleton.mp hx]; exact ⟨hn, hp⟩⟩
    rw [List.map_append, show List.map sgD [(nm, ps.length)] = [sgD (nm, ps.length)] from rfl, ← sgn_eq]
    rfl
  · rintro Γ ⟨l, a, rfl, h1, h2⟩
    rw [List.length_map] at h1
    refine ⟨l.map sgK, by rw [sgK_map]; rfl, sg_sorts (by omega), fun ks1 nd1 same1 ll1 => ?_⟩
    obtain ⟨l1, rfl, sub1⟩ := sgK_back fun k hk => (same1 k).mp hk
    rw [sgK_map]
    rw [List.length_map, List.length_map] at ll1
    refine comp (.m (l.map sgD)) a (fun _ => True) _ fun l2 s2 n2 => ?_
    refine ⟨l2.map sgK, by rw [sgK_map]; rfl, sg_sorts (by omega), fun ks3 nd3 same3 ll3 => ?_⟩
    obtain ⟨l3, rfl, sub3⟩ := sgK_back fun k hk => (same3 k).mp hk
    rw [sgK_map]
    rw [List.length_map, List.length_map] at ll3
    refine ⟨_, _, rfl, rfl, sz _ (by rw [List.length_map, List.length_map]; omega), ?_⟩
    refine ⟨_, rfl, sz 2, ⟨_, rfl, sz 2, ⟨_, rfl, sz 2, ⟨_, _, rfl, rfl, sz _ (by rw [List.length_append, List.length_map, List.length_map]; simp; omega), ?_⟩⟩⟩⟩
    have t := q (l1 ++ l3 ++ ([("a", 0), ("end", 0)] : List (Str × Nat))) (signs_app (signs_app (fun x hx => h2 x (sub1 x hx)) fun x hx => s2 x (sub3 x hx)) fun x hx => ?_) (by rw [List.length_append, List.length_append]; simp; omega)
    · rw [List.map_append, List.map_append] at t
      exact t
    · simp only [List.mem_cons, List.mem_nil_iff, or_false] at hx
      rcases hx with rfl | rfl
      · exact ⟨by decide +kernel, by decide⟩
      · exact ⟨by decide +kernel, by decide⟩
end

/-! ## FORMS near SIDES -/
theorem put_any : ∀ (p : List Int) (f h g : Fm), f.at? p = some h → f.ok = true → g.ok = true → (f.put p g).ok = true ∧ (f.put p g).dep ≤ f.dep + g.dep ∧ (f.put p g).size ≤ f.size + g.size
  | [], f, h, g, _, _, hg => by
    have e : f.put [] g = g := by cases f <;> rfl
    rw [e]
    exact ⟨hg, Nat.le_add_left _ _, Nat.le_add_left _ _⟩
  | i :: r, f, h, g, e, ho, hg => by
    obtain ⟨n, ps, h', rfl, h0, e1, e2⟩ := at_cons e
    have e3 : (Fm.nd n ps).put (i :: r) g = .nd n (ps.set i.toNat (h'.put r g)) := by
      show (match ps[i.toNat]? with | some h => _ | none => _) = _
      rw [e1]
    simp only [Fm.ok, Bool.and_eq_true, decide_eq_true_eq] at ho
    have hm := List.mem_of_getElem? e1
    obtain ⟨a, b, c⟩ := put_any r h' h g e2 ((oks_all ps).mp ho.2 h' hm) hg
    have hd := deps_le ps h' hm
    have hs := sizes_set ps i.toNat h' (h'.put r g) e1
    rw [e3]
    refine ⟨?_, ?_, ?_⟩
    · simp only [Fm.ok, Bool.and_eq_true, decide_eq_true_eq, List.length_set]
      refine ⟨ho.1, (oks_all _).mpr fun x hx => ?_⟩
      rcases mem_set' hx with (z | z)
      · exact (oks_all ps).mp ho.2 x z
      · rw [z]; exact a
    · rw [Fm.dep, Fm.dep]
      have : Fm.deps (ps.set i.toNat (h'.put r g)) ≤ Fm.deps ps + g.dep := deps_of _ fun x hx => by
        rcases mem_set' hx with (z | z)
        · have := deps_le ps x z; omega
        · rw [z]; omega
      omega
    · rw [Fm.size, Fm.size]; omega
theorem eqv_ints : ∀ p q : List Int, PyData.eqvAll (p.map PyData.int) (q.map PyData.int) = true → p = q
  | [], [], _ => rfl
  | [], _ :: _, h => by simp [PyData.eqvAll] at h
  | _ :: _, [], h => by simp [PyData.eqvAll] at h
  | a :: p, b :: q, h => by
    simp only [List.map_cons, PyData.eqvAll, Bool.and_eq_true] at h
    have e := h.1
    rw [ev_int, beq_iff_eq] at e
    rw [e, eqv_ints p q h.2]
theorem pl_in {ps : List (List Int)} {p : List Int} (h : ((ps.map plD).any fun z => PyData.eqv z (plD p)) = true) : p ∈ ps := by
  obtain ⟨z, hz, e⟩ := List.any_eq_true.mp h
  obtain ⟨q, hq, rfl⟩ := List.mem_map.mp hz
  have e2 : PyData.eqvAll (q.map PyData.int) (p.map PyData.int) = true := by
    have : PyData.eqv (.tuple (q.map PyData.int)) (.tuple (p.map PyData.int)) = true := e
    simpa only [PyData.eqv] using this
  rw [← eqv_ints q p e2]
  exact hq
def pZ : Nat → Nat
  | 0 => 2
  | d + 1 => 10 + 2 * pZ d
def pD : Nat → Nat
  | 0 => 2
  | d + 1 => 4 + 2 * pD d
def pU : Nat → Nat
  | 0 => 0
  | d + 1 => 5 + 2 * pU d
section
variable {P : Program} {w : World} {K : PySem.W.Frag} {T : Tbs} {mg : Str → Option Value} {base : Heap} {f : Addr} {fd : FuncData}
abbrev s__law_near : Stmt := topS 62
theorem sc__law_near : FnScope ["tin", "page_so", "deep_so", "leaf", "spots_so", "spot_so", "near_so"] ["tin", "page_so", "deep_so"] (defScope s__law_near) := ⟨rfl, rfl, rfl, by decide +kernel, rfl, by decide +kernel, by decide +kernel⟩
def cNear (d : Nat) : CT := fun ss P => ∃ (xs : List PyData) (gs : List Fm) (deep n : Nat), ss = [.m xs, .d (.tuple (gs.map Fm.d)), .d (.int deep)] ∧ gs ≠ [] ∧ gs.length ≤ 5 ∧ (∀ g ∈ gs, Drawn g 10 4) ∧ deep < d ∧ deep ≤ 1 ∧ Tin (n + pU (deep + 1)) xs ∧
  ∀ (f : Fm) (xs' : List PyData), f.ok = true → f.size ≤ pZ (deep + 1) → f.dep ≤ pD (deep + 1) → Tin n xs' → P (.d f.d) [.m xs', .no, .no]
set_option maxHeartbeats 3000001 in
theorem ok__law_near (B : BI mg) (h__law_of : Fnd P w K T mg base 2 "_law_of" ["tin", "goods_so"] cOf) (h__law_spots : Fnd P w K T mg base 60 "_law_spots" ["leaf"] (cLSpots 60)) (h__law_pick : Fnd P w K T mg base 2 "_law_pick" ["tin", "goods_so", "count_so"] cPick)
    (h__law_put : Fnd P w K T mg base 60 "_law_put" ["leaf", "spot_so", "fresh_so"] (cPut 60)) (F : Fun K "_law_near" "_law_near" s__law_near f fd) (b : Binds K fd ["tin", "page_so", "deep_so"] []) (m : mg "_law_near" = some (.ref f)) : ∀ d, Fnd P w K T mg base (60 + d) "_law_near" ["tin", "page_so", "deep_so"] (cNear d)
  | 0 => (Fnd.zero F b m fun ss Q ⟨_, _, deep, _, _, _, _, _, h, _⟩ => absurd h (Nat.not_lt_zero _)).mono (Nat.zero_le _)
  | d + 1 => by
    have h__law_near := ok__law_near B h__law_of h__law_spots h__law_pick h__law_put F b m d
    show Fnd P w K T mg base ((60 + d) + 1) _ _ _
    refine fn_d F sc__law_near b m [0] (by decide) fun cdv A outer s H E hr => ?_
    refine ⟨_, (dss_cons (ds_set (i := 3) (fun te h => ps_set sc__law_near.nd rfl (Or.inl rfl) h) (de_call (h__law_of.mono (by omega)) hr (da_cons (de_var 0 (pv 0)) (da_cons (de_var 1 (pv 1)) da_nil)))) (dss_cons (ds_set (i := 4) (fun te h => ps_set sc__law_near.nd rfl (Or.inl rfl) h) (de_call (h__law_spots.mono (by omega)) hr (da_cons (de_var 3 (pv 3)) da_nil))) (dss_cons (ds_for PassesOwn.never rfl (di_seq (de_call (h__law_pick.mono (by omega)) hr (da_cons (de_var 0 (pv 0)) (da_cons (de_slice (de_var 4 (pv 4)) (do_some de_int) do_none) (da_cons de_int da_nil))))) (dg_name (i := 5) (pg_name sc__law_near.nd rfl (Or.inl rfl))) (dss_one (ds_if (dt_in (un65 hr) (de_var 5 (pv 5)) (de_call (h__law_spots.mono (by omega)) hr (da_cons (de_var 3 (pv 3)) da_nil))) (dss_cons (ds_set (i := 6) (fun te h => ps_set sc__law_near.nd rfl (Or.inl rfl) h) (de_ifExp (dt_gt (de_var 2 (pv 2)) de_int) (de_call (h__law_near.mono (by omega)) hr (da_cons (de_var 0 (pv 0)) (da_cons (de_var 1 (pv 1)) (da_cons (de_sub (de_var 2 (pv 2)) de_int) da_nil)))) (de_tup da_nil))) (dss_one (ds_set (i := 3) (fun te h => ps_set sc__law_near.nd rfl (Or.inl rfl) h) (de_call (h__law_put.mono (by omega)) hr (da_cons (de_var 3 (pv 3)) (da_cons (de_var 5 (pv 5)) (da_cons (de_call (h__law_of.mono (by omega)) hr (da_cons (de_var 0 (pv 0)) (da_cons (de_lst (da_cons (de_tup da_nil) (da_cons (de_tup da_nil) (da_cons (de_var 6 (pv 6)) (da_cons (de_var 6 (pv 6)) (da_cons (de_tup (da_cons de_str da_nil)) (da_cons (de_tup (da_cons de_str da_nil)) da_nil))))))) da_nil))) da_nil))))))) dss_nil))) (dss_one (ds_ret (de_var 3 (pv 3))))))), ?_⟩
    rintro ss Q _ ⟨xs, gs, deep, n, rfl, hne, hl, hd, hdd, hd1, ht, q⟩
    refine ⟨rfl, xs, gs.map Fm.d, _, n + 2 + 2 * (pU deep + 1), rfl, .inr (.inr rfl), ht.mono (by rw [pU]; omega), by simpa using hne, by rw [List.length_map]; omega, fun g0 xs1 hg0 ht1 => ?_⟩
    obtain ⟨g, hg, rfl⟩ := List.mem_map.mp hg0
    have dg := hd g hg
    have hgs := dg.size
    have hgd := dg.dep
    obtain ⟨r, er, hr'⟩ := spl_tl g
    refine ⟨rfl, g, rfl, by omega, by omega, ?_⟩
    have hpz : pZ deep ≤ 14 ∧ pD deep ≤ 8 ∧ 2 ≤ pZ deep ∧ 2 ≤ pD deep := by
      rcases Nat.lt_or_ge deep 1 with z | z
      · have e : deep = 0 := by omega
        subst e; decide
      · have e : deep = 1 := by omega
        subst e; decide
    have body : ∀ (E : ED) (lf nf h : Fm) (p : List Int) (xs3 : List PyData) (k : Nat) (a : SV), lf.ok = true → lf.size ≤ 100 → lf.dep ≤ 30 → nf.ok = true → nf.size ≤ pZ deep → nf.dep ≤ pD deep → lf.at? p = some h → p ∈ spl lf → Tin (k + 1) xs3 →
        (∀ (lf' : Fm) (xs' : List PyData), lf'.ok = true → lf'.size ≤ lf.size + pZ deep → lf'.dep ≤ lf.dep + pD deep → Tin k xs' → E.nx [.m xs', .d (.tuple (gs.map Fm.d)), .d (.int deep), .d lf'.d, a, .d (plD p), .d nf.d]) →
        tdSet 3 (tAp (tdCons (tdVar 3) (tdCons (tdVar 5) (tdCons (tAp (tdCons (tdVar 0) (tdCons (tAp (tdCons (tAp tdNil cTup) (tdCons (tAp tdNil cTup) (tdCons (tdVar 6) (tdCons (tdVar 6) (tdCons (tAp (tdCons (tdC (PyData.str "a")) tdNil) cTup) (tdCons (tAp (tdCons (tdC (PyData.str "b")) tdNil) cTup) tdNil)))))) cLst) tdNil)) (cN 2 cOf)) tdNil))) (cN 3 (cPut 60))) E
          [.m xs3, .d (.tuple (gs.map Fm.d)), .d (.int deep), .d lf.d, a, .d (plD p), .d nf.d] := by
      intro E lf nf h p xs3 k a l1 l2 l3 m1 m2 m3 hat hsp ht3 fin
      have hpl := spl_dep hsp
      refine ⟨_, rfl, sz 0, _, rfl, sz 0, _, rfl, sz 1, _, rfl, sz 1, _, rfl, sz 6, ?_⟩
      refine ⟨rfl, xs3, _, _, k, rfl, .inl rfl, ht3, by simp, by simp, fun g1 xs4 hg1 ht4 => ?_⟩
      have h1 : ∃ s : Fm, g1 = s.d ∧ s.ok = true ∧ s.size ≤ pZ deep ∧ s.dep ≤ pD deep := by
        simp only [List.mem_cons, List.mem_nil_iff, or_false] at hg1
        rcases hg1 with (e | e | e | e | e | e)
        · exact ⟨.op, e, rfl, by simp only [Fm.size]; omega, by simp only [Fm.dep]; omega⟩
        · exact ⟨.op, e, rfl, by simp only [Fm.size]; omega, by simp only [Fm.dep]; omega⟩
        · exact ⟨nf, e, m1, m2, m3⟩
        · exact ⟨nf, e, m1, m2, m3⟩
        · exact ⟨.nd "a" [], e, by decide +kernel, by simp only [Fm.size, Fm.sizes]; omega, by simp only [Fm.dep, Fm.deps]; omega⟩
        · exact ⟨.nd "b" [], e, by decide +kernel, by simp only [Fm.size, Fm.sizes]; omega, by simp only [Fm.dep, Fm.deps]; omega⟩
      obtain ⟨s, rfl, s1, s2, s3⟩ := h1
      obtain ⟨k1, k2, k3⟩ := put_any p lf h s hat l1 s1
      refine ⟨rfl, lf, s, h, p, rfl, hat, by omega, by omega, by omega, ?_⟩
      exact fin _ xs4 k1 (by omega) (by omega) ht4
    refine ⟨_, rfl, _, rfl, ?_⟩
    refine ⟨rfl, xs1, _, _, 2, n + 2 * (pU deep + 1), rfl, .inl rfl, ht1.mono (by omega), ?_, by omega, fun found xs2 hf hfl ht2 => ?_⟩
    · rw [er, List.map_cons, cut_one, List.length_map]
      have := spl_len g
      rw [er, List.length_cons] at this
      omega
    refine ⟨_, rfl, ⟨fun i Γ => ∃ (lf : Fm) (xs' : List PyData) (a b c : SV), Γ = [.m xs', .d (.tuple (gs.map Fm.d)), .d (.int deep), .d lf.d, a, b, c] ∧ lf.ok = true ∧ lf.size ≤ 10 + i * pZ deep ∧ lf.dep ≤ 4 + i * pD deep ∧ Tin (n + (2 - i) * (pU deep + 1)) xs', ⟨g, xs2, _, _, _, rfl, dg.ok, by omega, by omega, ht2⟩, ?_, ?_⟩⟩
    · rintro i x Γ hx ⟨lf, xs', a, b, c, rfl, l1, l2, l3, ht3⟩
      have hi := (List.getElem?_eq_some_iff.mp hx).1
      have hxm := hf x (List.mem_of_getElem? hx)
      rw [er, List.map_cons, cut_one] at hxm
      obtain ⟨p, hp, rfl⟩ := List.mem_map.mp hxm
      have hi2 : i * pZ deep ≤ pZ deep ∧ i * pD deep ≤ pD deep := by
        rcases Nat.lt_or_ge i 1 with z | z
        · have e : i = 0 := by omega
          subst e; simp
        · have e : i = 1 := by omega
          subst e; simp
      refine ⟨rfl, lf, rfl, by omega, by omega, ?_⟩
      refine ⟨plD p, (spl lf).map plD, rfl, rfl, sh_pl p, sh_lpl _, _, rfl, ?_⟩
      have eU : (2 - i) * (pU deep + 1) = (2 - (i + 1)) * (pU deep + 1) + pU deep + 1 := by
        rw [show 2 - i = (2 - (i + 1)) + 1 by omega, Nat.succ_mul]; omega
      show if (((spl lf).map plD).any fun z => PyData.eqv z (plD p)) = true then _ else _
      by_cases hin : (((spl lf).map plD).any fun z => PyData.eqv z (plD p)) = true
      · rw [if_pos hin]
        have hsp := pl_in hin
        obtain ⟨h, hat⟩ := spl_at p lf hsp
        have done : ∀ (nf : Fm) (lf' : Fm) (xs' : List PyData), lf'.ok = true → lf'.size ≤ lf.size + pZ deep → lf'.dep ≤ lf.dep + pD deep → Tin (n + (2 - (i + 1)) * (pU deep + 1)) xs' →
            ∃ (lf : Fm) (xs'' : List PyData) (a' b c : SV), [.m xs', .d (.tuple (gs.map Fm.d)), .d (.int deep), .d lf'.d, a, .d (plD p), .d nf.d] = [.m xs'', .d (.tuple (gs.map Fm.d)), .d (.int deep), .d lf.d, a', b, c] ∧ lf.ok = true ∧ lf.size ≤ 10 + (i + 1) * pZ deep ∧ lf.dep ≤ 4 + (i + 1) * pD deep ∧ Tin (n + (2 - (i + 1)) * (pU deep + 1)) xs'' := fun nf lf' xs' a1 a2 a3 a4 =>
          ⟨lf', xs', _, _, _, rfl, a1, by rw [Nat.succ_mul]; omega, by rw [Nat.succ_mul]; omega, a4⟩
        refine ⟨trivial, _, rfl, ?_⟩
        show if decide ((0 : Int) < (deep : Int)) = true then _ else _
        by_cases hd0 : (0 : Int) < (deep : Int)
        · rw [if_pos (decide_eq_true hd0)]
          obtain ⟨e, rfl⟩ : ∃ e, deep = e + 1 := ⟨deep - 1, by omega⟩
          refine ⟨trivial, rfl, xs', gs, e, n + (2 - (e + 1 + 1)) * 0 + (2 - (i + 1)) * (pU (e + 1) + 1) + 1, ?_, hne, hl, hd, by omega, by omega, ht3.mono (by omega), fun nf xs3 a1 a2 a3 ht4 => ?_⟩
          · have e2 : (e : Int) = ((e + 1 : Nat) : Int) - 1 := by omega
            rw [e2]; rfl
          · exact body _ lf nf h p xs3 _ a l1 (by omega) (by omega) a1 a2 a3 hat hsp (ht4.mono (by omega)) (done nf)
        · rw [if_neg (by rw [decide_eq_false hd0]; exact Bool.false_ne_true)]
          refine ⟨_, rfl, sz 0, ?_⟩
          exact body _ lf .op h p xs' _ a l1 (by omega) (by omega) rfl (by simp only [Fm.size]; omega) (by simp only [Fm.dep]; omega) hat hsp (ht3.mono (by omega)) (done .op)
      · rw [if_neg hin]
        exact ⟨lf, xs', _, _, _, rfl, l1, by rw [Nat.succ_mul]; omega, by rw [Nat.succ_mul]; omega, ht3.mono (by omega)⟩
    · rintro Γ ⟨lf, xs', a, b, c, rfl, l1, l2, l3, ht3⟩
      have z1 := Nat.mul_le_mul_right (pZ deep) hfl
      have z2 := Nat.mul_le_mul_right (pD deep) hfl
      exact q lf xs' l1 (by rw [pZ]; omega) (by rw [pD]; omega) (ht3.mono (by omega))
end

/-! ## how deep and how large data are -/
mutual
theorem fm_nod : ∀ f : Fm, nod f.d = true
  | .op => by simp [Fm.d, nod, nods]
  | .nd n ps => by simp only [Fm.d, nod, nods, Bool.true_and]; exact fms_nod ps
theorem fms_nod : ∀ ps : List Fm, nods (Fm.ds ps) = true
  | [] => by simp [Fm.ds, nods]
  | f :: r => by simp only [Fm.ds, nods, fm_nod f, fms_nod r, Bool.and_self]
end
mutual
theorem fm_lev : ∀ f : Fm, lev f.d ≤ f.dep
  | .op => by simp [Fm.d, lev, levs, Fm.dep]
  | .nd n ps => by
    have := fms_lev ps
    simp only [Fm.d, lev, levs, Fm.dep]; omega
theorem fms_lev : ∀ ps : List Fm, levs (Fm.ds ps) ≤ Fm.deps ps
  | [] => by simp [Fm.ds, levs]
  | f :: r => by
    have a := fm_lev f
    have b := fms_lev r
    simp only [Fm.ds, levs, Fm.deps]; omega
end
mutual
theorem fm_cnt : ∀ f : Fm, cnt f.d ≤ 2 * f.size
  | .op => by simp [Fm.d, cnt, cnts, Fm.size]
  | .nd n ps => by
    have := fms_cnt ps
    simp only [Fm.d, cnt, cnts, Fm.size]; omega
theorem fms_cnt : ∀ ps : List Fm, cnts (Fm.ds ps) ≤ 2 * Fm.sizes ps
  | [] => by simp [Fm.ds, cnts]
  | f :: r => by
    have a := fm_cnt f
    have b := fms_cnt r
    simp only [Fm.ds, cnts, Fm.sizes]; omega
end
mutual
theorem nds_size : ∀ f : Fm, f.nds ≤ f.size
  | .op => by simp [Fm.nds]
  | .nd n ps => by
    have := ndss_size ps
    simp only [Fm.nds, Fm.size]; omega
theorem ndss_size : ∀ ps : List Fm, Fm.ndss ps ≤ Fm.sizes ps
  | [] => by simp [Fm.ndss]
  | f :: r => by
    have a := nds_size f
    have b := ndss_size r
    simp only [Fm.ndss, Fm.sizes]; omega
end
mutual
theorem tup_fm : ∀ f : Fm, tupD f.d = f.d
  | .op => by simp [Fm.d, tupD, tupDs]
  | .nd n ps => by simp only [Fm.d, tupD, tupDs, tups_fm ps]
theorem tups_fm : ∀ ps : List Fm, tupDs (Fm.ds ps) = Fm.ds ps
  | [] => by simp [Fm.ds, tupDs]
  | f :: r => by simp only [Fm.ds, tupDs, tup_fm f, tups_fm r]
end
mutual
theorem lis_nod : ∀ x : PyData, nod (lisD x) = nod x
  | .list xs => by simp only [lisD, nod, liss_nod xs]
  | .tuple xs => by simp only [lisD, nod, liss_nod xs]
  | .none => rfl
  | .bool _ => rfl
  | .int _ => rfl
  | .str _ => rfl
  | .dict _ => rfl
theorem liss_nod : ∀ xs : List PyData, nods (lisDs xs) = nods xs
  | [] => rfl
  | x :: r => by simp only [lisDs, nods, lis_nod x, liss_nod r]
end
mutual
theorem lis_lev : ∀ x : PyData, lev (lisD x) = lev x
  | .list xs => by simp only [lisD, lev, liss_lev xs]
  | .tuple xs => by simp only [lisD, lev, liss_lev xs]
  | .none => rfl
  | .bool _ => rfl
  | .int _ => rfl
  | .str _ => rfl
  | .dict _ => rfl
theorem liss_lev : ∀ xs : List PyData, levs (lisDs xs) = levs xs
  | [] => rfl
  | x :: r => by simp only [lisDs, levs, lis_lev x, liss_lev r]
end
mutual
theorem lis_cnt : ∀ x : PyData, cnt (lisD x) = cnt x
  | .list xs => by simp only [lisD, cnt, liss_cnt xs]
  | .tuple xs => by simp only [lisD, cnt, liss_cnt xs]
  | .none => rfl
  | .bool _ => rfl
  | .int _ => rfl
  | .str _ => rfl
  | .dict _ => rfl
theorem liss_cnt : ∀ xs : List PyData, cnts (lisDs xs) = cnts xs
  | [] => rfl
  | x :: r => by simp only [lisDs, cnts, lis_cnt x, liss_cnt r]
end
mutual
theorem lis_tup : ∀ x : PyData, tupD (lisD x) = tupD x
  | .list xs => by simp only [lisD, tupD, liss_tup xs]
  | .tuple xs => by simp only [lisD, tupD, liss_tup xs]
  | .none => rfl
  | .bool _ => rfl
  | .int _ => rfl
  | .str _ => rfl
  | .dict _ => rfl
theorem liss_tup : ∀ xs : List PyData, tupDs (lisDs xs) = tupDs xs
  | [] => rfl
  | x :: r => by simp only [lisDs, tupDs, lis_tup x, liss_tup r]
end
mutual
theorem lis_lay : ∀ x : PyData, (lisD x).canLay0 = x.canLay0
  | .list xs => by simp only [lisD, PyData.canLay0, liss_lay xs]
  | .tuple xs => by simp only [lisD, PyData.canLay0, liss_lay xs]
  | .none => rfl
  | .bool _ => rfl
  | .int _ => rfl
  | .str _ => rfl
  | .dict _ => rfl
theorem liss_lay : ∀ xs : List PyData, PyData.canLayAll0 (lisDs xs) = PyData.canLayAll0 xs
  | [] => rfl
  | x :: r => by simp only [lisDs, PyData.canLayAll0, lis_lay x, liss_lay r]
end
theorem nods_iff : ∀ xs : List PyData, nods xs = true ↔ ∀ x ∈ xs, nod x = true
  | [] => by simp [nods]
  | x :: r => by simp [nods, nods_iff r]
theorem levs_iff {d : Nat} : ∀ xs : List PyData, levs xs ≤ d ↔ ∀ x ∈ xs, lev x ≤ d
  | [] => by simp [levs]
  | x :: r => by simp only [levs, List.forall_mem_cons, ← levs_iff r]; omega
theorem lays_iff : ∀ xs : List PyData, PyData.canLayAll0 xs = true ↔ ∀ x ∈ xs, x.canLay0 = true
  | [] => by simp [PyData.canLayAll0]
  | x :: r => by simp [PyData.canLayAll0, lays_iff r]
theorem cnts_le {c : Nat} : ∀ xs : List PyData, (∀ x ∈ xs, cnt x ≤ c) → cnts xs ≤ xs.length * c
  | [], _ => by simp [cnts]
  | x :: r, h => by
    have a := h x List.mem_cons_self
    have b := cnts_le r fun y hy => h y (List.mem_cons_of_mem _ hy)
    rw [cnts, List.length_cons, Nat.succ_mul]; omega
/-- small data: so deep, so large, and it can be laid -/
structure Sm (d c : Nat) (x : PyData) : Prop where
  nod : nod x = true
  lev : lev x ≤ d
  cnt : cnt x ≤ c
  lay : x.canLay0 = true
theorem Sm.mono {d c d' c' : Nat} {x : PyData} (h : Sm d c x) (a : d ≤ d') (b : c ≤ c') : Sm d' c' x := ⟨h.nod, Nat.le_trans h.lev a, Nat.le_trans h.cnt b, h.lay⟩
theorem Sm.dat {d c : Nat} {x : PyData} (h : Sm d c x) (b : c ≤ 1000000) : Dat (d + 1) x := ⟨h.nod, by have := h.lev; omega, Nat.le_trans h.cnt b⟩
theorem Sm.lis {d c : Nat} {x : PyData} (h : Sm d c x) : Sm d c (lisD x) := ⟨by rw [lis_nod]; exact h.nod, by rw [lis_lev]; exact h.lev, by rw [lis_cnt]; exact h.cnt, by rw [lis_lay]; exact h.lay⟩
theorem sm_list {d c n : Nat} {xs : List PyData} (h : ∀ x ∈ xs, Sm d c x) (l : xs.length ≤ n) : Sm (d + 1) (1 + n * c) (.list xs) where
  nod := by simp only [DL.nod]; exact (nods_iff xs).mpr fun x hx => (h x hx).nod
  lev := by simp only [DL.lev]; have := (levs_iff (d := d) xs).mpr fun x hx => (h x hx).lev; omega
  cnt := by
    simp only [DL.cnt]
    have a := cnts_le (c := c) xs fun x hx => (h x hx).cnt
    have b := Nat.mul_le_mul_right c l
    omega
  lay := by simp only [PyData.canLay0]; exact (lays_iff xs).mpr fun x hx => (h x hx).lay
theorem sm_tuple {d c n : Nat} {xs : List PyData} (h : ∀ x ∈ xs, Sm d c x) (l : xs.length ≤ n) : Sm (d + 1) (1 + n * c) (.tuple xs) :=
  have k := sm_list h l
  ⟨k.nod, k.lev, k.cnt, k.lay⟩
theorem sm_fm {f : Fm} (h : f.ok = true) : Sm f.dep (2 * f.size) f.d := ⟨fm_nod f, fm_lev f, fm_cnt f, Fm.lay f h⟩
theorem sm_int (i : Int) : Sm 0 1 (.int i) := ⟨rfl, Nat.le_refl _, Nat.le_refl _, rfl⟩
theorem sm_bool (b : Bool) : Sm 0 1 (.bool b) := ⟨rfl, Nat.le_refl _, Nat.le_refl _, rfl⟩
theorem sm_none : Sm 0 1 .none := ⟨rfl, Nat.le_refl _, Nat.le_refl _, rfl⟩
theorem sm_opt (o : Option Nat) : Sm 0 1 (optD o) := by
  cases o with
  | none => exact sm_none
  | some k => exact sm_int _
theorem sm_pl {p : List Int} {n : Nat} (l : p.length ≤ n) : Sm 1 (1 + n) (plD p) := by
  have k : Sm (0 + 1) (1 + n * 1) (plD p) := sm_tuple (d := 0) (c := 1) (n := n) (fun x hx => by
    obtain ⟨i, _, rfl⟩ := List.mem_map.mp hx
    exact sm_int i) (by rw [List.length_map]; exact l)
  rw [Nat.mul_one] at k
  exact k
mutual
theorem rows_pl (gs : List Fm) (p : List Int) : ∀ (f : Fm) (r : Row), r ∈ rowsF gs p f → r.1.length + 1 ≤ p.length + f.dep
  | .op, r, h => by
    simp only [rowsF, List.mem_singleton] at h
    rw [h]; simp [mkRow, Fm.dep]
  | .nd n ps, r, h => by
    rw [rowsF] at h
    rcases List.mem_append.mp h with z | z
    · have := rowss_pl gs p 0 ps r z
      rw [Fm.dep]; omega
    · rw [List.mem_singleton.mp z]; simp [mkRow, Fm.dep]
theorem rowss_pl (gs : List Fm) (p : List Int) (k : Nat) : ∀ (ps : List Fm) (r : Row), r ∈ rowsFs gs p k ps → r.1.length + 1 ≤ p.length + 1 + Fm.deps ps
  | [], r, h => by simp [rowsFs] at h
  | f :: t, r, h => by
    rw [rowsFs] at h
    rcases List.mem_append.mp h with z | z
    · have := rows_pl gs (p ++ [(k : Int)]) f r z
      rw [List.length_append] at this
      rw [Fm.deps]; simp at this; omega
    · have := rowss_pl gs p (k + 1) t r z
      rw [Fm.deps]; omega
end
theorem sm_struck (gs : List Fm) (f : Fm) : Sm 3 (1 + f.size * (1 + 2 * (1 + f.dep))) (struckD gs f) := by
  refine sm_tuple (d := 2) (fun x hx => ?_) (Nat.le_trans (List.length_filterMap_le _ _) (by rw [rowsF_plen]; exact Nat.le_refl _))
  obtain ⟨r, hr, e⟩ := List.mem_filterMap.mp hx
  unfold rowP at e
  obtain ⟨k, _, rfl⟩ := Option.map_eq_some_iff.mp e
  have := rows_pl gs [] f r hr
  refine sm_tuple (d := 1) (c := 1 + f.dep) (n := 2) (fun y hy => ?_) (by simp)
  simp only [List.mem_cons, List.mem_nil_iff, or_false] at hy
  rcases hy with rfl | rfl
  · exact sm_pl (by simp at this; omega)
  · exact (sm_int _).mono (by decide) (by omega)
theorem keep_size (gs : List Fm) (f : Fm) : (keepA gs f).size ≤ f.size := by
  unfold keepA
  split
  · exact Nat.le_refl _
  · have := size_pos f; simp only [Fm.size]; omega
mutual
theorem blot_size (gs : List Fm) : ∀ f : Fm, (blotF gs f).size ≤ f.size
  | .op => by simp [blotF, Fm.size]
  | .nd n ps => by
    have a := keep_size gs (.nd n (blotFs gs ps))
    have b := blots_size gs ps
    rw [blotF]
    simp only [Fm.size] at a ⊢
    omega
theorem blots_size (gs : List Fm) : ∀ ps : List Fm, Fm.sizes (blotFs gs ps) ≤ Fm.sizes ps
  | [] => by simp [blotFs]
  | f :: r => by
    have a := blot_size gs f
    have b := blots_size gs r
    simp only [blotFs, Fm.sizes]; omega
end
theorem cnts_app : ∀ a b : List PyData, cnts (a ++ b) = cnts a + cnts b
  | [], b => by simp [cnts]
  | x :: r, b => by rw [List.cons_append, cnts, cnts, cnts_app r b]; omega

/-! ## numbers, pairs, names -/
section
variable {P : Program} {w : World} {K : PySem.W.Frag} {T : Tbs} {mg : Str → Option Value} {base : Heap} {f : Addr} {fd : FuncData}
abbrev s_is_number : Stmt := topS 5
theorem sc_is_number : FnScope ["thing"] ["thing"] (defScope s_is_number) := ⟨rfl, rfl, rfl, by decide +kernel, rfl, by decide +kernel, by decide +kernel⟩
abbrev s_is_numbers : Stmt := topS 6
theorem sc_is_numbers : FnScope ["thing"] ["thing"] (defScope s_is_numbers) := ⟨rfl, rfl, rfl, by decide +kernel, rfl, by decide +kernel, by decide +kernel⟩
def cNums : CT := fun ss P => ∃ p : List Int, ss = [.d (plD p)] ∧ P (.d (.bool true)) [.no]
theorem ok_is_numbers {fN Pt : Addr} (B : BI mg) (hNum : NumF K mg fN s_is_number) (hTb : Pt ∈ T.1) {co : Addr} (F : FunC K "is_numbers" "is_numbers" s_is_numbers f fd co) (b : Binds K fd ["thing"] []) (m : mg "is_numbers" = some (.ref f)) (hTB : GxR.TabB base mg co Pt) : Fnd P w K T mg base 4 "is_numbers" ["thing"] cNums := by
  refine fn_dc F sc_is_numbers b m [] (by decide) fun cdv A outer s H E hc hr => ?_
  subst hc
  refine ⟨_, (dss_one (ds_ret (de_and (isi_tuple B (de_var 0 (pv 0))) (de_one (de_allI hTb hr B.all hTB rfl (genS rfl rfl (by decide +kernel) rfl rfl (by decide +kernel)) (yes_num hNum B rfl rfl) (de_var 0 (pv 0))))))), ?_⟩
  rintro ss Q _ ⟨p, rfl, q⟩
  exact ⟨"tuple", true, rfl, an_tuple_tuple, true, rfl, p, rfl, q⟩
def cPair : CT := fun ss P => ∃ (xs : List PyData), ss = [.d (.tuple xs)] ∧ xs.length ≤ 1000000 ∧ P (.d (.bool (decide (xs.length = 2)))) [.no]
def cName : CT := fun ss P => ∃ n : Str, ss = [.d (.str n)] ∧ nmOk n = true ∧ P (.d (.bool true)) [.no]
end

section
variable {P : Program} {w : World} {K : PySem.W.Frag} {T : Tbs} {mg : Str → Option Value} {base : Heap} {f : Addr} {fd : FuncData}
abbrev s_spots : Stmt := topS 8
theorem sc_spots : FnScope ["form", "waiting", "rows", "place", "part", "number"] ["form"] (defScope s_spots) := ⟨rfl, rfl, rfl, by decide +kernel, rfl, by decide +kernel, by decide +kernel⟩
def cSpots : CT := fun ss P => ∃ f : Fm, ss = [.d f.d] ∧ f.size ≤ 1000000 ∧ P (.m ((f.sp []).map spD)) [.no]
theorem ok_spots (B : BI mg) (F : Fun K "spots" "spots" s_spots f fd) (b : Binds K fd ["form"] []) (m : mg "spots" = some (.ref f)) : Fnd P w K T mg base 1 "spots" ["form"] cSpots := by
  refine fn_d F sc_spots b m [] (by decide) fun cdv A outer s H E hr => ?_
  refine ⟨_, (dss_cons (ds_par (i := 1) (j := 2) (fun ta tb h1 h2 => ps_par rfl sc_spots.nd rfl rfl (by decide) rfl rfl (pa_cons h1 (pa_cons h2 pa_nil)) (by rfl)) (de_lst (da_cons (de_tup (da_cons (de_tup da_nil) (da_cons (de_var 0 (pv 0)) da_nil))) da_nil)) (de_lst da_nil)) (dss_cons (ds_while PassesOwn.never (dt_truth (de_var 1 (pv 1))) (dss_cons (ds_asg (fun te g h1 h2 => ps_asg h1 h2) (de_pop (de_var 1 (pv 1))) (dg_tup (n := 2) rfl (dgs_cons (dg_name (i := 3) (pg_name sc_spots.nd rfl (Or.inl rfl))) (dgs_cons (dg_name (i := 4) (pg_name sc_spots.nd rfl (Or.inl rfl))) dgs_nil)))) (dss_cons (ds_expr (de_append (de_var 2 (pv 2)) (da_cons (de_tup (da_cons (de_var 3 (pv 3)) (da_cons (de_var 4 (pv 4)) da_nil))) da_nil))) (dss_one (ds_for PassesOwn.never rfl (di_revrange1 rfl B.reversed rfl B.range (de_sub (de_len B.len (da_cons (de_var 4 (pv 4)) da_nil)) de_int)) (dg_name (i := 5) (pg_name sc_spots.nd rfl (Or.inl rfl))) (dss_one (ds_expr (de_append (de_var 1 (pv 1)) (da_cons (de_tup (da_cons (de_add (de_var 3 (pv 3)) (de_tup (da_cons (de_var 5 (pv 5)) da_nil))) (da_cons (de_item (de_var 4 (pv 4)) (de_add (de_var 5 (pv 5)) de_int)) da_nil))) da_nil))))))))) (dss_one (ds_ret (de_var 2 (pv 2)))))), ?_⟩
  intro ss Q _ ⟨f, e, hf, q⟩
  subst e
  walk_at "dl"
  refine ⟨sz 0, sz 2, sz 1, sz 0, ?_⟩
  refine ⟨fun m Γ => ∃ (st out : List (List Int × Fm)) (a b c : SV), Γ = [.d f.d, .m (st.map spD), .m (out.map spD), a, b, c] ∧ out ++ (st.reverse.flatMap fun x => x.2.sp x.1) = f.sp [] ∧ (∀ x ∈ st, x.1.length + x.2.size ≤ 1000000) ∧ m = sizeS st, ⟨f.size, [([], f)], [], _, _, _, rfl, by simp, by simpa using hf, by simp [sizeS]⟩, ?_⟩
  rintro m Γ ⟨st, out, a, b, c, rfl, hinv, hpl0, rfl⟩
  walk_at "dl"
  rcases List.eq_nil_or_concat st with rfl | ⟨init, ⟨p, g⟩, rfl⟩
  · have e : out = f.sp [] := by simpa using hinv
    subst e
    simp only [List.map_nil, List.isEmpty_nil, Bool.not_true, Bool.false_eq_true, if_false]
    exact q
  · have e1 : (!(List.map spD (init ++ [(p, g)])).isEmpty) = true := by simp
    rw [List.concat_eq_append, e1, if_pos rfl]
    have hlen : out.length + sizeS (init ++ [(p, g)]) = f.size := by
      rw [← sp_len [] f, ← hinv, List.length_append, flat_len, List.concat_eq_append, sizeS_rev]
    have hl1 : out.length ≤ 1000000 := by omega
    simp only [List.map_append, List.map_cons, List.map_nil, List.length_append, List.length_cons, List.length_nil, List.dropLast_concat]
    refine ⟨spD (p, g), by simp, ?_⟩
    show ∃ xs, PyData.tuple [plD p, g.d] = .tuple xs ∧ _
    walk_at "dl"
    refine ⟨sz 2, szl (by rw [List.length_map]; omega), ?_⟩
    simp only [Fm.d_its g, Option.some.injEq, exists_eq_left']
    have hg := size_kd p g
    have hsz : sizeS (init ++ [(p, g)]) = sizeS init + g.size := by rw [sizeS_append]; simp [sizeS]
    have hpl := its_small g (by omega)
    have hil0 := len_sizeS init
    have hil := g.its_len
    refine ⟨⟨by omega, by omega⟩, ?_⟩
    rw [hil]
    refine ⟨fun i Γ => ∃ nb, Γ = [.d f.d, .m ((init ++ (g.kd p).reverse.take i).map spD), .m (List.map spD out ++ [PyData.tuple [plD p, PyData.tuple g.its]]), .d (plD p), .d (.tuple g.its), nb], ⟨c, by simp⟩, ?_, ?_⟩
    · rintro i x Γ hx ⟨nb, rfl⟩
      obtain ⟨hi, rfl⟩ := rgD_rev_get hx
      have hk : g.parts.length - 1 - i < g.parts.length := by omega
      walk_at "dl"
      simp only [plD, Option.some.injEq, exists_eq_left', List.length_map, List.length_append, List.length_cons, List.length_nil, List.length_take, List.length_reverse, kd_len]
      have hr : (g.kd p).reverse[i]? = some (p ++ [((g.parts.length - 1 - i : Nat) : Int)], g.parts[g.parts.length - 1 - i]) := by
        rw [rev_get (by rw [kd_len]; exact hi), kd_len]
        unfold Fm.kd
        rw [kids_get p g.parts 0 _ hk, Nat.zero_add]
      have hpg := hpl0 (p, g) (by simp)
      simp only at hpg
      refine ⟨sz 1, sz _ (by omega), _, Fm.its_at g _ hk, sz 2, szl (by omega), ?_⟩
      rw [take_one hr, ← List.append_assoc, List.map_append (l₁ := init ++ _)]
      simp only [List.map_cons, List.map_nil, spD, prD, plD_cat]
    · rintro Γ ⟨nb, rfl⟩
      rw [List.length_reverse, rgD_len]
      have e2 : (g.kd p).reverse.take g.parts.length = (g.kd p).reverse := List.take_of_length_le (by rw [List.length_reverse, kd_len]; exact Nat.le_refl _)
      rw [e2]
      refine ⟨sizeS (init ++ (g.kd p).reverse), ?_, init ++ (g.kd p).reverse, out ++ [(p, g)], ?_, ?_, ?_, rfl⟩
      · rw [sizeS_append, sizeS_rev, hsz]; omega
      · refine ⟨.d (plD p), .d (.tuple g.its), nb, ?_⟩
        rw [List.map_append (l₁ := out)]
        simp only [List.map_cons, List.map_nil, spD, prD, Fm.d_its]
      · rw [← hinv, List.concat_eq_append]
        simp only [List.reverse_append, List.reverse_reverse, List.reverse_cons, List.reverse_nil, List.nil_append, List.flatMap_append, List.flatMap_cons, List.flatMap_nil, List.append_nil, List.append_assoc, List.cons_append]
        rw [sp_eq p g]
        first | (simp only [List.cons_append]; done) | (simp only [List.cons_append]; simp only [List.append_assoc])
      · intro x hx
        rcases List.mem_append.mp hx with z | z
        · exact hpl0 x (by simp [z])
        · have h1 := mem_kd (List.mem_reverse.mp z)
          have h2 := hpl0 (p, g) (by simp)
          simp only at h2
          omega
end

/-! ## lying in -/
mutual
def Fm.lie : Fm → Fm → Bool
  | .op, _ => true
  | .nd _ _, .op => false
  | .nd n ps, .nd m qs => n == m && decide (ps.length = qs.length) && Fm.lies ps qs
def Fm.lies : List Fm → List Fm → Bool
  | [], _ => true
  | _ :: _, [] => true
  | a :: r, b :: t => a.lie b && Fm.lies r t
end
theorem lies_zip : ∀ (ps qs : List Fm), Fm.lies ps qs = (ps.zip qs).all fun x => x.1.lie x.2
  | [], qs => by simp [Fm.lies]
  | _ :: _, [] => by simp [Fm.lies]
  | a :: r, b :: t => by rw [Fm.lies, lies_zip r t]; simp
section
variable {P : Program} {w : World} {K : PySem.W.Frag} {T : Tbs} {mg : Str → Option Value} {base : Heap} {f : Addr} {fd : FuncData}
abbrev s_lies : Stmt := topS 16
theorem sc_lies : FnScope ["form", "other", "waiting", "part", "whole"] ["form", "other"] (defScope s_lies) := ⟨rfl, rfl, rfl, by decide +kernel, rfl, by decide +kernel, by decide +kernel⟩
def cLies : CT := fun ss P => ∃ f g : Fm, ss = [.d f.d, .d g.d] ∧ f.Fit ∧ g.Fit ∧ f.size ≤ 1000000 ∧ P (.d (.bool (f.lie g))) [.no, .no]
theorem ok_lies (B : BI mg) (g_OPEN : ConstAt K mg "OPEN" (.tuple [])) (h_own_sign : Fnd P w K T mg base 1 "own_sign" ["form"] cSign) (F : Fun K "lies" "lies" s_lies f fd) (b : Binds K fd ["form", "other"] []) (m : mg "lies" = some (.ref f)) : Fnd P w K T mg base 2 "lies" ["form", "other"] cLies := by
  refine fn_d F sc_lies b m [] (by decide) fun cdv A outer s H E hr => ?_
  refine ⟨_, (dss_cons (ds_set (i := 2) (fun te h => ps_set sc_lies.nd rfl (Or.inl rfl) h) (de_lst (da_cons (de_tup (da_cons (de_var 0 (pv 0)) (da_cons (de_var 1 (pv 1)) da_nil))) da_nil))) (dss_cons (ds_while PassesOwn.never (dt_truth (de_var 2 (pv 2))) (dss_cons (ds_asg (fun te g h1 h2 => ps_asg h1 h2) (de_pop (de_var 2 (pv 2))) (dg_tup (n := 2) rfl (dgs_cons (dg_name (i := 3) (pg_name sc_lies.nd rfl (Or.inl rfl))) (dgs_cons (dg_name (i := 4) (pg_name sc_lies.nd rfl (Or.inl rfl))) dgs_nil)))) (dss_cons (ds_if (dt_eq hr.units (de_var 3 (pv 3)) (de_const g_OPEN)) (dss_one ds_continue) dss_nil) (dss_cons (ds_if (dt_ne hr.units (de_call (h_own_sign.mono (by omega)) hr (da_cons (de_var 3 (pv 3)) da_nil)) (de_call (h_own_sign.mono (by omega)) hr (da_cons (de_var 4 (pv 4)) da_nil))) (dss_one (ds_ret de_bl)) dss_nil) (dss_one (ds_expr (de_extA (de_var 2 (pv 2)) (da_cons (de_lstZip B.list B.zip (da_cons (de_slice (de_var 3 (pv 3)) (do_some de_int) do_none) (da_cons (de_slice (de_var 4 (pv 4)) (do_some de_int) do_none) da_nil))) da_nil)))))))) (dss_one (ds_ret de_bl)))), ?_⟩
  intro ss Q _ ⟨f, g, e, hf, hg, hs, q⟩
  subst e
  walk_at "dl"
  refine ⟨sz 2, sz 1, ?_⟩
  refine ⟨fun m Γ => ∃ (st : List (Fm × Fm)) (a b : SV), Γ = [.d f.d, .d g.d, .m (st.map pairD), a, b] ∧ (st.all fun x => x.1.lie x.2) = f.lie g ∧ (∀ x ∈ st, x.1.Fit ∧ x.2.Fit) ∧ m = sizeP st ∧ m ≤ 1000000, ⟨f.size, [(f, g)], _, _, rfl, by simp, by simpa using ⟨hf, hg⟩, by simp [sizeP], hs⟩, ?_⟩
  rintro m Γ ⟨st, a, b, rfl, hinv, hfit, rfl, hm⟩
  refine ⟨!(st.map pairD).isEmpty, rfl, ?_⟩
  rcases List.eq_nil_or_concat st with rfl | ⟨init, ⟨one, two⟩, rfl⟩
  · have e : f.lie g = true := by rw [← hinv]; rfl
    rw [e] at q
    exact q
  · have e1 : (!(List.map pairD (init ++ [(one, two)])).isEmpty) = true := by simp
    rw [List.concat_eq_append] at hinv hfit hm ⊢
    rw [e1, if_pos rfl]
    have e2 : List.map pairD (init ++ [(one, two)]) = List.map pairD init ++ [.tuple [one.d, two.d]] := by rw [List.map_append]; rfl
    rw [e2]
    refine ⟨⟨_, rfl⟩, ⟨PyData.tuple [one.d, two.d], by simp, rfl, ?_⟩⟩
    rw [List.dropLast_concat]
    refine ⟨_, rfl, ⟨_, rfl, rfl, ⟨_, _, rfl, ⟨_, _, rfl, rfl, ?_⟩⟩⟩⟩
    obtain ⟨f1, f2⟩ := hfit (one, two) (by simp)
    have f1 : one.Fit := f1
    have f2 : two.Fit := f2
    have hsz : sizeP (init ++ [(one, two)]) = sizeP init + one.size := by rw [sizeP_append]; simp [sizeP]
    have hop := size_pos one
    have skip : one.lie two = true → ∃ m', m' < sizeP (init ++ [(one, two)]) ∧ ∃ (st : List (Fm × Fm)) (a b : SV), [SV.d f.d, .d g.d, .m (init.map pairD), .d one.d, .d two.d] = [.d f.d, .d g.d, .m (st.map pairD), a, b] ∧ (st.all fun x => x.1.lie x.2) = f.lie g ∧ (∀ x ∈ st, x.1.Fit ∧ x.2.Fit) ∧ m' = sizeP st ∧ m' ≤ 1000000 := fun ha =>
      ⟨sizeP init, by omega, init, _, _, rfl, by rw [← hinv]; simp [ha], fun x hx => hfit x (by simp [hx]), rfl, by omega⟩
    refine ⟨_, _, rfl, rfl, f1.shaped, shaped_empty, _, rfl, ?_⟩
    rw [Fm.eqv_op]
    cases one with
    | op => exact skip (by simp [Fm.lie])
    | nd n ps =>
      cases two with
      | op =>
        refine ⟨rfl, Fm.nd n ps, rfl, f1, ⟨rfl, Fm.op, rfl, f2, ⟨_, _, rfl, rfl, sg_shaped f1, sg_shaped f2, _, rfl, ?_⟩⟩⟩
        have ne : PyData.eqv (Fm.nd n ps).sg Fm.op.sg = false := by simp [Fm.sg, PyData.eqv]
        show if (!PyData.eqv (Fm.nd n ps).sg Fm.op.sg) = true then _ else _
        rw [if_pos (by rw [ne]; rfl)]
        have e : f.lie g = false := by rw [← hinv]; simp [Fm.lie]
        rw [e] at q
        exact q
      | nd k qs =>
        refine ⟨rfl, Fm.nd n ps, rfl, f1, ⟨rfl, Fm.nd k qs, rfl, f2, ⟨_, _, rfl, rfl, sg_shaped f1, sg_shaped f2, _, rfl, ?_⟩⟩⟩
        rw [sg_eqv]
        have ha : (Fm.nd n ps).lie (Fm.nd k qs) = (n == k && decide (ps.length = qs.length) && Fm.lies ps qs) := by rw [Fm.lie]
        by_cases same : (n == k && decide (ps.length = qs.length)) = true
        · show if (!(n == k && decide (ps.length = qs.length))) = true then _ else _
          rw [if_neg (by rw [same]; exact Bool.false_ne_true)]
          have z : zipD (cutD (PyData.str n :: Fm.ds ps) (some 1) none) (cutD (PyData.str k :: Fm.ds qs) (some 1) none) = (ps.zip qs).map pairD := by
            rw [cut_one, cut_one, zip_pairs]
          have hzs := sizeP_zip ps qs
          have hsn : (Fm.nd n ps).size = 1 + Fm.sizes ps := by rw [Fm.size]
          have hlz := len_sizeP (init ++ ps.zip qs)
          have hza := sizeP_append init (ps.zip qs)
          refine ⟨⟨_, rfl⟩, ⟨_, rfl, ⟨_, rfl, ⟨_, _, rfl, rfl, ⟨_, rfl, ?_, rfl, ?_⟩⟩⟩⟩⟩
          · rw [z, List.length_map, List.length_map]
            refine sz _ ?_
            rw [List.length_append] at hlz
            omega
          · refine ⟨sizeP (init ++ ps.zip qs), by omega, init ++ ps.zip qs, .d (Fm.nd n ps).d, .d (Fm.nd k qs).d, ?_, ?_, ?_, rfl, by omega⟩
            · show [SV.d f.d, .d g.d, .m (init.map pairD ++ zipD (cutD (PyData.str n :: Fm.ds ps) (some 1) none) (cutD (PyData.str k :: Fm.ds qs) (some 1) none)), .d (Fm.nd n ps).d, .d (Fm.nd k qs).d] = _
              rw [z, List.map_append]
            · rw [← hinv]
              simp [ha, same, lies_zip]
            · intro x hx
              rcases List.mem_append.mp hx with (v | v)
              · exact hfit x (by simp [v])
              · exact ⟨f1.part (List.of_mem_zip v).1, f2.part (List.of_mem_zip v).2⟩
        · show if (!(n == k && decide (ps.length = qs.length))) = true then _ else _
          have same' : (n == k && decide (ps.length = qs.length)) = false := by simpa using same
          rw [if_pos (by rw [same']; rfl)]
          have e : f.lie g = false := by rw [← hinv]; simp [ha, same']
          rw [e] at q
          exact q
end
def fitA (gs : List Fm) (f : Fm) : Option Nat := gs.findIdx? fun g => g.lie f

/-! ## places, and what stands there -/
mutual
theorem sp_mem : ∀ (f : Fm) (p : List Int) (x : List Int × Fm), x ∈ f.sp p → ∃ q, x.1 = p ++ q ∧ f.at? q = some x.2
  | .op, p, x, h => by
    simp only [Fm.sp, List.mem_singleton] at h
    subst h
    exact ⟨[], by simp, rfl⟩
  | .nd n ps, p, x, h => by
    rw [Fm.sp] at h
    rcases List.mem_cons.mp h with rfl | h
    · exact ⟨[], by simp, rfl⟩
    · obtain ⟨i, g, q, h1, h2, h3⟩ := sps_mem ps p 0 x h
      refine ⟨(i : Int) :: q, by rw [h2, Nat.zero_add], ?_⟩
      rw [at_step (f := .nd n ps) h1]
      exact h3
theorem sps_mem : ∀ (ps : List Fm) (p : List Int) (k : Nat) (x : List Int × Fm), x ∈ Fm.sps p k ps → ∃ (i : Nat) (g : Fm) (q : List Int), ps[i]? = some g ∧ x.1 = p ++ (((k + i : Nat) : Int) :: q) ∧ g.at? q = some x.2
  | [], _, _, _, h => by simp [Fm.sps] at h
  | f :: r, p, k, x, h => by
    rw [Fm.sps] at h
    rcases List.mem_append.mp h with h | h
    · obtain ⟨q, h1, h2⟩ := sp_mem f _ x h
      exact ⟨0, f, q, rfl, by rw [h1]; simp, h2⟩
    · obtain ⟨i, g, q, h1, h2, h3⟩ := sps_mem r p (k + 1) x h
      exact ⟨i + 1, g, q, h1, by rw [h2, show k + 1 + i = k + (i + 1) by omega], h3⟩
end
theorem at_bound : ∀ (p : List Int) (f g : Fm), f.at? p = some g → f.ok = true → g.ok = true ∧ p.length + g.dep ≤ f.dep ∧ g.size ≤ f.size
  | [], f, g, h, ok => by cases h; exact ⟨ok, by simp, Nat.le_refl _⟩
  | i :: r, f, g, h, ok => by
    obtain ⟨n, ps, h', rfl, h0, e1, e2⟩ := at_cons h
    have hm : h' ∈ (Fm.nd n ps).parts := List.mem_of_getElem? e1
    have ok' : h'.ok = true := by
      simp only [Fm.ok, Bool.and_eq_true] at ok
      exact (oks_all ps).mp ok.2 h' (List.mem_of_getElem? e1)
    obtain ⟨a, b, c⟩ := at_bound r h' g e2 ok'
    have d1 := part_dep hm
    have d2 := part_size hm
    exact ⟨a, by rw [List.length_cons]; omega, by omega⟩
theorem sp_fit (p : List Int) {f : Fm} (h : f.Fit) : ∀ x ∈ f.sp p, x.2.Fit := fun x hx => by
  obtain ⟨q, _, e⟩ := sp_mem f p x hx
  obtain ⟨a, b, _⟩ := at_bound q f x.2 e h.ok
  exact ⟨a, by have := h.dep; omega⟩
/-! ## lying in is an order; the BLOT lies in the FORM -/
theorem lie_op (f : Fm) : Fm.op.lie f = true := by cases f <;> simp [Fm.lie]
mutual
theorem lie_refl : ∀ f : Fm, f.lie f = true
  | .op => by simp [Fm.lie]
  | .nd n ps => by simp [Fm.lie, lies_refl ps]
theorem lies_refl : ∀ ps : List Fm, Fm.lies ps ps = true
  | [] => by simp [Fm.lies]
  | f :: r => by simp [Fm.lies, lie_refl f, lies_refl r]
end
theorem lie_nd {n : Str} {ps : List Fm} {g : Fm} (h : (Fm.nd n ps).lie g = true) : ∃ qs, g = .nd n qs ∧ ps.length = qs.length ∧ Fm.lies ps qs = true := by
  cases g with
  | op => simp [Fm.lie] at h
  | nd m qs =>
    simp only [Fm.lie, Bool.and_eq_true, beq_iff_eq, decide_eq_true_eq] at h
    exact ⟨qs, by rw [h.1.1], h.1.2, h.2⟩
theorem nd_lie {n : Str} {ps qs : List Fm} (h1 : ps.length = qs.length) (h2 : Fm.lies ps qs = true) : (Fm.nd n ps).lie (.nd n qs) = true := by simp [Fm.lie, h1, h2]
mutual
theorem lie_trans : ∀ (a b c : Fm), a.lie b = true → b.lie c = true → a.lie c = true
  | .op, _, c, _, _ => lie_op c
  | .nd n ps, b, c, h, k => by
    obtain ⟨qs, rfl, l1, h1⟩ := lie_nd h
    obtain ⟨rs, rfl, l2, h2⟩ := lie_nd k
    exact nd_lie (l1.trans l2) (lies_trans ps qs rs l1 h1 h2)
theorem lies_trans : ∀ (a b c : List Fm), a.length = b.length → Fm.lies a b = true → Fm.lies b c = true → Fm.lies a c = true
  | [], _, _, _, _, _ => by simp [Fm.lies]
  | _ :: _, [], _, l, _, _ => by cases l
  | _ :: _, _ :: _, [], _, _, _ => by simp [Fm.lies]
  | f :: r, g :: t, x :: u, l, h, k => by
    simp only [Fm.lies, Bool.and_eq_true] at h k ⊢
    exact ⟨lie_trans f g x h.1 k.1, lies_trans r t u (by simpa using l) h.2 k.2⟩
end
mutual
/-- what agrees with a FORM agrees with all that lies in it -/
theorem agr_anti : ∀ (s b b' : Fm), s.agr b' = true → b.lie b' = true → s.agr b = true
  | .op, b, _, _, _ => by cases b <;> simp [Fm.agr]
  | .nd n ps, .op, _, _, _ => by simp [Fm.agr]
  | .nd n ps, .nd m qs, b', h, k => by
    obtain ⟨rs, rfl, l, k2⟩ := lie_nd k
    simp only [Fm.agr, Bool.and_eq_true, beq_iff_eq, decide_eq_true_eq] at h ⊢
    exact ⟨⟨h.1.1, by rw [h.1.2, l]⟩, agrs_anti ps qs rs l h.2 k2⟩
theorem agrs_anti : ∀ (s b b' : List Fm), b.length = b'.length → Fm.agrs s b' = true → Fm.lies b b' = true → Fm.agrs s b = true
  | [], _, _, _, _, _ => by simp [Fm.agrs]
  | _ :: _, [], _, _, _, _ => by simp [Fm.agrs]
  | _ :: _, _ :: _, [], l, _, _ => by cases l
  | f :: r, g :: t, x :: u, l, h, k => by
    simp only [Fm.agrs, Fm.lies, Bool.and_eq_true] at h k ⊢
    exact ⟨agr_anti f g x h.1 k.1, agrs_anti r t u (by simpa using l) h.2 k.2⟩
end
mutual
theorem lie_agr : ∀ (a b : Fm), a.lie b = true → a.agr b = true
  | .op, b, _ => by cases b <;> simp [Fm.agr]
  | .nd n ps, b, h => by
    obtain ⟨qs, rfl, l, h2⟩ := lie_nd h
    simp only [Fm.agr, Bool.and_eq_true, beq_iff_eq, decide_eq_true_eq]
    exact ⟨⟨trivial, l⟩, lies_agr ps qs h2⟩
theorem lies_agr : ∀ (a b : List Fm), Fm.lies a b = true → Fm.agrs a b = true
  | [], _, _ => by simp [Fm.agrs]
  | _ :: _, [], _ => by simp [Fm.agrs]
  | f :: r, g :: t, h => by
    simp only [Fm.agrs, Fm.lies, Bool.and_eq_true] at h ⊢
    exact ⟨lie_agr f g h.1, lies_agr r t h.2⟩
end
theorem keep_lie (gs : List Fm) (f g : Fm) (h : f.lie g = true) : (keepA gs f).lie g = true := by
  unfold keepA
  split
  · exact h
  · exact lie_op g
mutual
theorem blot_lie (gs : List Fm) : ∀ f : Fm, (blotF gs f).lie f = true
  | .op => by simp [blotF, Fm.lie]
  | .nd n ps => by
    rw [blotF]
    exact keep_lie gs _ _ (nd_lie (blotFs_len gs ps) (blots_lie gs ps))
theorem blots_lie (gs : List Fm) : ∀ ps : List Fm, Fm.lies (blotFs gs ps) ps = true
  | [] => by simp [blotFs, Fm.lies]
  | f :: r => by simp [blotFs, Fm.lies, blot_lie gs f, blots_lie gs r]
end
theorem keep_mono (gs : List Fm) {n : Str} {ps qs : List Fm} (h : (Fm.nd n ps).lie (.nd n qs) = true) : (keepA gs (.nd n ps)).lie (keepA gs (.nd n qs)) = true := by
  by_cases e : firstA gs (.nd n qs) = none
  · have k : keepA gs (.nd n qs) = .nd n qs := by unfold keepA; rw [e]
    rw [k]
    exact keep_lie gs _ _ h
  · have e2 : firstA gs (.nd n ps) ≠ none := fun z => e (by
      have z' : gs.findIdx? (fun g => g.agr (.nd n ps)) = none := z
      rw [List.findIdx?_eq_none_iff] at z'
      show gs.findIdx? (fun g => g.agr (.nd n qs)) = none
      rw [List.findIdx?_eq_none_iff]
      intro x hx
      by_cases a : x.agr (.nd n qs) = true
      · have y := z' x hx
        rw [agr_anti _ _ _ a h] at y
        cases y
      · simpa using a)
    have k : keepA gs (.nd n ps) = .op := by
      unfold keepA
      cases z : firstA gs (.nd n ps) with
      | none => exact absurd z e2
      | some j => rfl
    rw [k]
    exact lie_op _
theorem lies_set : ∀ (ps : List Fm) (i : Nat) (g x : Fm), ps[i]? = some g → g.lie x = true → Fm.lies ps (ps.set i x) = true
  | [], _, _, _, h, _ => by simp at h
  | f :: r, 0, g, x, h, k => by
    simp at h; subst h
    simp [Fm.lies, k, lies_refl r]
  | f :: r, i + 1, g, x, h, k => by
    simp only [List.getElem?_cons_succ] at h
    simp [Fm.lies, lie_refl f, lies_set r i g x h k]
/-- at h a CALL can be made -/
def canB (gs : List Fm) (h : Fm) : Bool := h.isOp || (fitA gs h).isSome
theorem can_struck {gs : List Fm} {h : Fm} (c : canB gs h = true) : blotF gs h = .op := by
  cases h with
  | op => rfl
  | nd n ps =>
    have c2 : (fitA gs (.nd n ps)).isSome = true := by simpa [canB, Fm.isOp] using c
    refine touched_blot ?_
    unfold touchedB
    simp only [Fm.isOp, Bool.not_false, Bool.true_and, List.any_eq_true]
    cases e : fitA gs (.nd n ps) with
    | none => rw [e] at c2; cases c2
    | some j =>
      unfold fitA at e
      rw [List.findIdx?_eq_some_iff_getElem] at e
      obtain ⟨hj, hl, _⟩ := e
      exact ⟨gs[j], List.getElem_mem hj, lie_agr _ _ hl⟩
/-- a CALL never lessens the BLOT -/
theorem call_mono (gs : List Fm) : ∀ (p : List Int) (f h x : Fm), f.at? p = some h → canB gs h = true → (blotF gs f).lie (blotF gs (f.put p x)) = true
  | [], f, h, x, e, c => by
    cases e
    rw [can_struck c]
    exact lie_op _
  | i :: r, f, h, x, e, c => by
    obtain ⟨n, ps, h', rfl, h0, e1, e2⟩ := at_cons e
    have ih := call_mono gs r h' h x e2 c
    have e3 : (Fm.nd n ps).put (i :: r) x = .nd n (ps.set i.toNat (h'.put r x)) := by
      show (match ps[i.toNat]? with | some h => _ | none => _) = _
      rw [e1]
    rw [e3, blotF, blotF, blotFs_set]
    refine keep_mono gs (nd_lie (by rw [List.length_set]) (lies_set _ _ (blotF gs h') _ ?_ ih))
    rw [blotFs_eq, List.getElem?_map, e1]; rfl

/-! ## the first SIDE that fits; what stands at a place; the open places -/
def optF : Option Fm → PyData
  | none => .none
  | some g => g.d
theorem its_lt (f : Fm) {k : Int} (h : 0 ≤ k) : k < (f.its.length : Int) - 1 ↔ k.toNat < f.parts.length := by
  cases f with
  | op => simp [Fm.its, Fm.parts]; omega
  | nd n ps => simp [Fm.its, Fm.parts, Fm.ds_len]; omega
section
variable {P : Program} {w : World} {K : PySem.W.Frag} {T : Tbs} {mg : Str → Option Value} {base : Heap} {f : Addr} {fd : FuncData}
abbrev s_first_fitting : Stmt := topS 18
theorem sc_first_fitting : FnScope ["sides", "form", "number", "side"] ["sides", "form"] (defScope s_first_fitting) := ⟨rfl, rfl, rfl, by decide +kernel, rfl, by decide +kernel, by decide +kernel⟩
abbrev s_part_at : Stmt := topS 11
theorem sc_part_at : FnScope ["form", "place", "part", "number"] ["form", "place"] (defScope s_part_at) := ⟨rfl, rfl, rfl, by decide +kernel, rfl, by decide +kernel, by decide +kernel⟩
abbrev s_open_in : Stmt := topS 15
theorem sc_open_in : FnScope ["form", "place", "part"] ["form"] (defScope s_open_in) := ⟨rfl, rfl, rfl, by decide +kernel, rfl, by decide +kernel, by decide +kernel⟩
def cFits : CT := fun ss P => ∃ (gs : List Fm) (f : Fm), ss = [.d (sidesD gs), .d f.d] ∧ Sides gs ∧ f.Fit ∧ P (.d (optD (fitA gs f))) [.no, .no]
theorem ok_first_fitting (B : BI mg) (h_lies : Fnd P w K T mg base 2 "lies" ["form", "other"] cLies) (F : Fun K "first_fitting" "first_fitting" s_first_fitting f fd) (b : Binds K fd ["sides", "form"] []) (m : mg "first_fitting" = some (.ref f)) : Fnd P w K T mg base 3 "first_fitting" ["sides", "form"] cFits := by
  refine fn_d F sc_first_fitting b m [] (by decide) fun cdv A outer s H E hr => ?_
  refine ⟨_, (dss_cons (ds_for PassesOwn.never rfl (di_enum rfl B.enumerate (de_var 0 (pv 0))) (dg_tup (n := 2) rfl (dgs_cons (dg_name (i := 2) (pg_name sc_first_fitting.nd rfl (Or.inl rfl))) (dgs_cons (dg_name (i := 3) (pg_name sc_first_fitting.nd rfl (Or.inl rfl))) dgs_nil))) (dss_one (ds_if (dt_truth (de_call (h_lies.mono (by omega)) hr (da_cons (de_var 3 (pv 3)) (da_cons (de_var 1 (pv 1)) da_nil)))) (dss_one (ds_ret (de_var 2 (pv 2)))) dss_nil))) (dss_one (ds_ret de_non))), ?_⟩
  rintro ss Q _ ⟨gs, g0, rfl, hs, hf, q⟩
  refine ⟨gs.map Fm.d, rfl, ?_⟩
  refine ⟨fun i Γ => ∃ a b, Γ = [.d (sidesD gs), .d g0.d, a, b] ∧ ∀ j (hj : j < i) (hl : j < gs.length), (gs[j]).lie g0 = false, ⟨_, _, rfl, fun j hj => absurd hj (Nat.not_lt_zero _)⟩, ?_, ?_⟩
  · rintro i x Γ hx ⟨a, b, rfl, hno⟩
    obtain ⟨y, hy, rfl⟩ := enumD_get hx
    rw [List.getElem?_map] at hy
    obtain ⟨g, hg, rfl⟩ := Option.map_eq_some_iff.mp hy
    obtain ⟨hi, eg⟩ := List.getElem?_eq_some_iff.mp hg
    have hm := List.mem_of_getElem? hg
    refine ⟨_, rfl, rfl, ⟨_, _, rfl, ⟨_, _, rfl, rfl, ?_⟩⟩⟩
    refine ⟨rfl, g, g0, rfl, hs.fit g hm, hf, hs.size g hm, _, rfl, ?_⟩
    show if (g.lie g0) = true then _ else _
    by_cases ha : g.lie g0 = true
    · rw [if_pos ha]
      have e : fitA gs g0 = some i := findIdx_first hi (by rw [eg]; exact ha) fun j hj => hno j hj _
      rw [e] at q
      show Q (.d (.int ((0 + i : Nat) : Int))) [.no, .no]
      rw [Nat.zero_add]
      exact q
    · rw [if_neg ha]
      refine ⟨_, _, rfl, fun j hj hl => ?_⟩
      by_cases ej : j = i
      · subst ej; rw [eg]; simpa using ha
      · exact hno j (by omega) hl
  · rintro Γ ⟨a, b, rfl, hno⟩
    have e : fitA gs g0 = none := findIdx_no fun j hj => hno j (by rw [enumD_len, List.length_map]; exact hj) hj
    rw [e] at q
    exact q
def cPart : CT := fun ss P => ∃ (f : Fm) (p : List Int), ss = [.d f.d, .d (plD p)] ∧ P (.d (optF (f.at? p))) [.no, .no]
theorem ok_part_at (B : BI mg) (h_is_numbers : Fnd P w K T mg base 4 "is_numbers" ["thing"] cNums) (F : Fun K "part_at" "part_at" s_part_at f fd) (b : Binds K fd ["form", "place"] []) (m : mg "part_at" = some (.ref f)) : Fnd P w K T mg base 5 "part_at" ["form", "place"] cPart := by
  refine fn_d F sc_part_at b m [] (by decide) fun cdv A outer s H E hr => ?_
  refine ⟨_, (dss_cut (ds_if (dt_not (dt_truth (de_call (h_is_numbers.mono (by omega)) hr (da_cons (de_var 1 (pv 1)) da_nil)))) (dss_one (ds_ret de_non)) dss_nil) (dss_cut (ds_set (i := 2) (fun te h => ps_set sc_part_at.nd rfl (Or.inl rfl) h) (de_var 0 (pv 0))) (dss_cut (ds_for PassesOwn.never rfl (di_seq (de_var 1 (pv 1))) (dg_name (i := 3) (pg_name sc_part_at.nd rfl (Or.inl rfl))) (dss_cut (ds_if (dt_not (dt_chainEL de_int (de_var 3 (pv 3)) (de_sub (de_len B.len (da_cons (de_var 2 (pv 2)) da_nil)) de_int))) (dss_one (ds_ret de_non)) dss_nil) (dss_one (ds_set (i := 2) (fun te h => ps_set sc_part_at.nd rfl (Or.inl rfl) h) (de_item (de_var 2 (pv 2)) (de_add (de_var 3 (pv 3)) de_int)))))) (dss_one (ds_ret (de_var 2 (pv 2))))))), ?_⟩
  rintro ss Q _ ⟨f0, p, rfl, q⟩
  refine ⟨fun Γ => Γ = [.d f0.d, .d (plD p), .no, .no], ⟨rfl, p, rfl, true, rfl, rfl⟩, ?_⟩
  rintro _ rfl
  refine ⟨fun Γ => Γ = [.d f0.d, .d (plD p), .d f0.d, .no], rfl, ?_⟩
  rintro _ rfl
  refine ⟨fun Γ => ∃ g a, Γ = [.d f0.d, .d (plD p), .d g.d, a] ∧ f0.at? p = some g, ?_, ?_⟩
  · refine ⟨p.map PyData.int, rfl, ?_⟩
    refine ⟨fun i Γ => ∃ h a, Γ = [.d f0.d, .d (plD p), .d h.d, a] ∧ f0.at? (p.take i) = some h, ⟨f0, _, rfl, rfl⟩, ?_, ?_⟩
    · rintro i x Γ hx ⟨h, a, rfl, hh⟩
      rw [List.getElem?_map] at hx
      obtain ⟨k, hk, rfl⟩ := Option.map_eq_some_iff.mp hx
      have e : f0.at? (p.take (i + 1)) = h.at? [k] := by rw [take_one hk, at_append, hh]; rfl
      have e2 : f0.at? p = (f0.at? (p.take (i + 1))).bind fun g => g.at? (p.drop (i + 1)) := by rw [← at_append, List.take_append_drop]
      have e3 : h.at? [k] = if 0 ≤ k then (h.parts[k.toNat]?).bind fun g => some g else none := rfl
      rw [e] at e2
      have out : (h.at? [k] = none) → Q (.d .none) [.no, .no] := fun z => by
        rw [z] at e2
        rw [e2] at q
        exact q
      refine ⟨fun Γ => (∃ g2, h.parts[k.toNat]? = some g2 ∧ h.at? [k] = some g2) ∧ 0 ≤ k ∧ Γ = [.d f0.d, .d (plD p), .d h.d, .d (.int k)], ?_, ?_⟩
      · refine ⟨_, _, rfl, rfl, ?_⟩
        by_cases h0 : 0 ≤ k
        · rw [if_pos (decide_eq_true h0)]
          refine ⟨h.its, by rw [Fm.d_its]; rfl, trivial, _, rfl, _, rfl, ?_⟩
          rw [if_pos h0] at e3
          by_cases hlt : k.toNat < h.parts.length
          · have c1 : decide (k < (h.its.length : Int) - 1) = true := decide_eq_true ((its_lt h h0).mpr hlt)
            rw [show (fun (i j : Int) => decide (i < j)) k ((h.its.length : Int) - 1) = true from c1]
            have e4 := List.getElem?_eq_getElem hlt
            rw [e4] at e3
            exact ⟨⟨_, e4, e3⟩, h0, rfl⟩
          · have c1 : decide (k < (h.its.length : Int) - 1) = false := decide_eq_false fun z => hlt ((its_lt h h0).mp z)
            rw [show (fun (i j : Int) => decide (i < j)) k ((h.its.length : Int) - 1) = false from c1]
            rw [List.getElem?_eq_none (by omega)] at e3
            exact out e3
        · rw [if_neg (fun z => h0 (of_decide_eq_true z))]
          rw [if_neg h0] at e3
          exact ⟨_, rfl, out e3⟩
      rintro _ ⟨⟨g2, e5, e6⟩, h0, rfl⟩
      refine ⟨h.its, g2.d, by rw [Fm.d_its]; rfl, its_item h0 e5, ?_⟩
      exact ⟨g2, _, rfl, by rw [e, e6]⟩
    · rintro Γ ⟨h, a, rfl, hh⟩
      rw [List.length_map, List.take_length] at hh
      exact ⟨h, a, rfl, hh⟩
  rintro _ ⟨g, a, rfl, e⟩
  rw [e] at q
  exact q
/-- the open places, ascending -/
def opl (f : Fm) : List (List Int) := ((f.sp []).filter fun x => x.2.isOp).map (·.1)
def cOpen : CT := fun ss P => ∃ f : Fm, ss = [.d f.d] ∧ f.Fit ∧ f.size ≤ 1000000 ∧ P (.d (.tuple ((opl f).map plD))) [.no]
theorem ok_open_in (B : BI mg) (g_OPEN : ConstAt K mg "OPEN" (.tuple [])) (h_spots : Fnd P w K T mg base 1 "spots" ["form"] cSpots) (F : Fun K "open_in" "open_in" s_open_in f fd) (b : Binds K fd ["form"] []) (m : mg "open_in" = some (.ref f)) : Fnd P w K T mg base 2 "open_in" ["form"] cOpen := by
  refine fn_d F sc_open_in b m [] (by decide) fun cdv A outer s H E hr => ?_
  refine ⟨_, (dss_one (ds_ret (de_tupOf B.tuple (da_cons (de_lc (own := [("place", 1), ("part", 2)]) rfl sc_open_in.nd (di_seq (de_call (h_spots.mono (by omega)) hr (da_cons (de_var 0 (pv 0)) da_nil))) (blkOk_by (N := ["form", "place", "part"]) (sc := (defScope s_open_in)) (by decide +kernel)) (by decide) (fun _ => (dg_tup (n := 2) rfl (dgs_cons (dg_name (i := 1) (pg_name sc_open_in.nd rfl (Or.inl rfl))) (dgs_cons (dg_name (i := 2) (pg_name sc_open_in.nd rfl (Or.inl rfl))) dgs_nil)))) (fun _ => (dts_one (dt_eq hr.units (de_var 2 (pv 2)) (de_const g_OPEN)))) (fun _ => (de_var 1 (pv 1)))) da_nil)))), ?_⟩
  rintro ss Q _ ⟨f0, rfl, hf, hz, q⟩
  refine ⟨rfl, f0, rfl, hz, ?_⟩
  refine ⟨_, rfl, ?_⟩
  refine ⟨fun i acc Γ => acc = ((((f0.sp []).take i).filter fun x => x.2.isOp).map fun x => plD x.1) ∧ ∃ a, Γ = [a, .no, .no], ⟨rfl, _, rfl⟩, ?_, ?_⟩
  · rintro i x acc Γ hx ⟨rfl, a, rfl⟩
    rw [List.getElem?_map] at hx
    obtain ⟨⟨p, g⟩, hk, rfl⟩ := Option.map_eq_some_iff.mp hx
    have hi := (List.getElem?_eq_some_iff.mp hk).1
    rw [sp_len] at hi
    have fg : g.Fit := sp_fit [] hf _ (List.mem_of_getElem? hk)
    refine ⟨_, rfl, rfl, ⟨_, _, rfl, ⟨_, _, rfl, rfl, ?_⟩⟩⟩
    refine ⟨_, _, rfl, rfl, fg.shaped, shaped_empty, _, rfl, ?_⟩
    rw [Fm.eqv_op]
    have et : (f0.sp []).take (i + 1) = (f0.sp []).take i ++ [(p, g)] := take_one hk
    have hl := List.length_filter_le (fun x : List Int × Fm => x.2.isOp) ((f0.sp []).take i)
    rw [List.length_take] at hl
    cases g with
    | op =>
      refine ⟨_, rfl, szl (by rw [List.length_map]; omega), ?_, _, rfl⟩
      rw [et, List.filter_append, List.map_append]; rfl
    | nd n ps =>
      refine ⟨?_, _, rfl⟩
      rw [et, List.filter_append, List.map_append]
      simp [Fm.isOp]
  · rintro acc Γ ⟨rfl, a, rfl⟩
    rw [List.length_map, List.take_length]
    refine ⟨_, rfl, ?_⟩
    unfold opl at q
    rw [List.map_map] at q
    exact q
end

/-! ## several put there at once -/
abbrev Tbf := List Int → Option Fm
mutual
def putT (t : Tbf) (p : List Int) : Fm → Fm
  | .op => (t p).getD .op
  | .nd n ps => (t p).getD (.nd n (putTs t p 0 ps))
def putTs (t : Tbf) (p : List Int) (k : Nat) : List Fm → List Fm
  | [] => []
  | f :: r => putT t (p ++ [(k : Int)]) f :: putTs t p (k + 1) r
end
theorem putTs_len (t : Tbf) (p : List Int) : ∀ (ps : List Fm) (k : Nat), (putTs t p k ps).length = ps.length
  | [], _ => by simp [putTs]
  | f :: r, k => by rw [putTs, List.length_cons, List.length_cons, putTs_len t p r (k + 1)]
def stepT (t : Tbf) (st : List Fm) (x : List Int × Fm) : Option (List Fm) := if x.2.parts.length ≤ st.length then some (st.take (st.length - x.2.parts.length) ++ [(t x.1).getD (nodeOf st x)]) else none
def runT (t : Tbf) (st : List Fm) (xs : List (List Int × Fm)) : Option (List Fm) := xs.foldlM (stepT t) st
theorem runT_app (t : Tbf) (st : List Fm) (a b : List (List Int × Fm)) : runT t st (a ++ b) = (runT t st a).bind fun s => runT t s b := by unfold runT; rw [List.foldlM_append]; rfl
theorem stepT_pos {t : Tbf} {st : List Fm} {x : List Int × Fm} (h : x.2.parts.length ≤ st.length) : stepT t st x = some (st.take (st.length - x.2.parts.length) ++ [(t x.1).getD (nodeOf st x)]) := if_pos h
mutual
theorem runT_po (t : Tbf) (p : List Int) : ∀ (f : Fm) (st : List Fm), runT t st (f.po p) = some (st ++ [putT t p f])
  | .op, st => by
    rw [Fm.po, putT]
    show (stepT t st (p, .op)).bind (fun s => some s) = _
    rw [stepT_pos (Nat.zero_le _)]
    show some (st.take (st.length - 0) ++ _) = _
    rw [Nat.sub_zero, List.take_length]; rfl
  | .nd n ps, st => by
    rw [Fm.po, runT_app, runT_pos t p 0 ps st, putT]
    show (stepT t (st ++ putTs t p 0 ps) (p, .nd n ps)).bind (fun s => some s) = _
    have hl : (st ++ putTs t p 0 ps).length - ps.length = st.length := by rw [List.length_append, putTs_len]; omega
    have e : nodeOf (st ++ putTs t p 0 ps) (p, Fm.nd n ps) = .nd n (putTs t p 0 ps) := by
      show Fm.nd n ((st ++ putTs t p 0 ps).drop ((st ++ putTs t p 0 ps).length - ps.length)) = _
      rw [hl, List.drop_left]
    rw [stepT_pos (t := t) (st := st ++ putTs t p 0 ps) (x := (p, Fm.nd n ps)) (show ps.length ≤ (st ++ putTs t p 0 ps).length by rw [List.length_append, putTs_len]; omega), e]
    show some ((st ++ putTs t p 0 ps).take ((st ++ putTs t p 0 ps).length - ps.length) ++ _) = _
    rw [hl, List.take_left]
theorem runT_pos (t : Tbf) (p : List Int) (k : Nat) : ∀ (ps : List Fm) (st : List Fm), runT t st (Fm.pos p k ps) = some (st ++ putTs t p k ps)
  | [], st => by simp [Fm.pos, runT, putTs]
  | f :: r, st => by
    rw [Fm.pos, runT_app, runT_po t _ f st]
    show runT t _ _ = _
    rw [runT_pos t p (k + 1) r, putTs, List.append_assoc]; rfl
end
theorem stepT_len {t : Tbf} {st st' : List Fm} {x : List Int × Fm} (h : stepT t st x = some st') : st'.length ≤ st.length + 1 := by
  unfold stepT at h
  split at h
  · cases h; rw [List.length_append, List.length_take]; simp <;> omega
  · cases h
theorem runT_len {t : Tbf} : ∀ (xs : List (List Int × Fm)) (st st' : List Fm), runT t st xs = some st' → st'.length ≤ st.length + xs.length
  | [], st, st', h => by cases h; simp
  | x :: r, st, st', h => by
    have h' : (stepT t st x).bind (fun s => runT t s r) = some st' := h
    cases e : stepT t st x with
    | none => rw [e] at h'; cases h'
    | some s =>
      rw [e] at h'
      have a := stepT_len e
      have b := runT_len r s st' h'
      rw [List.length_cons]; omega
theorem runT_at {t : Tbf} {f : Fm} {i : Nat} {x : List Int × Fm} {st : List Fm} (h : runT t [] ((f.po []).take i) = some st) (e : (f.po [])[i]? = some x) : ∃ st', stepT t st x = some st' ∧ runT t [] ((f.po []).take (i + 1)) = some st' := by
  have e1 : runT t [] ((f.po []).take (i + 1)) = stepT t st x := by
    rw [take_one e, runT_app, h]
    show (stepT t st x).bind (fun s => some s) = _
    cases stepT t st x <;> rfl
  have e2 : runT t [] (f.po []) = (runT t [] ((f.po []).take (i + 1))).bind fun s => runT t s ((f.po []).drop (i + 1)) := by rw [← runT_app, List.take_append_drop]
  rw [runT_po] at e2
  cases z : stepT t st x with
  | none => rw [e1, z] at e2; cases e2
  | some s => exact ⟨s, rfl, by rw [e1, z]⟩
mutual
/-- where the table has nothing, all stays -/
theorem putT_id (t : Tbf) : ∀ (f : Fm) (p : List Int), (∀ q, t (p ++ q) = none) → putT t p f = f
  | .op, p, h => by rw [putT, show t p = none by simpa using h []]; rfl
  | .nd n ps, p, h => by rw [putT, show t p = none by simpa using h [], putTs_id t ps p 0 fun i q _ => h ((i : Int) :: q)]; rfl
theorem putTs_id (t : Tbf) : ∀ (ps : List Fm) (p : List Int) (k : Nat), (∀ (i : Nat) (q : List Int), k ≤ i → t (p ++ (i : Int) :: q) = none) → putTs t p k ps = ps
  | [], _, _, _ => by rw [putTs]
  | f :: r, p, k, h => by
    rw [putTs, putTs_id t r p (k + 1) fun i q hi => h i q (by omega), putT_id t f _ fun q => by rw [List.append_assoc]; exact h k q (Nat.le_refl _)]
end
def one (p : List Int) (g : Fm) : Tbf := fun z => if z = p then some g else none
theorem one_ne {p z : List Int} {g : Fm} (h : z ≠ p) : one p g z = none := if_neg h
theorem putTs_one {p r : List Int} {g h' : Fm} (ih : ∀ q, putT (one (q ++ r) g) q h' = h'.put r g) : ∀ (ps : List Fm) (k j : Nat), ps[j]? = some h' → putTs (one (p ++ ((k + j : Nat) : Int) :: r) g) p k ps = ps.set j (h'.put r g)
  | [], _, _, e => by simp at e
  | f :: t, k, 0, e => by
    simp at e; subst e
    have e1 : putT (one (p ++ ((k + 0 : Nat) : Int) :: r) g) (p ++ [(k : Int)]) f = f.put r g := by
      have := ih (p ++ [(k : Int)])
      rw [List.append_assoc] at this
      exact this
    have e2 : putTs (one (p ++ ((k + 0 : Nat) : Int) :: r) g) p (k + 1) t = t := putTs_id _ t p (k + 1) fun i q hi => one_ne fun z => by
      have z1 := List.append_cancel_left z
      injection z1 with z2 z3
      omega
    rw [putTs, e1, e2]; rfl
  | f :: t, k, j + 1, e => by
    have e1 : putT (one (p ++ ((k + (j + 1) : Nat) : Int) :: r) g) (p ++ [(k : Int)]) f = f := putT_id _ f _ fun q => one_ne fun z => by
      rw [List.append_assoc] at z
      have z1 := List.append_cancel_left z
      have z2 : (k : Int) = ((k + (j + 1) : Nat) : Int) := by simpa using (List.cons.inj z1).1
      omega
    have e2 := putTs_one (p := p) ih t (k + 1) j (by simpa using e)
    rw [show k + 1 + j = k + (j + 1) by omega] at e2
    rw [putTs, e1, e2]; rfl
theorem putT_one : ∀ (p : List Int) (f h g : Fm) (q : List Int), f.at? p = some h → putT (one (q ++ p) g) q f = f.put p g
  | [], f, h, g, q, e => by
    have e1 : one (q ++ []) g q = some g := if_pos (by simp)
    cases f <;> (rw [putT, e1]; rfl)
  | i :: r, f, h, g, q, e => by
    obtain ⟨n, ps, h', rfl, h0, e1, e2⟩ := at_cons e
    have e3 : (Fm.nd n ps).put (i :: r) g = .nd n (ps.set i.toNat (h'.put r g)) := by
      show (match ps[i.toNat]? with | some h => _ | none => _) = _
      rw [e1]
    have e4 : one (q ++ i :: r) g q = none := one_ne fun z => by
      have := congrArg List.length z
      rw [List.length_append, List.length_cons] at this
      omega
    have e5 := putTs_one (p := q) (r := r) (g := g) (fun q' => putT_one r h' h g q' e2) ps 0 i.toNat e1
    rw [show ((0 + i.toNat : Nat) : Int) = i by omega] at e5
    rw [putT, e4, e5, e3]; rfl
section
variable {P : Program} {w : World} {K : PySem.W.Frag} {T : Tbs} {mg : Str → Option Value} {base : Heap} {f : Addr} {fd : FuncData}
abbrev s_put_all : Stmt := topS 13
theorem sc_put_all : FnScope ["form", "table", "done", "place", "part", "node"] ["form", "table"] (defScope s_put_all) := ⟨rfl, rfl, rfl, by decide +kernel, rfl, by decide +kernel, by decide +kernel⟩
def tbF (tb : List (List Int × Fm)) : Tbf := fun z => (tb.find? fun x => decide (x.1 = z)).map (·.2)
theorem tbF_V : ∀ (tb : List (List Int × Fm)) (k : List Int), tbV (tb.map fun x => (x.1, x.2.d)) k = (tbF tb k).map Fm.d
  | [], k => rfl
  | x :: r, k => by
    have ih := tbF_V r k
    unfold tbV tbF at ih ⊢
    by_cases h : x.1 = k
    · simp [h]
    · simpa [h] using ih
theorem tbF_one (p : List Int) (g : Fm) : tbF [(p, g)] = one p g := by
  funext z
  unfold tbF one
  by_cases h : p = z
  · simp [h]
  · simp [h, Ne.symm h]
def cPutAll : CT := fun ss P => ∃ (f : Fm) (tb : List (List Int × Fm)), ss = [.d f.d, .t (tb.map fun x => (x.1, x.2.d))] ∧ f.Fit ∧ f.size ≤ 1000000 ∧ P (.d (putT (tbF tb) [] f).d) [.no, .no]
theorem ok_put_all (B : BI mg) (h_spots_from_below : Fnd P w K T mg base 1 "spots_from_below" ["form"] cSpotsB) (h_over_last : Fnd P w K T mg base 1 "over_last" ["part", "done"] cOver) (F : Fun K "put_all" "put_all" s_put_all f fd) (b : Binds K fd ["form", "table"] []) (m : mg "put_all" = some (.ref f)) : Fnd P w K T mg base 2 "put_all" ["form", "table"] cPutAll := by
  refine fn_d F sc_put_all b m [] (by decide) fun cdv A outer s H E hr => ?_
  refine ⟨_, (dss_cut (ds_set (i := 2) (fun te h => ps_set sc_put_all.nd rfl (Or.inl rfl) h) (de_lst da_nil)) (dss_cut (ds_for PassesOwn.never rfl (di_seq (de_call (h_spots_from_below.mono (by omega)) hr (da_cons (de_var 0 (pv 0)) da_nil))) (dg_tup (n := 2) rfl (dgs_cons (dg_name (i := 3) (pg_name sc_put_all.nd rfl (Or.inl rfl))) (dgs_cons (dg_name (i := 4) (pg_name sc_put_all.nd rfl (Or.inl rfl))) dgs_nil))) (dss_cut (ds_set (i := 5) (fun te h => ps_set sc_put_all.nd rfl (Or.inl rfl) h) (de_call (h_over_last.mono (by omega)) hr (da_cons (de_var 4 (pv 4)) (da_cons (de_var 2 (pv 2)) da_nil)))) (dss_one (ds_expr (de_append (de_var 2 (pv 2)) (da_cons (de_ifExp (dt_tin (un1 hr) (de_var 3 (pv 3)) (de_var 1 (pv 1))) (de_tget (un1 hr) (de_var 1 (pv 1)) (de_var 3 (pv 3))) (de_var 5 (pv 5))) da_nil)))))) (dss_one (ds_ret (de_item (de_var 2 (pv 2)) de_int))))), ?_⟩
  rintro ss Q _ ⟨f0, tb, rfl, hf, hz, q⟩
  refine ⟨fun Γ => Γ = [.d f0.d, .t (tb.map fun x => (x.1, x.2.d)), .m [], .no, .no, .no], ⟨_, rfl, sz 0, rfl⟩, ?_⟩
  rintro _ rfl
  refine ⟨fun Γ => ∃ t a b c, Γ = [.d f0.d, t, .m [(putT (tbF tb) [] f0).d], a, b, c], ?_, ?_⟩
  · refine ⟨rfl, f0, rfl, hz, _, rfl, ?_⟩
    refine ⟨fun i Γ => ∃ (st : List Fm) (a b c : SV), Γ = [.d f0.d, .t (tb.map fun x => (x.1, x.2.d)), .m (st.map Fm.d), a, b, c] ∧ runT (tbF tb) [] ((f0.po []).take i) = some st, ⟨[], _, _, _, rfl, rfl⟩, ?_, ?_⟩
    · rintro i x Γ hx ⟨st, a, b, c, rfl, hrun⟩
      rw [List.getElem?_map] at hx
      obtain ⟨⟨p, g⟩, hg, rfl⟩ := Option.map_eq_some_iff.mp hx
      obtain ⟨st', hst, hrun2⟩ := runT_at hrun hg
      have hil : i < f0.size := by rw [← po_len [] f0]; exact (List.getElem?_eq_some_iff.mp hg).1
      have hlen := runT_len _ _ _ hrun
      simp only [List.length_nil, List.length_take, po_len] at hlen
      have gf := po_fit [] f0 hf.ok _ (List.mem_of_getElem? hg)
      have hd := hf.dep
      have hl : g.parts.length ≤ st.length := by
        unfold stepT at hst
        split at hst
        · assumption
        · cases hst
      rw [stepT_pos hl] at hst
      cases hst
      refine ⟨_, rfl, rfl, ⟨_, _, rfl, ⟨_, _, rfl, rfl, ?_⟩⟩⟩
      refine ⟨fun Γ => Γ = [.d f0.d, .t (tb.map fun x => (x.1, x.2.d)), .m ((st.take (st.length - g.parts.length)).map Fm.d), .d (plD p), .d g.d, .d (nodeOf st (p, g)).d], ?_, ?_⟩
      · exact ⟨rfl, g, st, rfl, ⟨gf.1, Nat.le_trans gf.2 hd⟩, hl, by omega, rfl⟩
      rintro _ rfl
      have hb3 : ((st.take (st.length - g.parts.length)).map Fm.d).length < sizeLine := szl (by rw [List.length_map, List.length_take]; omega)
      refine ⟨⟨_, rfl⟩, p, rfl, _, rfl, ?_⟩
      rw [tbF_V]
      cases ht : tbF tb p with
      | none =>
        refine ⟨_, rfl, hb3, rfl, st.take (st.length - g.parts.length) ++ [(tbF tb p).getD (nodeOf st (p, g))], .d (plD p), .d g.d, .d (nodeOf st (p, g)).d, ?_, hrun2⟩
        rw [ht, List.map_append]; rfl
      | some y =>
        refine ⟨p, y.d, rfl, by rw [tbF_V, ht]; rfl, _, rfl, hb3, rfl, st.take (st.length - g.parts.length) ++ [(tbF tb p).getD (nodeOf st (p, g))], .d (plD p), .d g.d, .d (nodeOf st (p, g)).d, ?_, hrun2⟩
        rw [ht, List.map_append]; rfl
    · rintro Γ ⟨st, a, b, c, rfl, hrun⟩
      rw [List.take_of_length_le (by rw [List.length_map]; exact Nat.le_refl _), runT_po] at hrun
      cases hrun
      exact ⟨_, _, _, _, rfl⟩
  rintro _ ⟨t, a, b, c, rfl⟩
  exact ⟨_, _, rfl, atI_zero, q⟩
end

/-! ## due places, CALLS, RUNS -/
/-- the due places, ascending -/
def dpl (gs : List Fm) (f : Fm) : List (List Int) := ((f.sp []).filter fun x => (fitA gs x.2).isSome).map (·.1)
def runD (run : List (List Int × Fm)) : PyData := .tuple (run.map fun x => .tuple [plD x.1, x.2.d])
/-- what each CALL leaves -/
def along (f : Fm) : List (List Int × Fm) → List Fm
  | [] => []
  | x :: r => f.put x.1 x.2 :: along (f.put x.1 x.2) r
def lastF (f : Fm) : List (List Int × Fm) → Fm
  | [] => f
  | x :: r => lastF (f.put x.1 x.2) r
/-- a RUN, with small FORMS along it -/
def IsRun (gs : List Fm) (f : Fm) : List (List Int × Fm) → Prop
  | [] => True
  | x :: r => (∃ h, f.at? x.1 = some h ∧ canB gs h = true) ∧ x.2.Fit ∧ x.2.size ≤ 1000000 ∧ (f.put x.1 x.2).Fit ∧ (f.put x.1 x.2).size ≤ 1000000 ∧ IsRun gs (f.put x.1 x.2) r
theorem along_len (f : Fm) : ∀ run, (along f run).length = run.length := fun run => by
  induction run generalizing f with
  | nil => rfl
  | cons x r ih => rw [along, List.length_cons, List.length_cons, ih]
theorem optD_isN (o : Option Nat) : isN (.d (optD o)) = some (!o.isSome) := by cases o <;> rfl
section
variable {P : Program} {w : World} {K : PySem.W.Frag} {T : Tbs} {mg : Str → Option Value} {base : Heap} {f : Addr} {fd : FuncData}
abbrev s__due_in : Stmt := topS 26
theorem sc__due_in : FnScope ["sides", "form", "place", "part"] ["sides", "form"] (defScope s__due_in) := ⟨rfl, rfl, rfl, by decide +kernel, rfl, by decide +kernel, by decide +kernel⟩
abbrev s_due_places : Stmt := topS 27
theorem sc_due_places : FnScope ["sides", "form"] ["sides", "form"] (defScope s_due_places) := ⟨rfl, rfl, rfl, by decide +kernel, rfl, by decide +kernel, by decide +kernel⟩
abbrev s_is_standing : Stmt := topS 28
theorem sc_is_standing : FnScope ["sides", "form"] ["sides", "form"] (defScope s_is_standing) := ⟨rfl, rfl, rfl, by decide +kernel, rfl, by decide +kernel, by decide +kernel⟩
abbrev s_is_ended : Stmt := topS 29
theorem sc_is_ended : FnScope ["sides", "form"] ["sides", "form"] (defScope s_is_ended) := ⟨rfl, rfl, rfl, by decide +kernel, rfl, by decide +kernel, by decide +kernel⟩
abbrev s__can_call_for : Stmt := topS 33
theorem sc__can_call_for : FnScope ["sides", "part"] ["sides", "part"] (defScope s__can_call_for) := ⟨rfl, rfl, rfl, by decide +kernel, rfl, by decide +kernel, by decide +kernel⟩
def cDueIn : CT := fun ss P => ∃ (gs : List Fm) (f : Fm), ss = [.d (sidesD gs), .d f.d] ∧ Sides gs ∧ f.Fit ∧ f.size ≤ 1000000 ∧ P (.d (.tuple ((dpl gs f).map plD))) [.no, .no]
theorem ok__due_in (B : BI mg) (h_spots : Fnd P w K T mg base 1 "spots" ["form"] cSpots) (h_first_fitting : Fnd P w K T mg base 3 "first_fitting" ["sides", "form"] cFits) (F : Fun K "_due_in" "_due_in" s__due_in f fd) (b : Binds K fd ["sides", "form"] []) (m : mg "_due_in" = some (.ref f)) : Fnd P w K T mg base 4 "_due_in" ["sides", "form"] cDueIn := by
  refine fn_d F sc__due_in b m [] (by decide) fun cdv A outer s H E hr => ?_
  refine ⟨_, (dss_one (ds_ret (de_tupOf B.tuple (da_cons (de_lc (own := [("place", 2), ("part", 3)]) rfl sc__due_in.nd (di_seq (de_call (h_spots.mono (by omega)) hr (da_cons (de_var 1 (pv 1)) da_nil))) (blkOk_by (N := ["sides", "form", "place", "part"]) (sc := (defScope s__due_in)) (by decide +kernel)) (by decide) (fun _ => (dg_tup (n := 2) rfl (dgs_cons (dg_name (i := 2) (pg_name sc__due_in.nd rfl (Or.inl rfl))) (dgs_cons (dg_name (i := 3) (pg_name sc__due_in.nd rfl (Or.inl rfl))) dgs_nil)))) (fun _ => (dts_one (dt_notN (de_call (h_first_fitting.mono (by omega)) hr (da_cons (de_var 0 (pv 0)) (da_cons (de_var 3 (pv 3)) da_nil))) de_non))) (fun _ => (de_var 2 (pv 2)))) da_nil)))), ?_⟩
  rintro ss Q _ ⟨gs, f0, rfl, hs, hf, hz, q⟩
  refine ⟨rfl, f0, rfl, hz, ?_⟩
  refine ⟨_, rfl, ?_⟩
  refine ⟨fun i acc Γ => acc = ((((f0.sp []).take i).filter fun x => (fitA gs x.2).isSome).map fun x => plD x.1) ∧ ∃ a, Γ = [.d (sidesD gs), a, .no, .no], ⟨rfl, _, rfl⟩, ?_, ?_⟩
  · rintro i x acc Γ hx ⟨rfl, a, rfl⟩
    rw [List.getElem?_map] at hx
    obtain ⟨⟨p, g⟩, hk, rfl⟩ := Option.map_eq_some_iff.mp hx
    have hi := (List.getElem?_eq_some_iff.mp hk).1
    rw [sp_len] at hi
    have fg : g.Fit := sp_fit [] hf _ (List.mem_of_getElem? hk)
    refine ⟨_, rfl, rfl, ⟨_, _, rfl, ⟨_, _, rfl, rfl, ?_⟩⟩⟩
    refine ⟨rfl, gs, g, rfl, hs, fg, ?_⟩
    have et : (f0.sp []).take (i + 1) = (f0.sp []).take i ++ [(p, g)] := take_one hk
    have hl := List.length_filter_le (fun x : List Int × Fm => (fitA gs x.2).isSome) ((f0.sp []).take i)
    rw [List.length_take] at hl
    refine ⟨_, optD_isN _, _, rfl, ?_⟩
    rw [Bool.not_not]
    cases hi2 : (fitA gs g).isSome with
    | true =>
      refine ⟨_, rfl, szl (by rw [List.length_map]; omega), ?_, _, rfl⟩
      rw [et, List.filter_append, List.map_append]
      simp [hi2]
    | false =>
      refine ⟨?_, _, rfl⟩
      rw [et, List.filter_append, List.map_append]
      simp [hi2]
  · rintro acc Γ ⟨rfl, a, rfl⟩
    rw [List.length_map, List.take_length]
    refine ⟨_, rfl, ?_⟩
    unfold dpl at q
    rw [List.map_map] at q
    exact q
/-- due places, of what is told, lists among it -/
def cDues : CT := fun ss P => ∃ X Y gs f, ss = [.d X, .d Y] ∧ Told X Y gs f ∧ P (.d (.tuple ((dpl gs f).map plD))) [.no, .no]
theorem ok_due_places (B : BI mg) (h__due_in : Fnd P w K T mg base 4 "_due_in" ["sides", "form"] cDueIn) (h_tupled : Fnd P w K T mg base 1 "tupled" ["given"] cTupled) (F : Fun K "due_places" "due_places" s_due_places f fd) (b : Binds K fd ["sides", "form"] []) (m : mg "due_places" = some (.ref f)) : Fnd P w K T mg base 5 "due_places" ["sides", "form"] cDues := by
  refine fn_d F sc_due_places b m [] (by decide) fun cdv A outer s H E hr => ?_
  refine ⟨_, (dss_one (ds_ret (de_call (h__due_in.mono (by omega)) hr (da_cons (de_call (h_tupled.mono (by omega)) hr (da_cons (de_var 0 (pv 0)) da_nil)) (da_cons (de_call (h_tupled.mono (by omega)) hr (da_cons (de_var 1 (pv 1)) da_nil)) da_nil))))), ?_⟩
  rintro ss Q _ ⟨X, Y, gs, f0, rfl, t, q⟩
  refine ⟨rfl, X, rfl, t.nx, t.cx, ?_⟩
  refine ⟨rfl, Y, rfl, t.ny, t.cy, ?_⟩
  rw [t.ex, t.ey]
  exact ⟨rfl, gs, f0, rfl, t.sides, t.fit, t.size, q⟩
def cStands : CT := fun ss P => ∃ X Y gs f, ss = [.d X, .d Y] ∧ Told X Y gs f ∧ P (.d (.bool (dpl gs f).isEmpty)) [.no, .no]
theorem ok_is_standing (B : BI mg) (h_due_places : Fnd P w K T mg base 5 "due_places" ["sides", "form"] cDues) (F : Fun K "is_standing" "is_standing" s_is_standing f fd) (b : Binds K fd ["sides", "form"] []) (m : mg "is_standing" = some (.ref f)) : Fnd P w K T mg base 6 "is_standing" ["sides", "form"] cStands := by
  refine fn_d F sc_is_standing b m [] (by decide) fun cdv A outer s H E hr => ?_
  refine ⟨_, (dss_one (ds_ret (de_not (de_call (h_due_places.mono (by omega)) hr (da_cons (de_var 0 (pv 0)) (da_cons (de_var 1 (pv 1)) da_nil)))))), ?_⟩
  rintro ss Q _ ⟨X, Y, gs, f0, rfl, t, q⟩
  refine ⟨rfl, X, Y, gs, f0, rfl, t, _, rfl, ?_⟩
  rw [List.isEmpty_map, Bool.not_not]
  exact q
def cEnded : CT := fun ss P => ∃ X Y gs f, ss = [.d X, .d Y] ∧ Told X Y gs f ∧ P (.d (.bool ((dpl gs f).isEmpty && (opl f).isEmpty))) [.no, .no]
theorem ok_is_ended (B : BI mg) (h_is_standing : Fnd P w K T mg base 6 "is_standing" ["sides", "form"] cStands) (h_open_in : Fnd P w K T mg base 2 "open_in" ["form"] cOpen) (h_tupled : Fnd P w K T mg base 1 "tupled" ["given"] cTupled) (F : Fun K "is_ended" "is_ended" s_is_ended f fd) (b : Binds K fd ["sides", "form"] []) (m : mg "is_ended" = some (.ref f)) : Fnd P w K T mg base 7 "is_ended" ["sides", "form"] cEnded := by
  refine fn_d F sc_is_ended b m [] (by decide) fun cdv A outer s H E hr => ?_
  refine ⟨_, (dss_one (ds_ret (de_and (de_call (h_is_standing.mono (by omega)) hr (da_cons (de_var 0 (pv 0)) (da_cons (de_var 1 (pv 1)) da_nil))) (de_one (de_not (de_call (h_open_in.mono (by omega)) hr (da_cons (de_call (h_tupled.mono (by omega)) hr (da_cons (de_var 1 (pv 1)) da_nil)) da_nil))))))), ?_⟩
  rintro ss Q _ ⟨X, Y, gs, f0, rfl, t, q⟩
  refine ⟨rfl, X, Y, gs, f0, rfl, t, _, rfl, ?_⟩
  by_cases h : (dpl gs f0).isEmpty = true
  · rw [if_pos h]
    rw [h, Bool.true_and] at q
    refine ⟨rfl, Y, rfl, t.ny, t.cy, ?_⟩
    rw [t.ey]
    refine ⟨rfl, f0, rfl, t.fit, t.size, _, rfl, ?_⟩
    rw [List.isEmpty_map, Bool.not_not]
    exact q
  · rw [if_neg h]
    have h' : (dpl gs f0).isEmpty = false := by simpa using h
    rw [h', Bool.false_and] at q
    rw [h']
    exact q
def cCan : CT := fun ss P => ∃ (gs : List Fm) (h : Fm), ss = [.d (sidesD gs), .d h.d] ∧ Sides gs ∧ h.Fit ∧ P (.d (.bool (canB gs h))) [.no, .no]
theorem ok__can_call_for (B : BI mg) (g_OPEN : ConstAt K mg "OPEN" (.tuple [])) (h_first_fitting : Fnd P w K T mg base 3 "first_fitting" ["sides", "form"] cFits) (F : Fun K "_can_call_for" "_can_call_for" s__can_call_for f fd) (b : Binds K fd ["sides", "part"] []) (m : mg "_can_call_for" = some (.ref f)) : Fnd P w K T mg base 4 "_can_call_for" ["sides", "part"] cCan := by
  refine fn_d F sc__can_call_for b m [] (by decide) fun cdv A outer s H E hr => ?_
  refine ⟨_, (dss_one (ds_ret (de_and (de_notN (de_var 1 (pv 1)) de_non) (de_one (de_or (de_eq hr.units (de_var 1 (pv 1)) (de_const g_OPEN)) (de_one (de_notN (de_call (h_first_fitting.mono (by omega)) hr (da_cons (de_var 0 (pv 0)) (da_cons (de_var 1 (pv 1)) da_nil))) de_non))))))), ?_⟩
  rintro ss Q _ ⟨gs, h, rfl, hs, hf, q⟩
  have hn : isN (.d h.d) = some false := by rw [Fm.d_its]; rfl
  refine ⟨false, hn, true, rfl, ?_⟩
  refine ⟨_, _, rfl, rfl, hf.shaped, shaped_empty, _, rfl, ?_⟩
  rw [Fm.eqv_op]
  cases h with
  | op => exact q
  | nd n ps =>
    refine ⟨rfl, gs, .nd n ps, rfl, hs, hf, _, optD_isN _, ?_⟩
    rw [Bool.not_not]
    exact q
/-- whether a CALL is at a FORM: at a place of it -/
def cIsCall : CT := fun ss P => ∃ (gs : List Fm) (f h g : Fm) (p : List Int), ss = [.d (sidesD gs), .d f.d, .d (.tuple [plD p, g.d])] ∧ Sides gs ∧ f.Fit ∧ f.at? p = some h ∧ g.Fit ∧ g.size ≤ 1000000 ∧ P (.d (.bool (canB gs h))) [.no, .no, .no]
theorem along_snoc (f : Fm) (x : List Int × Fm) : ∀ run, along f (run ++ [x]) = along f run ++ [(lastF f run).put x.1 x.2] := fun run => by
  induction run generalizing f with
  | nil => rfl
  | cons y r ih => rw [List.cons_append, along, along, ih, lastF]; rfl
theorem lastF_snoc (f : Fm) (x : List Int × Fm) : ∀ run, lastF f (run ++ [x]) = (lastF f run).put x.1 x.2 := fun run => by
  induction run generalizing f with
  | nil => rfl
  | cons y r ih => rw [List.cons_append, lastF, lastF, ih]
theorem along_last (f : Fm) : ∀ run, ∃ init, f :: along f run = init ++ [lastF f run] := fun run => by
  induction run generalizing f with
  | nil => exact ⟨[], rfl⟩
  | cons y r ih =>
    obtain ⟨init, e⟩ := ih (f.put y.1 y.2)
    exact ⟨f :: init, by rw [along, e]; rfl⟩
def cAlong : CT := fun ss P => ∃ (gs : List Fm) (f : Fm) (run : List (List Int × Fm)), ss = [.d (sidesD gs), .d f.d, .d (runD run)] ∧ Sides gs ∧ f.Fit ∧ f.size ≤ 1000000 ∧ IsRun gs f run ∧ run.length ≤ 1000000 ∧ P (.d (.tuple ((f :: along f run).map Fm.d))) [.no, .no, .no]
def cIsRun : CT := fun ss P => ∃ X Y gs f run, ss = [.d X, .d Y, .d (runD run)] ∧ Told X Y gs f ∧ IsRun gs f run ∧ run.length ≤ 1000000 ∧ P (.d (.bool true)) [.no, .no, .no]
/-- a RUN as it is told, lists in the place of tuples among it -/
structure ToldR (Z : PyData) (run : List (List Int × Fm)) : Prop where
  nz : nod Z = true
  cz : cnt Z ≤ 1000000
  ez : tupD Z = runD run
  len : run.length ≤ 1000000
def cForms : CT := fun ss P => ∃ X Y Z gs f run, ss = [.d X, .d Y, .d Z] ∧ Told X Y gs f ∧ ToldR Z run ∧ IsRun gs f run ∧ P (.d (.tuple ((f :: along f run).map Fm.d))) [.no, .no, .no]
def cLed : CT := fun ss P => ∃ X Y Z gs f run, ss = [.d X, .d Y, .d Z] ∧ Told X Y gs f ∧ ToldR Z run ∧ IsRun gs f run ∧ P (.d (lastF f run).d) [.no, .no, .no]
def cBecome : CT := fun ss P => ∃ X Y Z gs f g, ss = [.d X, .d Y, .d Z] ∧ Told X Y gs f ∧ Told X Z gs g ∧ P (.d (.bool ((blotF gs f).lie g))) [.no, .no, .no]
def endB (gs : List Fm) (g : Fm) : Bool := (dpl gs g).isEmpty && (opl g).isEmpty
def cEndOf : CT := fun ss P => ∃ X Y Z gs f g, ss = [.d X, .d Y, .d Z] ∧ Told X Y gs f ∧ Told X Z gs g ∧ P (.d (.bool (endB gs g && (blotF gs f).lie g))) [.no, .no, .no]
end

theorem il_depth (p : List Int) : SeqAt.shaped (.list (p.map PyData.int)) = true := by
  have h1 := pl_lay p
  have h2 := pl_depth p
  unfold SeqAt.shaped
  simp only [PyData.canLay0, h1, Bool.true_and]
  exact decide_eq_true (by simp only [PyData.depth]; omega)

/-! ## the law's own looks -/
/-- a filter of the places by what stands there -/
theorem spl_filter (c : Fm → Bool) (f : Fm) : (spl f).filter (fun p => match f.at? p with | some h => c h | none => false) = ((f.sp []).filter fun x => c x.2).map (·.1) := by
  have key : ∀ l : List (List Int × Fm), (∀ x ∈ l, f.at? x.1 = some x.2) → (l.map (·.1)).filter (fun p => match f.at? p with | some h => c h | none => false) = (l.filter fun x => c x.2).map (·.1) := fun l => by
    induction l with
    | nil => intro _; rfl
    | cons x r ih =>
      intro h
      have hx := h x List.mem_cons_self
      have ih := ih fun y hy => h y (List.mem_cons_of_mem _ hy)
      rw [List.map_cons, List.filter_cons, List.filter_cons, hx, ih]
      cases h : c x.2 <;> simp [h]
  exact key _ fun x hx => by
    obtain ⟨q, e1, e2⟩ := sp_mem f [] x hx
    rw [e1]; exact e2
theorem spl_mem_at {f : Fm} {p : List Int} (h : p ∈ spl f) : ∃ g, f.at? p = some g := spl_at p f h
section
variable {P : Program} {w : World} {K : PySem.W.Frag} {T : Tbs} {mg : Str → Option Value} {base : Heap} {f : Addr} {fd : FuncData}
abbrev s__law_lies : Stmt := topS 48
theorem sc__law_lies : FnScope ["one_so", "two_so", "mine", "its"] ["one_so", "two_so"] (defScope s__law_lies) := ⟨rfl, rfl, rfl, by decide +kernel, rfl, by decide +kernel, by decide +kernel⟩
abbrev s__law_opens : Stmt := topS 47
theorem sc__law_opens : FnScope ["leaf", "spot_so"] ["leaf"] (defScope s__law_opens) := ⟨rfl, rfl, rfl, by decide +kernel, rfl, by decide +kernel, by decide +kernel⟩
abbrev s__law_fits : Stmt := topS 53
theorem sc__law_fits : FnScope ["page_so", "leaf", "k", "own"] ["page_so", "leaf"] (defScope s__law_fits) := ⟨rfl, rfl, rfl, by decide +kernel, rfl, by decide +kernel, by decide +kernel⟩
abbrev s__law_dues : Stmt := topS 54
theorem sc__law_dues : FnScope ["page_so", "leaf", "spot_so"] ["page_so", "leaf"] (defScope s__law_dues) := ⟨rfl, rfl, rfl, by decide +kernel, rfl, by decide +kernel, by decide +kernel⟩
def cLLies (d : Nat) : CT := fun ss P => ∃ f g : Fm, ss = [.d f.d, .d g.d] ∧ f.Fit ∧ g.Fit ∧ f.dep ≤ d ∧ P (.d (.bool (f.lie g))) [.no, .no]
theorem ok__law_lies (B : BI mg) (F : Fun K "_law_lies" "_law_lies" s__law_lies f fd) (b : Binds K fd ["one_so", "two_so"] []) (m : mg "_law_lies" = some (.ref f)) : ∀ d, Fnd P w K T mg base d "_law_lies" ["one_so", "two_so"] (cLLies d)
  | 0 => Fnd.zero F b m fun ss Q ⟨f, _, _, _, _, h, _⟩ => absurd h (by have := dep_pos f; omega)
  | d + 1 => by
    have h__law_lies := ok__law_lies B F b m d
    refine fn_d F sc__law_lies b m [] (by decide) fun cdv A outer s H E hr => ?_
    refine ⟨_, (dss_cons (ds_if (dt_eq hr.units (de_var 0 (pv 0)) (de_tup da_nil)) (dss_one (ds_ret de_bl)) dss_nil) (dss_cons (ds_if (dw_pt (dw_or (dt_eq hr.units (de_var 1 (pv 1)) (de_tup da_nil)) (dw_or (dt_ne hr.units (de_item (de_var 0 (pv 0)) de_int) (de_item (de_var 1 (pv 1)) de_int)) (dw_or1 (dt_ne hr.units (de_len B.len (da_cons (de_var 0 (pv 0)) da_nil)) (de_len B.len (da_cons (de_var 1 (pv 1)) da_nil))))))) (dss_one (ds_ret de_bl)) dss_nil) (dss_one (ds_ret (de_all B.all rfl (da_cons (de_lc (own := [("mine", 2), ("its", 3)]) rfl sc__law_lies.nd (di_zip rfl B.zip (de_slice (de_var 0 (pv 0)) (do_some de_int) do_none) (de_slice (de_var 1 (pv 1)) (do_some de_int) do_none)) (blkOk_by (N := ["one_so", "two_so", "mine", "its"]) (sc := (defScope s__law_lies)) (by decide +kernel)) (by decide) (fun _ => (dg_tup (n := 2) rfl (dgs_cons (dg_name (i := 2) (pg_name sc__law_lies.nd rfl (Or.inl rfl))) (dgs_cons (dg_name (i := 3) (pg_name sc__law_lies.nd rfl (Or.inl rfl))) dgs_nil)))) (fun _ => dts_nil) (fun _ => (de_call (h__law_lies.mono (by omega)) hr (da_cons (de_var 2 (pv 2)) (da_cons (de_var 3 (pv 3)) da_nil))))) da_nil)))))), ?_⟩
    rintro ss Q _ ⟨f, g, e, hf, hg, hd, q⟩
    subst e
    refine ⟨_, rfl, sz 0, ⟨_, _, rfl, rfl, hf.shaped, shaped_empty, _, rfl, ?_⟩⟩
    rw [Fm.eqv_op]
    cases f with
    | op => rw [lie_op] at q; exact q
    | nd n ps =>
      refine ⟨_, rfl, sz 0, ⟨_, _, rfl, rfl, hg.shaped, shaped_empty, _, rfl, ?_⟩⟩
      rw [Fm.eqv_op]
      cases g with
      | op => exact q
      | nd k qs =>
        have s1 := sh_str hf.name.1
        have s2 := sh_str hg.name.1
        refine ⟨_, .str n, rfl, atI_zero, ⟨_, .str k, rfl, atI_zero, ⟨_, _, rfl, rfl, s1, s2, _, rfl, ?_⟩⟩⟩
        rw [ev_str]
        have ha : (Fm.nd n ps).lie (Fm.nd k qs) = (n == k && decide (ps.length = qs.length) && Fm.lies ps qs) := by rw [Fm.lie]
        rw [ha] at q
        have l1 : (Fm.ds ps).length = ps.length := Fm.ds_len ps
        have l2 : (Fm.ds qs).length = qs.length := Fm.ds_len qs
        cases hnk : (n == k) with
        | false =>
          rw [hnk] at q
          exact q
        | true =>
          rw [hnk] at q
          refine ⟨_, rfl, ⟨_, rfl, ⟨_, _, rfl, rfl, sh_int _, sh_int _, _, rfl, ?_⟩⟩⟩
          rw [ev_int]
          by_cases hle : ps.length = qs.length
          · have e1 : ((((PyData.str n :: Fm.ds ps).length : Nat) : Int) == (((PyData.str k :: Fm.ds qs).length : Nat) : Int)) = true := by simp [l1, l2, hle]
            rw [decide_eq_true hle] at q
            have q : Q (.d (.bool (Fm.lies ps qs))) [.no, .no] := by simpa using q
            rw [e1]
            have z : zipD (cutD (PyData.str n :: Fm.ds ps) (some 1) none) (cutD (PyData.str k :: Fm.ds qs) (some 1) none) = (ps.zip qs).map pairD := by rw [cut_one, cut_one, zip_pairs]
            have hzl : (ps.zip qs).length ≤ 3 := by have := hf.name.2; rw [List.length_zip]; omega
            refine ⟨_, rfl, ⟨_, rfl, ⟨(ps.zip qs).map pairD, by rw [← z]; rfl, ?_⟩⟩⟩
            refine ⟨fun i acc Γ => acc = ((ps.zip qs).take i).map (fun x => PyData.bool (x.1.lie x.2)) ∧ Γ = [.d (Fm.nd n ps).d, .d (Fm.nd k qs).d, .no, .no], ⟨rfl, rfl⟩, ?_, ?_⟩
            · rintro i y acc Γ hy ⟨rfl, rfl⟩
              rw [List.getElem?_map] at hy
              obtain ⟨⟨a, c⟩, hac, rfl⟩ := Option.map_eq_some_iff.mp hy
              have hm := List.of_mem_zip (List.mem_of_getElem? hac)
              have hdp := part_dep (f := .nd n ps) hm.1
              refine ⟨_, rfl, rfl, ⟨_, _, rfl, ⟨_, _, rfl, rfl, ?_⟩⟩⟩
              refine ⟨rfl, a, c, rfl, hf.part hm.1, hg.part hm.2, by omega, ?_⟩
              exact ⟨_, rfl, szl (by rw [List.length_map, List.length_take]; omega), by rw [take_one hac, List.map_append]; rfl, rfl⟩
            · rintro acc Γ ⟨rfl, rfl⟩
              rw [List.length_map, List.take_length]
              refine ⟨(ps.zip qs).map fun x => x.1.lie x.2, by show some _ = some _; rw [List.map_map]; rfl, ?_⟩
              rw [lies_zip] at q
              have e2 : ((ps.zip qs).map fun x => x.1.lie x.2).all id = (ps.zip qs).all fun x => x.1.lie x.2 := by rw [List.all_map]; rfl
              rw [e2]
              exact q
          · have e1 : ((((PyData.str n :: Fm.ds ps).length : Nat) : Int) == (((PyData.str k :: Fm.ds qs).length : Nat) : Int)) = false := by simp [l1, l2]; omega
            rw [decide_eq_false hle] at q
            rw [e1]
            exact q
/-- FORMS that the law looks at -/
structure Looked (f : Fm) : Prop where
  fit : f.Fit
  size : f.size ≤ 900000
theorem at_fit {f g : Fm} {p : List Int} (h : f.Fit) (e : f.at? p = some g) : g.Fit := by
  obtain ⟨a, b, _⟩ := at_bound p f g e h.ok
  have := h.dep
  exact ⟨a, by omega⟩
def cLOpens : CT := fun ss P => ∃ f : Fm, ss = [.d f.d] ∧ Looked f ∧ P (.m ((opl f).map plD)) [.no]
theorem ok__law_opens (B : BI mg) (h__law_spots : Fnd P w K T mg base 60 "_law_spots" ["leaf"] (cLSpots 60)) (h__law_at : Fnd P w K T mg base 1 "_law_at" ["leaf", "spot_so"] cAt) (F : Fun K "_law_opens" "_law_opens" s__law_opens f fd) (b : Binds K fd ["leaf"] []) (m : mg "_law_opens" = some (.ref f)) : Fnd P w K T mg base 61 "_law_opens" ["leaf"] cLOpens := by
  refine fn_d F sc__law_opens b m [] (by decide) fun cdv A outer s H E hr => ?_
  refine ⟨_, (dss_one (ds_ret (de_lc (own := [("spot_so", 1)]) rfl sc__law_opens.nd (di_seq (de_call (h__law_spots.mono (by omega)) hr (da_cons (de_var 0 (pv 0)) da_nil))) (blkOk_by (N := ["leaf", "spot_so"]) (sc := (defScope s__law_opens)) (by decide +kernel)) (by decide) (fun _ => (dg_name (i := 1) (pg_name sc__law_opens.nd rfl (Or.inl rfl)))) (fun _ => (dts_one (dt_eq hr.units (de_call (h__law_at.mono (by omega)) hr (da_cons (de_var 0 (pv 0)) (da_cons (de_var 1 (pv 1)) da_nil))) (de_tup da_nil)))) (fun _ => (de_var 1 (pv 1)))))), ?_⟩
  rintro ss Q _ ⟨f0, rfl, lk, q⟩
  have hd := lk.fit.dep
  have hz := lk.size
  refine ⟨rfl, f0, rfl, hd, by omega, ?_⟩
  refine ⟨_, rfl, ?_⟩
  refine ⟨fun i acc Γ => acc = (((spl f0).take i).filter fun p => match f0.at? p with | some h => h.isOp | none => false).map plD ∧ Γ = [.d f0.d, .no], ⟨rfl, rfl⟩, ?_, ?_⟩
  · rintro i x acc Γ hx ⟨rfl, rfl⟩
    rw [List.getElem?_map] at hx
    obtain ⟨p, hk, rfl⟩ := Option.map_eq_some_iff.mp hx
    have hi := (List.getElem?_eq_some_iff.mp hk).1
    rw [spl_len] at hi
    obtain ⟨h, eh⟩ := spl_mem_at (List.mem_of_getElem? hk)
    have fh := at_fit lk.fit eh
    refine ⟨rfl, f0, h, p, rfl, eh, ?_⟩
    refine ⟨_, rfl, sz 0, _, _, rfl, rfl, fh.shaped, shaped_empty, _, rfl, ?_⟩
    rw [Fm.eqv_op]
    have et : (spl f0).take (i + 1) = (spl f0).take i ++ [p] := take_one hk
    have hl := List.length_filter_le (fun p => match f0.at? p with | some h => h.isOp | none => false) ((spl f0).take i)
    rw [List.length_take] at hl
    cases h with
    | op =>
      refine ⟨_, rfl, szl (by rw [List.length_map]; omega), ?_, rfl⟩
      rw [et, List.filter_append, List.map_append]; simp [eh, Fm.isOp]
    | nd n ps =>
      refine ⟨?_, rfl⟩
      rw [et, List.filter_append, List.map_append]; simp [eh, Fm.isOp]
  · rintro acc Γ ⟨rfl, rfl⟩
    rw [List.length_map, List.take_length, spl_filter]
    exact q
/-- the numbers of the SIDES that fit -/
def fitsN (gs : List Fm) (f : Fm) : List Nat := (List.range gs.length).filter fun i => match gs[i]? with | some g => g.lie f | none => false
def cLFits : CT := fun ss P => ∃ (gs : List Fm) (f : Fm), ss = [.d (sidesD gs), .d f.d] ∧ Sides gs ∧ f.Fit ∧ P (.m ((fitsN gs f).map fun (i : Nat) => PyData.int (i : Int))) [.no, .no]
theorem ok__law_fits (B : BI mg) (h__law_lies : Fnd P w K T mg base 60 "_law_lies" ["one_so", "two_so"] (cLLies 60)) (F : Fun K "_law_fits" "_law_fits" s__law_fits f fd) (b : Binds K fd ["page_so", "leaf"] []) (m : mg "_law_fits" = some (.ref f)) : Fnd P w K T mg base 61 "_law_fits" ["page_so", "leaf"] cLFits := by
  refine fn_d F sc__law_fits b m [] (by decide) fun cdv A outer s H E hr => ?_
  refine ⟨_, (dss_one (ds_ret (de_lc (own := [("k", 2), ("own", 3)]) rfl sc__law_fits.nd (di_enum rfl B.enumerate (de_var 0 (pv 0))) (blkOk_by (N := ["page_so", "leaf", "k", "own"]) (sc := (defScope s__law_fits)) (by decide +kernel)) (by decide) (fun _ => (dg_tup (n := 2) rfl (dgs_cons (dg_name (i := 2) (pg_name sc__law_fits.nd rfl (Or.inl rfl))) (dgs_cons (dg_name (i := 3) (pg_name sc__law_fits.nd rfl (Or.inl rfl))) dgs_nil)))) (fun _ => (dts_one (dt_truth (de_call (h__law_lies.mono (by omega)) hr (da_cons (de_var 3 (pv 3)) (da_cons (de_var 1 (pv 1)) da_nil)))))) (fun _ => (de_var 2 (pv 2)))))), ?_⟩
  rintro ss Q _ ⟨gs, f0, rfl, hs, hf, q⟩
  refine ⟨_, rfl, ?_⟩
  refine ⟨fun i acc Γ => acc = ((List.range i).filter fun i => match gs[i]? with | some g => g.lie f0 | none => false).map (fun (i : Nat) => PyData.int (i : Int)) ∧ ∃ a, Γ = [a, .d f0.d, .no, .no], ⟨rfl, _, rfl⟩, ?_, ?_⟩
  · rintro i x acc Γ hx ⟨rfl, a, rfl⟩
    obtain ⟨y, hy, rfl⟩ := enumD_get hx
    rw [List.getElem?_map] at hy
    obtain ⟨g, hg, rfl⟩ := Option.map_eq_some_iff.mp hy
    have hi := (List.getElem?_eq_some_iff.mp hg).1
    have hgl := hs.len
    have hm := List.mem_of_getElem? hg
    rw [Nat.zero_add]
    have hl := List.length_filter_le (fun i => match gs[i]? with | some g => g.lie f0 | none => false) (List.range i)
    rw [List.length_range] at hl
    refine ⟨_, rfl, rfl, ⟨_, _, rfl, ⟨_, _, rfl, rfl, ?_⟩⟩⟩
    refine ⟨rfl, g, f0, rfl, hs.fit g hm, hf, (hs.fit g hm).dep, _, rfl, ?_⟩
    show if (g.lie f0) = true then _ else _
    cases hag : g.lie f0 with
    | true =>
      rw [if_pos rfl]
      exact ⟨_, rfl, szl (by rw [List.length_map]; omega), by rw [List.range_succ, List.filter_append]; simp [hg, hag], _, rfl⟩
    | false =>
      rw [if_neg Bool.false_ne_true]
      exact ⟨by rw [List.range_succ, List.filter_append]; simp [hg, hag], _, rfl⟩
  · rintro acc Γ ⟨rfl, a, rfl⟩
    rw [enumD_len, List.length_map]
    exact q
theorem fitsN_nil (gs : List Fm) (f : Fm) : (fitsN gs f).isEmpty = !(fitA gs f).isSome := by
  unfold fitsN fitA
  cases e : gs.findIdx? (fun g => g.lie f) with
  | none =>
    rw [List.findIdx?_eq_none_iff] at e
    have : (List.range gs.length).filter (fun i => match gs[i]? with | some g => g.lie f | none => false) = [] := by
      rw [List.filter_eq_nil_iff]
      intro i hi
      have hi' := List.mem_range.mp hi
      rw [List.getElem?_eq_getElem hi']
      simp [e _ (List.getElem_mem hi')]
    rw [this]; rfl
  | some j =>
    rw [List.findIdx?_eq_some_iff_getElem] at e
    obtain ⟨hj, hl, _⟩ := e
    have hm : j ∈ (List.range gs.length).filter (fun i => match gs[i]? with | some g => g.lie f | none => false) := by
      rw [List.mem_filter]
      exact ⟨List.mem_range.mpr hj, by rw [List.getElem?_eq_getElem hj]; exact hl⟩
    cases z : (List.range gs.length).filter (fun i => match gs[i]? with | some g => g.lie f | none => false) with
    | nil => rw [z] at hm; cases hm
    | cons _ _ => rfl
def cLDues : CT := fun ss P => ∃ (gs : List Fm) (f : Fm), ss = [.d (sidesD gs), .d f.d] ∧ Sides gs ∧ Looked f ∧ P (.m ((dpl gs f).map plD)) [.no, .no]
theorem sh_ints (ns : List Nat) : SeqAt.shaped (.list (ns.map fun (i : Nat) => PyData.int (i : Int))) = true := by
  have := il_depth (ns.map fun (i : Nat) => (i : Int))
  rw [List.map_map] at this
  exact this
theorem ok__law_dues (B : BI mg) (h__law_spots : Fnd P w K T mg base 60 "_law_spots" ["leaf"] (cLSpots 60)) (h__law_at : Fnd P w K T mg base 1 "_law_at" ["leaf", "spot_so"] cAt) (h__law_fits : Fnd P w K T mg base 61 "_law_fits" ["page_so", "leaf"] cLFits) (F : Fun K "_law_dues" "_law_dues" s__law_dues f fd) (b : Binds K fd ["page_so", "leaf"] []) (m : mg "_law_dues" = some (.ref f)) : Fnd P w K T mg base 62 "_law_dues" ["page_so", "leaf"] cLDues := by
  refine fn_d F sc__law_dues b m [] (by decide) fun cdv A outer s H E hr => ?_
  refine ⟨_, (dss_one (ds_ret (de_lc (own := [("spot_so", 2)]) rfl sc__law_dues.nd (di_seq (de_call (h__law_spots.mono (by omega)) hr (da_cons (de_var 1 (pv 1)) da_nil))) (blkOk_by (N := ["page_so", "leaf", "spot_so"]) (sc := (defScope s__law_dues)) (by decide +kernel)) (by decide) (fun _ => (dg_name (i := 2) (pg_name sc__law_dues.nd rfl (Or.inl rfl)))) (fun _ => (dts_one (dt_ne hr.units (de_call (h__law_fits.mono (by omega)) hr (da_cons (de_var 0 (pv 0)) (da_cons (de_call (h__law_at.mono (by omega)) hr (da_cons (de_var 1 (pv 1)) (da_cons (de_var 2 (pv 2)) da_nil))) da_nil))) (de_lst da_nil)))) (fun _ => (de_var 2 (pv 2)))))), ?_⟩
  rintro ss Q _ ⟨gs, f0, rfl, hs, lk, q⟩
  have hd := lk.fit.dep
  have hz := lk.size
  refine ⟨rfl, f0, rfl, hd, by omega, ?_⟩
  refine ⟨_, rfl, ?_⟩
  refine ⟨fun i acc Γ => acc = (((spl f0).take i).filter fun p => match f0.at? p with | some h => (fitA gs h).isSome | none => false).map plD ∧ Γ = [.d (sidesD gs), .d f0.d, .no], ⟨rfl, rfl⟩, ?_, ?_⟩
  · rintro i x acc Γ hx ⟨rfl, rfl⟩
    rw [List.getElem?_map] at hx
    obtain ⟨p, hk, rfl⟩ := Option.map_eq_some_iff.mp hx
    have hi := (List.getElem?_eq_some_iff.mp hk).1
    rw [spl_len] at hi
    obtain ⟨h, eh⟩ := spl_mem_at (List.mem_of_getElem? hk)
    have fh := at_fit lk.fit eh
    refine ⟨rfl, f0, h, p, rfl, eh, ?_⟩
    refine ⟨rfl, gs, h, rfl, hs, fh, ?_⟩
    refine ⟨_, rfl, sz 0, _, _, rfl, rfl, sh_ints _, sh_nil, _, rfl, ?_⟩
    rw [ev_lnil, List.isEmpty_map, fitsN_nil, Bool.not_not]
    have et : (spl f0).take (i + 1) = (spl f0).take i ++ [p] := take_one hk
    have hl := List.length_filter_le (fun p => match f0.at? p with | some h => (fitA gs h).isSome | none => false) ((spl f0).take i)
    rw [List.length_take] at hl
    cases hi2 : (fitA gs h).isSome with
    | true =>
      refine ⟨_, rfl, szl (by rw [List.length_map]; omega), ?_, rfl⟩
      rw [et, List.filter_append, List.map_append]; simp [eh, hi2]
    | false =>
      refine ⟨?_, rfl⟩
      rw [et, List.filter_append, List.map_append]; simp [eh, hi2]
  · rintro acc Γ ⟨rfl, rfl⟩
    rw [List.length_map, List.take_length, spl_filter]
    exact q
def cLShut : CT := fun ss P => ∃ (gs : List Fm) (f : Fm), ss = [.d (sidesD gs), .d f.d] ∧ Sides gs ∧ Looked f ∧ P (.d (.bool (endB gs f))) [.no, .no]
end

/-! ## RUNS by draw -/
theorem put_sz : ∀ (p : List Int) (f h g : Fm), f.at? p = some h → (f.put p g).size + h.size = f.size + g.size ∧ (f.put p g).dep ≤ max f.dep (p.length + g.dep)
  | [], f, h, g, e => by
    cases e
    have e : f.put [] g = g := by cases f <;> rfl
    rw [e]
    exact ⟨Nat.add_comm _ _, by simp only [List.length_nil, Nat.zero_add]; exact Nat.le_max_right _ _⟩
  | i :: r, f, h, g, e => by
    obtain ⟨n, ps, h', rfl, h0, e1, e2⟩ := at_cons e
    have e3 : (Fm.nd n ps).put (i :: r) g = .nd n (ps.set i.toNat (h'.put r g)) := by
      show (match ps[i.toNat]? with | some h => _ | none => _) = _
      rw [e1]
    have hm := List.mem_of_getElem? e1
    obtain ⟨b, c⟩ := put_sz r h' h g e2
    have hs := sizes_set ps i.toNat h' (h'.put r g) e1
    have hd := deps_le ps h' hm
    rw [e3]
    refine ⟨by rw [Fm.size, Fm.size]; omega, ?_⟩
    rw [Fm.dep, Fm.dep, List.length_cons]
    have : Fm.deps (ps.set i.toNat (h'.put r g)) ≤ max (Fm.deps ps) (r.length + g.dep) := deps_of _ fun x hx => by
      rcases mem_set' hx with z | z
      · have := deps_le ps x z; omega
      · rw [z]; omega
    omega
theorem two_filter {α : Type} (a c : α → Bool) : ∀ l : List α, (∀ x ∈ l, a x = true → c x = false) → (l.filter a).length + (l.filter c).length ≤ l.length
  | [], _ => by simp
  | x :: r, h => by
    have ih := two_filter a c r fun y hy => h y (List.mem_cons_of_mem _ hy)
    have hx := h x List.mem_cons_self
    rw [List.filter_cons, List.filter_cons, List.length_cons]
    cases ha : a x with
    | true =>
      rw [hx ha]
      simp only [Bool.false_eq_true, if_false, if_true, List.length_cons]; omega
    | false =>
      cases hc : c x <;> simp only [Bool.false_eq_true, if_false, if_true, List.length_cons] <;> omega
theorem fit_op {gs : List Fm} (hn : ∀ g ∈ gs, g.isOp = false) : (fitA gs .op).isSome = false := by
  have : fitA gs .op = none := by
    unfold fitA
    rw [List.findIdx?_eq_none_iff]
    intro g hg
    cases g with
    | op => have := hn _ hg; simp [Fm.isOp] at this
    | nd n ps => simp [Fm.lie]
  rw [this]; rfl
theorem od_len {gs : List Fm} (hn : ∀ g ∈ gs, g.isOp = false) (f : Fm) : (opl f).length + (dpl gs f).length ≤ f.size := by
  unfold opl dpl
  rw [List.length_map, List.length_map, ← sp_len [] f]
  refine two_filter _ _ _ fun x hx h => ?_
  cases hx2 : x.2 with
  | op => exact fit_op hn
  | nd n ps => rw [hx2] at h; simp [Fm.isOp] at h
theorem sp_in {f : Fm} {x : List Int × Fm} (h : x ∈ f.sp []) : x.1 ∈ spl f ∧ f.at? x.1 = some x.2 := by
  obtain ⟨q, e1, e2⟩ := sp_mem f [] x h
  rw [List.nil_append] at e1
  exact ⟨List.mem_map.mpr ⟨x, h, rfl⟩, by rw [e1]; exact e2⟩
theorem od_mem {gs : List Fm} {f : Fm} {p : List Int} (h : p ∈ opl f ++ dpl gs f) : p ∈ spl f ∧ ∃ h, f.at? p = some h ∧ canB gs h = true := by
  rcases List.mem_append.mp h with z | z
  · obtain ⟨x, hx, rfl⟩ := List.mem_map.mp z
    obtain ⟨h1, h2⟩ := List.mem_filter.mp hx
    obtain ⟨a, c⟩ := sp_in h1
    exact ⟨a, x.2, c, by unfold canB; rw [h2]; rfl⟩
  · obtain ⟨x, hx, rfl⟩ := List.mem_map.mp z
    obtain ⟨h1, h2⟩ := List.mem_filter.mp hx
    obtain ⟨a, c⟩ := sp_in h1
    exact ⟨a, x.2, c, by unfold canB; rw [h2, Bool.or_true]⟩
/-! ## PLACES as keys -/
def plK (p : List Int) : NestedKey := .tup (p.map .num)
theorem nums_data : ∀ p : List Int, NestedKey.datas (p.map .num) = p.map PyData.int
  | [] => rfl
  | i :: r => by rw [List.map_cons, NestedKey.datas, nums_data r]; rfl
theorem plK_d (p : List Int) : (plK p).data = plD p := by simp only [plK, plD, NestedKey.data, nums_data]
theorem plK_map (l : List (List Int)) : (l.map plK).map NestedKey.data = l.map plD := by
  rw [List.map_map]
  exact List.map_congr_left fun x _ => plK_d x
theorem nums_depth : ∀ p : List Int, NestedKey.depthAll (p.map .num) = 0
  | [] => rfl
  | i :: r => by rw [List.map_cons, NestedKey.depthAll, nums_depth r]; rfl
theorem ints_alike : ∀ p q : List Int, PySem.W.alikeAll (p.map PyData.int) (q.map PyData.int) = true
  | [], _ => by simp [PySem.W.alikeAll]
  | _ :: _, [] => by simp [PySem.W.alikeAll]
  | a :: p, c :: q => by simp only [List.map_cons, PySem.W.alikeAll, PySem.W.alike, ints_alike p q, Bool.and_self]
theorem pl_sorts {l : List (List Int)} (h : l.length < 64) : Sorts (l.map plK) where
  flat k hk := by
    obtain ⟨x, _, rfl⟩ := List.mem_map.mp hk
    simp only [plK, NestedKey.depth, nums_depth]; decide
  tup k hk := by
    obtain ⟨x, _, rfl⟩ := List.mem_map.mp hk
    exact ⟨_, rfl⟩
  like a ha b hb := by
    obtain ⟨x, _, rfl⟩ := List.mem_map.mp ha
    obtain ⟨y, _, rfl⟩ := List.mem_map.mp hb
    rw [plK_d, plK_d]
    simp only [plD, PySem.W.alike, ints_alike]
  few := by rw [List.length_map]; exact h
theorem plK_back {l : List (List Int)} : ∀ {ks : List NestedKey}, (∀ k ∈ ks, k ∈ l.map plK) → ∃ l' : List (List Int), ks = l'.map plK ∧ ∀ x ∈ l', x ∈ l
  | [], _ => ⟨[], rfl, fun _ h => by cases h⟩
  | k :: r, h => by
    obtain ⟨x, hx, rfl⟩ := List.mem_map.mp (h k List.mem_cons_self)
    obtain ⟨l', rfl, hl⟩ := plK_back (ks := r) fun y hy => h y (List.mem_cons_of_mem _ hy)
    exact ⟨x :: l', rfl, fun y hy => by
      rcases List.mem_cons.mp hy with z | z
      · rw [z]; exact hx
      · exact hl y z⟩
/-! ## small FORMS, small RUNS -/
structure Lit (f : Fm) : Prop where
  ok : f.ok = true
  size : f.size ≤ 100
  dep : f.dep ≤ 40
theorem Lit.fit {f : Fm} (h : Lit f) : f.Fit := ⟨h.ok, by have := h.dep; omega⟩
def WStep (gs : List Fm) (f : Fm) (x : List Int × Fm) : Prop := (∃ h, f.at? x.1 = some h ∧ canB gs h = true) ∧ x.1.length ≤ 60 ∧ (x.2.ok = true ∧ x.2.size ≤ 4 ∧ x.2.dep ≤ 3) ∧ Lit (f.put x.1 x.2)
def Walk (gs : List Fm) (f : Fm) : List (List Int × Fm) → Prop
  | [] => True
  | x :: r => WStep gs f x ∧ Walk gs (f.put x.1 x.2) r
theorem walk_snoc {gs : List Fm} {x : List Int × Fm} : ∀ {run : List (List Int × Fm)} {f : Fm}, Walk gs f run → WStep gs (lastF f run) x → Walk gs f (run ++ [x])
  | [], _, _, h => ⟨h, trivial⟩
  | _ :: _, _, h, k => ⟨h.1, walk_snoc h.2 k⟩
theorem walk_run {gs : List Fm} : ∀ {run : List (List Int × Fm)} {f : Fm}, Walk gs f run → IsRun gs f run
  | [], _, _ => trivial
  | x :: r, f, ⟨⟨a, _, ⟨c1, c2, c3⟩, d⟩, e⟩ => ⟨a, ⟨c1, by omega⟩, by omega, d.fit, by have := d.size; omega, walk_run e⟩
theorem walk_mono {gs : List Fm} : ∀ {run : List (List Int × Fm)} {f : Fm}, Walk gs f run → (blotF gs f).lie (blotF gs (lastF f run)) = true
  | [], f, _ => lie_refl _
  | x :: r, f, ⟨⟨⟨h, e1, e2⟩, _⟩, k⟩ => lie_trans _ _ _ (call_mono gs x.1 f h x.2 e1 e2) (walk_mono k)
theorem walk_lit {gs : List Fm} : ∀ {run : List (List Int × Fm)} {f : Fm}, Walk gs f run → Lit f → Lit (lastF f run)
  | [], f, _, l => l
  | x :: r, f, h, _ => walk_lit (run := r) (f := f.put x.1 x.2) h.2 h.1.2.2.2
theorem walk_all {gs : List Fm} : ∀ {run : List (List Int × Fm)} {f : Fm}, Walk gs f run → Lit f → ∀ h ∈ f :: along f run, Lit h ∧ (blotF gs f).lie (blotF gs h) = true ∧ (blotF gs h).lie (blotF gs (lastF f run)) = true
  | run, f, k, l, h, hm => by
    rcases List.mem_cons.mp hm with rfl | hm
    · exact ⟨l, lie_refl _, walk_mono k⟩
    · cases run with
      | nil => cases hm
      | cons x r =>
        obtain ⟨a, c, d⟩ := walk_all k.2 k.1.2.2.2 h hm
        obtain ⟨h', e1, e2⟩ := k.1.1
        exact ⟨a, lie_trans _ _ _ (call_mono gs x.1 f h' x.2 e1 e2) c, d⟩
theorem tupDs_map : ∀ l : List PyData, tupDs l = l.map tupD
  | [] => rfl
  | x :: r => by rw [tupDs, tupDs_map r]; rfl
theorem tup_pl (p : List Int) : tupD (plD p) = plD p := by
  simp only [plD, tupD, tupDs_map, List.map_map]
  congr 1
theorem tup_run (run : List (List Int × Fm)) : tupD (runD run) = runD run := by
  simp only [runD, tupD, tupDs_map, List.map_map]
  congr 1
  refine List.map_congr_left fun x _ => ?_
  show tupD (.tuple [plD x.1, x.2.d]) = _
  simp only [tupD, tupDs, tup_pl, tup_fm]
theorem walk_small {gs : List Fm} : ∀ {run : List (List Int × Fm)} {f : Fm}, Walk gs f run → ∀ x ∈ run, x.1.length ≤ 60 ∧ x.2.ok = true ∧ x.2.size ≤ 4 ∧ x.2.dep ≤ 3
  | [], _, _, x, h => by cases h
  | y :: r, f, k, x, h => by
    rcases List.mem_cons.mp h with rfl | h
    · exact ⟨k.1.2.1, k.1.2.2.1⟩
    · exact walk_small k.2 x h
theorem sm_run {run : List (List Int × Fm)} (h : ∀ x ∈ run, x.1.length ≤ 60 ∧ x.2.ok = true ∧ x.2.size ≤ 4 ∧ x.2.dep ≤ 3) (l : run.length ≤ 100) : Sm 5 (1 + 100 * (1 + 2 * 61)) (runD run) :=
  sm_tuple (d := 4) (fun y hy => by
    obtain ⟨x, hx, rfl⟩ := List.mem_map.mp hy
    obtain ⟨a, c, d, e⟩ := h x hx
    refine sm_tuple (d := 3) (c := 61) (n := 2) (fun z hz => ?_) (by simp)
    simp only [List.mem_cons, List.mem_nil_iff, or_false] at hz
    rcases hz with rfl | rfl
    · exact (sm_pl a).mono (by decide) (by decide)
    · exact (sm_fm c).mono e (by omega)) (by rw [List.length_map]; exact l)
theorem toldR_of {Z : PyData} {run : List (List Int × Fm)} (h : ∀ x ∈ run, x.1.length ≤ 60 ∧ x.2.ok = true ∧ x.2.size ≤ 4 ∧ x.2.dep ≤ 3) (l : run.length ≤ 100) (e : Z = runD run ∨ Z = lisD (runD run)) : ToldR Z run := by
  have s := sm_run h l
  rcases e with rfl | rfl
  · exact ⟨s.nod, Nat.le_trans s.cnt (by decide), tup_run run, by omega⟩
  · exact ⟨s.lis.nod, Nat.le_trans s.lis.cnt (by decide), by rw [lis_tup]; exact tup_run run, by omega⟩
theorem told_of {gs : List Fm} {f : Fm} {X Y : PyData} (hx : X = sidesD gs ∨ X = lisD (sidesD gs)) (hy : Y = f.d ∨ Y = lisD f.d) (hd : ∀ g ∈ gs, g.ok = true ∧ g.dep ≤ 60 ∧ g.size ≤ 500) (hl : gs.length ≤ 20) (fk : f.ok = true) (fz : f.size ≤ 500) (fp : f.dep ≤ 60) : Told X Y gs f := by
  have s1 : Sm 61 30000 (sidesD gs) := (sm_tuple (d := 60) (c := 1000) (n := 20) (fun x hx => by
    obtain ⟨g, hg, rfl⟩ := List.mem_map.mp hx
    obtain ⟨a, b, c⟩ := hd g hg
    exact (sm_fm a).mono b (by omega)) (by rw [List.length_map]; exact hl)).mono (Nat.le_refl _) (by decide)
  have s2 : Sm 60 1000 f.d := (sm_fm fk).mono fp (by omega)
  have e1 : tupD (sidesD gs) = sidesD gs := by
    unfold sidesD
    rw [← Fm.ds_eq]
    simp only [tupD, tups_fm]
  have k1 : nod X = true ∧ cnt X ≤ 1000000 ∧ tupD X = sidesD gs := by
    rcases hx with rfl | rfl
    · exact ⟨s1.nod, Nat.le_trans s1.cnt (by decide), e1⟩
    · exact ⟨s1.lis.nod, Nat.le_trans s1.lis.cnt (by decide), by rw [lis_tup]; exact e1⟩
  have k2 : nod Y = true ∧ cnt Y ≤ 1000000 ∧ tupD Y = f.d := by
    rcases hy with rfl | rfl
    · exact ⟨s2.nod, Nat.le_trans s2.cnt (by decide), tup_fm f⟩
    · exact ⟨s2.lis.nod, Nat.le_trans s2.lis.cnt (by decide), by rw [lis_tup]; exact tup_fm f⟩
  exact ⟨k1.1, k2.1, k1.2.1, k2.2.1, k1.2.2, k2.2.2, ⟨fun g hg => ⟨(hd g hg).1, (hd g hg).2.1⟩, fun g hg => by have := (hd g hg).2.2; omega, by omega⟩, ⟨fk, fp⟩, by omega⟩
section
variable {P : Program} {w : World} {K : PySem.W.Frag} {T : Tbs} {mg : Str → Option Value} {base : Heap} {f : Addr} {fd : FuncData}
def cWalk : CT := fun ss P => ∃ (xs : List PyData) (gs : List Fm) (f : Fm) (wild n : Nat), ss = [.m xs, .d (sidesD gs), .d f.d, .d (.int (wild : Int))] ∧ gs.length ≤ 5 ∧ (∀ g ∈ gs, Drawn g 10 4) ∧ f.ok = true ∧ f.size ≤ 38 ∧ f.dep ≤ 20 ∧ wild ≤ 3 ∧ Tin (n + 2000) xs ∧
  ∀ (run : List (List Int × Fm)) (xs' : List PyData), Walk gs f run → run.length ≤ 90 → Tin n xs' → P (.d (.tuple [runD run, (lastF f run).d])) [.m xs', .no, .no, .no]
end

/-! ## one case -/
mutual
/-- no OPEN in it -/
def Fm.full : Fm → Bool
  | .op => false
  | .nd _ ps => Fm.fulls ps
def Fm.fulls : List Fm → Bool
  | [] => true
  | f :: r => f.full && Fm.fulls r
end
mutual
theorem full_sp : ∀ (f : Fm) (p : List Int), ((f.sp p).any fun x => x.2.isOp) = !f.full
  | .op, p => by simp [Fm.sp, Fm.full, Fm.isOp]
  | .nd n ps, p => by
    rw [Fm.sp, List.any_cons, full_sps ps p 0, Fm.full]
    rfl
theorem full_sps : ∀ (ps : List Fm) (p : List Int) (k : Nat), ((Fm.sps p k ps).any fun x => x.2.isOp) = !Fm.fulls ps
  | [], _, _ => by simp [Fm.sps, Fm.fulls]
  | f :: r, p, k => by
    rw [Fm.sps, List.any_append, full_sp f, full_sps r p (k + 1), Fm.fulls, Bool.not_and]
end
theorem opl_full (f : Fm) : (opl f).isEmpty = f.full := by
  have h := full_sp f []
  have e : (opl f).isEmpty = !((f.sp []).any fun x => x.2.isOp) := by
    unfold opl
    rw [List.isEmpty_map]
    cases z : ((f.sp []).any fun x => x.2.isOp) with
    | true =>
      obtain ⟨x, hx, hx2⟩ := List.any_eq_true.mp z
      have m : x ∈ (f.sp []).filter fun x => x.2.isOp := List.mem_filter.mpr ⟨hx, hx2⟩
      cases q : (f.sp []).filter fun x => x.2.isOp with
      | nil => rw [q] at m; cases m
      | cons _ _ => rfl
    | false =>
      have q : (f.sp []).filter (fun x => x.2.isOp) = [] := List.filter_eq_nil_iff.mpr fun x hx hx2 => by
        have : ((f.sp []).any fun x => x.2.isOp) = true := List.any_eq_true.mpr ⟨x, hx, hx2⟩
        rw [z] at this; cases this
      rw [q]; rfl
  rw [e, h, Bool.not_not]
theorem fulls_all (ps : List Fm) : Fm.fulls ps = true ↔ ∀ f ∈ ps, f.full = true := by
  induction ps with
  | nil => simp [Fm.fulls]
  | cons f r ih => simp [Fm.fulls, ih]
theorem full_put : ∀ (p : List Int) (f h g : Fm), f.at? p = some h → f.full = true → g.full = true → (f.put p g).full = true
  | [], f, h, g, _, _, hg => by
    have e : f.put [] g = g := by cases f <;> rfl
    rw [e]; exact hg
  | i :: r, f, h, g, e, hf, hg => by
    obtain ⟨n, ps, h', rfl, h0, e1, e2⟩ := at_cons e
    have e3 : (Fm.nd n ps).put (i :: r) g = .nd n (ps.set i.toNat (h'.put r g)) := by
      show (match ps[i.toNat]? with | some h => _ | none => _) = _
      rw [e1]
    rw [Fm.full, fulls_all] at hf
    rw [e3, Fm.full, fulls_all]
    intro x hx
    rcases mem_set' hx with z | z
    · exact hf x z
    · rw [z]; exact full_put r h' h g e2 (hf h' (List.mem_of_getElem? e1)) hg
theorem eqv_self (f : Fm) : PyData.eqv f.d f.d = true := PySem.W.eqv_refl_alike _ (fm_alike f f)
section
variable {P : Program} {w : World} {K : PySem.W.Frag} {T : Tbs} {mg : Str → Option Value} {base : Heap} {f : Addr} {fd : FuncData}
def cCase : CT := fun ss P => ∃ (gs : List Fm) (f : Fm) (run : List (List Int × Fm)), ss = [.d (sidesD gs), .d f.d, .d (runD run), .d (lastF f run).d] ∧ gs.length ≤ 5 ∧ (∀ g ∈ gs, Drawn g 10 4) ∧ Lit f ∧ Walk gs f run ∧ run.length ≤ 100 ∧ endB gs (lastF f run) = true ∧ P (.d (.bool true)) [.no, .no, .no, .no]
end

/-! ## outermost due places, the skeleton -/
theorem ite_iff {α : Type} {p q : Prop} [Decidable p] [Decidable q] {a c : α} (h : p ↔ q) : (if p then a else c) = if q then a else c := by
  by_cases hp : p
  · rw [if_pos hp, if_pos (h.mp hp)]
  · rw [if_neg hp, if_neg fun z => hp (h.mpr z)]
mutual
/-- what is due, and outermost, gives way to OPEN -/
def boneF (gs : List Fm) : Fm → Fm
  | .op => .op
  | .nd n ps => if (fitA gs (.nd n ps)).isSome = true then .op else .nd n (boneFs gs ps)
def boneFs (gs : List Fm) : List Fm → List Fm
  | [] => []
  | f :: r => boneF gs f :: boneFs gs r
end
mutual
/-- the outermost due places -/
def od (gs : List Fm) (p : List Int) : Fm → List (List Int)
  | .op => if (fitA gs .op).isSome = true then [p] else []
  | .nd n ps => if (fitA gs (.nd n ps)).isSome = true then [p] else ods gs p 0 ps
def ods (gs : List Fm) (p : List Int) (k : Nat) : List Fm → List (List Int)
  | [] => []
  | f :: r => od gs (p ++ [(k : Int)]) f ++ ods gs p (k + 1) r
end
/-- p stands below q -/
def belowB (p q : List Int) : Bool := decide (q.length < p.length) && decide (p.take q.length = q)
theorem below_pre {p q : List Int} (h : belowB p q = true) : q <+: p := by
  simp only [belowB, Bool.and_eq_true, decide_eq_true_eq] at h
  rw [← h.2]
  exact List.take_prefix _ _
theorem below_of (p : List Int) (i : Int) (q : List Int) : belowB (p ++ i :: q) p = true := by
  simp only [belowB, Bool.and_eq_true, decide_eq_true_eq]
  exact ⟨by rw [List.length_append, List.length_cons]; omega, by rw [List.take_left]⟩
def skipB (out : List (List Int)) (p : List Int) : Bool := match out.getLast? with
  | none => false
  | some l => belowB p l
def outS (out : List (List Int)) (p : List Int) : List (List Int) := if skipB out p = true then out else out ++ [p]
theorem out_skip : ∀ (l out : List (List Int)) (p : List Int), out.getLast? = some p → (∀ x ∈ l, belowB x p = true) → l.foldl outS out = out
  | [], _, _, _, _ => rfl
  | x :: r, out, p, e, h => by
    have s : outS out x = out := by
      unfold outS skipB
      rw [e]
      exact if_pos (h x List.mem_cons_self)
    rw [List.foldl_cons, s]
    exact out_skip r out p e fun y hy => h y (List.mem_cons_of_mem _ hy)
mutual
theorem od_at (gs : List Fm) : ∀ (f : Fm) (p x : List Int), x ∈ od gs p f → ∃ r, x = p ++ r
  | .op, p, x, h => by
    rw [od] at h
    split at h
    · exact ⟨[], by rw [List.mem_singleton.mp h, List.append_nil]⟩
    · cases h
  | .nd n ps, p, x, h => by
    rw [od] at h
    split at h
    · exact ⟨[], by rw [List.mem_singleton.mp h, List.append_nil]⟩
    · obtain ⟨i, r, _, e⟩ := ods_at gs ps p 0 x h
      exact ⟨_, e⟩
theorem ods_at (gs : List Fm) : ∀ (ps : List Fm) (p : List Int) (k : Nat) (x : List Int), x ∈ ods gs p k ps → ∃ (i : Nat) (r : List Int), k ≤ i ∧ x = p ++ (i : Int) :: r
  | [], _, _, _, h => by rw [ods] at h; cases h
  | f :: t, p, k, x, h => by
    rw [ods] at h
    rcases List.mem_append.mp h with h | h
    · obtain ⟨r, e⟩ := od_at gs f _ x h
      exact ⟨k, r, Nat.le_refl _, by rw [e, List.append_assoc]; rfl⟩
    · obtain ⟨i, r, a, e⟩ := ods_at gs t p (k + 1) x h
      exact ⟨i, r, by omega, e⟩
end
def dueP (gs : List Fm) (l : List (List Int × Fm)) : List (List Int) := (l.filter fun x => (fitA gs x.2).isSome).map (·.1)
theorem due_app (gs : List Fm) (a b : List (List Int × Fm)) : dueP gs (a ++ b) = dueP gs a ++ dueP gs b := by unfold dueP; rw [List.filter_append, List.map_append]
theorem sps_below (gs : List Fm) (p : List Int) (ps : List Fm) : ∀ x ∈ dueP gs (Fm.sps p 0 ps), belowB x p = true := fun x hx => by
  obtain ⟨y, hy, rfl⟩ := List.mem_map.mp hx
  obtain ⟨i, g, q, _, e, _⟩ := sps_mem ps p 0 y (List.mem_filter.mp hy).1
  rw [e]
  exact below_of _ _ _
mutual
theorem fold_od (gs : List Fm) : ∀ (f : Fm) (p : List Int) (out : List (List Int)), (∀ l, out.getLast? = some l → ∀ q, belowB (p ++ q) l = false) → (dueP gs (f.sp p)).foldl outS out = out ++ od gs p f
  | .op, p, out, c => by
    have ns : skipB out p = false := by
      unfold skipB
      cases e : out.getLast? with
      | none => rfl
      | some l => have := c l e []; rwa [List.append_nil] at this
    rw [od, Fm.sp]
    unfold dueP
    cases h : (fitA gs .op).isSome with
    | true =>
      simp only [List.filter_cons, h, if_true, List.filter_nil, List.map_cons, List.map_nil, List.foldl_cons, List.foldl_nil]
      unfold outS
      rw [ns]; rfl
    | false => simp [List.filter_cons, h]
  | .nd n ps, p, out, c => by
    have ns : skipB out p = false := by
      unfold skipB
      cases e : out.getLast? with
      | none => rfl
      | some l => have := c l e []; rwa [List.append_nil] at this
    rw [od, Fm.sp]
    cases h : (fitA gs (.nd n ps)).isSome with
    | true =>
      have e : dueP gs ((p, Fm.nd n ps) :: Fm.sps p 0 ps) = p :: dueP gs (Fm.sps p 0 ps) := by unfold dueP; simp [List.filter_cons, h]
      rw [e, List.foldl_cons, if_pos rfl]
      have s : outS out p = out ++ [p] := by unfold outS; rw [ns]; rfl
      rw [s]
      exact out_skip _ _ p (by simp) (sps_below gs p ps)
    | false =>
      have e : dueP gs ((p, Fm.nd n ps) :: Fm.sps p 0 ps) = dueP gs (Fm.sps p 0 ps) := by unfold dueP; simp [List.filter_cons, h]
      rw [e, if_neg Bool.false_ne_true]
      exact fold_ods gs ps p 0 out fun l hl i q _ => c l hl _
theorem fold_ods (gs : List Fm) : ∀ (ps : List Fm) (p : List Int) (k : Nat) (out : List (List Int)), (∀ l, out.getLast? = some l → ∀ (i : Nat) (q : List Int), k ≤ i → belowB (p ++ (i : Int) :: q) l = false) → (dueP gs (Fm.sps p k ps)).foldl outS out = out ++ ods gs p k ps
  | [], p, k, out, c => by
    rw [Fm.sps, ods, List.append_nil]; rfl
  | f :: r, p, k, out, c => by
    rw [Fm.sps, due_app, List.foldl_append, fold_od gs f (p ++ [(k : Int)]) out fun l hl q => by
      rw [List.append_assoc]
      exact c l hl k q (Nat.le_refl _)]
    rw [fold_ods gs r p (k + 1) _ fun l hl i q hi => ?_, ods, List.append_assoc]
    cases e : od gs (p ++ [(k : Int)]) f with
    | nil =>
      rw [e, List.append_nil] at hl
      exact c l hl i q (by omega)
    | cons x t =>
      have hm : l ∈ od gs (p ++ [(k : Int)]) f := by
        have : (od gs (p ++ [(k : Int)]) f).getLast? = some l := by
          rw [List.getLast?_append] at hl
          rw [e] at hl ⊢
          cases z : (x :: t).getLast? with
          | none => simp at z
          | some y => rw [z] at hl; exact hl
        exact List.mem_of_getLast? this
      obtain ⟨r', rfl⟩ := od_at gs f _ l hm
      cases hb : belowB (p ++ (i : Int) :: q) ((p ++ [(k : Int)]) ++ r') with
      | false => rfl
      | true =>
        have pre := below_pre hb
        rw [List.append_assoc] at pre
        have pre2 := (List.prefix_append_right_inj p).mp pre
        have := (List.cons_prefix_cons.mp (show ((k : Int) :: r') <+: ((i : Int) :: q) from pre2)).1
        omega
end
theorem outm_eq (gs : List Fm) (f : Fm) : (dpl gs f).foldl outS [] = od gs [] f := by
  have := fold_od gs f [] [] fun l h => by cases h
  rw [List.nil_append] at this
  exact this
mutual
theorem bone_put (gs : List Fm) : ∀ (f : Fm) (p : List Int) (t : Tbf), (∀ q, t (p ++ q) = if p ++ q ∈ od gs p f then some .op else none) → putT t p f = boneF gs f
  | .op, p, t, h => by
    rw [putT, boneF]
    have := h []
    rw [List.append_nil] at this
    rw [this]
    split <;> rfl
  | .nd n ps, p, t, h => by
    have h0 := h []
    rw [List.append_nil] at h0
    rw [putT, boneF, h0]
    by_cases c : (fitA gs (.nd n ps)).isSome = true
    · rw [if_pos c, od, if_pos c, if_pos List.mem_cons_self]
      rfl
    · have np : ¬ p ∈ od gs p (.nd n ps) := fun z => by
        rw [od, if_neg c] at z
        obtain ⟨i, r, _, e⟩ := ods_at gs ps p 0 p z
        have := congrArg List.length e
        rw [List.length_append, List.length_cons] at this
        omega
      rw [if_neg np, if_neg c]
      show Fm.nd n (putTs t p 0 ps) = _
      rw [bone_puts gs ps p 0 t fun i q _ => by
        have := h ((i : Int) :: q)
        rw [od, if_neg c] at this
        exact this]
theorem bone_puts (gs : List Fm) : ∀ (ps : List Fm) (p : List Int) (k : Nat) (t : Tbf), (∀ (i : Nat) (q : List Int), k ≤ i → t (p ++ (i : Int) :: q) = if p ++ (i : Int) :: q ∈ ods gs p k ps then some .op else none) → putTs t p k ps = boneFs gs ps
  | [], _, _, _, _ => by rw [putTs, boneFs]
  | f :: r, p, k, t, h => by
    have hd : putT t (p ++ [(k : Int)]) f = boneF gs f := bone_put gs f (p ++ [(k : Int)]) t fun q => by
      rw [List.append_assoc]
      have := h k q (Nat.le_refl _)
      rw [ods] at this
      have e : (p ++ (k : Int) :: q ∈ od gs (p ++ [(k : Int)]) f ++ ods gs p (k + 1) r) ↔ (p ++ (k : Int) :: q ∈ od gs (p ++ [(k : Int)]) f) := by
        rw [List.mem_append]
        refine ⟨fun z => z.elim id fun z => ?_, fun z => .inl z⟩
        obtain ⟨i, r', hi, e⟩ := ods_at gs r p (k + 1) _ z
        have e2 := List.append_cancel_left e
        injection e2 with e3 e4
        omega
      show t (p ++ (k : Int) :: q) = if p ++ (k : Int) :: q ∈ od gs (p ++ [(k : Int)]) f then some .op else none
      rw [this]
      exact ite_iff e
    have tl : putTs t p (k + 1) r = boneFs gs r := bone_puts gs r p (k + 1) t fun i q hi => by
      have := h i q (by omega)
      rw [ods] at this
      have e : (p ++ (i : Int) :: q ∈ od gs (p ++ [(k : Int)]) f ++ ods gs p (k + 1) r) ↔ (p ++ (i : Int) :: q ∈ ods gs p (k + 1) r) := by
        rw [List.mem_append]
        refine ⟨fun z => z.elim (fun z => ?_) id, fun z => .inr z⟩
        obtain ⟨r', e⟩ := od_at gs f _ _ z
        rw [List.append_assoc] at e
        have e2 := List.append_cancel_left e
        injection e2 with e3 e4
        omega
      rw [this]
      exact ite_iff e
    rw [putTs, boneFs, hd, tl]
end
theorem put_op (tb : List (List Int × Fm)) (k : List Int) : ∃ tb' : List (List Int × Fm), tbPut (tb.map fun x => (x.1, x.2.d)) k (.tuple []) = tb'.map (fun x => (x.1, x.2.d)) ∧ (∀ z, tbF tb' z = if z = k then some .op else tbF tb z) ∧ tb'.length ≤ tb.length + 1 := by
  unfold tbPut
  have ea : ((tb.map fun x => (x.1, x.2.d)).any fun p => decide (p.1 = k)) = tb.any fun p => decide (p.1 = k) := by rw [List.any_map]; rfl
  rw [ea]
  cases h : tb.any fun p => decide (p.1 = k) with
  | true =>
    rw [if_pos rfl]
    refine ⟨tb.map fun x => if x.1 = k then (x.1, .op) else x, ?_, fun z => ?_, by rw [List.length_map]; omega⟩
    · rw [List.map_map, List.map_map]
      refine List.map_congr_left fun x _ => ?_
      show (if (x.1 = k) then ((x.1, PyData.tuple []) : List Int × PyData) else (x.1, x.2.d)) = ((if x.1 = k then ((x.1, Fm.op) : List Int × Fm) else x).1, (if x.1 = k then ((x.1, Fm.op) : List Int × Fm) else x).2.d)
      split <;> rfl
    · clear ea
      unfold tbF
      induction tb with
      | nil => simp at h
      | cons x r ih =>
        rw [List.map_cons, List.find?_cons, List.find?_cons]
        by_cases hx : x.1 = k
        · rw [if_pos hx]
          by_cases hz : z = k
          · rw [if_pos hz]
            have e : decide (((x.1, Fm.op) : List Int × Fm).1 = z) = true := decide_eq_true (by rw [hz]; exact hx)
            rw [e]; rfl
          · have e : decide (((x.1, Fm.op) : List Int × Fm).1 = z) = false := decide_eq_false (fun q => hz (by rw [← q]; exact hx))
            have e2 : decide (x.1 = z) = false := e
            rw [e, if_neg hz]
            show Option.map _ (List.find? _ (r.map _)) = Option.map _ (List.find? _ r)
            cases hr : r.any fun p => decide (p.1 = k) with
            | true =>
              have := ih hr
              rw [if_neg hz] at this
              exact this
            | false =>
              have e3 : (r.map fun x => if x.1 = k then ((x.1, Fm.op) : List Int × Fm) else x) = r := by
                have : ∀ y ∈ r, (fun x : List Int × Fm => if x.1 = k then ((x.1, Fm.op) : List Int × Fm) else x) y = id y := fun y hy => by
                  have hh := List.any_eq_false.mp hr y hy
                  simp only [decide_eq_true_eq] at hh
                  exact if_neg hh
                rw [List.map_congr_left this, List.map_id]
              rw [e3]
        · rw [if_neg hx]
          cases hd : decide (x.1 = z) with
          | true =>
            have hz : z ≠ k := fun q => hx (by rw [← q]; exact of_decide_eq_true hd)
            rw [if_neg hz]
          | false =>
            have hr : (r.any fun p => decide (p.1 = k)) = true := by
              rw [List.any_cons, decide_eq_false hx, Bool.false_or] at h
              exact h
            exact ih hr
  | false =>
    rw [if_neg Bool.false_ne_true]
    refine ⟨tb ++ [(k, .op)], by rw [List.map_append]; rfl, fun z => ?_, by rw [List.length_append]; exact Nat.le_refl _⟩
    unfold tbF
    rw [List.find?_append]
    by_cases hz : z = k
    · rw [if_pos hz, hz]
      have e : tb.find? (fun x => decide (x.1 = k)) = none := by
        rw [List.find?_eq_none]
        intro x hx
        have := List.any_eq_false.mp h x hx
        exact this
      rw [e]
      simp
    · rw [if_neg hz]
      have e : ([(k, Fm.op)] : List (List Int × Fm)).find? (fun x => decide (x.1 = z)) = none := by
        rw [List.find?_cons, decide_eq_false (fun q : k = z => hz q.symm)]; rfl
      rw [e, Option.or_none]

/-- a PLACE as it is told -/
structure ToldP (Z : PyData) (p : List Int) : Prop where
  nz : nod Z = true
  cz : cnt Z ≤ 1000000
  ez : tupD Z = plD p
theorem ev_pls (a c : List Int) : PyData.eqv (plD a) (plD c) = decide (a = c) := by
  by_cases h : a = c
  · rw [h, decide_eq_true rfl]
    exact PySem.W.eqv_refl_alike _ (by simp only [plD, PySem.W.alike, ints_alike])
  · rw [decide_eq_false h]
    cases e : PyData.eqv (plD a) (plD c) with
    | false => rfl
    | true =>
      have e2 : PyData.eqvAll (a.map PyData.int) (c.map PyData.int) = true := by simpa only [plD, PyData.eqv] using e
      exact absurd (eqv_ints a c e2) h
section
variable {P : Program} {w : World} {K : PySem.W.Frag} {T : Tbs} {mg : Str → Option Value} {base : Heap} {f : Addr} {fd : FuncData}
abbrev s_standing_at : Stmt := topS 12
theorem sc_standing_at : FnScope ["form", "place", "part"] ["form", "place"] (defScope s_standing_at) := ⟨rfl, rfl, rfl, by decide +kernel, rfl, by decide +kernel, by decide +kernel⟩
abbrev s_is_below : Stmt := topS 25
theorem sc_is_below : FnScope ["place", "other"] ["place", "other"] (defScope s_is_below) := ⟨rfl, rfl, rfl, by decide +kernel, rfl, by decide +kernel, by decide +kernel⟩
abbrev s_outermost_due : Stmt := topS 30
theorem sc_outermost_due : FnScope ["sides", "form", "places", "out", "place"] ["sides", "form"] (defScope s_outermost_due) := ⟨rfl, rfl, rfl, by decide +kernel, rfl, by decide +kernel, by decide +kernel⟩
abbrev s_skeleton : Stmt := topS 31
theorem sc_skeleton : FnScope ["sides", "form", "table", "place"] ["sides", "form"] (defScope s_skeleton) := ⟨rfl, rfl, rfl, by decide +kernel, rfl, by decide +kernel, by decide +kernel⟩
abbrev s_tasks : Stmt := topS 32
theorem sc_tasks : FnScope ["sides", "form"] ["sides", "form"] (defScope s_tasks) := ⟨rfl, rfl, rfl, by decide +kernel, rfl, by decide +kernel, by decide +kernel⟩
abbrev s_can_call : Stmt := topS 34
theorem sc_can_call : FnScope ["sides", "form", "place"] ["sides", "form", "place"] (defScope s_can_call) := ⟨rfl, rfl, rfl, by decide +kernel, rfl, by decide +kernel, by decide +kernel⟩
abbrev s_called : Stmt := topS 35
theorem sc_called : FnScope ["sides", "form", "place", "answer"] ["sides", "form", "place", "answer"] (defScope s_called) := ⟨rfl, rfl, rfl, by decide +kernel, rfl, by decide +kernel, by decide +kernel⟩
def cStand : CT := fun ss P => ∃ (f g : Fm) (p : List Int), ss = [.d f.d, .d (plD p)] ∧ f.at? p = some g ∧ P (.d g.d) [.no, .no]
theorem ok_standing_at (B : BI mg) (h_part_at : Fnd P w K T mg base 5 "part_at" ["form", "place"] cPart) (F : Fun K "standing_at" "standing_at" s_standing_at f fd) (b : Binds K fd ["form", "place"] []) (m : mg "standing_at" = some (.ref f)) : Fnd P w K T mg base 6 "standing_at" ["form", "place"] cStand := by
  refine fn_d F sc_standing_at b m [] (by decide) fun cdv A outer s H E hr => ?_
  refine ⟨_, (dss_cut (ds_set (i := 2) (fun te h => ps_set sc_standing_at.nd rfl (Or.inl rfl) h) (de_call (h_part_at.mono (by omega)) hr (da_cons (de_var 0 (pv 0)) (da_cons (de_var 1 (pv 1)) da_nil)))) (dss_cut (ds_if (dt_isN (de_var 2 (pv 2)) de_non) (dss_one ds_never) dss_nil) (dss_one (ds_ret (de_var 2 (pv 2)))))), ?_⟩
  rintro ss Q _ ⟨f0, g, p, rfl, ha, q⟩
  refine ⟨fun Γ => Γ = [.d f0.d, .d (plD p), .d g.d], ?_, ?_⟩
  · refine ⟨rfl, f0, p, rfl, ?_⟩
    rw [ha]; rfl
  rintro _ rfl
  have hn : isN (.d g.d) = some false := by rw [Fm.d_its]; rfl
  exact ⟨fun Γ => Γ = [.d f0.d, .d (plD p), .d g.d], ⟨false, hn, _, rfl, rfl⟩, fun _ e => by subst e; exact q⟩
def cBel : CT := fun ss P => ∃ p r : List Int, ss = [.d (plD p), .d (plD r)] ∧ P (.d (.bool (belowB p r))) [.no, .no]
theorem ok_is_below (B : BI mg) (F : Fun K "is_below" "is_below" s_is_below f fd) (b : Binds K fd ["place", "other"] []) (m : mg "is_below" = some (.ref f)) : Fnd P w K T mg base 1 "is_below" ["place", "other"] cBel := by
  refine fn_d F sc_is_below b m [] (by decide) fun cdv A outer s H E hr => ?_
  refine ⟨_, (dss_one (ds_ret (de_and (de_gt (de_len B.len (da_cons (de_var 0 (pv 0)) da_nil)) (de_len B.len (da_cons (de_var 1 (pv 1)) da_nil))) (de_one (de_eq hr.units (de_slice (de_var 0 (pv 0)) do_none (do_some (de_len B.len (da_cons (de_var 1 (pv 1)) da_nil)))) (de_var 1 (pv 1))))))), ?_⟩
  rintro ss Q _ ⟨p, r, rfl, q⟩
  refine ⟨_, rfl, _, rfl, trivial, _, rfl, ?_⟩
  have e1 : (((r.map PyData.int).length : Int) < ((p.map PyData.int).length : Int)) ↔ r.length < p.length := by rw [List.length_map, List.length_map]; omega
  show if decide (((r.map PyData.int).length : Int) < ((p.map PyData.int).length : Int)) = true then _ else _
  unfold belowB at q
  by_cases h : r.length < p.length
  · rw [if_pos (decide_eq_true (e1.mpr h))]
    rw [decide_eq_true h, Bool.true_and] at q
    have ec : PyData.tuple (cutD (p.map PyData.int) none (some ((r.map PyData.int).length : Int))) = plD (p.take r.length) := by rw [cut_to, List.length_map]; unfold plD; rw [List.map_take]
    refine ⟨_, rfl, ?_⟩
    refine ⟨_, rfl, ?_⟩
    refine ⟨_, _, rfl, rfl, by rw [ec]; exact sh_pl _, sh_pl r, ?_⟩
    rw [ec, ev_pls]
    exact q
  · rw [if_neg (by rw [decide_eq_false fun z => h (e1.mp z)]; exact Bool.false_ne_true)]
    rw [decide_eq_false h, Bool.false_and] at q
    have e2 : decide (((r.map PyData.int).length : Int) < ((p.map PyData.int).length : Int)) = false := decide_eq_false fun z => h (e1.mp z)
    rw [← e2] at q
    exact q
def cOutm : CT := fun ss P => ∃ X Y gs f, ss = [.d X, .d Y] ∧ Told X Y gs f ∧ P (.d (.tuple ((od gs [] f).map plD))) [.no, .no]
theorem ok_outermost_due (B : BI mg) (h_due_places : Fnd P w K T mg base 5 "due_places" ["sides", "form"] cDues) (h_is_below : Fnd P w K T mg base 1 "is_below" ["place", "other"] cBel) (F : Fun K "outermost_due" "outermost_due" s_outermost_due f fd) (b : Binds K fd ["sides", "form"] []) (m : mg "outermost_due" = some (.ref f)) : Fnd P w K T mg base 6 "outermost_due" ["sides", "form"] cOutm := by
  refine fn_d F sc_outermost_due b m [] (by decide) fun cdv A outer s H E hr => ?_
  refine ⟨_, (dss_cut (ds_set (i := 2) (fun te h => ps_set sc_outermost_due.nd rfl (Or.inl rfl) h) (de_call (h_due_places.mono (by omega)) hr (da_cons (de_var 0 (pv 0)) (da_cons (de_var 1 (pv 1)) da_nil)))) (dss_cut (ds_set (i := 3) (fun te h => ps_set sc_outermost_due.nd rfl (Or.inl rfl) h) (de_lst da_nil)) (dss_cut (ds_for PassesOwn.never rfl (di_seq (de_var 2 (pv 2))) (dg_name (i := 4) (pg_name sc_outermost_due.nd rfl (Or.inl rfl))) (dss_one (ds_if (dw_pt (dw_or (dt_not (dt_truth (de_var 3 (pv 3)))) (dw_or1 (dt_not (dt_truth (de_call (h_is_below.mono (by omega)) hr (da_cons (de_var 4 (pv 4)) (da_cons (de_item (de_var 3 (pv 3)) (de_neg de_int)) da_nil)))))))) (dss_one (ds_expr (de_append (de_var 3 (pv 3)) (da_cons (de_var 4 (pv 4)) da_nil)))) dss_nil))) (dss_one (ds_ret (de_tupOf B.tuple (da_cons (de_var 3 (pv 3)) da_nil))))))), ?_⟩
  rintro ss Q _ ⟨X, Y, gs, f0, rfl, t, q⟩
  have hz := t.size
  have hdl : (dpl gs f0).length ≤ 1000000 := by
    unfold dpl
    rw [List.length_map]
    have := List.length_filter_le (fun x : List Int × Fm => (fitA gs x.2).isSome) (f0.sp [])
    rw [sp_len] at this
    omega
  refine ⟨fun Γ => Γ = [.d X, .d Y, .d (.tuple ((dpl gs f0).map plD)), .no, .no], ⟨rfl, X, Y, gs, f0, rfl, t, rfl⟩, ?_⟩
  rintro _ rfl
  refine ⟨fun Γ => Γ = [.d X, .d Y, .d (.tuple ((dpl gs f0).map plD)), .m [], .no], ⟨_, rfl, sz 0, rfl⟩, ?_⟩
  rintro _ rfl
  refine ⟨fun Γ => ∃ a, Γ = [.d X, .d Y, .d (.tuple ((dpl gs f0).map plD)), .m ((od gs [] f0).map plD), a], ?_, ?_⟩
  · refine ⟨_, rfl, ?_⟩
    refine ⟨fun i Γ => ∃ (out : List (List Int)) (a : SV), Γ = [.d X, .d Y, .d (.tuple ((dpl gs f0).map plD)), .m (out.map plD), a] ∧ out = ((dpl gs f0).take i).foldl outS [] ∧ out.length ≤ i, ⟨[], _, rfl, rfl, Nat.le_refl _⟩, ?_, ?_⟩
    · rintro i x Γ hx ⟨out, a, rfl, e, ol⟩
      rw [List.getElem?_map] at hx
      obtain ⟨p, hk, rfl⟩ := Option.map_eq_some_iff.mp hx
      have hi := (List.getElem?_eq_some_iff.mp hk).1
      have e2 : ((dpl gs f0).take (i + 1)).foldl outS [] = outS out p := by rw [take_one hk, List.foldl_append, ← e]; rfl
      cases ho : out.getLast? with
      | none =>
        have e3 : out = [] := List.getLast?_eq_none_iff.mp ho
        subst e3
        have e4 : outS [] p = [p] := rfl
        refine ⟨_, rfl, ?_⟩
        refine ⟨⟨_, rfl⟩, ?_⟩
        refine ⟨_, rfl, szl (by decide), rfl, ?_⟩
        exact ⟨[p], .d (plD p), rfl, by rw [e2, e4], by show 1 ≤ i + 1; omega⟩
      | some l =>
        obtain ⟨init, e3⟩ := List.getLast?_eq_some_iff.mp ho
        have tr : truthS (.m (out.map plD)) = some true := by rw [e3, List.map_append]; cases init <;> rfl
        have atl : atI (out.map plD) (-1) = some (plD l) := by rw [e3, List.map_append]; exact atI_last _ _
        have e4 : outS out p = if belowB p l = true then out else out ++ [p] := by unfold outS skipB; rw [ho]
        refine ⟨true, tr, ?_⟩
        refine ⟨_, rfl, _, _, rfl, atl, rfl, p, l, rfl, _, rfl, ?_⟩
        cases hb : belowB p l with
        | true =>
          rw [hb, if_pos rfl] at e4
          exact ⟨out, .d (plD p), rfl, by rw [e2, e4], by omega⟩
        | false =>
          rw [hb, if_neg Bool.false_ne_true] at e4
          refine ⟨⟨_, rfl⟩, ?_⟩
          refine ⟨_, rfl, szl (by rw [List.length_map]; omega), rfl, ?_⟩
          exact ⟨out ++ [p], .d (plD p), by rw [List.map_append]; rfl, by rw [e2, e4], by rw [List.length_append]; exact Nat.succ_le_succ ol⟩
    · rintro Γ ⟨out, a, rfl, e, ol⟩
      rw [List.length_map, List.take_length, outm_eq] at e
      exact ⟨a, by rw [e]⟩
  rintro _ ⟨a, rfl⟩
  exact ⟨_, rfl, q⟩
theorem out_len : ∀ (l out : List (List Int)), (l.foldl outS out).length ≤ out.length + l.length
  | [], out => Nat.le_refl _
  | x :: r, out => by
    have h1 := out_len r (outS out x)
    have h2 : (outS out x).length ≤ out.length + 1 := by
      unfold outS
      split
      · omega
      · rw [List.length_append]; exact Nat.le_refl _
    rw [List.foldl_cons, List.length_cons]
    omega
theorem outm_len (gs : List Fm) (f : Fm) : (od gs [] f).length ≤ f.size := by
  have h1 := out_len (dpl gs f) []
  have h2 := List.length_filter_le (fun x : List Int × Fm => (fitA gs x.2).isSome) (f.sp [])
  rw [sp_len] at h2
  have h3 : (dpl gs f).length ≤ f.size := by unfold dpl; rw [List.length_map]; exact h2
  rw [outm_eq] at h1
  simp at h1
  omega
def cSkel : CT := fun ss P => ∃ X Y gs f, ss = [.d X, .d Y] ∧ Told X Y gs f ∧ P (.d (boneF gs f).d) [.no, .no]
theorem ok_skeleton (B : BI mg) (g_OPEN : ConstAt K mg "OPEN" (.tuple [])) (h_outermost_due : Fnd P w K T mg base 6 "outermost_due" ["sides", "form"] cOutm) (h_put_all : Fnd P w K T mg base 2 "put_all" ["form", "table"] cPutAll) (h_tupled : Fnd P w K T mg base 1 "tupled" ["given"] cTupled) (F : Fun K "skeleton" "skeleton" s_skeleton f fd) (b : Binds K fd ["sides", "form"] []) (m : mg "skeleton" = some (.ref f)) :
    Fnd P w K T mg base 7 "skeleton" ["sides", "form"] cSkel := by
  refine fn_d F sc_skeleton b m [] (by decide) fun cdv A outer s H E hr => ?_
  refine ⟨_, (dss_cut (ds_set (i := 2) (fun te h => ps_set sc_skeleton.nd rfl (Or.inl rfl) h) de_tnew) (dss_cut (ds_for PassesOwn.never rfl (di_seq (de_call (h_outermost_due.mono (by omega)) hr (da_cons (de_var 0 (pv 0)) (da_cons (de_var 1 (pv 1)) da_nil)))) (dg_name (i := 3) (pg_name sc_skeleton.nd rfl (Or.inl rfl))) (dss_one (ds_tput (un1 hr) (de_const g_OPEN) (de_var 2 (pv 2)) (de_var 3 (pv 3))))) (dss_one (ds_ret (de_call (h_put_all.mono (by omega)) hr (da_cons (de_call (h_tupled.mono (by omega)) hr (da_cons (de_var 1 (pv 1)) da_nil)) (da_cons (de_var 2 (pv 2)) da_nil))))))), ?_⟩
  rintro ss Q _ ⟨X, Y, gs, f0, rfl, t, q⟩
  refine ⟨fun Γ => Γ = [.d X, .d Y, .t [], .no], ?_, ?_⟩
  · exact rfl
  rintro _ rfl
  refine ⟨fun Γ => ∃ (tb : List (List Int × Fm)) (a : SV), Γ = [.d X, .d Y, .t (tb.map fun x => (x.1, x.2.d)), a] ∧ ∀ z, tbF tb z = if z ∈ od gs [] f0 then some .op else none, ?_, ?_⟩
  · refine ⟨rfl, X, Y, gs, f0, rfl, t, ?_⟩
    refine ⟨_, rfl, ?_⟩
    have ol : (od gs [] f0).length ≤ 1000000 := by
      have h1 := outm_len gs f0
      have h2 := t.size
      omega
    refine ⟨fun i Γ => ∃ (tb : List (List Int × Fm)) (a : SV), Γ = [.d X, .d Y, .t (tb.map fun x => (x.1, x.2.d)), a] ∧ (∀ z, tbF tb z = if z ∈ (od gs [] f0).take i then some .op else none) ∧ tb.length ≤ i, ⟨[], _, rfl, fun z => by simp [tbF], Nat.le_refl _⟩, ?_, ?_⟩
    · rintro i x Γ hx ⟨tb, a, rfl, h1, h2⟩
      rw [List.getElem?_map] at hx
      obtain ⟨p, hk, rfl⟩ := Option.map_eq_some_iff.mp hx
      have hi := (List.getElem?_eq_some_iff.mp hk).1
      obtain ⟨tb', e1, e2, e3⟩ := put_op tb p
      refine ⟨.tuple [], _, p, rfl, rfl, rfl, szl (by rw [List.length_map]; omega), ?_⟩
      refine ⟨tb', .d (plD p), by rw [← e1]; rfl, fun z => ?_, by omega⟩
      rw [e2, h1, take_one hk]
      by_cases hz : z = p
      · rw [if_pos hz, if_pos (List.mem_append_right _ (List.mem_singleton.mpr hz))]
      · rw [if_neg hz]
        refine ite_iff ⟨fun m => List.mem_append_left _ m, fun m => ?_⟩
        rcases List.mem_append.mp m with m | m
        · exact m
        · exact absurd (List.mem_singleton.mp m) hz
    · rintro Γ ⟨tb, a, rfl, h1, h2⟩
      rw [List.length_map, List.take_length] at h1
      exact ⟨tb, a, rfl, h1⟩
  rintro _ ⟨tb, a, rfl, ht⟩
  refine ⟨rfl, Y, rfl, t.ny, t.cy, ?_⟩
  rw [t.ey]
  refine ⟨rfl, f0, tb, rfl, t.fit, t.size, ?_⟩
  rw [bone_put gs f0 [] (tbF tb) fun z => by rw [List.nil_append]; exact ht z]
  exact q
def cTasks : CT := fun ss P => ∃ X Y gs f, ss = [.d X, .d Y] ∧ Told X Y gs f ∧ P (.d (.tuple ((opl (boneF gs f)).map plD))) [.no, .no]
mutual
theorem bone_ok (gs : List Fm) : ∀ f : Fm, f.ok = true → (boneF gs f).ok = true ∧ (boneF gs f).dep ≤ f.dep ∧ (boneF gs f).size ≤ f.size
  | .op, _ => ⟨rfl, Nat.le_refl _, Nat.le_refl _⟩
  | .nd n ps, h => by
    rw [boneF]
    split
    · exact ⟨rfl, by rw [Fm.dep, Fm.dep]; omega, by rw [Fm.size, Fm.size]; omega⟩
    · simp only [Fm.ok, Bool.and_eq_true, decide_eq_true_eq] at h ⊢
      obtain ⟨a, c, d, e⟩ := bones_ok gs ps h.2
      exact ⟨⟨⟨h.1.1, by omega⟩, a⟩, by rw [Fm.dep, Fm.dep]; omega, by rw [Fm.size, Fm.size]; omega⟩
theorem bones_ok (gs : List Fm) : ∀ ps : List Fm, Fm.oks ps = true → Fm.oks (boneFs gs ps) = true ∧ Fm.deps (boneFs gs ps) ≤ Fm.deps ps ∧ Fm.sizes (boneFs gs ps) ≤ Fm.sizes ps ∧ (boneFs gs ps).length = ps.length
  | [], _ => ⟨rfl, Nat.le_refl _, Nat.le_refl _, rfl⟩
  | f :: r, h => by
    simp only [Fm.oks, Bool.and_eq_true] at h
    obtain ⟨a, c, d⟩ := bone_ok gs f h.1
    obtain ⟨a2, c2, d2, e2⟩ := bones_ok gs r h.2
    rw [boneFs]
    simp only [Fm.oks, Bool.and_eq_true, Fm.deps, Fm.sizes, List.length_cons]
    exact ⟨⟨a, a2⟩, by omega, by omega, by omega⟩
end
theorem ok_tasks (B : BI mg) (h_skeleton : Fnd P w K T mg base 7 "skeleton" ["sides", "form"] cSkel) (h_open_in : Fnd P w K T mg base 2 "open_in" ["form"] cOpen) (F : Fun K "tasks" "tasks" s_tasks f fd) (b : Binds K fd ["sides", "form"] []) (m : mg "tasks" = some (.ref f)) : Fnd P w K T mg base 8 "tasks" ["sides", "form"] cTasks := by
  refine fn_d F sc_tasks b m [] (by decide) fun cdv A outer s H E hr => ?_
  refine ⟨_, (dss_one (ds_ret (de_call (h_open_in.mono (by omega)) hr (da_cons (de_call (h_skeleton.mono (by omega)) hr (da_cons (de_var 0 (pv 0)) (da_cons (de_var 1 (pv 1)) da_nil))) da_nil)))), ?_⟩
  rintro ss Q _ ⟨X, Y, gs, f0, rfl, t, q⟩
  obtain ⟨a, c, d⟩ := bone_ok gs f0 t.fit.ok
  have h1 := t.fit.dep
  have h2 := t.size
  exact ⟨rfl, X, Y, gs, f0, rfl, t, rfl, boneF gs f0, rfl, ⟨a, by omega⟩, by omega, q⟩
def cCanCall : CT := fun ss P => ∃ X Y Z gs f p h, ss = [.d X, .d Y, .d Z] ∧ Told X Y gs f ∧ ToldP Z p ∧ f.at? p = some h ∧ P (.d (.bool (canB gs h))) [.no, .no, .no]
theorem ok_can_call (B : BI mg) (h__can_call_for : Fnd P w K T mg base 4 "_can_call_for" ["sides", "part"] cCan) (h_tupled : Fnd P w K T mg base 1 "tupled" ["given"] cTupled) (h_standing_at : Fnd P w K T mg base 6 "standing_at" ["form", "place"] cStand) (F : Fun K "can_call" "can_call" s_can_call f fd) (b : Binds K fd ["sides", "form", "place"] []) (m : mg "can_call" = some (.ref f)) :
    Fnd P w K T mg base 7 "can_call" ["sides", "form", "place"] cCanCall := by
  refine fn_d F sc_can_call b m [] (by decide) fun cdv A outer s H E hr => ?_
  refine ⟨_, (dss_one (ds_ret (de_call (h__can_call_for.mono (by omega)) hr (da_cons (de_call (h_tupled.mono (by omega)) hr (da_cons (de_var 0 (pv 0)) da_nil)) (da_cons (de_call (h_standing_at.mono (by omega)) hr (da_cons (de_call (h_tupled.mono (by omega)) hr (da_cons (de_var 1 (pv 1)) da_nil)) (da_cons (de_call (h_tupled.mono (by omega)) hr (da_cons (de_var 2 (pv 2)) da_nil)) da_nil))) da_nil))))), ?_⟩
  rintro ss Q _ ⟨X, Y, Z, gs, f0, p, h, rfl, t, tp, ha, q⟩
  refine ⟨rfl, X, rfl, t.nx, t.cx, ?_⟩
  refine ⟨rfl, Y, rfl, t.ny, t.cy, ?_⟩
  refine ⟨rfl, Z, rfl, tp.nz, tp.cz, ?_⟩
  rw [t.ex, t.ey, tp.ez]
  exact ⟨rfl, f0, h, p, rfl, ha, rfl, gs, h, rfl, t.sides, at_fit t.fit ha, q⟩
def cCalled : CT := fun ss P => ∃ X Y Z A gs f p h g, ss = [.d X, .d Y, .d Z, .d A] ∧ Told X Y gs f ∧ ToldP Z p ∧ Told X A gs g ∧ f.at? p = some h ∧ canB gs h = true ∧ P (.d (f.put p g).d) [.no, .no, .no, .no]
theorem ok_called (B : BI mg) (h_can_call : Fnd P w K T mg base 7 "can_call" ["sides", "form", "place"] cCanCall) (h_put_all : Fnd P w K T mg base 2 "put_all" ["form", "table"] cPutAll) (h_tupled : Fnd P w K T mg base 1 "tupled" ["given"] cTupled) (F : Fun K "called" "called" s_called f fd) (b : Binds K fd ["sides", "form", "place", "answer"] []) (m : mg "called" = some (.ref f)) :
    Fnd P w K T mg base 8 "called" ["sides", "form", "place", "answer"] cCalled := by
  refine fn_d F sc_called b m [] (by decide) fun cdv A outer s H E hr => ?_
  refine ⟨_, (dss_cut (ds_if (dt_not (dt_truth (de_call (h_can_call.mono (by omega)) hr (da_cons (de_var 0 (pv 0)) (da_cons (de_var 1 (pv 1)) (da_cons (de_var 2 (pv 2)) da_nil)))))) (dss_one ds_never) dss_nil) (dss_one (ds_ret (de_call (h_put_all.mono (by omega)) hr (da_cons (de_call (h_tupled.mono (by omega)) hr (da_cons (de_var 1 (pv 1)) da_nil)) (da_cons (de_tone (un1 hr) (de_call (h_tupled.mono (by omega)) hr (da_cons (de_var 2 (pv 2)) da_nil)) (de_call (h_tupled.mono (by omega)) hr (da_cons (de_var 3 (pv 3)) da_nil))) da_nil)))))), ?_⟩
  rintro ss Q _ ⟨X, Y, Z, W, gs, f0, p, h, g, rfl, t, tp, u, ha, hc, q⟩
  refine ⟨fun Γ => Γ = [.d X, .d Y, .d Z, .d W], ?_, ?_⟩
  · refine ⟨rfl, X, Y, Z, gs, f0, p, h, rfl, t, tp, ha, _, rfl, ?_⟩
    rw [hc]
    rfl
  rintro _ rfl
  refine ⟨rfl, Y, rfl, t.ny, t.cy, ?_⟩
  refine ⟨rfl, Z, rfl, tp.nz, tp.cz, ?_⟩
  refine ⟨rfl, W, rfl, u.ny, u.cy, ?_⟩
  rw [t.ey, tp.ez, u.ey]
  have pt : putT (tbF [(p, g)]) [] f0 = f0.put p g := by rw [tbF_one]; exact putT_one p _ h g [] ha
  refine ⟨p, g.d, rfl, rfl, ?_⟩
  refine ⟨rfl, f0, [(p, g)], rfl, t.fit, t.size, ?_⟩
  rw [pt]
  exact q
end

/-! ## the skeleton by hand; OPEN filled -/
mutual
theorem bone_blot (gs : List Fm) : ∀ f : Fm, blotF gs (boneF gs f) = blotF gs f
  | .op => by rw [boneF]
  | .nd n ps => by
    rw [boneF]
    by_cases c : (fitA gs (.nd n ps)).isSome = true
    · rw [if_pos c, can_struck (h := .nd n ps) (by unfold canB; rw [c, Bool.or_true])]
      rfl
    · rw [if_neg c, blotF, blotF, bone_blots gs ps]
theorem bone_blots (gs : List Fm) : ∀ ps : List Fm, blotFs gs (boneFs gs ps) = blotFs gs ps
  | [] => by rw [boneFs]
  | f :: r => by rw [boneFs, blotFs, blotFs, bone_blot gs f, bone_blots gs r]
end
mutual
/-- each OPEN gives way to a NAME -/
def fillF (w : Str) : Fm → Fm
  | .op => .nd w []
  | .nd n ps => .nd n (fillFs w ps)
def fillFs (w : Str) : List Fm → List Fm
  | [] => []
  | f :: r => fillF w f :: fillFs w r
end
theorem fillFs_len (w : Str) : ∀ ps : List Fm, (fillFs w ps).length = ps.length
  | [] => rfl
  | f :: r => by rw [fillFs, List.length_cons, List.length_cons, fillFs_len w r]
def fillL (g : Fm) (F : Fm) (l : List (List Int)) : Fm := l.foldl (fun F p => F.put p g) F
theorem fill_child (g : Fm) (n : Str) (i : Nat) : ∀ (l : List (List Int)) (ps : List Fm) (x : Fm), ps[i]? = some x → fillL g (.nd n ps) (l.map fun r => (i : Int) :: r) = .nd n (ps.set i (fillL g x l))
  | [], ps, x, h => by
    show Fm.nd n ps = _
    have : ps.set i x = ps := by
      refine List.ext_getElem? fun j => ?_
      rw [List.getElem?_set]
      split
      · rename_i q; subst q
        obtain ⟨hi, _⟩ := List.getElem?_eq_some_iff.mp h
        rw [if_pos hi, h]
      · rfl
    rw [show fillL g x [] = x from rfl, this]
  | r :: l, ps, x, h => by
    have e : (Fm.nd n ps).put ((i : Int) :: r) g = .nd n (ps.set i (x.put r g)) := by
      show (match ps[((i : Int)).toNat]? with | some h => Fm.nd n (ps.set ((i : Int)).toNat (h.put r g)) | none => Fm.nd n ps) = _
      rw [Int.toNat_natCast, h]
    have hi := (List.getElem?_eq_some_iff.mp h).1
    have ih := fill_child g n i l (ps.set i (x.put r g)) (x.put r g) (by rw [List.getElem?_set_self hi])
    rw [List.set_set] at ih
    rw [List.map_cons]
    show fillL g ((Fm.nd n ps).put ((i : Int) :: r) g) (l.map fun r => (i : Int) :: r) = _
    rw [e, ih]
    rfl
def opP (l : List (List Int × Fm)) : List (List Int) := (l.filter fun x => x.2.isOp).map (·.1)
theorem opP_sp (k : Nat) (f : Fm) : opP (f.sp [(k : Int)]) = (opl f).map fun r => (k : Int) :: r := by
  have e := sp_pre [] [(k : Int)] f
  rw [List.append_nil] at e
  rw [e]
  unfold opP opl
  rw [List.filter_map, List.map_map, List.map_map]
  rfl
mutual
theorem fill_all (w : Str) : ∀ f : Fm, fillL (.nd w []) f (opl f) = fillF w f
  | .op => by
    have : opl .op = [[]] := rfl
    rw [this, fillF]; rfl
  | .nd n ps => by
    have e : opl (.nd n ps) = opP (Fm.sps [] 0 ps) := by
      unfold opl opP
      rw [Fm.sp]; rfl
    rw [e, fillF]
    exact fill_parts w n ps []
theorem fill_parts (w : Str) (n : Str) : ∀ (todo done : List Fm), fillL (.nd w []) (.nd n (done ++ todo)) (opP (Fm.sps [] done.length todo)) = .nd n (done ++ fillFs w todo)
  | [], done => by rw [Fm.sps, fillFs]; rfl
  | f :: r, done => by
    have e : opP (Fm.sps [] done.length (f :: r)) = ((opl f).map fun x => (done.length : Int) :: x) ++ opP (Fm.sps [] (done ++ [fillF w f]).length r) := by
      rw [Fm.sps, List.length_append]
      have := opP_sp done.length f
      unfold opP at this ⊢
      rw [List.filter_append, List.map_append]
      rw [show ([] : List Int) ++ [(done.length : Int)] = [(done.length : Int)] from rfl, this]
      rfl
    rw [e]
    unfold fillL
    rw [List.foldl_append]
    have c := fill_child (.nd w []) n done.length (opl f) (done ++ f :: r) f (by rw [List.getElem?_append_right (Nat.le_refl _), Nat.sub_self]; rfl)
    unfold fillL at c
    rw [c]
    have hs : (done ++ f :: r).set done.length ((opl f).foldl (fun F p => F.put p (.nd w [])) f) = (done ++ [fillF w f]) ++ r := by
      rw [show (opl f).foldl (fun F p => F.put p (.nd w [])) f = fillF w f from fill_all w f]
      rw [List.set_append_right _ _ (Nat.le_refl _), Nat.sub_self, List.append_assoc]
      rfl
    rw [hs]
    have ih := fill_parts w n r (done ++ [fillF w f])
    unfold fillL at ih
    rw [ih, fillFs, List.append_assoc]
    rfl
end
theorem put_ex : ∀ (p : List Int) (F g : Fm) (q : List Int), (∃ h, F.at? p = some h) → (∃ h, F.at? q = some h) → (∀ i r, q ≠ p ++ i :: r) → ∃ h, (F.put p g).at? q = some h
  | [], F, g, q, _, _, n => by
    have e : F.put [] g = g := by cases F <;> rfl
    rw [e]
    cases q with
    | nil => exact ⟨g, rfl⟩
    | cons i r => exact absurd rfl (n i r)
  | i :: r, F, g, q, ⟨h, e⟩, ⟨h2, e2⟩, n => by
    obtain ⟨m, ps, h', rfl, h0, e1, e3⟩ := at_cons e
    have e4 : (Fm.nd m ps).put (i :: r) g = .nd m (ps.set i.toNat (h'.put r g)) := by
      show (match ps[i.toNat]? with | some h => _ | none => _) = _
      rw [e1]
    rw [e4]
    cases q with
    | nil => exact ⟨_, rfl⟩
    | cons j s =>
      obtain ⟨m2, ps2, h3, e5, j0, e6, e7⟩ := at_cons e2
      cases e5
      have hi := (List.getElem?_eq_some_iff.mp e1).1
      show ∃ h, (if 0 ≤ j then ((ps.set i.toNat (h'.put r g))[j.toNat]?).bind fun g => g.at? s else none) = some h
      rw [if_pos j0, List.getElem?_set]
      by_cases hij : i.toNat = j.toNat
      · rw [if_pos hij, if_pos hi]
        have eij : i = j := by omega
        subst eij
        rw [e1] at e6
        cases e6
        exact put_ex r h' g s ⟨h, e3⟩ ⟨h2, e7⟩ fun a t z => n a t (by rw [z]; rfl)
      · rw [if_neg hij, e6]
        exact ⟨h2, e7⟩
theorem opl_at {f : Fm} {p : List Int} (h : p ∈ opl f) : p ∈ spl f ∧ f.at? p = some .op := by
  obtain ⟨x, hx, rfl⟩ := List.mem_map.mp h
  obtain ⟨h1, h2⟩ := List.mem_filter.mp hx
  obtain ⟨a, c⟩ := sp_in h1
  refine ⟨a, ?_⟩
  rw [c]
  cases e : x.2 with
  | op => rfl
  | nd n ps => rw [e] at h2; simp [Fm.isOp] at h2
theorem op_end {f : Fm} {p q : List Int} {i : Int} {r : List Int} (h : f.at? p = some .op) (e : q = p ++ i :: r) : f.at? q = none := by
  rw [e, at_append, h]
  show (if 0 ≤ i then (([] : List Fm)[i.toNat]?).bind fun g => g.at? r else none) = none
  split <;> rfl
/-! filled: no OPEN, and nothing due where nothing agreed -/
mutual
theorem fill_full (w : Str) : ∀ f : Fm, (fillF w f).full = true
  | .op => rfl
  | .nd n ps => by rw [fillF, Fm.full]; exact fills_full w ps
theorem fills_full (w : Str) : ∀ ps : List Fm, Fm.fulls (fillFs w ps) = true
  | [] => rfl
  | f :: r => by rw [fillFs, Fm.fulls, fill_full w f, fills_full w r]; rfl
end
mutual
theorem fill_lie (w : Str) : ∀ f : Fm, f.lie (fillF w f) = true
  | .op => lie_op _
  | .nd n ps => by rw [fillF]; exact nd_lie (fillFs_len w ps).symm (fills_lie w ps)
theorem fills_lie (w : Str) : ∀ ps : List Fm, Fm.lies ps (fillFs w ps) = true
  | [] => by simp [Fm.lies]
  | f :: r => by rw [fillFs]; simp [Fm.lies, fill_lie w f, fills_lie w r]
end
mutual
theorem fill_ok {w : Str} (hw : nmOk w = true) : ∀ f : Fm, f.ok = true → (fillF w f).ok = true ∧ (fillF w f).dep = f.dep ∧ (fillF w f).size = f.size
  | .op, _ => ⟨by simp [fillF, Fm.ok, Fm.oks, hw], by simp [fillF, Fm.dep, Fm.deps], by simp [fillF, Fm.size, Fm.sizes]⟩
  | .nd n ps, h => by
    simp only [Fm.ok, Bool.and_eq_true, decide_eq_true_eq] at h
    obtain ⟨a, c, d⟩ := fills_ok hw ps h.2
    rw [fillF]
    simp only [Fm.ok, Bool.and_eq_true, decide_eq_true_eq, Fm.dep, Fm.size, c, d, fillFs_len]
    exact ⟨⟨h.1, a⟩, trivial, trivial⟩
theorem fills_ok {w : Str} (hw : nmOk w = true) : ∀ ps : List Fm, Fm.oks ps = true → Fm.oks (fillFs w ps) = true ∧ Fm.deps (fillFs w ps) = Fm.deps ps ∧ Fm.sizes (fillFs w ps) = Fm.sizes ps
  | [], _ => ⟨rfl, rfl, rfl⟩
  | f :: r, h => by
    simp only [Fm.oks, Bool.and_eq_true] at h
    obtain ⟨a, c, d⟩ := fill_ok hw f h.1
    obtain ⟨a2, c2, d2⟩ := fills_ok hw r h.2
    rw [fillFs]
    simp only [Fm.oks, Bool.and_eq_true, Fm.deps, Fm.sizes, c, d, c2, d2]
    exact ⟨⟨a, a2⟩, trivial, trivial⟩
end
mutual
/-- in no part of it a SIDE agrees -/
def Still (gs : List Fm) : Fm → Prop
  | .op => True
  | .nd n ps => firstA gs (.nd n ps) = none ∧ Stills gs ps
def Stills (gs : List Fm) : List Fm → Prop
  | [] => True
  | f :: r => Still gs f ∧ Stills gs r
end
mutual
theorem blot_stills (gs : List Fm) : ∀ f : Fm, Still gs (blotF gs f)
  | .op => by rw [blotF]; trivial
  | .nd n ps => by
    rw [blotF]
    unfold keepA
    cases e : firstA gs (.nd n (blotFs gs ps)) with
    | none => exact ⟨e, blots_stills gs ps⟩
    | some j => trivial
theorem blots_stills (gs : List Fm) : ∀ ps : List Fm, Stills gs (blotFs gs ps)
  | [] => by rw [blotFs]; trivial
  | f :: r => by rw [blotFs]; exact ⟨blot_stills gs f, blots_stills gs r⟩
end
theorem wd_fit {gs : List Fm} {w : Str} (hw : wd w = false) (hd : ∀ g ∈ gs, g.isOp = false ∧ g.noW = true) : (fitA gs (.nd w [])).isSome = false := by
  have : fitA gs (.nd w []) = none := by
    unfold fitA
    rw [List.findIdx?_eq_none_iff]
    intro g hg
    obtain ⟨h1, h2⟩ := hd g hg
    cases g with
    | op => simp [Fm.isOp] at h1
    | nd m qs =>
      rw [Fm.noW, Bool.and_eq_true] at h2
      cases e : (Fm.nd m qs).lie (.nd w []) with
      | false => rfl
      | true =>
        obtain ⟨qs', e2, _⟩ := lie_nd e
        cases e2
        rw [hw] at h2
        cases h2.1
  rw [this]; rfl
theorem first_fit {gs : List Fm} {n : Str} {ps qs : List Fm} (h : firstA gs (.nd n ps) = none) (l : (Fm.nd n ps).lie (.nd n qs) = true) : (fitA gs (.nd n qs)).isSome = false := by
  have : fitA gs (.nd n qs) = none := by
    unfold fitA
    rw [List.findIdx?_eq_none_iff]
    intro g hg
    cases e : g.lie (.nd n qs) with
    | false => rfl
    | true =>
      have a := agr_anti g (.nd n ps) (.nd n qs) (lie_agr _ _ e) l
      have h' : gs.findIdx? (fun g => g.agr (.nd n ps)) = none := h
      rw [List.findIdx?_eq_none_iff] at h'
      have := h' g hg
      rw [a] at this
      cases this
  rw [this]; rfl
mutual
theorem fill_due {gs : List Fm} {w : Str} (hw : wd w = false) (hd : ∀ g ∈ gs, g.isOp = false ∧ g.noW = true) : ∀ (f : Fm) (p : List Int), Still gs f → dueP gs ((fillF w f).sp p) = []
  | .op, p, _ => by
    rw [fillF, Fm.sp, Fm.sps]
    unfold dueP
    simp [List.filter_cons, wd_fit hw hd]
  | .nd n ps, p, h => by
    have e := first_fit (qs := fillFs w ps) h.1 (nd_lie (fillFs_len w ps).symm (fills_lie w ps))
    have t := fills_due hw hd ps p 0 h.2
    rw [fillF, Fm.sp]
    unfold dueP at t ⊢
    rw [List.filter_cons, if_neg (by rw [e]; exact Bool.false_ne_true)]
    exact t
theorem fills_due {gs : List Fm} {w : Str} (hw : wd w = false) (hd : ∀ g ∈ gs, g.isOp = false ∧ g.noW = true) : ∀ (ps : List Fm) (p : List Int) (k : Nat), Stills gs ps → dueP gs (Fm.sps p k (fillFs w ps)) = []
  | [], p, k, _ => by rw [fillFs, Fm.sps]; rfl
  | f :: r, p, k, h => by
    rw [fillFs, Fm.sps, due_app, fill_due hw hd f _ h.1, fills_due hw hd r p (k + 1) h.2]; rfl
end

theorem keep_two {c : CT} {s1 s2 : SV} {X Y : PyData} {Q : SV → List SV → Prop} (e1 : SV.d X = s1 ∨ SV.d X = frz s1) (e2 : SV.d Y = s2 ∨ SV.d Y = frz s2) (h : c [.d X, .d Y] fun s _ => Light s ∧ Q s [s1, s2]) : keepC c [s1, s2] Q :=
  ⟨[.d X, .d Y], .cons e1 (.cons e2 .nil), fun s hs => by
    simp only [List.mem_cons, List.mem_nil_iff, or_false] at hs
    rcases hs with rfl | rfl <;> exact ⟨_, rfl⟩, h⟩
theorem od_iff {gs : List Fm} {g h : Fm} {p : List Int} (hp : p ∈ spl g) (e : g.at? p = some h) : (((opl g ++ dpl gs g).map plD).any fun z => PyData.eqv z (plD p)) = canB gs h := by
  cases hc : canB gs h with
  | true =>
    obtain ⟨x, hx, rfl⟩ := List.mem_map.mp hp
    obtain ⟨_, a⟩ := sp_in hx
    rw [e] at a
    have ex : h = x.2 := Option.some.inj a
    refine List.any_eq_true.mpr ⟨plD x.1, List.mem_map.mpr ⟨x.1, ?_, rfl⟩, by rw [ev_pls]; exact decide_eq_true rfl⟩
    unfold canB at hc
    rw [ex] at hc
    cases ho : x.2.isOp with
    | true => exact List.mem_append_left _ (List.mem_map.mpr ⟨x, List.mem_filter.mpr ⟨hx, ho⟩, rfl⟩)
    | false =>
      rw [ho, Bool.false_or] at hc
      exact List.mem_append_right _ (List.mem_map.mpr ⟨x, List.mem_filter.mpr ⟨hx, hc⟩, rfl⟩)
  | false =>
    cases ha : ((opl g ++ dpl gs g).map plD).any fun z => PyData.eqv z (plD p) with
    | false => rfl
    | true =>
      obtain ⟨_, h2, e2, c2⟩ := od_mem (gs := gs) (pl_in ha)
      rw [e] at e2
      cases e2
      rw [hc] at c2
      cases c2
section
variable {P : Program} {w : World} {K : PySem.W.Frag} {T : Tbs} {mg : Str → Option Value} {base : Heap} {f : Addr} {fd : FuncData}
abbrev s__law_bone : Stmt := topS 55
theorem sc__law_bone : FnScope ["page_so", "leaf", "bit"] ["page_so", "leaf"] (defScope s__law_bone) := ⟨rfl, rfl, rfl, by decide +kernel, rfl, by decide +kernel, by decide +kernel⟩
abbrev s__law_full : Stmt := topS 63
theorem sc__law_full : FnScope ["leaf", "word_so", "own"] ["leaf", "word_so"] (defScope s__law_full) := ⟨rfl, rfl, rfl, by decide +kernel, rfl, by decide +kernel, by decide +kernel⟩
abbrev s__law_stage_right : Stmt := topS 64
theorem sc__law_stage_right : FnScope ["page_so", "leaf", "stands_so", "soft", "bone_so", "got", "due", "word_so", "full_so", "ready_so", "own"] ["page_so", "leaf"] (defScope s__law_stage_right) := ⟨rfl, rfl, rfl, by decide +kernel, rfl, by decide +kernel, by decide +kernel⟩
def cLBone (d : Nat) : CT := fun ss P => ∃ (gs : List Fm) (f : Fm), ss = [.d (sidesD gs), .d f.d] ∧ Sides gs ∧ f.Fit ∧ f.dep ≤ d ∧ P (.d (boneF gs f).d) [.no, .no]
theorem boneFs_map (gs : List Fm) : ∀ ps : List Fm, boneFs gs ps = ps.map (boneF gs)
  | [] => rfl
  | f :: r => by rw [boneFs, boneFs_map gs r]; rfl
theorem ok__law_bone (B : BI mg) (h__law_fits : Fnd P w K T mg base 61 "_law_fits" ["page_so", "leaf"] cLFits) (F : Fun K "_law_bone" "_law_bone" s__law_bone f fd) (b : Binds K fd ["page_so", "leaf"] []) (m : mg "_law_bone" = some (.ref f)) : ∀ d, Fnd P w K T mg base (61 + d) "_law_bone" ["page_so", "leaf"] (cLBone d)
  | 0 => (Fnd.zero F b m fun ss Q ⟨_, f, _, _, _, h, _⟩ => absurd h (by have := dep_pos f; omega)).mono (Nat.zero_le _)
  | d + 1 => by
    have h__law_bone := ok__law_bone B h__law_fits F b m d
    show Fnd P w K T mg base ((61 + d) + 1) _ _ _
    refine fn_d F sc__law_bone b m [] (by decide) fun cdv A outer s H E hr => ?_
    refine ⟨_, (dss_cons (ds_if (dw_pt (dw_or (dt_eq hr.units (de_var 1 (pv 1)) (de_tup da_nil)) (dw_or1 (dt_ne hr.units (de_call (h__law_fits.mono (by omega)) hr (da_cons (de_var 0 (pv 0)) (da_cons (de_var 1 (pv 1)) da_nil))) (de_lst da_nil))))) (dss_one (ds_ret (de_tup da_nil))) dss_nil) (dss_one (ds_ret (de_add (de_slice (de_var 1 (pv 1)) do_none (do_some de_int)) (de_tupOf B.tuple (da_cons (de_lc (own := [("bit", 2)]) rfl sc__law_bone.nd (di_seq (de_slice (de_var 1 (pv 1)) (do_some de_int) do_none)) (blkOk_by (N := ["page_so", "leaf", "bit"]) (sc := (defScope s__law_bone)) (by decide +kernel)) (by decide) (fun _ => (dg_name (i := 2) (pg_name sc__law_bone.nd rfl (Or.inl rfl)))) (fun _ => dts_nil) (fun _ => (de_call (h__law_bone.mono (by omega)) hr (da_cons (de_var 0 (pv 0)) (da_cons (de_var 2 (pv 2)) da_nil))))) da_nil)))))), ?_⟩
    rintro ss Q _ ⟨gs, f0, e, hs, hf, hd, q⟩
    subst e
    refine ⟨_, rfl, sz 0, ⟨_, _, rfl, rfl, hf.shaped, shaped_empty, _, rfl, ?_⟩⟩
    rw [Fm.eqv_op]
    cases f0 with
    | op => exact ⟨_, rfl, sz 0, q⟩
    | nd n ps =>
      rw [boneF] at q
      refine ⟨rfl, gs, .nd n ps, rfl, hs, hf, _, rfl, sz 0, _, _, rfl, rfl, sh_ints _, sh_nil, _, rfl, ?_⟩
      rw [ev_lnil, List.isEmpty_map, fitsN_nil, Bool.not_not]
      cases c : (fitA gs (.nd n ps)).isSome with
      | true =>
        rw [if_pos c] at q
        exact ⟨_, rfl, sz 0, q⟩
      | false =>
        rw [if_neg (by rw [c]; exact Bool.false_ne_true)] at q
        refine ⟨_, rfl, ?_⟩
        refine ⟨_, rfl, ?_⟩
        refine ⟨_, rfl, ?_⟩
        have p3 := hf.name.2
        have hlen : (cutD (PyData.str n :: Fm.ds ps) (some 1) none).length = ps.length := by rw [cut_one, Fm.ds_len]
        refine ⟨fun i acc Γ => acc = (ps.take i).map (fun f => (boneF gs f).d) ∧ ∃ a, Γ = [.d (sidesD gs), .d (Fm.nd n ps).d, a], ⟨rfl, _, rfl⟩, ?_, ?_⟩
        · rintro i x acc Γ hx ⟨rfl, a, rfl⟩
          rw [cut_one, Fm.ds_eq, List.getElem?_map] at hx
          obtain ⟨y, hk, rfl⟩ := Option.map_eq_some_iff.mp hx
          have hm : y ∈ (Fm.nd n ps).parts := List.mem_of_getElem? hk
          have hdp := part_dep (f := .nd n ps) hm
          have hi := (List.getElem?_eq_some_iff.mp hk).1
          refine ⟨rfl, gs, y, rfl, hs, hf.part hm, by omega, ?_⟩
          exact ⟨_, rfl, szl (by rw [List.length_map, List.length_take]; omega), by rw [take_one hk, List.map_append]; rfl, _, rfl⟩
        · rintro acc Γ ⟨rfl, a, rfl⟩
          rw [hlen, List.take_length]
          have ed : PyData.tuple (cutD (PyData.str n :: Fm.ds ps) none (some 1) ++ ps.map fun f => (boneF gs f).d) = (Fm.nd n (boneFs gs ps)).d := by
            rw [show (1 : Int) = ((1 : Nat) : Int) from rfl, cut_to, Fm.d, Fm.ds_eq (boneFs gs ps), boneFs_map, List.map_map]; rfl
          refine ⟨_, rfl, ?_⟩
          refine ⟨sz _ (by rw [show (1 : Int) = ((1 : Nat) : Int) from rfl, cut_to, List.length_take, List.length_map]; omega), ?_⟩
          rw [ed]
          exact q
def cLFull : CT := fun ss P => ∃ (f : Fm) (w : Str), ss = [.d f.d, .d (.str w)] ∧ Looked f ∧ P (.d (fillF w f).d) [.no, .no]
theorem ok__law_full (B : BI mg) (h__law_opens : Fnd P w K T mg base 61 "_law_opens" ["leaf"] cLOpens) (h__law_put : Fnd P w K T mg base 60 "_law_put" ["leaf", "spot_so", "fresh_so"] (cPut 60)) (F : Fun K "_law_full" "_law_full" s__law_full f fd) (b : Binds K fd ["leaf", "word_so"] []) (m : mg "_law_full" = some (.ref f)) : Fnd P w K T mg base 62 "_law_full" ["leaf", "word_so"] cLFull := by
  refine fn_d F sc__law_full b m [] (by decide) fun cdv A outer s H E hr => ?_
  refine ⟨_, (dss_cut (ds_for PassesOwn.never rfl (di_seq (de_call (h__law_opens.mono (by omega)) hr (da_cons (de_var 0 (pv 0)) da_nil))) (dg_name (i := 2) (pg_name sc__law_full.nd rfl (Or.inl rfl))) (dss_one (ds_set (i := 0) (fun te h => ps_set sc__law_full.nd rfl (Or.inl rfl) h) (de_call (h__law_put.mono (by omega)) hr (da_cons (de_var 0 (pv 0)) (da_cons (de_var 2 (pv 2)) (da_cons (de_tup (da_cons (de_var 1 (pv 1)) da_nil)) da_nil))))))) (dss_one (ds_ret (de_var 0 (pv 0))))), ?_⟩
  rintro ss Q _ ⟨f0, wd, rfl, lk, q⟩
  have hdep := lk.fit.dep
  have hsz := lk.size
  refine ⟨fun Γ => ∃ a, Γ = [.d (fillF wd f0).d, .d (.str wd), a], ?_, ?_⟩
  · refine ⟨rfl, f0, rfl, lk, _, rfl, ?_⟩
    refine ⟨fun i Γ => ∃ a, Γ = [.d (fillL (.nd wd []) f0 ((opl f0).take i)).d, .d (.str wd), a] ∧ (∀ p ∈ opl f0, ∃ h, (fillL (.nd wd []) f0 ((opl f0).take i)).at? p = some h) ∧ (fillL (.nd wd []) f0 ((opl f0).take i)).size ≤ f0.size, ⟨_, rfl, fun p hp => ⟨_, (opl_at hp).2⟩, Nat.le_refl _⟩, ?_, ?_⟩
    · rintro i x Γ hx ⟨a, rfl, h1, h2⟩
      rw [List.getElem?_map] at hx
      obtain ⟨p, hk, rfl⟩ := Option.map_eq_some_iff.mp hx
      have hm := List.mem_of_getElem? hk
      obtain ⟨hps, hpo⟩ := opl_at hm
      have hpl := spl_dep hps
      obtain ⟨h, hat⟩ := h1 p hm
      have e2 : fillL (.nd wd []) f0 ((opl f0).take (i + 1)) = (fillL (.nd wd []) f0 ((opl f0).take i)).put p (.nd wd []) := by
        unfold fillL
        rw [take_one hk, List.foldl_append]; rfl
      refine ⟨_, rfl, sz 1, ?_⟩
      refine ⟨rfl, _, .nd wd [], h, p, rfl, hat, by omega, by omega, by omega, ?_⟩
      refine ⟨.d (plD p), by rw [e2]; rfl, fun r hr => ?_, ?_⟩
      · rw [e2]
        exact put_ex p _ _ r ⟨h, hat⟩ (h1 r hr) fun i t z => by
          have := op_end hpo z
          rw [(opl_at hr).2] at this
          cases this
      · rw [e2]
        have := (put_sz p _ h (.nd wd []) hat).1
        have e1 : (Fm.nd wd []).size = 1 := by simp [Fm.size, Fm.sizes]
        have := size_pos h
        omega
    · rintro Γ ⟨a, rfl, h1, h2⟩
      rw [List.length_map, List.take_length, fill_all]
      exact ⟨a, rfl⟩
  rintro _ ⟨a, rfl⟩
  exact q
def cStage : CT := fun ss P => ∃ (gs : List Fm) (f : Fm), ss = [.d (sidesD gs), .d f.d] ∧ gs.length ≤ 5 ∧ (∀ g ∈ gs, Drawn g 10 4) ∧ Lit f ∧ P (.d (.bool true)) [.no, .no]
set_option maxHeartbeats 4000001 in
theorem ok__law_stage_right (B : BI mg) (h__law_blot : Fnd P w K T mg base 62 "_law_blot" ["page_so", "leaf"] cLBlot) (h__law_lists : Fnd P w K T mg base 62 "_law_lists" ["matter"] (cLists 62)) (h__law_bone : Fnd P w K T mg base (61 + 60) "_law_bone" ["page_so", "leaf"] (cLBone 60))
    (h_blot : Fnd P w K T mg base 6 "blot" ["sides", "form"] (keepC cBlot)) (h_skeleton : Fnd P w K T mg base 7 "skeleton" ["sides", "form"] (keepC cSkel)) (h_tasks : Fnd P w K T mg base 8 "tasks" ["sides", "form"] cTasks) (h__law_opens : Fnd P w K T mg base 61 "_law_opens" ["leaf"] cLOpens)
    (h__law_full : Fnd P w K T mg base 62 "_law_full" ["leaf", "word_so"] cLFull) (h_is_ended : Fnd P w K T mg base 7 "is_ended" ["sides", "form"] cEnded) (h__law_dues : Fnd P w K T mg base 62 "_law_dues" ["page_so", "leaf"] cLDues) (h__law_spots : Fnd P w K T mg base 60 "_law_spots" ["leaf"] (cLSpots 60))
    (h_can_call : Fnd P w K T mg base 7 "can_call" ["sides", "form", "place"] cCanCall) (h__law_same : Fnd P w K T mg base 62 "_law_same" ["got", "due"] (softC (cSame 62))) (F : Fun K "_law_stage_right" "_law_stage_right" s__law_stage_right f fd) (b : Binds K fd ["page_so", "leaf"] []) (m : mg "_law_stage_right" = some (.ref f)) : Fnd P w K T mg base 122 "_law_stage_right" ["page_so", "leaf"] cStage := by
  refine fn_d F sc__law_stage_right b m [] (by decide) fun cdv A outer s H E hr => ?_
  refine ⟨_, (dss_cut (ds_par (i := 2) (j := 3) (fun ta tb h1 h2 => ps_par rfl sc__law_stage_right.nd rfl rfl (by decide) rfl rfl (pa_cons h1 (pa_cons h2 pa_nil)) (by rfl)) (de_call (h__law_blot.mono (by omega)) hr (da_cons (de_var 0 (pv 0)) (da_cons (de_var 1 (pv 1)) da_nil))) (de_call (h__law_lists.mono (by omega)) hr (da_cons (de_var 1 (pv 1)) da_nil))) (dss_cut (ds_set (i := 4) (fun te h => ps_set sc__law_stage_right.nd rfl (Or.inl rfl) h) (de_call (h__law_bone.mono (by omega)) hr (da_cons (de_var 0 (pv 0)) (da_cons (de_var 1 (pv 1)) da_nil)))) (dss_cut (ds_set (i := 5) (fun te h => ps_set sc__law_stage_right.nd rfl (Or.inl rfl) h) (de_lst (da_cons (de_call (h_blot.mono (by omega)) hr (da_cons (de_var 0 (pv 0)) (da_cons (de_var 1 (pv 1)) da_nil))) (da_cons (de_call (h_blot.mono (by omega)) hr (da_cons (de_var 0 (pv 0)) (da_cons (de_var 3 (pv 3)) da_nil))) (da_cons (de_call (h_skeleton.mono (by omega)) hr (da_cons (de_var 0 (pv 0)) (da_cons (de_var 3 (pv 3)) da_nil))) (da_cons (de_call (h_tasks.mono (by omega)) hr (da_cons (de_var 0 (pv 0)) (da_cons (de_var 1 (pv 1)) da_nil))) (da_cons (de_call (h_blot.mono (by omega)) hr (da_cons (de_var 0 (pv 0)) (da_cons (de_var 4 (pv 4)) da_nil))) da_nil))))))) (dss_cut (ds_set (i := 6) (fun te h => ps_set sc__law_stage_right.nd rfl (Or.inl rfl) h) (de_lst (da_cons (de_var 2 (pv 2)) (da_cons (de_var 2 (pv 2)) (da_late 4 (pv 4) (da_cons (de_tupOf B.tuple (da_cons (de_call (h__law_opens.mono (by omega)) hr (da_cons (de_var 4 (pv 4)) da_nil)) da_nil)) (da_cons (de_var 2 (pv 2)) da_nil))))))) (dss_cut (ds_for PassesOwn.never rfl (di_seq (de_tup (da_cons de_str (da_cons de_str da_nil)))) (dg_name (i := 7) (pg_name sc__law_stage_right.nd rfl (Or.inl rfl))) (dss_cut (ds_set (i := 8) (fun te h => ps_set sc__law_stage_right.nd rfl (Or.inl rfl) h) (de_call (h__law_full.mono (by omega)) hr (da_cons (de_var 2 (pv 2)) (da_cons (de_var 7 (pv 7)) da_nil)))) (dss_cut (ds_expr (de_append (de_var 5 (pv 5)) (da_cons (de_call (h_is_ended.mono (by omega)) hr (da_cons (de_var 0 (pv 0)) (da_cons (de_var 8 (pv 8)) da_nil))) da_nil))) (dss_cut (ds_expr (de_append (de_var 6 (pv 6)) (da_cons (de_eq hr.units (de_call (h__law_dues.mono (by omega)) hr (da_cons (de_var 0 (pv 0)) (da_cons (de_var 8 (pv 8)) da_nil))) (de_lst da_nil)) da_nil))) (dss_one (ds_if (dt_ne hr.units (de_call (h__law_dues.mono (by omega)) hr (da_cons (de_var 0 (pv 0)) (da_cons (de_var 8 (pv 8)) da_nil))) (de_lst da_nil)) (dss_one (ds_ret de_bl)) dss_nil)))))) (dss_cut (ds_set (i := 9) (fun te h => ps_set sc__law_stage_right.nd rfl (Or.inl rfl) h) (de_add (de_call (h__law_opens.mono (by omega)) hr (da_cons (de_var 1 (pv 1)) da_nil)) (de_call (h__law_dues.mono (by omega)) hr (da_cons (de_var 0 (pv 0)) (da_cons (de_var 1 (pv 1)) da_nil))))) (dss_cut (ds_for PassesOwn.never rfl (di_seq (de_slice (de_call (h__law_spots.mono (by omega)) hr (da_cons (de_var 1 (pv 1)) da_nil)) do_none (do_some de_int))) (dg_name (i := 10) (pg_name sc__law_stage_right.nd rfl (Or.inl rfl))) (dss_cut (ds_expr (de_append (de_var 5 (pv 5)) (da_cons (de_call (h_can_call.mono (by omega)) hr (da_cons (de_var 0 (pv 0)) (da_cons (de_var 1 (pv 1)) (da_cons (de_var 10 (pv 10)) da_nil)))) da_nil))) (dss_one (ds_expr (de_append (de_var 6 (pv 6)) (da_cons (de_in (un65 hr) (de_var 10 (pv 10)) (de_var 9 (pv 9))) da_nil)))))) (dss_one (ds_ret (de_call (h__law_same.mono (by omega)) hr (da_cons (de_var 5 (pv 5)) (da_cons (de_var 6 (pv 6)) da_nil)))))))))))), ?_⟩
  rintro ss Q _ ⟨gs, g, rfl, hl, hd, lit, q⟩
  have sides : Sides gs := ⟨fun x hx => drawn_fit (hd x hx) (by decide), fun x hx => by have := (hd x hx).size; omega, by omega⟩
  have hdr : ∀ x ∈ gs, x.ok = true ∧ x.dep ≤ 60 ∧ x.size ≤ 500 := fun x hx => ⟨(hd x hx).ok, by have := (hd x hx).dep; omega, by have := (hd x hx).size; omega⟩
  have told : ∀ h, Lit h → Told (sidesD gs) h.d gs h := fun h lh => told_of (.inl rfl) (.inl rfl) hdr (by omega) lh.ok (by have := lh.size; omega) (by have := lh.dep; omega)
  have sl : (if isSq g.d = true then SV.m ((kidD g.d).map lisD) else .d g.d) = .m (g.its.map lisD) := by rw [Fm.d_its]; rfl
  have el : lisD g.d = .list (g.its.map lisD) := by rw [Fm.d_its]; simp only [lisD, lisDs_eq]
  have gz := lit.size
  have gd := lit.dep
  have told2 : Told (sidesD gs) (.list (g.its.map lisD)) gs g := told_of (.inl rfl) (.inr el.symm) hdr (by omega) lit.ok (by omega) (by omega)
  have sg : Sm 60 1000 g.d := (sm_fm lit.ok).mono (by omega) (by omega)
  have dat_g : Dat 62 g.d := ⟨sg.nod, by have := sg.lev; omega, Nat.le_trans sg.cnt (by decide)⟩
  have hnd := nds_size g
  have bf := blotF_fit gs g lit.ok
  have bz := blot_size gs g
  have litB : Lit (blotF gs g) := ⟨bf.1, by omega, by omega⟩
  obtain ⟨o1, o2, o3⟩ := bone_ok gs g lit.ok
  have litO : Lit (boneF gs g) := ⟨o1, by omega, by omega⟩
  have hb : blotF gs (boneF gs g) = blotF gs g := bone_blot gs g
  have hn : ∀ x ∈ gs, x.isOp = false ∧ x.noW = true := fun x hx => ⟨(hd x hx).nop, (hd x hx).nw⟩
  refine ⟨fun Γ => Γ = [.d (sidesD gs), .d g.d, .d (blotF gs g).d, .m (g.its.map lisD), .no, .no, .no, .no, .no, .no, .no], ?_, ?_⟩
  · refine ⟨rfl, gs, g, rfl, sides, lit.fit, by omega, by omega, ?_⟩
    refine ⟨rfl, g.d, rfl, dat_g, ?_⟩
    rw [sl]
    rfl
  rintro _ rfl
  refine ⟨fun Γ => Γ = [.d (sidesD gs), .d g.d, .d (blotF gs g).d, .m (g.its.map lisD), .d (boneF gs g).d, .no, .no, .no, .no, .no, .no], ⟨rfl, gs, g, rfl, sides, lit.fit, by omega, rfl⟩, ?_⟩
  rintro _ rfl
  refine ⟨fun Γ => Γ = [.d (sidesD gs), .d g.d, .d (blotF gs g).d, .m (g.its.map lisD), .d (boneF gs g).d, .m [(blotF gs g).d, (blotF gs g).d, (boneF gs g).d, .tuple ((opl (boneF gs g)).map plD), (blotF gs g).d], .no, .no, .no, .no, .no], ?_, ?_⟩
  · refine ⟨rfl, keep_two (.inl rfl) (.inl rfl) ⟨_, _, gs, g, rfl, told g lit, .inl ⟨_, rfl, fm_noL _⟩, ?_⟩⟩
    refine ⟨rfl, keep_two (.inl rfl) (.inr rfl) ⟨_, _, gs, g, rfl, told2, .inl ⟨_, rfl, fm_noL _⟩, ?_⟩⟩
    refine ⟨rfl, keep_two (.inl rfl) (.inr rfl) ⟨_, _, gs, g, rfl, told2, .inl ⟨_, rfl, fm_noL _⟩, ?_⟩⟩
    refine ⟨rfl, _, _, gs, g, rfl, told g lit, ?_⟩
    refine ⟨rfl, keep_two (.inl rfl) (.inl rfl) ⟨_, _, gs, boneF gs g, rfl, told _ litO, .inl ⟨_, rfl, fm_noL _⟩, ?_⟩⟩
    rw [hb]
    exact ⟨_, rfl, sz 5, rfl⟩
  rintro _ rfl
  refine ⟨fun Γ => Γ = [.d (sidesD gs), .d g.d, .d (blotF gs g).d, .m (g.its.map lisD), .d (boneF gs g).d, .m [(blotF gs g).d, (blotF gs g).d, (boneF gs g).d, .tuple ((opl (boneF gs g)).map plD), (blotF gs g).d], .m [(blotF gs g).d, (blotF gs g).d, (boneF gs g).d, .tuple ((opl (boneF gs g)).map plD), (blotF gs g).d], .no, .no, .no, .no], ?_, ?_⟩
  · refine ⟨⟨_, rfl, fun z => by cases z⟩, ?_⟩
    refine ⟨rfl, boneF gs g, rfl, ⟨litO.fit, by omega⟩, ?_⟩
    refine ⟨_, rfl, ?_⟩
    exact ⟨_, rfl, sz 5, rfl⟩
  rintro _ rfl
  refine ⟨fun Γ => ∃ (rs : List PyData) (a b : SV), Γ = [.d (sidesD gs), .d g.d, .d (blotF gs g).d, .m (g.its.map lisD), .d (boneF gs g).d, .m ([(blotF gs g).d, (blotF gs g).d, (boneF gs g).d, .tuple ((opl (boneF gs g)).map plD), (blotF gs g).d] ++ rs), .m ([(blotF gs g).d, (blotF gs g).d, (boneF gs g).d, .tuple ((opl (boneF gs g)).map plD), (blotF gs g).d] ++ rs), a, b, .no, .no] ∧ rs.length = 2 ∧ ∀ r ∈ rs, Sm 0 1 r, ?_, ?_⟩
  · repeat refine ⟨_, rfl, sz _ (by decide), ?_⟩
    refine ⟨_, rfl, ?_⟩
    refine ⟨fun i Γ => ∃ (rs : List PyData) (a b : SV), Γ = [.d (sidesD gs), .d g.d, .d (blotF gs g).d, .m (g.its.map lisD), .d (boneF gs g).d, .m ([(blotF gs g).d, (blotF gs g).d, (boneF gs g).d, .tuple ((opl (boneF gs g)).map plD), (blotF gs g).d] ++ rs), .m ([(blotF gs g).d, (blotF gs g).d, (boneF gs g).d, .tuple ((opl (boneF gs g)).map plD), (blotF gs g).d] ++ rs), a, b, .no, .no] ∧ rs.length = i ∧ ∀ r ∈ rs, Sm 0 1 r, ⟨[], _, _, rfl, rfl, fun r hr => by cases hr⟩, ?_, ?_⟩
    · rintro i x Γ hx ⟨rs, a, b, rfl, r1, r2⟩
      have hi := (List.getElem?_eq_some_iff.mp hx).1
      have hi2 : i < 2 := hi
      have hw : ∃ u : Str, x = .str u ∧ nmOk u = true ∧ wd u = false := by
        have hm := List.mem_of_getElem? hx
        simp only [List.mem_cons, List.mem_nil_iff, or_false] at hm
        rcases hm with rfl | rfl
        · exact ⟨"end", rfl, by decide +kernel, by decide +kernel⟩
        · exact ⟨"stop", rfl, by decide +kernel, by decide +kernel⟩
      obtain ⟨u, rfl, hw1, hw2⟩ := hw
      obtain ⟨f1, f2, f3⟩ := fill_ok hw1 (blotF gs g) bf.1
      have hdp : dpl gs (fillF u (blotF gs g)) = [] := fill_due hw2 hn (blotF gs g) [] (blot_stills gs g)
      have hop : (opl (fillF u (blotF gs g))).isEmpty = true := by rw [opl_full]; exact fill_full u _
      have litF : Lit (fillF u (blotF gs g)) := ⟨f1, by rw [f3]; exact litB.size, by rw [f2]; exact litB.dep⟩
      obtain ⟨F, hF⟩ : ∃ F, F = fillF u (blotF gs g) := ⟨_, rfl⟩
      rw [← hF] at hdp hop litF
      refine ⟨fun Γ => Γ = [.d (sidesD gs), .d g.d, .d (blotF gs g).d, .m (g.its.map lisD), .d (boneF gs g).d, .m ([(blotF gs g).d, (blotF gs g).d, (boneF gs g).d, .tuple ((opl (boneF gs g)).map plD), (blotF gs g).d] ++ rs), .m ([(blotF gs g).d, (blotF gs g).d, (boneF gs g).d, .tuple ((opl (boneF gs g)).map plD), (blotF gs g).d] ++ rs), .d (.str u), .d F.d, .no, .no], ?_, ?_⟩
      · refine ⟨rfl, blotF gs g, u, rfl, ⟨litB.fit, by have := litB.size; omega⟩, ?_⟩
        rw [← hF]
        rfl
      rintro _ rfl
      refine ⟨fun Γ => Γ = [.d (sidesD gs), .d g.d, .d (blotF gs g).d, .m (g.its.map lisD), .d (boneF gs g).d, .m ([(blotF gs g).d, (blotF gs g).d, (boneF gs g).d, .tuple ((opl (boneF gs g)).map plD), (blotF gs g).d] ++ rs ++ [.bool true]), .m ([(blotF gs g).d, (blotF gs g).d, (boneF gs g).d, .tuple ((opl (boneF gs g)).map plD), (blotF gs g).d] ++ rs), .d (.str u), .d F.d, .no, .no], ?_, ?_⟩
      · refine ⟨⟨_, rfl⟩, rfl, _, _, gs, F, rfl, told F litF, ?_⟩
        rw [hdp, hop]
        exact ⟨_, rfl, szl (by rw [List.length_append]; simp; omega), rfl, rfl⟩
      rintro _ rfl
      refine ⟨fun Γ => Γ = [.d (sidesD gs), .d g.d, .d (blotF gs g).d, .m (g.its.map lisD), .d (boneF gs g).d, .m ([(blotF gs g).d, (blotF gs g).d, (boneF gs g).d, .tuple ((opl (boneF gs g)).map plD), (blotF gs g).d] ++ rs ++ [.bool true]), .m ([(blotF gs g).d, (blotF gs g).d, (boneF gs g).d, .tuple ((opl (boneF gs g)).map plD), (blotF gs g).d] ++ rs ++ [.bool true]), .d (.str u), .d F.d, .no, .no], ?_, ?_⟩
      · refine ⟨⟨_, rfl⟩, rfl, gs, F, rfl, sides, ⟨litF.fit, by have := litF.size; omega⟩, _, rfl, sz 0, _, _, rfl, rfl, sh_lpl _, sh_nil, ?_⟩
        rw [ev_lnil, List.isEmpty_map, hdp]
        exact ⟨_, rfl, szl (by rw [List.length_append]; simp; omega), rfl, rfl⟩
      rintro _ rfl
      refine ⟨rfl, gs, F, rfl, sides, ⟨litF.fit, by have := litF.size; omega⟩, _, rfl, sz 0, _, _, rfl, rfl, sh_lpl _, sh_nil, _, rfl, ?_⟩
      rw [ev_lnil, List.isEmpty_map, hdp]
      refine ⟨rs ++ [.bool true], .d (.str u), .d F.d, by rw [← List.append_assoc]; rfl, by rw [List.length_append, r1]; rfl, fun r hr => ?_⟩
      rcases List.mem_append.mp hr with z | z
      · exact r2 r z
      · rw [List.mem_singleton.mp z]; exact sm_bool _
    · rintro Γ ⟨rs, a, b, rfl, r1, r2⟩
      exact ⟨rs, a, b, rfl, r1, r2⟩
  rintro _ ⟨rs, a7, a8, rfl, r1, r2⟩
  refine ⟨fun Γ => Γ = [.d (sidesD gs), .d g.d, .d (blotF gs g).d, .m (g.its.map lisD), .d (boneF gs g).d, .m ([(blotF gs g).d, (blotF gs g).d, (boneF gs g).d, .tuple ((opl (boneF gs g)).map plD), (blotF gs g).d] ++ rs), .m ([(blotF gs g).d, (blotF gs g).d, (boneF gs g).d, .tuple ((opl (boneF gs g)).map plD), (blotF gs g).d] ++ rs), a7, a8, .m ((opl g ++ dpl gs g).map plD), .no], ?_, ?_⟩
  · refine ⟨rfl, g, rfl, ⟨lit.fit, by omega⟩, ?_⟩
    refine ⟨rfl, gs, g, rfl, sides, ⟨lit.fit, by omega⟩, ?_⟩
    refine ⟨_, _, rfl, rfl, sz _ (by rw [List.length_map, List.length_map]; have := od_len (fun x hx => (hn x hx).1) g; omega), ?_⟩
    rw [List.map_append]
    rfl
  rintro _ rfl
  refine ⟨fun Γ => ∃ (rs : List PyData) (a b c d : SV), Γ = [.d (sidesD gs), .d g.d, .d (blotF gs g).d, .m (g.its.map lisD), .d (boneF gs g).d, .m ([(blotF gs g).d, (blotF gs g).d, (boneF gs g).d, .tuple ((opl (boneF gs g)).map plD), (blotF gs g).d] ++ rs), .m ([(blotF gs g).d, (blotF gs g).d, (boneF gs g).d, .tuple ((opl (boneF gs g)).map plD), (blotF gs g).d] ++ rs), a, b, c, d] ∧ rs.length ≤ 300 ∧ ∀ r ∈ rs, Sm 0 1 r, ?_, ?_⟩
  · refine ⟨rfl, g, rfl, by omega, by omega, ?_⟩
    refine ⟨_, rfl, ?_⟩
    refine ⟨_, rfl, ?_⟩
    refine ⟨_, rfl, ?_⟩
    refine ⟨fun i Γ => ∃ (rs : List PyData) (d : SV), Γ = [.d (sidesD gs), .d g.d, .d (blotF gs g).d, .m (g.its.map lisD), .d (boneF gs g).d, .m ([(blotF gs g).d, (blotF gs g).d, (boneF gs g).d, .tuple ((opl (boneF gs g)).map plD), (blotF gs g).d] ++ rs), .m ([(blotF gs g).d, (blotF gs g).d, (boneF gs g).d, .tuple ((opl (boneF gs g)).map plD), (blotF gs g).d] ++ rs), a7, a8, .m ((opl g ++ dpl gs g).map plD), d] ∧ rs.length = 2 + i ∧ ∀ r ∈ rs, Sm 0 1 r, ⟨rs, _, rfl, r1, r2⟩, ?_, ?_⟩
    · rintro i x Γ hx ⟨rs, d, rfl, r1, r2⟩
      have hi := (List.getElem?_eq_some_iff.mp hx).1
      rw [show ((8 : Int)) = ((8 : Nat) : Int) from rfl, cut_to] at hx
      rw [show ((8 : Int)) = ((8 : Nat) : Int) from rfl, cut_to, List.length_take] at hi
      obtain ⟨p, hps, rfl⟩ := List.mem_map.mp (List.mem_of_mem_take (List.mem_of_getElem? hx))
      obtain ⟨h, hat⟩ := spl_at p _ hps
      have hpl := spl_dep hps
      have spp := sm_pl (p := p) (n := 60) (by omega)
      have tp : ToldP (plD p) p := ⟨spp.nod, Nat.le_trans spp.cnt (by decide), tup_pl p⟩
      refine ⟨fun Γ => Γ = [.d (sidesD gs), .d g.d, .d (blotF gs g).d, .m (g.its.map lisD), .d (boneF gs g).d, .m ([(blotF gs g).d, (blotF gs g).d, (boneF gs g).d, .tuple ((opl (boneF gs g)).map plD), (blotF gs g).d] ++ rs ++ [.bool (canB gs h)]), .m ([(blotF gs g).d, (blotF gs g).d, (boneF gs g).d, .tuple ((opl (boneF gs g)).map plD), (blotF gs g).d] ++ rs), a7, a8, .m ((opl g ++ dpl gs g).map plD), .d (plD p)], ?_, ?_⟩
      · refine ⟨⟨_, rfl⟩, rfl, _, _, _, gs, g, p, h, rfl, told g lit, tp, hat, ?_⟩
        exact ⟨_, rfl, szl (by rw [List.length_append]; simp; omega), rfl, rfl⟩
      rintro _ rfl
      refine ⟨⟨_, rfl⟩, _, _, rfl, rfl, sh_pl p, sh_lpl _, ?_⟩
      rw [od_iff hps hat]
      refine ⟨_, rfl, szl (by rw [List.length_append]; simp; omega), rfl, ?_⟩
      refine ⟨rs ++ [.bool (canB gs h)], .d (plD p), by rw [← List.append_assoc]; rfl, by rw [List.length_append, r1]; rfl, fun r hr => ?_⟩
      rcases List.mem_append.mp hr with z | z
      · exact r2 r z
      · rw [List.mem_singleton.mp z]; exact sm_bool _
    · rintro Γ ⟨rs, d, rfl, r1, r2⟩
      refine ⟨rs, _, _, _, _, rfl, ?_, r2⟩
      rw [r1]
      rw [show ((8 : Int)) = ((8 : Nat) : Int) from rfl, cut_to, List.length_take]
      omega
  rintro _ ⟨rs2, a7', a8', a9, a10, rfl, r3, r4⟩
  have sB : Sm 60 1000 (blotF gs g).d := (sm_fm litB.ok).mono (by have := litB.dep; omega) (by have := litB.size; omega)
  have sO : Sm 60 1000 (boneF gs g).d := (sm_fm litO.ok).mono (by have := litO.dep; omega) (by have := litO.size; omega)
  have sT : Sm 60 12300 (.tuple ((opl (boneF gs g)).map plD)) := (sm_tuple (d := 1) (c := 61) (n := 200) (fun y hy => by
    obtain ⟨p, hp, rfl⟩ := List.mem_map.mp hy
    have := spl_dep (opl_at hp).1
    exact sm_pl (p := p) (n := 60) (by have := litO.dep; omega)) (by
      have h1 := List.length_filter_le (fun x : List Int × Fm => x.2.isOp) ((boneF gs g).sp [])
      rw [sp_len] at h1
      unfold opl
      rw [List.length_map, List.length_map]
      have := litO.size
      omega)).mono (by decide) (by decide)
  have whole : Sm 61 (1 + 400 * 12300) (.list ([(blotF gs g).d, (blotF gs g).d, (boneF gs g).d, .tuple ((opl (boneF gs g)).map plD), (blotF gs g).d] ++ rs2)) := by
    refine sm_list (fun x hx => ?_) (by rw [List.length_append]; simp; omega)
    rcases List.mem_append.mp hx with z | z
    · simp only [List.mem_cons, List.mem_nil_iff, or_false] at z
      rcases z with rfl | rfl | rfl | rfl | rfl
      · exact sB.mono (by decide) (by decide)
      · exact sB.mono (by decide) (by decide)
      · exact sO.mono (by decide) (by decide)
      · exact sT
      · exact sB.mono (by decide) (by decide)
    · exact (r4 x z).mono (by decide) (by decide)
  have cz : cnt (.list ([(blotF gs g).d, (blotF gs g).d, (boneF gs g).d, .tuple ((opl (boneF gs g)).map plD), (blotF gs g).d] ++ rs2)) ≤ 1000000 := by
    have k1 := sB.cnt
    have k2 := sO.cnt
    have k3 := sT.cnt
    have k4 := cnts_le (c := 1) rs2 fun x hx => (r4 x hx).cnt
    simp only [cnt, cnts_app, cnts] at k3 ⊢
    omega
  exact ⟨rfl, [.d _, .d _], .cons (.inr rfl) (.cons (.inr rfl) .nil), _, rfl, ⟨whole.nod, by have := whole.lev; omega, cz⟩, whole.lay, q⟩
end

section
variable {P : Program} {w : World} {K : PySem.W.Frag} {T : Tbs} {mg : Str → Option Value} {base : Heap} {f : Addr} {fd : FuncData}
abbrev s__law_trip_right : Stmt := topS 65
theorem sc__law_trip_right : FnScope ["page_so", "leaf", "picks_so", "answers_so", "k", "own", "ready_so", "spot_so", "ahead_so", "bare_so", "next_so", "due", "got"] ["page_so", "leaf", "picks_so", "answers_so"] (defScope s__law_trip_right) := ⟨rfl, rfl, rfl, by decide +kernel, rfl, by decide +kernel, by decide +kernel⟩
def cTrip : CT := fun ss P => ∃ (gs : List Fm) (g : Fm) (ks : List Int) (as : List Fm), ss = [.d (sidesD gs), .d g.d, .d (.list (ks.map PyData.int)), .d (.list (as.map Fm.d))] ∧ gs.length ≤ 5 ∧ (∀ x ∈ gs, Drawn x 10 4) ∧ g.ok = true ∧ g.size ≤ 40 ∧ g.dep ≤ 20 ∧ as.length ≤ ks.length ∧ as.length ≤ 4 ∧ (∀ a ∈ as, a.ok = true ∧ a.size ≤ 5 ∧ a.dep ≤ 5) ∧ P (.d (.bool true)) [.no, .no, .no, .no]
set_option maxHeartbeats 4000001 in
theorem ok__law_trip_right (B : BI mg) (h__law_stage_right : Fnd P w K T mg base 122 "_law_stage_right" ["page_so", "leaf"] cStage) (h__law_opens : Fnd P w K T mg base 61 "_law_opens" ["leaf"] cLOpens) (h__law_dues : Fnd P w K T mg base 62 "_law_dues" ["page_so", "leaf"] cLDues)
    (h_blot : Fnd P w K T mg base 6 "blot" ["sides", "form"] (keepC cBlot)) (h_called : Fnd P w K T mg base 8 "called" ["sides", "form", "place", "answer"] (softC cCalled)) (h__law_lists : Fnd P w K T mg base 62 "_law_lists" ["matter"] (cLists 62))
    (h__law_put : Fnd P w K T mg base 60 "_law_put" ["leaf", "spot_so", "fresh_so"] (cPut 60)) (h__law_same : Fnd P w K T mg base 62 "_law_same" ["got", "due"] (keepC (cSame 62))) (h__law_blot : Fnd P w K T mg base 62 "_law_blot" ["page_so", "leaf"] cLBlot)
    (h__law_lies : Fnd P w K T mg base 60 "_law_lies" ["one_so", "two_so"] (cLLies 60)) (F : Fun K "_law_trip_right" "_law_trip_right" s__law_trip_right f fd) (b : Binds K fd ["page_so", "leaf", "picks_so", "answers_so"] []) (m : mg "_law_trip_right" = some (.ref f)) : Fnd P w K T mg base 123 "_law_trip_right" ["page_so", "leaf", "picks_so", "answers_so"] cTrip := by
  refine fn_d F sc__law_trip_right b m [] (by decide) fun cdv A outer s H E hr => ?_
  refine ⟨_, (dss_cut (ds_for PassesOwn.never rfl (di_enum rfl B.enumerate (de_var 3 (pv 3))) (dg_tup (n := 2) rfl (dgs_cons (dg_name (i := 4) (pg_name sc__law_trip_right.nd rfl (Or.inl rfl))) (dgs_cons (dg_name (i := 5) (pg_name sc__law_trip_right.nd rfl (Or.inl rfl))) dgs_nil))) (dss_cut (ds_if (dt_not (dt_truth (de_call (h__law_stage_right.mono (by omega)) hr (da_cons (de_var 0 (pv 0)) (da_cons (de_var 1 (pv 1)) da_nil))))) (dss_one (ds_ret de_bl)) dss_nil) (dss_cut (ds_set (i := 6) (fun te h => ps_set sc__law_trip_right.nd rfl (Or.inl rfl) h) (de_sortSet B.sorted B.set rfl (un100 hr) (de_add (de_call (h__law_opens.mono (by omega)) hr (da_cons (de_var 1 (pv 1)) da_nil)) (de_call (h__law_dues.mono (by omega)) hr (da_cons (de_var 0 (pv 0)) (da_cons (de_var 1 (pv 1)) da_nil)))))) (dss_cut (ds_if (dt_eq hr.units (de_varF 6 (pv 6)) (de_lst da_nil)) (dss_one (ds_ret de_bl)) dss_nil) (dss_cut (ds_set (i := 7) (fun te h => ps_set sc__law_trip_right.nd rfl (Or.inl rfl) h) (de_item (de_varF 6 (pv 6)) (de_mod (de_intOf B.int (da_cons (de_item (de_var 2 (pv 2)) (de_var 4 (pv 4))) da_nil)) (de_len B.len (da_cons (de_varF 6 (pv 6)) da_nil))))) (dss_cut (ds_set (i := 8) (fun te h => ps_set sc__law_trip_right.nd rfl (Or.inl rfl) h) (de_call (h_blot.mono (by omega)) hr (da_cons (de_var 0 (pv 0)) (da_cons (de_var 1 (pv 1)) da_nil)))) (dss_cut (ds_set (i := 9) (fun te h => ps_set sc__law_trip_right.nd rfl (Or.inl rfl) h) (de_call (h_called.mono (by omega)) hr (da_cons (de_var 0 (pv 0)) (da_cons (de_var 1 (pv 1)) (da_cons (de_var 7 (pv 7)) (da_cons (de_tup da_nil) da_nil)))))) (dss_cut (ds_set (i := 10) (fun te h => ps_set sc__law_trip_right.nd rfl (Or.inl rfl) h) (de_call (h_called.mono (by omega)) hr (da_cons (de_call (h__law_lists.mono (by omega)) hr (da_cons (de_var 0 (pv 0)) da_nil)) (da_cons (de_var 1 (pv 1)) (da_cons (de_var 7 (pv 7)) (da_cons (de_call (h__law_lists.mono (by omega)) hr (da_cons (de_var 5 (pv 5)) da_nil)) da_nil)))))) (dss_cut (ds_set (i := 11) (fun te h => ps_set sc__law_trip_right.nd rfl (Or.inl rfl) h) (de_lst (da_cons (de_call (h__law_put.mono (by omega)) hr (da_cons (de_var 1 (pv 1)) (da_cons (de_var 7 (pv 7)) (da_cons (de_tup da_nil) da_nil)))) (da_cons (de_call (h__law_put.mono (by omega)) hr (da_cons (de_var 1 (pv 1)) (da_cons (de_var 7 (pv 7)) (da_cons (de_var 5 (pv 5)) da_nil)))) da_nil)))) (dss_cut (ds_if (dt_not (dt_truth (de_call (h__law_same.mono (by omega)) hr (da_cons (de_lst (da_cons (de_var 9 (pv 9)) (da_cons (de_var 10 (pv 10)) da_nil))) (da_cons (de_var 11 (pv 11)) da_nil))))) (dss_one (ds_ret de_bl)) dss_nil) (dss_cut (ds_set (i := 12) (fun te h => ps_set sc__law_trip_right.nd rfl (Or.inl rfl) h) (de_lst (da_cons (de_call (h_blot.mono (by omega)) hr (da_cons (de_var 0 (pv 0)) (da_cons (de_var 9 (pv 9)) da_nil))) (da_cons (de_call (h_blot.mono (by omega)) hr (da_cons (de_var 0 (pv 0)) (da_cons (de_var 10 (pv 10)) da_nil))) da_nil)))) (dss_cut (ds_if (dw_pt (dw_or (dt_not (dt_truth (de_call (h__law_same.mono (by omega)) hr (da_cons (de_var 12 (pv 12)) (da_cons (de_lst (da_cons (de_var 8 (pv 8)) (da_cons (de_call (h__law_blot.mono (by omega)) hr (da_cons (de_var 0 (pv 0)) (da_cons (de_item (de_var 11 (pv 11)) de_int) da_nil))) da_nil))) da_nil))))) (dw_or1 (dt_not (dt_truth (de_call (h__law_lies.mono (by omega)) hr (da_cons (de_var 8 (pv 8)) (da_cons (de_item (de_var 12 (pv 12)) de_int) da_nil)))))))) (dss_one (ds_ret de_bl)) dss_nil) (dss_one (ds_set (i := 1) (fun te h => ps_set sc__law_trip_right.nd rfl (Or.inl rfl) h) (de_item (de_var 11 (pv 11)) de_int))))))))))))))) (dss_one (ds_ret (de_call (h__law_stage_right.mono (by omega)) hr (da_cons (de_var 0 (pv 0)) (da_cons (de_var 1 (pv 1)) da_nil)))))), ?_⟩
  rintro ss Q _ ⟨gs, g0, ks, as, rfl, hl, hd, ok0, z0, d0, hka, ha4, has, q⟩
  have sides : Sides gs := ⟨fun x hx => drawn_fit (hd x hx) (by decide), fun x hx => by have := (hd x hx).size; omega, by omega⟩
  have nop : ∀ g ∈ gs, g.isOp = false := fun g hg => (hd g hg).nop
  have hdr : ∀ x ∈ gs, x.ok = true ∧ x.dep ≤ 60 ∧ x.size ≤ 500 := fun x hx => ⟨(hd x hx).ok, by have := (hd x hx).dep; omega, by have := (hd x hx).size; omega⟩
  have told : ∀ h, Lit h → Told (sidesD gs) h.d gs h := fun h lh => told_of (.inl rfl) (.inl rfl) hdr (by omega) lh.ok (by have := lh.size; omega) (by have := lh.dep; omega)
  have ep : lisD (sidesD gs) = .list ((gs.map Fm.d).map lisD) := by unfold sidesD; simp only [lisD, lisDs_eq]
  have sp : Sm 61 30000 (sidesD gs) := (sm_tuple (d := 60) (c := 1000) (n := 20) (fun x hx => by
    obtain ⟨y, hy, rfl⟩ := List.mem_map.mp hx
    obtain ⟨a, b, c⟩ := hdr y hy
    exact (sm_fm a).mono b (by omega)) (by rw [List.length_map]; omega)).mono (Nat.le_refl _) (by decide)
  have dat_p : Dat 62 (sidesD gs) := ⟨sp.nod, by have := sp.lev; omega, Nat.le_trans sp.cnt (by decide)⟩
  have lit2 : ∀ x y : Fm, Lit x → Lit y → Dat 62 (.list [x.d, y.d]) ∧ PyData.canLay0 (.list [x.d, y.d]) = true := fun x y hx hy => by
    have k : Sm 41 (1 + 2 * 200) (.list [x.d, y.d]) := sm_list (fun z hz => by
      simp only [List.mem_cons, List.mem_nil_iff, or_false] at hz
      rcases hz with rfl | rfl
      · exact (sm_fm hx.ok).mono hx.dep (by have := hx.size; omega)
      · exact (sm_fm hy.ok).mono hy.dep (by have := hy.size; omega)) (by simp)
    exact ⟨⟨k.nod, by have := k.lev; omega, Nat.le_trans k.cnt (by decide)⟩, k.lay⟩
  have blitL : ∀ x : Fm, Lit x → Lit (blotF gs x) := fun x hx => by
    have b1 := blotF_fit gs x hx.ok
    have b2 := blot_size gs x
    have := hx.size
    have := hx.dep
    exact ⟨b1.1, by omega, by omega⟩
  refine ⟨fun Γ => ∃ (g : Fm) (a0 a1 a2 a3 a4 a5 a6 a7 a8 a9 a10 : SV), Γ = [.d (sidesD gs), .d g.d, a0, a1, a2, a3, a4, a5, a6, a7, a8, a9, a10] ∧ Lit g, ?_, ?_⟩
  · refine ⟨_, rfl, ?_⟩
    refine ⟨fun i Γ => ∃ (g : Fm) (a1 a2 a3 a4 a5 a6 a7 a8 a9 a10 : SV), Γ = [.d (sidesD gs), .d g.d, .d (.list (ks.map PyData.int)), a1, a2, a3, a4, a5, a6, a7, a8, a9, a10] ∧ g.ok = true ∧ g.size ≤ 40 + 5 * i ∧ g.dep ≤ 20 + 5 * i, ⟨g0, _, _, _, _, _, _, _, _, _, _, rfl, ok0, z0, d0⟩, ?_, ?_⟩
    · rintro i x Γ hx ⟨g, a1, a2, a3, a4, a5, a6, a7, a8, a9, a10, rfl, gok, gz, gd⟩
      obtain ⟨y, hy, rfl⟩ := enumD_get hx
      rw [List.getElem?_map] at hy
      obtain ⟨an, han, rfl⟩ := Option.map_eq_some_iff.mp hy
      have hi := (List.getElem?_eq_some_iff.mp han).1
      obtain ⟨n1, n2, n3⟩ := has an (List.mem_of_getElem? han)
      have lit : Lit g := ⟨gok, by omega, by omega⟩
      have sl : (if isSq an.d = true then SV.m ((kidD an.d).map lisD) else .d an.d) = .m (an.its.map lisD) := by rw [Fm.d_its]; rfl
      have el : lisD an.d = .list (an.its.map lisD) := by rw [Fm.d_its]; simp only [lisD, lisDs_eq]
      refine ⟨_, rfl, rfl, ⟨_, _, rfl, ⟨_, _, rfl, rfl, ?_⟩⟩⟩
      refine ⟨fun Γ => Γ = [.d (sidesD gs), .d g.d, .d (.list (ks.map PyData.int)), a1, .d (.int ((0 + i : Nat) : Int)), .d an.d, a4, a5, a6, a7, a8, a9, a10], ?_, ?_⟩
      · refine ⟨rfl, gs, g, rfl, hl, hd, lit, ?_⟩
        exact ⟨_, rfl, rfl⟩
      rintro _ rfl
      have odl := od_len nop g
      have ho : (opl g ++ dpl gs g).length < 64 := by rw [List.length_append]; omega
      refine ⟨fun Γ => ∃ ps : List (List Int), Γ = [.d (sidesD gs), .d g.d, .d (.list (ks.map PyData.int)), a1, .d (.int ((0 + i : Nat) : Int)), .d an.d, .m (ps.map plD), a5, a6, a7, a8, a9, a10] ∧ ps.length < 64 ∧ ∀ p ∈ ps, p ∈ opl g ++ dpl gs g, ?_, ?_⟩
      · refine ⟨rfl, g, rfl, ⟨lit.fit, by omega⟩, ?_⟩
        refine ⟨rfl, gs, g, rfl, sides, ⟨lit.fit, by omega⟩, ?_⟩
        refine ⟨_, _, rfl, rfl, sz _ (by rw [List.length_map, List.length_map]; omega), ?_⟩
        refine ⟨(opl g ++ dpl gs g).map plK, by rw [plK_map, List.map_append]; rfl, pl_sorts ho, fun ks1 nd1 same1 ll1 => ?_⟩
        obtain ⟨ps, rfl, sub⟩ := plK_back fun k hk => (same1 k).mp hk
        rw [plK_map]
        rw [List.length_map, List.length_map] at ll1
        exact ⟨ps, rfl, by omega, sub⟩
      rintro _ ⟨ps, rfl, pl, pm⟩
      refine ⟨fun Γ => Γ = [.d (sidesD gs), .d g.d, .d (.list (ks.map PyData.int)), a1, .d (.int ((0 + i : Nat) : Int)), .d an.d, .d (.list (ps.map plD)), a5, a6, a7, a8, a9, a10] ∧ ps ≠ [], ?_, ?_⟩
      · refine ⟨_, rfl, sz 0, ⟨_, _, rfl, rfl, sh_lpl _, sh_nil, _, rfl, ?_⟩⟩
        rw [ev_lnil, List.isEmpty_map]
        cases ps with
        | nil => exact q
        | cons p0 pr => exact ⟨rfl, fun z => by cases z⟩
      rintro _ ⟨rfl, pne⟩
      refine ⟨fun Γ => ∃ p : List Int, Γ = [.d (sidesD gs), .d g.d, .d (.list (ks.map PyData.int)), a1, .d (.int ((0 + i : Nat) : Int)), .d an.d, .d (.list (ps.map plD)), .d (plD p), a6, a7, a8, a9, a10] ∧ p ∈ ps, ?_, ?_⟩
      · obtain ⟨kk, hkk⟩ : ∃ kk, ks[i]? = some kk := ⟨_, List.getElem?_eq_getElem (by omega : i < ks.length)⟩
        have e0 : atI (ks.map PyData.int) ((0 + i : Nat) : Int) = some (.int kk) := by
          rw [Nat.zero_add]
          exact atI_nat (by rw [List.getElem?_map, hkk]; rfl)
        have hpp : 0 < ps.length := by
          cases ps with
          | nil => exact absurd rfl pne
          | cons _ _ => simp
        have hl2 : (0 : Int) < ((ps.map plD).length : Int) := by rw [List.length_map]; omega
        obtain ⟨z, hz, hzm⟩ := atI_of (xs := ps.map plD) (r := kk % ((ps.map plD).length : Int)) (mod_ge' kk hl2) (mod_lt' kk hl2)
        obtain ⟨p, hp, rfl⟩ := List.mem_map.mp hzm
        refine ⟨_, .int kk, rfl, e0, ?_⟩
        refine ⟨_, rfl, hl2, ?_⟩
        exact ⟨_, _, rfl, hz, p, rfl, hp⟩
      rintro _ ⟨p, rfl, hp⟩
      obtain ⟨hps, h, hat, hcan⟩ := od_mem (pm p hp)
      have hpl := spl_dep hps
      have hpos := size_pos h
      have spp := sm_pl (p := p) (n := 60) (by omega)
      have tp : ToldP (plD p) p := ⟨spp.nod, Nat.le_trans spp.cnt (by decide), tup_pl p⟩
      have litA : Lit an := ⟨n1, by omega, by omega⟩
      have sa : Sm 5 10 an.d := (sm_fm n1).mono n3 (by omega)
      have dat_a : Dat 62 an.d := ⟨sa.nod, by have := sa.lev; omega, Nat.le_trans sa.cnt (by decide)⟩
      have toldX : Told (.list ((gs.map Fm.d).map lisD)) g.d gs g := told_of (.inr ep.symm) (.inl rfl) hdr (by omega) gok (by omega) (by omega)
      have toldA : Told (.list ((gs.map Fm.d).map lisD)) (.list (an.its.map lisD)) gs an := told_of (.inr ep.symm) (.inr el.symm) hdr (by omega) n1 (by omega) (by omega)
      have litOp : Lit .op := ⟨rfl, by decide, by decide⟩
      obtain ⟨k1, k2⟩ := put_sz p g h an hat
      obtain ⟨k3, _, _⟩ := put_any p g h an hat gok n1
      obtain ⟨k4, k5⟩ := put_sz p g h .op hat
      obtain ⟨k6, _, _⟩ := put_any p g h .op hat gok rfl
      have o1 : Fm.op.size = 1 := rfl
      have o2 : Fm.op.dep = 1 := rfl
      have litN : Lit (g.put p an) := ⟨k3, by omega, by omega⟩
      have litB : Lit (g.put p .op) := ⟨k6, by omega, by omega⟩
      have hbb : blotF gs (g.put p .op) = blotF gs g := put_blot gs p g h hat (can_struck hcan)
      have hbl : (blotF gs g).lie (blotF gs (g.put p an)) = true := call_mono gs p g h an hat hcan
      refine ⟨fun Γ => Γ = [.d (sidesD gs), .d g.d, .d (.list (ks.map PyData.int)), a1, .d (.int ((0 + i : Nat) : Int)), .d an.d, .d (.list (ps.map plD)), .d (plD p), .d (blotF gs g).d, a7, a8, a9, a10], ⟨rfl, keep_two (.inl rfl) (.inl rfl) ⟨_, _, gs, g, rfl, told g lit, .inl ⟨_, rfl, fm_noL _⟩, rfl⟩⟩, ?_⟩
      rintro _ rfl
      refine ⟨fun Γ => Γ = [.d (sidesD gs), .d g.d, .d (.list (ks.map PyData.int)), a1, .d (.int ((0 + i : Nat) : Int)), .d an.d, .d (.list (ps.map plD)), .d (plD p), .d (blotF gs g).d, .d (g.put p .op).d, a8, a9, a10], ?_, ?_⟩
      · refine ⟨_, rfl, sz 0, ?_⟩
        exact ⟨rfl, [.d _, .d _, .d _, .d _], .cons (.inl rfl) (.cons (.inl rfl) (.cons (.inl rfl) (.cons (.inl rfl) .nil))), _, _, _, _, gs, g, p, h, .op, rfl, told g lit, tp, told _ litOp, hat, hcan, rfl⟩
      rintro _ rfl
      refine ⟨fun Γ => Γ = [.d (sidesD gs), .d g.d, .d (.list (ks.map PyData.int)), a1, .d (.int ((0 + i : Nat) : Int)), .d an.d, .d (.list (ps.map plD)), .d (plD p), .d (blotF gs g).d, .d (g.put p .op).d, .d (g.put p an).d, a9, a10], ?_, ?_⟩
      · refine ⟨rfl, sidesD gs, rfl, dat_p, ?_⟩
        refine ⟨rfl, an.d, rfl, dat_a, ?_⟩
        rw [sl]
        exact ⟨rfl, [.d (.list ((gs.map Fm.d).map lisD)), .d g.d, .d (plD p), .d (.list (an.its.map lisD))], .cons (.inr rfl) (.cons (.inl rfl) (.cons (.inl rfl) (.cons (.inr rfl) .nil))), _, _, _, _, gs, g, p, h, an, rfl, toldX, tp, toldA, hat, hcan, rfl⟩
      rintro _ rfl
      refine ⟨fun Γ => Γ = [.d (sidesD gs), .d g.d, .d (.list (ks.map PyData.int)), a1, .d (.int ((0 + i : Nat) : Int)), .d an.d, .d (.list (ps.map plD)), .d (plD p), .d (blotF gs g).d, .d (g.put p .op).d, .d (g.put p an).d, .m [(g.put p .op).d, (g.put p an).d], a10], ?_, ?_⟩
      · refine ⟨_, rfl, sz 0, ?_⟩
        refine ⟨rfl, g, .op, h, p, rfl, hat, by omega, by omega, by omega, ?_⟩
        refine ⟨rfl, g, an, h, p, rfl, hat, by omega, by omega, by omega, ?_⟩
        exact ⟨_, rfl, sz 2, rfl⟩
      rintro _ rfl
      refine ⟨fun Γ => Γ = [.d (sidesD gs), .d g.d, .d (.list (ks.map PyData.int)), a1, .d (.int ((0 + i : Nat) : Int)), .d an.d, .d (.list (ps.map plD)), .d (plD p), .d (blotF gs g).d, .d (g.put p .op).d, .d (g.put p an).d, .m [(g.put p .op).d, (g.put p an).d], a10], ?_, ?_⟩
      · obtain ⟨da, la⟩ := lit2 _ _ litB litN
        refine ⟨_, rfl, sz 2, ?_⟩
        refine ⟨rfl, keep_two (.inr rfl) (.inr rfl) ⟨_, rfl, da, la, .inl ⟨_, rfl, rfl⟩, ?_⟩⟩
        exact ⟨_, rfl, rfl⟩
      rintro _ rfl
      refine ⟨fun Γ => Γ = [.d (sidesD gs), .d g.d, .d (.list (ks.map PyData.int)), a1, .d (.int ((0 + i : Nat) : Int)), .d an.d, .d (.list (ps.map plD)), .d (plD p), .d (blotF gs g).d, .d (g.put p .op).d, .d (g.put p an).d, .m [(g.put p .op).d, (g.put p an).d], .m [(blotF gs g).d, (blotF gs (g.put p an)).d]], ?_, ?_⟩
      · refine ⟨rfl, keep_two (.inl rfl) (.inl rfl) ⟨_, _, gs, g.put p .op, rfl, told _ litB, .inl ⟨_, rfl, fm_noL _⟩, ?_⟩⟩
        refine ⟨rfl, keep_two (.inl rfl) (.inl rfl) ⟨_, _, gs, g.put p an, rfl, told _ litN, .inl ⟨_, rfl, fm_noL _⟩, ?_⟩⟩
        rw [hbb]
        exact ⟨_, rfl, sz 2, rfl⟩
      rintro _ rfl
      refine ⟨fun Γ => Γ = [.d (sidesD gs), .d g.d, .d (.list (ks.map PyData.int)), a1, .d (.int ((0 + i : Nat) : Int)), .d an.d, .d (.list (ps.map plD)), .d (plD p), .d (blotF gs g).d, .d (g.put p .op).d, .d (g.put p an).d, .m [(g.put p .op).d, (g.put p an).d], .m [(blotF gs g).d, (blotF gs (g.put p an)).d]], ?_, ?_⟩
      · refine ⟨_, _, rfl, rfl, ?_⟩
        refine ⟨rfl, gs, g.put p an, rfl, sides, litN.fit, by have := litN.size; omega, by have := nds_size (g.put p an); have := litN.size; omega, ?_⟩
        refine ⟨_, rfl, sz 2, ?_⟩
        obtain ⟨da, la⟩ := lit2 _ _ (blitL _ lit) (blitL _ litN)
        refine ⟨rfl, keep_two (.inr rfl) (.inr rfl) ⟨_, rfl, da, la, .inl ⟨_, rfl, rfl⟩, ?_⟩⟩
        refine ⟨_, rfl, ?_⟩
        refine ⟨_, _, rfl, rfl, ?_⟩
        refine ⟨rfl, blotF gs g, blotF gs (g.put p an), rfl, (blitL _ lit).fit, (blitL _ litN).fit, by have := (blitL _ lit).dep; omega, _, rfl, ?_⟩
        rw [hbl]
        rfl
      rintro _ rfl
      refine ⟨_, _, rfl, rfl, ?_⟩
      exact ⟨g.put p an, a1, .d (.int ((0 + i : Nat) : Int)), .d an.d, .d (.list (ps.map plD)), .d (plD p), .d (blotF gs g).d, .d (g.put p .op).d, .d (g.put p an).d, .m [(g.put p .op).d, (g.put p an).d], .m [(blotF gs g).d, (blotF gs (g.put p an)).d], rfl, k3, by omega, by omega⟩
    · rintro Γ ⟨g, a1, a2, a3, a4, a5, a6, a7, a8, a9, a10, rfl, gok, gz, gd⟩
      rw [enumD_len, List.length_map] at gz gd
      exact ⟨g, _, _, _, _, _, _, _, _, _, _, _, rfl, gok, by omega, by omega⟩
  rintro _ ⟨g, a0, a1, a2, a3, a4, a5, a6, a7, a8, a9, a10, rfl, lit⟩
  exact ⟨rfl, gs, g, rfl, hl, hd, lit, q⟩
end

/-! ## by hand -/
def drB (g : Fm) : Bool := !g.isOp && (g.ok && (decide (g.size ≤ 10) && (decide (g.dep ≤ 4) && g.noW)))
theorem all_drawn {gs : List Fm} (h : gs.all drB = true) : ∀ g ∈ gs, Drawn g 10 4 := fun g hg => by
  have := List.all_eq_true.mp h g hg
  simp only [drB, Bool.and_eq_true, decide_eq_true_eq, Bool.not_eq_true'] at this
  exact ⟨this.1, this.2.1, this.2.2.1, this.2.2.2.1, this.2.2.2.2⟩
theorem toldp_of {p : List Int} (h : p.length ≤ 60) : ToldP (plD p) p := by
  have spp := sm_pl (p := p) (n := 60) h
  exact ⟨spp.nod, Nat.le_trans spp.cnt (by decide), tup_pl p⟩
abbrev fa : Fm := .nd "a" []
abbrev fb : Fm := .nd "b" []
abbrev fc : Fm := .nd "c" []
abbrev f3 (x y z : Fm) : Fm := .nd "f" [x, y, z]
abbrev f1 (x : Fm) : Fm := .nd "f" [x]
abbrev g1 (x : Fm) : Fm := .nd "g" [x]
abbrev h1 (x : Fm) : Fm := .nd "h" [x]
abbrev inn : Fm := f3 .op .op .op
abbrev lf : Fm := f3 inn fa inn
abbrev nea : Fm := f3 inn fa fa
abbrev rea : Fm := f3 (f3 fa fb .op) fa fa
abbrev don : Fm := rea.put [0] fa
abbrev chain : List Fm := [f1 fc, h1 .op]
abbrev tsk (gs : List Fm) (f : Fm) : PyData := .tuple ((opl (boneF gs f)).map plD)
abbrev ga1 : List PyData := [(blotF three lf).d, (blotF three (lf.put [0, 0] fa)).d]
abbrev da1 : List PyData := [.tuple [], .tuple []]
abbrev ga2 : List PyData := ga1 ++ [(blotF three nea).d, (blotF three (f3 fa fa fa)).d, tsk three nea]
abbrev da2 : List PyData := da1 ++ [.tuple [], (f3 fa fa fa).d, .tuple [plD [0, 0], plD [0, 1], plD [0, 2]]]
abbrev ga3 : List PyData := ga2 ++ [(blotF three rea).d, (boneF three rea).d, tsk three rea]
abbrev da3 : List PyData := da2 ++ [.tuple [], (f3 .op fa fa).d, .tuple [plD [0]]]
abbrev ga4 : List PyData := ga3 ++ [don.d, (blotF three don).d, .bool ((dpl three don).isEmpty && (opl don).isEmpty)]
abbrev da4 : List PyData := da3 ++ [(f3 fa fa fa).d, (f3 fa fa fa).d, .bool true]
abbrev ga5 : List PyData := ga4 ++ [(blotF three (g1 inn)).d, (blotF chain (f1 (h1 fc))).d, (blotF chain (f1 fa)).d]
abbrev da5 : List PyData := da4 ++ [(g1 .op).d, .tuple [], (f1 fa).d]
abbrev stH (f g d a1 a2 a3 a4 a5 a6 : SV) : G := [.d (sidesD three), .d fa.d, .d fb.d, .d inn.d, f, g, d, a1, a2, a3, a4, a5, a6]
section
variable {P : Program} {w : World} {K : PySem.W.Frag} {T : Tbs} {mg : Str → Option Value} {base : Heap} {f : Addr} {fd : FuncData}
abbrev s__law_by_hand_right : Stmt := topS 66
theorem sc__law_by_hand_right : FnScope ["three_so", "one_so", "two_so", "inner_so", "leaf", "got", "due", "near_so", "ready_so", "done_so", "chain_so", "picks_so", "answers_so"] [] (defScope s__law_by_hand_right) := ⟨rfl, rfl, rfl, by decide +kernel, rfl, by decide +kernel, by decide +kernel⟩
def cHand : CT := fun ss P => ss = [] ∧ P (.d (.bool true)) []
set_option maxHeartbeats 4000001 in
theorem ok__law_by_hand_right (B : BI mg) (h__law_three : Fnd P w K T mg base 1 "_law_three" [] cThree) (h_blot : Fnd P w K T mg base 6 "blot" ["sides", "form"] cBlot) (h_called : Fnd P w K T mg base 8 "called" ["sides", "form", "place", "answer"] cCalled)
    (h_tasks : Fnd P w K T mg base 8 "tasks" ["sides", "form"] cTasks) (h_skeleton : Fnd P w K T mg base 7 "skeleton" ["sides", "form"] cSkel) (h_is_ended : Fnd P w K T mg base 7 "is_ended" ["sides", "form"] cEnded)
    (h__law_same : Fnd P w K T mg base 62 "_law_same" ["got", "due"] (softC (cSame 62))) (h__law_trip_right : Fnd P w K T mg base 123 "_law_trip_right" ["page_so", "leaf", "picks_so", "answers_so"] (softC cTrip)) (F : Fun K "_law_by_hand_right" "_law_by_hand_right" s__law_by_hand_right f fd) (b : Binds K fd [] []) (m : mg "_law_by_hand_right" = some (.ref f)) :
    Fnd P w K T mg base 124 "_law_by_hand_right" [] cHand := by
  refine fn_d F sc__law_by_hand_right b m [] (by decide) fun cdv A outer s H E hr => ?_
  refine ⟨_, (dss_cut (ds_par3 (i := 0) (j := 1) (l := 2) (fun ta tb tc h1 h2 h3 => ps_par3 rfl sc__law_by_hand_right.nd rfl rfl rfl (by decide) (by decide) (by decide) rfl rfl rfl (pa_cons h1 (pa_cons h2 (pa_cons h3 pa_nil))) (by rfl)) (de_call0 (h__law_three.mono (by omega)) hr) (de_tup (da_cons de_str da_nil)) (de_tup (da_cons de_str da_nil))) (dss_cut (ds_set (i := 3) (fun te h => ps_set sc__law_by_hand_right.nd rfl (Or.inl rfl) h) (de_tup (da_cons de_str (da_cons (de_tup da_nil) (da_cons (de_tup da_nil) (da_cons (de_tup da_nil) da_nil)))))) (dss_cut (ds_set (i := 4) (fun te h => ps_set sc__law_by_hand_right.nd rfl (Or.inl rfl) h) (de_tup (da_cons de_str (da_cons (de_var 3 (pv 3)) (da_cons (de_var 1 (pv 1)) (da_cons (de_var 3 (pv 3)) da_nil)))))) (dss_cut (ds_set (i := 5) (fun te h => ps_set sc__law_by_hand_right.nd rfl (Or.inl rfl) h) (de_lst (da_cons (de_call (h_blot.mono (by omega)) hr (da_cons (de_var 0 (pv 0)) (da_cons (de_var 4 (pv 4)) da_nil))) (da_cons (de_call (h_blot.mono (by omega)) hr (da_late 0 (pv 0) (da_cons (de_call (h_called.mono (by omega)) hr (da_cons (de_var 0 (pv 0)) (da_cons (de_var 4 (pv 4)) (da_cons (de_tup (da_cons de_int (da_cons de_int da_nil))) (da_cons (de_var 1 (pv 1)) da_nil))))) da_nil))) da_nil)))) (dss_cut (ds_set (i := 6) (fun te h => ps_set sc__law_by_hand_right.nd rfl (Or.inl rfl) h) (de_lst (da_cons (de_tup da_nil) (da_cons (de_tup da_nil) da_nil)))) (dss_cut (ds_set (i := 7) (fun te h => ps_set sc__law_by_hand_right.nd rfl (Or.inl rfl) h) (de_tup (da_cons de_str (da_cons (de_var 3 (pv 3)) (da_cons (de_var 1 (pv 1)) (da_cons (de_var 1 (pv 1)) da_nil)))))) (dss_cut (ds_set (i := 5) (fun te h => ps_set sc__law_by_hand_right.nd rfl (Or.inl rfl) h) (de_add (de_var 5 (pv 5)) (de_lst (da_cons (de_call (h_blot.mono (by omega)) hr (da_cons (de_var 0 (pv 0)) (da_cons (de_var 7 (pv 7)) da_nil))) (da_cons (de_call (h_blot.mono (by omega)) hr (da_cons (de_var 0 (pv 0)) (da_cons (de_tup (da_cons de_str (da_cons (de_var 1 (pv 1)) (da_cons (de_var 1 (pv 1)) (da_cons (de_var 1 (pv 1)) da_nil))))) da_nil))) (da_cons (de_call (h_tasks.mono (by omega)) hr (da_cons (de_var 0 (pv 0)) (da_cons (de_var 7 (pv 7)) da_nil))) da_nil)))))) (dss_cut (ds_set (i := 6) (fun te h => ps_set sc__law_by_hand_right.nd rfl (Or.inl rfl) h) (de_add (de_var 6 (pv 6)) (de_lst (da_cons (de_tup da_nil) (da_cons (de_tup (da_cons de_str (da_cons (de_var 1 (pv 1)) (da_cons (de_var 1 (pv 1)) (da_cons (de_var 1 (pv 1)) da_nil))))) (da_cons (de_tup (da_cons (de_tup (da_cons de_int (da_cons de_int da_nil))) (da_cons (de_tup (da_cons de_int (da_cons de_int da_nil))) (da_cons (de_tup (da_cons de_int (da_cons de_int da_nil))) da_nil)))) da_nil)))))) (dss_cut (ds_set (i := 8) (fun te h => ps_set sc__law_by_hand_right.nd rfl (Or.inl rfl) h) (de_tup (da_cons de_str (da_cons (de_tup (da_cons de_str (da_cons (de_var 1 (pv 1)) (da_cons (de_var 2 (pv 2)) (da_cons (de_tup da_nil) da_nil))))) (da_cons (de_var 1 (pv 1)) (da_cons (de_var 1 (pv 1)) da_nil)))))) (dss_cut (ds_set (i := 5) (fun te h => ps_set sc__law_by_hand_right.nd rfl (Or.inl rfl) h) (de_add (de_var 5 (pv 5)) (de_lst (da_cons (de_call (h_blot.mono (by omega)) hr (da_cons (de_var 0 (pv 0)) (da_cons (de_var 8 (pv 8)) da_nil))) (da_cons (de_call (h_skeleton.mono (by omega)) hr (da_cons (de_var 0 (pv 0)) (da_cons (de_var 8 (pv 8)) da_nil))) (da_cons (de_call (h_tasks.mono (by omega)) hr (da_cons (de_var 0 (pv 0)) (da_cons (de_var 8 (pv 8)) da_nil))) da_nil)))))) (dss_cut (ds_set (i := 6) (fun te h => ps_set sc__law_by_hand_right.nd rfl (Or.inl rfl) h) (de_add (de_var 6 (pv 6)) (de_lst (da_cons (de_tup da_nil) (da_cons (de_tup (da_cons de_str (da_cons (de_tup da_nil) (da_cons (de_var 1 (pv 1)) (da_cons (de_var 1 (pv 1)) da_nil))))) (da_cons (de_tup (da_cons (de_tup (da_cons de_int da_nil)) da_nil)) da_nil)))))) (dss_cut (ds_set (i := 9) (fun te h => ps_set sc__law_by_hand_right.nd rfl (Or.inl rfl) h) (de_call (h_called.mono (by omega)) hr (da_cons (de_var 0 (pv 0)) (da_cons (de_var 8 (pv 8)) (da_cons (de_tup (da_cons de_int da_nil)) (da_cons (de_var 1 (pv 1)) da_nil)))))) (dss_cut (ds_set (i := 5) (fun te h => ps_set sc__law_by_hand_right.nd rfl (Or.inl rfl) h) (de_add (de_var 5 (pv 5)) (de_lst (da_late 9 (pv 9) (da_cons (de_call (h_blot.mono (by omega)) hr (da_cons (de_var 0 (pv 0)) (da_cons (de_var 9 (pv 9)) da_nil))) (da_cons (de_call (h_is_ended.mono (by omega)) hr (da_cons (de_var 0 (pv 0)) (da_cons (de_var 9 (pv 9)) da_nil))) da_nil)))))) (dss_cut (ds_set (i := 6) (fun te h => ps_set sc__law_by_hand_right.nd rfl (Or.inl rfl) h) (de_add (de_var 6 (pv 6)) (de_lst (da_cons (de_tup (da_cons de_str (da_cons (de_var 1 (pv 1)) (da_cons (de_var 1 (pv 1)) (da_cons (de_var 1 (pv 1)) da_nil))))) (da_cons (de_tup (da_cons de_str (da_cons (de_var 1 (pv 1)) (da_cons (de_var 1 (pv 1)) (da_cons (de_var 1 (pv 1)) da_nil))))) (da_cons de_bl da_nil)))))) (dss_cut (ds_set (i := 10) (fun te h => ps_set sc__law_by_hand_right.nd rfl (Or.inl rfl) h) (de_tup (da_cons (de_tup (da_cons de_str (da_cons (de_tup (da_cons de_str da_nil)) da_nil))) (da_cons (de_tup (da_cons de_str (da_cons (de_tup da_nil) da_nil))) da_nil)))) (dss_cut (ds_set (i := 5) (fun te h => ps_set sc__law_by_hand_right.nd rfl (Or.inl rfl) h) (de_add (de_var 5 (pv 5)) (de_lst (da_cons (de_call (h_blot.mono (by omega)) hr (da_cons (de_var 0 (pv 0)) (da_cons (de_tup (da_cons de_str (da_cons (de_var 3 (pv 3)) da_nil))) da_nil))) (da_cons (de_call (h_blot.mono (by omega)) hr (da_cons (de_var 10 (pv 10)) (da_cons (de_tup (da_cons de_str (da_cons (de_tup (da_cons de_str (da_cons (de_tup (da_cons de_str da_nil)) da_nil))) da_nil))) da_nil))) (da_cons (de_call (h_blot.mono (by omega)) hr (da_cons (de_var 10 (pv 10)) (da_cons (de_tup (da_cons de_str (da_cons (de_var 1 (pv 1)) da_nil))) da_nil))) da_nil)))))) (dss_cut (ds_set (i := 6) (fun te h => ps_set sc__law_by_hand_right.nd rfl (Or.inl rfl) h) (de_add (de_var 6 (pv 6)) (de_lst (da_cons (de_tup (da_cons de_str (da_cons (de_tup da_nil) da_nil))) (da_cons (de_tup da_nil) (da_cons (de_tup (da_cons de_str (da_cons (de_var 1 (pv 1)) da_nil))) da_nil)))))) (dss_cut (ds_if (dt_not (dt_truth (de_call (h__law_same.mono (by omega)) hr (da_cons (de_var 5 (pv 5)) (da_cons (de_var 6 (pv 6)) da_nil))))) (dss_one (ds_ret de_bl)) dss_nil) (dss_cut (ds_par (i := 11) (j := 12) (fun ta tb h1 h2 => ps_par rfl sc__law_by_hand_right.nd rfl rfl (by decide) rfl rfl (pa_cons h1 (pa_cons h2 pa_nil)) (by rfl)) (de_lst (da_cons de_int (da_cons de_int (da_cons de_int (da_cons de_int da_nil))))) (de_lst (da_cons (de_var 1 (pv 1)) (da_cons (de_var 3 (pv 3)) (da_cons (de_var 2 (pv 2)) (da_cons (de_tup (da_cons de_str (da_cons (de_tup da_nil) da_nil))) da_nil)))))) (dss_one (ds_ret (de_call (h__law_trip_right.mono (by omega)) hr (da_cons (de_var 0 (pv 0)) (da_cons (de_var 4 (pv 4)) (da_cons (de_var 11 (pv 11)) (da_cons (de_var 12 (pv 12)) da_nil)))))))))))))))))))))))))), ?_⟩
  rintro ss Q _ ⟨rfl, q⟩
  refine ⟨fun Γ => Γ = [.d (sidesD three), .d fa.d, .d fb.d, .no, .no, .no, .no, .no, .no, .no, .no, .no, .no], ?_, ?_⟩
  · refine ⟨rfl, rfl, ?_⟩
    repeat refine ⟨_, rfl, sz _ (by decide), ?_⟩
    rfl
  rintro _ rfl
  refine ⟨fun Γ => Γ = stH .no .no .no .no .no .no .no .no .no, ?_, ?_⟩
  · repeat refine ⟨_, rfl, sz _ (by decide), ?_⟩
    rfl
  rintro _ rfl
  refine ⟨fun Γ => Γ = stH (.d lf.d) .no .no .no .no .no .no .no .no, ?_, ?_⟩
  · repeat refine ⟨_, rfl, sz _ (by decide), ?_⟩
    rfl
  rintro _ rfl
  refine ⟨fun Γ => Γ = stH (.d lf.d) (.m ga1) .no .no .no .no .no .no .no, ?_, ?_⟩
  · refine ⟨rfl, _, _, three, lf, rfl, (told_of (.inl rfl) (.inl rfl) (by decide +kernel) (by decide) (by decide +kernel) (by decide +kernel) (by decide +kernel)), ?_⟩
    refine ⟨⟨_, rfl, fun z => by cases z⟩, ?_⟩
    repeat refine ⟨_, rfl, sz _ (by decide), ?_⟩
    refine ⟨rfl, _, _, _, _, three, lf, [0, 0], .op, fa, rfl, (told_of (.inl rfl) (.inl rfl) (by decide +kernel) (by decide) (by decide +kernel) (by decide +kernel) (by decide +kernel)), toldp_of (p := [0, 0]) (by decide), (told_of (.inl rfl) (.inl rfl) (by decide +kernel) (by decide) (by decide +kernel) (by decide +kernel) (by decide +kernel)), rfl, by decide +kernel, ?_⟩
    refine ⟨rfl, _, _, three, lf.put [0, 0] fa, rfl, (told_of (.inl rfl) (.inl rfl) (by decide +kernel) (by decide) (by decide +kernel) (by decide +kernel) (by decide +kernel)), ?_⟩
    exact ⟨_, rfl, sz 2, rfl⟩
  rintro _ rfl
  refine ⟨fun Γ => Γ = stH (.d lf.d) (.m ga1) (.m da1) .no .no .no .no .no .no, ?_, ?_⟩
  · repeat refine ⟨_, rfl, sz _ (by decide), ?_⟩
    rfl
  rintro _ rfl
  refine ⟨fun Γ => Γ = stH (.d lf.d) (.m ga1) (.m da1) (.d nea.d) .no .no .no .no .no, ?_, ?_⟩
  · repeat refine ⟨_, rfl, sz _ (by decide), ?_⟩
    rfl
  rintro _ rfl
  refine ⟨fun Γ => Γ = stH (.d lf.d) (.m ga2) (.m da1) (.d nea.d) .no .no .no .no .no, ?_, ?_⟩
  · refine ⟨rfl, _, _, three, nea, rfl, (told_of (.inl rfl) (.inl rfl) (by decide +kernel) (by decide) (by decide +kernel) (by decide +kernel) (by decide +kernel)), ?_⟩
    repeat refine ⟨_, rfl, sz _ (by decide), ?_⟩
    refine ⟨rfl, _, _, three, f3 fa fa fa, rfl, (told_of (.inl rfl) (.inl rfl) (by decide +kernel) (by decide) (by decide +kernel) (by decide +kernel) (by decide +kernel)), ?_⟩
    refine ⟨rfl, _, _, three, nea, rfl, (told_of (.inl rfl) (.inl rfl) (by decide +kernel) (by decide) (by decide +kernel) (by decide +kernel) (by decide +kernel)), ?_⟩
    refine ⟨_, rfl, sz 3, ?_⟩
    exact ⟨_, _, rfl, rfl, sz 5, rfl⟩
  rintro _ rfl
  refine ⟨fun Γ => Γ = stH (.d lf.d) (.m ga2) (.m da2) (.d nea.d) .no .no .no .no .no, ?_, ?_⟩
  · repeat refine ⟨_, rfl, sz _ (by decide), ?_⟩
    exact ⟨_, _, rfl, rfl, sz 5, rfl⟩
  rintro _ rfl
  refine ⟨fun Γ => Γ = stH (.d lf.d) (.m ga2) (.m da2) (.d nea.d) (.d rea.d) .no .no .no .no, ?_, ?_⟩
  · repeat refine ⟨_, rfl, sz _ (by decide), ?_⟩
    rfl
  rintro _ rfl
  refine ⟨fun Γ => Γ = stH (.d lf.d) (.m ga3) (.m da2) (.d nea.d) (.d rea.d) .no .no .no .no, ?_, ?_⟩
  · refine ⟨rfl, _, _, three, rea, rfl, (told_of (.inl rfl) (.inl rfl) (by decide +kernel) (by decide) (by decide +kernel) (by decide +kernel) (by decide +kernel)), ?_⟩
    refine ⟨rfl, _, _, three, rea, rfl, (told_of (.inl rfl) (.inl rfl) (by decide +kernel) (by decide) (by decide +kernel) (by decide +kernel) (by decide +kernel)), ?_⟩
    refine ⟨rfl, _, _, three, rea, rfl, (told_of (.inl rfl) (.inl rfl) (by decide +kernel) (by decide) (by decide +kernel) (by decide +kernel) (by decide +kernel)), ?_⟩
    refine ⟨_, rfl, sz 3, ?_⟩
    exact ⟨_, _, rfl, rfl, sz 8, rfl⟩
  rintro _ rfl
  refine ⟨fun Γ => Γ = stH (.d lf.d) (.m ga3) (.m da3) (.d nea.d) (.d rea.d) .no .no .no .no, ?_, ?_⟩
  · repeat refine ⟨_, rfl, sz _ (by decide), ?_⟩
    exact ⟨_, _, rfl, rfl, sz 8, rfl⟩
  rintro _ rfl
  refine ⟨fun Γ => Γ = stH (.d lf.d) (.m ga3) (.m da3) (.d nea.d) (.d rea.d) (.d don.d) .no .no .no, ?_, ?_⟩
  · repeat refine ⟨_, rfl, sz _ (by decide), ?_⟩
    exact ⟨rfl, _, _, _, _, three, rea, [0], f3 fa fb .op, fa, rfl, (told_of (.inl rfl) (.inl rfl) (by decide +kernel) (by decide) (by decide +kernel) (by decide +kernel) (by decide +kernel)), toldp_of (p := [0]) (by decide), (told_of (.inl rfl) (.inl rfl) (by decide +kernel) (by decide) (by decide +kernel) (by decide +kernel) (by decide +kernel)), rfl, by decide +kernel, rfl⟩
  rintro _ rfl
  refine ⟨fun Γ => Γ = stH (.d lf.d) (.m ga4) (.m da3) (.d nea.d) (.d rea.d) (.d don.d) .no .no .no, ?_, ?_⟩
  · refine ⟨⟨_, rfl, fun z => by cases z⟩, ?_⟩
    refine ⟨rfl, _, _, three, don, rfl, (told_of (.inl rfl) (.inl rfl) (by decide +kernel) (by decide) (by decide +kernel) (by decide +kernel) (by decide +kernel)), ?_⟩
    refine ⟨rfl, _, _, three, don, rfl, (told_of (.inl rfl) (.inl rfl) (by decide +kernel) (by decide) (by decide +kernel) (by decide +kernel) (by decide +kernel)), ?_⟩
    refine ⟨_, rfl, sz 3, ?_⟩
    exact ⟨_, _, rfl, rfl, sz 11, rfl⟩
  rintro _ rfl
  refine ⟨fun Γ => Γ = stH (.d lf.d) (.m ga4) (.m da4) (.d nea.d) (.d rea.d) (.d don.d) .no .no .no, ?_, ?_⟩
  · repeat refine ⟨_, rfl, sz _ (by decide), ?_⟩
    exact ⟨_, _, rfl, rfl, sz 11, rfl⟩
  rintro _ rfl
  refine ⟨fun Γ => Γ = stH (.d lf.d) (.m ga4) (.m da4) (.d nea.d) (.d rea.d) (.d don.d) (.d (sidesD chain)) .no .no, ?_, ?_⟩
  · repeat refine ⟨_, rfl, sz _ (by decide), ?_⟩
    rfl
  rintro _ rfl
  refine ⟨fun Γ => Γ = stH (.d lf.d) (.m ga5) (.m da4) (.d nea.d) (.d rea.d) (.d don.d) (.d (sidesD chain)) .no .no, ?_, ?_⟩
  · repeat refine ⟨_, rfl, sz _ (by decide), ?_⟩
    refine ⟨rfl, _, _, three, g1 inn, rfl, (told_of (.inl rfl) (.inl rfl) (by decide +kernel) (by decide) (by decide +kernel) (by decide +kernel) (by decide +kernel)), ?_⟩
    repeat refine ⟨_, rfl, sz _ (by decide), ?_⟩
    refine ⟨rfl, _, _, chain, f1 (h1 fc), rfl, (told_of (.inl rfl) (.inl rfl) (by decide +kernel) (by decide) (by decide +kernel) (by decide +kernel) (by decide +kernel)), ?_⟩
    repeat refine ⟨_, rfl, sz _ (by decide), ?_⟩
    refine ⟨rfl, _, _, chain, f1 fa, rfl, (told_of (.inl rfl) (.inl rfl) (by decide +kernel) (by decide) (by decide +kernel) (by decide +kernel) (by decide +kernel)), ?_⟩
    refine ⟨_, rfl, sz 3, ?_⟩
    exact ⟨_, _, rfl, rfl, sz 14, rfl⟩
  rintro _ rfl
  refine ⟨fun Γ => Γ = stH (.d lf.d) (.m ga5) (.m da5) (.d nea.d) (.d rea.d) (.d don.d) (.d (sidesD chain)) .no .no, ?_, ?_⟩
  · repeat refine ⟨_, rfl, sz _ (by decide), ?_⟩
    exact ⟨_, _, rfl, rfl, sz 14, rfl⟩
  rintro _ rfl
  have same : ga5 = da5 := by kernel_rfl
  refine ⟨fun Γ => ∃ a b, Γ = stH (.d lf.d) a b (.d nea.d) (.d rea.d) (.d don.d) (.d (sidesD chain)) .no .no, ?_, ?_⟩
  · rw [same]
    refine ⟨rfl, [.d _, .d _], .cons (.inr rfl) (.cons (.inr rfl) .nil), .list da5, rfl, ⟨by decide +kernel, by decide +kernel, by decide +kernel⟩, by decide +kernel, ?_⟩
    exact ⟨_, rfl, _, _, rfl⟩
  rintro _ ⟨a5, a6, rfl⟩
  refine ⟨fun Γ => Γ = stH (.d lf.d) a5 a6 (.d nea.d) (.d rea.d) (.d don.d) (.d (sidesD chain)) (.m (([0, 1, 2, 0] : List Int).map PyData.int)) (.m ([fa, inn, fb, g1 .op].map Fm.d)), ?_, ?_⟩
  · repeat refine ⟨_, rfl, sz _ (by decide), ?_⟩
    rfl
  rintro _ rfl
  exact ⟨rfl, [.d _, .d _, .d (.list (([0, 1, 2, 0] : List Int).map PyData.int)), .d (.list ([fa, inn, fb, g1 .op].map Fm.d))], .cons (.inl rfl) (.cons (.inl rfl) (.cons (.inr rfl) (.cons (.inr rfl) .nil))), three, lf, [0, 1, 2, 0], [fa, inn, fb, g1 .op], rfl, by decide, all_drawn (by decide +kernel), by decide +kernel, by decide +kernel, by decide +kernel, by decide, by decide, by decide +kernel, q⟩
end

/-! ## a drawn case; the law -/
def pr1 : Fm → Fm
  | .nd m [] => .nd m []
  | _ => .op
def pruneF : Fm → Fm
  | .op => .op
  | .nd n ps => .nd n (ps.map pr1)
theorem pr1_ok (f : Fm) (h : f.ok = true) : (pr1 f).ok = true ∧ (pr1 f).size = 1 ∧ (pr1 f).dep = 1 := by
  cases f with
  | op => exact ⟨rfl, rfl, rfl⟩
  | nd m qs =>
    cases qs with
    | nil => exact ⟨h, by simp [pr1, Fm.size, Fm.sizes], by simp [pr1, Fm.dep, Fm.deps]⟩
    | cons _ _ => exact ⟨rfl, rfl, rfl⟩
theorem prs_ok : ∀ ps : List Fm, Fm.oks ps = true → Fm.oks (ps.map pr1) = true ∧ Fm.sizes (ps.map pr1) = ps.length ∧ Fm.deps (ps.map pr1) ≤ 1
  | [], _ => ⟨rfl, rfl, by simp [Fm.deps]⟩
  | f :: r, h => by
    simp only [Fm.oks, Bool.and_eq_true] at h
    obtain ⟨a, b, c⟩ := pr1_ok f h.1
    obtain ⟨a2, b2, c2⟩ := prs_ok r h.2
    rw [List.map_cons]
    simp only [Fm.oks, Fm.sizes, Fm.deps, Bool.and_eq_true, List.length_cons]
    exact ⟨⟨a, a2⟩, by omega, by omega⟩
theorem prune_ok (f : Fm) (h : f.ok = true) : (pruneF f).ok = true ∧ (pruneF f).size ≤ 4 ∧ (pruneF f).dep ≤ 2 := by
  cases f with
  | op => exact ⟨rfl, by decide, by decide⟩
  | nd n ps =>
    simp only [Fm.ok, Bool.and_eq_true, decide_eq_true_eq] at h
    obtain ⟨a, b, c⟩ := prs_ok ps h.2
    simp only [pruneF, Fm.ok, Bool.and_eq_true, decide_eq_true_eq, List.length_map, Fm.size, Fm.dep]
    exact ⟨⟨h.1, a⟩, by omega, by omega⟩
section
variable {P : Program} {w : World} {K : PySem.W.Frag} {T : Tbs} {mg : Str → Option Value} {base : Heap} {f : Addr} {fd : FuncData}
abbrev s__law_pruned : Stmt := topS 68
theorem sc__law_pruned : FnScope ["leaf", "bits_so", "bit"] ["leaf"] (defScope s__law_pruned) := ⟨rfl, rfl, rfl, by decide +kernel, rfl, by decide +kernel, by decide +kernel⟩
def cPruned : CT := fun ss P => ∃ f : Fm, ss = [.d f.d] ∧ f.ok = true ∧ P (.d (pruneF f).d) [.no]
theorem ok__law_pruned (B : BI mg) (F : Fun K "_law_pruned" "_law_pruned" s__law_pruned f fd) (b : Binds K fd ["leaf"] []) (m : mg "_law_pruned" = some (.ref f)) : Fnd P w K T mg base 1 "_law_pruned" ["leaf"] cPruned := by
  refine fn_d F sc__law_pruned b m [] (by decide) fun cdv A outer s H E hr => ?_
  refine ⟨_, (dss_cut (ds_setLc (i := 1) (own := [("bit", 2)]) rfl sc__law_pruned.nd rfl rfl (sw_true rfl rfl rfl (by decide +kernel)) (di_seq (de_slice (de_var 0 (pv 0)) (do_some de_int) do_none)) (blkOk_by (N := ["leaf", "bits_so", "bit"]) (sc := (defScope s__law_pruned)) (by decide +kernel)) (by decide) (fun _ => (dg_name (i := 2) (pg_name sc__law_pruned.nd rfl (Or.inl rfl)))) (fun _ => dts_nil) (fun _ => (de_ifExp (dt_eq hr.units (de_len B.len (da_cons (de_var 2 (pv 2)) da_nil)) de_int) (de_slice (de_var 2 (pv 2)) do_none (do_some de_int)) (de_tup da_nil)))) (dss_one (ds_ret (de_add (de_slice (de_var 0 (pv 0)) do_none (do_some de_int)) (de_tupOf B.tuple (da_cons (de_var 1 (pv 1)) da_nil)))))), ?_⟩
  rintro ss Q _ ⟨f0, rfl, hok, q⟩
  refine ⟨fun Γ => ∃ a, Γ = [.d f0.d, .m ((f0.parts.map pr1).map Fm.d), a], ?_, ?_⟩
  · refine ⟨_, rfl, ?_⟩
    cases f0 with
    | op =>
      refine ⟨_, rfl, ?_⟩
      refine ⟨fun i acc Γ => acc = [] ∧ ∃ a, Γ = [.d Fm.op.d, .no, a], ⟨rfl, _, rfl⟩, ?_, ?_⟩
      · rintro i x acc Γ hx _
        cases i <;> cases hx
      · rintro acc Γ ⟨rfl, a, rfl⟩
        exact ⟨a, rfl⟩
    | nd n ps =>
      refine ⟨_, rfl, ?_⟩
      simp only [Fm.ok, Bool.and_eq_true, decide_eq_true_eq] at hok
      have p3 := hok.1.2
      have hlen : (cutD (PyData.str n :: Fm.ds ps) (some 1) none).length = ps.length := by rw [cut_one, Fm.ds_len]
      refine ⟨fun i acc Γ => acc = (ps.take i).map (fun b => (pr1 b).d) ∧ ∃ a, Γ = [.d (Fm.nd n ps).d, .no, a], ⟨rfl, _, rfl⟩, ?_, ?_⟩
      · rintro i x acc Γ hx ⟨rfl, a, rfl⟩
        rw [cut_one, Fm.ds_eq, List.getElem?_map] at hx
        obtain ⟨y, hk, rfl⟩ := Option.map_eq_some_iff.mp hx
        have hi := (List.getElem?_eq_some_iff.mp hk).1
        have next : ((ps.take i).map (fun b => (pr1 b).d)) ++ [(pr1 y).d] = (ps.take (i + 1)).map (fun b => (pr1 b).d) := by rw [take_one hk, List.map_append]; rfl
        have room : ((ps.take i).map (fun b => (pr1 b).d)).length < sizeLine := szl (by rw [List.length_map, List.length_take]; omega)
        cases y with
        | op =>
          refine ⟨_, rfl, _, _, rfl, rfl, sh_int _, sh_int _, _, rfl, ?_⟩
          rw [ev_int]
          exact ⟨_, rfl, sz 0, _, rfl, room, next, _, rfl⟩
        | nd m qs =>
          cases qs with
          | nil =>
            refine ⟨_, rfl, _, _, rfl, rfl, sh_int _, sh_int _, _, rfl, ?_⟩
            rw [ev_int]
            refine ⟨_, rfl, ?_⟩
            exact ⟨_, rfl, room, next, _, rfl⟩
          | cons q0 qr =>
            refine ⟨_, rfl, _, _, rfl, rfl, sh_int _, sh_int _, _, rfl, ?_⟩
            rw [ev_int]
            have e1 : (((PyData.str m :: Fm.ds (q0 :: qr)).length : Int) == 1) = false := beq_false_of_ne fun z => by
              rw [List.length_cons, Fm.ds_len, List.length_cons] at z
              omega
            rw [e1]
            exact ⟨_, rfl, sz 0, _, rfl, room, next, _, rfl⟩
      · rintro acc Γ ⟨rfl, a, rfl⟩
        rw [hlen, List.take_length]
        exact ⟨a, by rw [List.map_map]; rfl⟩
  rintro _ ⟨a, rfl⟩
  cases f0 with
  | op =>
    refine ⟨_, rfl, ?_⟩
    refine ⟨_, rfl, ?_⟩
    refine ⟨sz _ (by decide), ?_⟩
    exact q
  | nd n ps =>
    simp only [Fm.ok, Bool.and_eq_true, decide_eq_true_eq] at hok
    have p3 := hok.1.2
    have ed : PyData.tuple (cutD (PyData.str n :: Fm.ds ps) none (some 1) ++ (ps.map pr1).map Fm.d) = (pruneF (Fm.nd n ps)).d := by
      rw [show (1 : Int) = ((1 : Nat) : Int) from rfl, cut_to, pruneF, Fm.d, Fm.ds_eq (ps.map pr1)]; rfl
    refine ⟨_, rfl, ?_⟩
    refine ⟨_, rfl, ?_⟩
    refine ⟨sz _ (by rw [show (1 : Int) = ((1 : Nat) : Int) from rfl, cut_to, List.length_take, List.length_map, List.length_map]; show _ + ps.length ≤ _; omega), ?_⟩
    rw [show (Fm.nd n ps).parts = ps from rfl]
    rw [ed]
    exact q
abbrev s__law_right : Stmt := topS 67
theorem sc__law_right : FnScope ["tin", "page_so", "signs_so", "leaf", "picks_so", "answers_so", "lap", "own"] ["tin"] (defScope s__law_right) := ⟨rfl, rfl, rfl, by decide +kernel, rfl, by decide +kernel, by decide +kernel⟩
def cRight : CT := fun ss P => ∃ xs, ss = [.m xs] ∧ Tin (2 ^ 39) xs ∧ P (.d (.bool true)) [.no]
set_option maxHeartbeats 4000001 in
theorem ok__law_right (B : BI mg) (h__law_take : Fnd P w K T mg base 1 "_law_take" ["tin", "below_so"] cTake) (h__law_three : Fnd P w K T mg base 1 "_law_three" [] cThree) (h__law_page : Fnd P w K T mg base 64 "_law_page" ["tin", "many_so"] cPage) (h__law_signs_of : Fnd P w K T mg base 64 "_law_signs_of" ["page_so"] cSigns)
    (h__law_near : Fnd P w K T mg base (60 + 2) "_law_near" ["tin", "page_so", "deep_so"] (cNear 2)) (h__law_great : Fnd P w K T mg base ((2 + 3) + 1) "_law_great" ["tin", "signs_so", "fuel_so", "deep_so"] (cGreat 3)) (h__law_leaf : Fnd P w K T mg base (2 + 3) "_law_leaf" ["tin", "signs_so", "fuel_so", "deep_so"] (cLeaf 3))
    (h__law_pruned : Fnd P w K T mg base 1 "_law_pruned" ["leaf"] cPruned) (h__law_trip_right : Fnd P w K T mg base 123 "_law_trip_right" ["page_so", "leaf", "picks_so", "answers_so"] (softC cTrip)) (F : Fun K "_law_right" "_law_right" s__law_right f fd) (b : Binds K fd ["tin"] []) (m : mg "_law_right" = some (.ref f)) : Fnd P w K T mg base 124 "_law_right" ["tin"] cRight := by
  refine fn_d F sc__law_right b m [] (by decide) fun cdv A outer s H E hr => ?_
  refine ⟨_, (dss_cut (ds_set (i := 1) (fun te h => ps_set sc__law_right.nd rfl (Or.inl rfl) h) (de_ifExp (dt_gt (de_call (h__law_take.mono (by omega)) hr (da_cons (de_var 0 (pv 0)) (da_cons de_int da_nil))) de_int) (de_call (h__law_page.mono (by omega)) hr (da_late 0 (pv 0) (da_cons (de_add de_int (de_call (h__law_take.mono (by omega)) hr (da_cons (de_var 0 (pv 0)) (da_cons de_int da_nil)))) da_nil))) (de_call0 (h__law_three.mono (by omega)) hr))) (dss_cut (ds_set (i := 2) (fun te h => ps_set sc__law_right.nd rfl (Or.inl rfl) h) (de_call (h__law_signs_of.mono (by omega)) hr (da_cons (de_var 1 (pv 1)) da_nil))) (dss_cut (ds_set (i := 3) (fun te h => ps_set sc__law_right.nd rfl (Or.inl rfl) h) (de_ifExp (dt_gt (de_call (h__law_take.mono (by omega)) hr (da_cons (de_var 0 (pv 0)) (da_cons de_int da_nil))) de_int) (de_call (h__law_near.mono (by omega)) hr (da_cons (de_var 0 (pv 0)) (da_cons (de_var 1 (pv 1)) (da_cons de_int da_nil)))) (de_call (h__law_great.mono (by omega)) hr (da_cons (de_var 0 (pv 0)) (da_cons (de_varF 2 (pv 2)) (da_cons de_int (da_cons de_int da_nil))))))) (dss_cut (ds_par (i := 4) (j := 5) (fun ta tb h1 h2 => ps_par rfl sc__law_right.nd rfl rfl (by decide) rfl rfl (pa_cons h1 (pa_cons h2 pa_nil)) (by rfl)) (de_lc (own := [("lap", 6)]) rfl sc__law_right.nd (di_range1 rfl B.range de_int) (blkOk_by (N := ["tin", "page_so", "signs_so", "leaf", "picks_so", "answers_so", "lap", "own"]) (sc := (defScope s__law_right)) (by decide +kernel)) (by decide) (fun _ => (dg_name (i := 6) (pg_name sc__law_right.nd rfl (Or.inl rfl)))) (fun _ => dts_nil) (fun _ => (de_call (h__law_take.mono (by omega)) hr (da_cons (de_var 0 (pv 0)) (da_cons de_int da_nil))))) (de_lst da_nil)) (dss_cut (ds_for PassesOwn.never rfl (di_range1 rfl B.range de_int) (dg_name (i := 6) (pg_name sc__law_right.nd rfl (Or.inl rfl))) (dss_cut (ds_set (i := 7) (fun te h => ps_set sc__law_right.nd rfl (Or.inl rfl) h) (de_ifExp (dt_gt (de_call (h__law_take.mono (by omega)) hr (da_cons (de_var 0 (pv 0)) (da_cons de_int da_nil))) de_int) (de_call (h__law_leaf.mono (by omega)) hr (da_cons (de_var 0 (pv 0)) (da_cons (de_varF 2 (pv 2)) (da_cons de_int (da_cons de_int da_nil))))) (de_call (h__law_pruned.mono (by omega)) hr (da_cons (de_call (h__law_near.mono (by omega)) hr (da_cons (de_var 0 (pv 0)) (da_cons (de_var 1 (pv 1)) (da_cons de_int da_nil)))) da_nil)))) (dss_one (ds_expr (de_append (de_var 5 (pv 5)) (da_cons (de_var 7 (pv 7)) da_nil)))))) (dss_one (ds_ret (de_call (h__law_trip_right.mono (by omega)) hr (da_cons (de_var 1 (pv 1)) (da_cons (de_var 3 (pv 3)) (da_cons (de_var 4 (pv 4)) (da_cons (de_var 5 (pv 5)) da_nil)))))))))))), ?_⟩
  rintro ss Q _ ⟨xs, rfl, ht, q⟩
  refine ⟨fun Γ => ∃ (xs1 : List PyData) (gs : List Fm), Γ = [.m xs1, .d (sidesD gs), .no, .no, .no, .no, .no, .no] ∧ gs ≠ [] ∧ gs.length ≤ 5 ∧ (∀ g ∈ gs, Drawn g 10 4) ∧ Tin 5000 xs1, ?_, ?_⟩
  · refine ⟨rfl, xs, 3, 6000, rfl, ht.mono (by decide), by decide, by decide, fun r xs1 r0 r1 ht1 => ?_⟩
    refine ⟨trivial, _, rfl, ?_⟩
    show if _ = true then _ else _
    split
    · refine ⟨⟨_, rfl, fun z => by cases z⟩, ?_⟩
      refine ⟨rfl, xs1, 3, 5900, rfl, ht1.mono (by decide), by decide, by decide, fun r xs2 r0 r1 ht2 => ?_⟩
      obtain ⟨c, rfl⟩ : ∃ c : Nat, r = (c : Int) := ⟨r.toNat, by omega⟩
      refine ⟨rfl, xs2, 2 + c, 5000, ?_, by omega, by omega, ht2.mono (by omega), fun gs xs3 g1 g2 g3 ht3 => ⟨xs3, gs, rfl, g1, g2, g3, ht3⟩⟩
      have e : ((2 + c : Nat) : Int) = 2 + (c : Int) := by omega
      rw [e]; rfl
    · exact ⟨rfl, rfl, xs1, three, rfl, by decide, by decide, all_drawn (by decide +kernel), ht1.mono (by decide)⟩
  rintro _ ⟨xs1, gs, rfl, n0, n5, hd, ht1⟩
  refine ⟨fun Γ => ∃ l : List (Str × Nat), Γ = [.m xs1, .d (sidesD gs), .m (l.map sgD), .no, .no, .no, .no, .no] ∧ Signs l ∧ l.length ≤ 200, ⟨rfl, gs, rfl, n5, hd, fun l l1 l2 => ⟨l, rfl, l1, l2⟩⟩, ?_⟩
  rintro _ ⟨l, rfl, l1, l2⟩
  refine ⟨fun Γ => ∃ (xs2 : List PyData) (g : Fm) (s2 : SV), Γ = [.m xs2, .d (sidesD gs), s2, .d g.d, .no, .no, .no, .no] ∧ (s2 = .m (l.map sgD) ∨ s2 = .d (.list (l.map sgD))) ∧ g.ok = true ∧ g.size ≤ 40 ∧ g.dep ≤ 20 ∧ Tin 3000 xs2, ?_, ?_⟩
  · refine ⟨rfl, xs1, 3, 4900, rfl, ht1.mono (by decide), by decide, by decide, fun r xs2 r0 r1 ht2 => ?_⟩
    refine ⟨trivial, _, rfl, ?_⟩
    show if _ = true then _ else _
    have e1 : pZ (0 + 1) = 14 := by decide
    have e2 : pD (0 + 1) = 8 := by decide
    split
    · exact ⟨rfl, xs2, gs, 0, 3000, rfl, n0, n5, hd, by decide, by decide, ht2.mono (by decide), fun f xs' h1 h2 h3 ht4 => ⟨xs', f, _, rfl, .inl rfl, h1, by omega, by omega, ht4⟩⟩
    · exact ⟨rfl, xs2, l, 12, 2, 3000, rfl, l1, by omega, by decide, by decide, by decide, by decide, ht2.mono (by decide), fun f xs' hf ht4 => ⟨xs', f, _, rfl, .inr rfl, hf.ok, by have := hf.size; omega, by have := hf.dep; omega, ht4⟩⟩
  rintro _ ⟨xs2, g, s2, rfl, es2, gok, gz, gd, ht2⟩
  refine ⟨fun Γ => ∃ (xs3 : List PyData) (ks : List Int) (a : SV), Γ = [.m xs3, .d (sidesD gs), s2, .d g.d, .m (ks.map PyData.int), .m [], a, .no] ∧ ks.length = 4 ∧ Tin 2000 xs3, ?_, ?_⟩
  · refine ⟨4, rfl, ⟨by decide, by decide⟩, ?_⟩
    refine ⟨fun i acc Γ => ∃ (ks : List Int) (xs3 : List PyData) (a : SV), acc = ks.map PyData.int ∧ ks.length = i ∧ Γ = [.m xs3, .d (sidesD gs), s2, .d g.d, .no, .no, a, .no] ∧ Tin (2000 + (4 - i)) xs3, ⟨[], xs2, _, rfl, rfl, rfl, ht2.mono (by decide)⟩, ?_, ?_⟩
    · rintro i x acc Γ hx ⟨ks, xs3, a, rfl, hk, rfl, ht3⟩
      obtain ⟨hi, rfl⟩ := rgD_get hx
      have hi : i < 4 := hi
      refine ⟨rfl, xs3, 60, 2000 + (4 - (i + 1)), rfl, ht3.mono (by omega), by decide, by decide, fun r xs4 r0 r1 ht4 => ?_⟩
      exact ⟨_, rfl, szl (by rw [List.length_map]; omega), ks ++ [r], xs4, _, by rw [List.map_append]; rfl, by rw [List.length_append, hk]; rfl, rfl, ht4⟩
    · rintro acc Γ ⟨ks, xs3, a, rfl, hk, rfl, ht3⟩
      have hk : ks.length = 4 := hk
      exact ⟨_, rfl, sz 0, xs3, ks, a, rfl, hk, ht3.mono (by omega)⟩
  rintro _ ⟨xs3, ks, a6, rfl, hk, ht3⟩
  refine ⟨fun Γ => ∃ (as : List Fm) (b0 b2 b6 b7 : SV), Γ = [b0, .d (sidesD gs), b2, .d g.d, .m (ks.map PyData.int), .m (as.map Fm.d), b6, b7] ∧ as.length = 4 ∧ ∀ a ∈ as, a.ok = true ∧ a.size ≤ 5 ∧ a.dep ≤ 5, ?_, ?_⟩
  · refine ⟨4, rfl, ⟨by decide, by decide⟩, ?_⟩
    refine ⟨fun i Γ => ∃ (as : List Fm) (xs' : List PyData) (s2 b6 b7 : SV), Γ = [.m xs', .d (sidesD gs), s2, .d g.d, .m (ks.map PyData.int), .m (as.map Fm.d), b6, b7] ∧ (s2 = .m (l.map sgD) ∨ s2 = .d (.list (l.map sgD))) ∧ as.length = i ∧ (∀ a ∈ as, a.ok = true ∧ a.size ≤ 5 ∧ a.dep ≤ 5) ∧ Tin (100 + (4 - i) * 26) xs',
      ⟨[], xs3, _, _, _, rfl, es2, rfl, (fun a ha => by cases ha), ht3.mono (by decide)⟩, ?_, ?_⟩
    · rintro i x Γ hx ⟨as, xs', s2, b6, b7, rfl, es2, ha, has, ht4⟩
      obtain ⟨hi, rfl⟩ := rgD_get hx
      have hi : i < 4 := hi
      refine ⟨fun Γ => ∃ (a : Fm) (xs5 : List PyData) (s2 : SV), Γ = [.m xs5, .d (sidesD gs), s2, .d g.d, .m (ks.map PyData.int), .m (as.map Fm.d), .d (.int (0 + (i : Int))), .d a.d] ∧ (s2 = .m (l.map sgD) ∨ s2 = .d (.list (l.map sgD))) ∧ (a.ok = true ∧ a.size ≤ 5 ∧ a.dep ≤ 5) ∧ Tin (100 + (4 - (i + 1)) * 26) xs5, ?_, ?_⟩
      · refine ⟨rfl, xs', 3, 100 + (4 - (i + 1)) * 26 + 25, rfl, ht4.mono (by omega), by decide, by decide, fun r xs4 r0 r1 ht5 => ?_⟩
        refine ⟨trivial, _, rfl, ?_⟩
        show if _ = true then _ else _
        split
        · rcases es2 with rfl | rfl
          all_goals exact ⟨rfl, xs4, l, 5, 2, 100 + (4 - (i + 1)) * 26, rfl, l1, by omega, by decide, by decide, by decide, ht5.mono (by omega), fun f xs5 h1 h2 h3 ht6 => ⟨f, xs5, _, rfl, .inr rfl, ⟨h1, h2, by omega⟩, ht6⟩⟩
        · refine ⟨rfl, xs4, gs, 0, 100 + (4 - (i + 1)) * 26, rfl, n0, n5, hd, by decide, by decide, ht5.mono (by have : pU (0 + 1) = 5 := (by decide); omega), fun f xs5 h1 h2 h3 ht6 => ?_⟩
          obtain ⟨k1, k2, k3⟩ := prune_ok f h1
          exact ⟨rfl, f, rfl, h1, pruneF f, xs5, s2, rfl, es2, ⟨k1, by omega, by omega⟩, ht6⟩
      rintro _ ⟨a, xs5, s2', rfl, es3, hao, ht6⟩
      refine ⟨⟨_, rfl⟩, ?_⟩
      refine ⟨_, rfl, szl (by rw [List.length_map]; omega), rfl, ?_⟩
      refine ⟨as ++ [a], xs5, s2', .d (.int (0 + (i : Int))), .d a.d, by rw [List.map_append]; rfl, es3, by rw [List.length_append, ha]; rfl, fun z hz => ?_, ht6⟩
      rcases List.mem_append.mp hz with z1 | z1
      · exact has z z1
      · rw [List.mem_singleton.mp z1]; exact hao
    · rintro Γ ⟨as, xs', s2, b6, b7, rfl, es2, ha, has, ht4⟩
      have ha : as.length = 4 := ha
      exact ⟨as, _, _, _, _, rfl, ha, has⟩
  rintro _ ⟨as, b0, b2, b6, b7, rfl, ha, has⟩
  exact ⟨rfl, [.d _, .d _, .d (.list (ks.map PyData.int)), .d (.list (as.map Fm.d))], .cons (.inl rfl) (.cons (.inl rfl) (.cons (.inr rfl) (.cons (.inr rfl) .nil))), gs, g, ks, as, rfl, n5, hd, gok, gz, gd, by omega, by omega, has, q⟩
abbrev s_law : Stmt := topS 69
theorem sc_law : FnScope ["script", "cells_so", "k"] ["script"] (defScope s_law) := ⟨rfl, rfl, rfl, by decide +kernel, rfl, by decide +kernel, by decide +kernel⟩
def cLaw : CT := fun ss P => ∃ ns : List Int, ss = [.d (scD (ns.map PyData.int))] ∧ ns.length ≤ 63 ∧ P (.d (.bool true)) [.no]
theorem ok_law (B : BI mg) (h__law_by_hand_right : Fnd P w K T mg base 124 "_law_by_hand_right" [] cHand) (h__law_cells : Fnd P w K T mg base 1 "_law_cells" ["script", "most_so"] cCells) (h__law_box : Fnd P w K T mg base 1 "_law_box" ["script", "k"] cBox)
    (h__law_right : Fnd P w K T mg base 124 "_law_right" ["tin"] cRight) (F : Fun K "law" "law" s_law f fd) (b : Binds K fd ["script"] []) (m : mg "law" = some (.ref f)) : Fnd P w K T mg base 125 "law" ["script"] cLaw := by
  refine fn_d F sc_law b m [] (by decide) fun cdv A outer s H E hr => ?_
  refine ⟨_, (dss_cut (ds_if (dt_not (dt_truth (de_call0 (h__law_by_hand_right.mono (by omega)) hr))) (dss_one (ds_ret de_bl)) dss_nil) (dss_cut (ds_set (i := 1) (fun te h => ps_set sc_law.nd rfl (Or.inr rfl) h) (de_call (h__law_cells.mono (by omega)) hr (da_cons (de_var 0 (pv 0)) (da_cons de_int da_nil)))) (dss_one (ds_ret (de_all B.all rfl (da_cons (de_lc (own := [("k", 2)]) rfl sc_law.nd (di_range1 rfl B.range (de_len B.len (da_cons (de_var 1 (pv 1)) da_nil))) (blkOk_by (N := ["script", "cells_so", "k"]) (sc := (defScope s_law)) (by decide +kernel)) (by decide) (fun _ => (dg_name (i := 2) (pg_name sc_law.nd rfl (Or.inl rfl)))) (fun _ => dts_nil) (fun _ => (de_call (h__law_right.mono (by omega)) hr (da_cons (de_call (h__law_box.mono (by omega)) hr (da_cons (de_var 1 (pv 1)) (da_cons (de_var 2 (pv 2)) da_nil))) da_nil)))) da_nil)))))), ?_⟩
  rintro ss Q _ ⟨ns, rfl, hl, q⟩
  refine ⟨fun Γ => Γ = [.d (scD (ns.map PyData.int)), .no, .no], ⟨rfl, rfl, _, rfl, rfl⟩, ?_⟩
  rintro _ rfl
  refine ⟨fun Γ => ∃ (cs : List Int) (a : SV), Γ = [a, .m (cs.map PyData.int), .no] ∧ cs.length ≤ 2, ⟨rfl, ns, 2, rfl, by decide, by decide, by omega, fun cs c1 c2 => ⟨cs, _, rfl, c2⟩⟩, ?_⟩
  rintro _ ⟨cs, a, rfl, c2⟩
  refine ⟨_, rfl, ⟨_, rfl, ⟨by omega, by rw [List.length_map]; omega⟩, ?_⟩⟩
  refine ⟨fun i acc Γ => ∃ bs : List Bool, acc = bs.map PyData.bool ∧ bs.length ≤ i ∧ bs.all id = true ∧ Γ = [a, .m (cs.map PyData.int), .no], ⟨[], rfl, Nat.le_refl _, rfl, rfl⟩, ?_, ?_⟩
  · rintro i x acc Γ hx ⟨bs, rfl, b1, b2, rfl⟩
    obtain ⟨hi, rfl⟩ := rgD_get hx
    rw [Int.toNat_natCast, List.length_map] at hi
    refine ⟨rfl, cs, i, ?_, by omega, fun xs ht => ⟨rfl, xs, rfl, ht, ?_⟩⟩
    · rw [Int.zero_add]; rfl
    exact ⟨_, rfl, szl (by rw [List.length_map]; omega), bs ++ [true], by rw [List.map_append]; rfl, by rw [List.length_append]; simp; omega, by rw [List.all_append, b2]; rfl, rfl⟩
  · rintro acc Γ ⟨bs, rfl, b1, b2, rfl⟩
    refine ⟨bs, rfl, ?_⟩
    rw [b2]
    exact q
end

section
variable {P : Program} {w : World} {K : PySem.W.Frag} {mg : Str → Option Value} {base : Heap}
set_option maxHeartbeats 4000001 in
theorem chain55 {P1 o1 : Addr} {a0 : Addr} {a1 : Addr} {d1 : FuncData} {a2 : Addr} {d2 : FuncData} {a3 : Addr} {d3 : FuncData} {a4 : Addr} {d4 : FuncData} {a5 : Addr} {d5 : FuncData} {a6 : Addr} {d6 : FuncData} {a7 : Addr} {d7 : FuncData} {a8 : Addr} {d8 : FuncData} {a9 : Addr} {d9 : FuncData} {a10 : Addr} {d10 : FuncData} {a11 : Addr} {d11 : FuncData} {a12 : Addr} {d12 : FuncData} {a13 : Addr} {d13 : FuncData} {a14 : Addr} {d14 : FuncData} {a15 : Addr} {d15 : FuncData} {a16 : Addr} {d16 : FuncData} {a17 : Addr} {d17 : FuncData} {a18 : Addr} {d18 : FuncData} {a19 : Addr} {d19 : FuncData} {a20 : Addr} {d20 : FuncData} {a21 : Addr} {d21 : FuncData} {a22 : Addr} {d22 : FuncData} {a23 : Addr} {d23 : FuncData} {a24 : Addr} {d24 : FuncData} {a25 : Addr} {d25 : FuncData} {a26 : Addr} {d26 : FuncData} {a27 : Addr} {d27 : FuncData} {a28 : Addr} {d28 : FuncData} {a29 : Addr} {d29 : FuncData} {a30 : Addr} {d30 : FuncData} {a31 : Addr} {d31 : FuncData} {a32 : Addr} {d32 : FuncData} {a33 : Addr} {d33 : FuncData} {a34 : Addr} {d34 : FuncData} {a35 : Addr} {d35 : FuncData} {a36 : Addr} {d36 : FuncData} {a37 : Addr} {d37 : FuncData} {a38 : Addr} {d38 : FuncData} {a39 : Addr} {d39 : FuncData} {a40 : Addr} {d40 : FuncData} {a41 : Addr} {d41 : FuncData} {a42 : Addr} {d42 : FuncData} {a43 : Addr} {d43 : FuncData} {a44 : Addr} {d44 : FuncData} {a45 : Addr} {d45 : FuncData} {a46 : Addr} {d46 : FuncData} {a47 : Addr} {d47 : FuncData} {a48 : Addr} {d48 : FuncData} {a49 : Addr} {d49 : FuncData} {a50 : Addr} {d50 : FuncData} {a51 : Addr} {d51 : FuncData} {a52 : Addr} {d52 : FuncData} {a53 : Addr} {d53 : FuncData} {a54 : Addr} {d54 : FuncData} {a55 : Addr} {d55 : FuncData} {a56 : Addr} {d56 : FuncData} {a57 : Addr} {d57 : FuncData} {a58 : Addr} {d58 : FuncData} {a59 : Addr} {d59 : FuncData} {a60 : Addr} {d60 : FuncData} {a61 : Addr} {d61 : FuncData} (B : BI mg) (O : ConstAt K mg "OPEN" (.tuple [])) (N : NumF K mg a0 s_is_number)
    (t1 : GxR.TabB base mg o1 P1)
    (F1 : FunC K "is_numbers" "is_numbers" s_is_numbers a1 d1 o1) (b1 : Binds K d1 ["thing"] []) (m1 : mg "is_numbers" = some (.ref a1))
    (F2 : Fun K "tupled" "tupled" s_tupled a2 d2) (b2 : Binds K d2 ["given"] []) (m2 : mg "tupled" = some (.ref a2))
    (F3 : Fun K "spots" "spots" s_spots a3 d3) (b3 : Binds K d3 ["form"] []) (m3 : mg "spots" = some (.ref a3))
    (F4 : Fun K "spots_from_below" "spots_from_below" s_spots_from_below a4 d4) (b4 : Binds K d4 ["form"] []) (m4 : mg "spots_from_below" = some (.ref a4))
    (F5 : Fun K "over_last" "over_last" s_over_last a5 d5) (b5 : Binds K d5 ["part", "done"] []) (m5 : mg "over_last" = some (.ref a5))
    (F6 : Fun K "part_at" "part_at" s_part_at a6 d6) (b6 : Binds K d6 ["form", "place"] []) (m6 : mg "part_at" = some (.ref a6))
    (F7 : Fun K "standing_at" "standing_at" s_standing_at a7 d7) (b7 : Binds K d7 ["form", "place"] []) (m7 : mg "standing_at" = some (.ref a7))
    (F8 : Fun K "put_all" "put_all" s_put_all a8 d8) (b8 : Binds K d8 ["form", "table"] []) (m8 : mg "put_all" = some (.ref a8))
    (F9 : Fun K "own_sign" "own_sign" s_own_sign a9 d9) (b9 : Binds K d9 ["form"] []) (m9 : mg "own_sign" = some (.ref a9))
    (F10 : Fun K "open_in" "open_in" s_open_in a10 d10) (b10 : Binds K d10 ["form"] []) (m10 : mg "open_in" = some (.ref a10))
    (F11 : Fun K "lies" "lies" s_lies a11 d11) (b11 : Binds K d11 ["form", "other"] []) (m11 : mg "lies" = some (.ref a11))
    (F12 : Fun K "agree" "agree" s_agree a12 d12) (b12 : Binds K d12 ["form", "other"] []) (m12 : mg "agree" = some (.ref a12))
    (F13 : Fun K "first_fitting" "first_fitting" s_first_fitting a13 d13) (b13 : Binds K d13 ["sides", "form"] []) (m13 : mg "first_fitting" = some (.ref a13))
    (F14 : Fun K "first_agreeing" "first_agreeing" s_first_agreeing a14 d14) (b14 : Binds K d14 ["sides", "form"] []) (m14 : mg "first_agreeing" = some (.ref a14))
    (F15 : Fun K "pass_from_below" "pass_from_below" s_pass_from_below a15 d15) (b15 : Binds K d15 ["sides", "form"] []) (m15 : mg "pass_from_below" = some (.ref a15))
    (F16 : Fun K "blot_of" "blot_of" s_blot_of a16 d16) (b16 : Binds K d16 ["sides", "form"] []) (m16 : mg "blot_of" = some (.ref a16))
    (F17 : Fun K "blot" "blot" s_blot a17 d17) (b17 : Binds K d17 ["sides", "form"] []) (m17 : mg "blot" = some (.ref a17))
    (F18 : Fun K "is_below" "is_below" s_is_below a18 d18) (b18 : Binds K d18 ["place", "other"] []) (m18 : mg "is_below" = some (.ref a18))
    (F19 : Fun K "_due_in" "_due_in" s__due_in a19 d19) (b19 : Binds K d19 ["sides", "form"] []) (m19 : mg "_due_in" = some (.ref a19))
    (F20 : Fun K "due_places" "due_places" s_due_places a20 d20) (b20 : Binds K d20 ["sides", "form"] []) (m20 : mg "due_places" = some (.ref a20))
    (F21 : Fun K "is_standing" "is_standing" s_is_standing a21 d21) (b21 : Binds K d21 ["sides", "form"] []) (m21 : mg "is_standing" = some (.ref a21))
    (F22 : Fun K "is_ended" "is_ended" s_is_ended a22 d22) (b22 : Binds K d22 ["sides", "form"] []) (m22 : mg "is_ended" = some (.ref a22))
    (F23 : Fun K "outermost_due" "outermost_due" s_outermost_due a23 d23) (b23 : Binds K d23 ["sides", "form"] []) (m23 : mg "outermost_due" = some (.ref a23))
    (F24 : Fun K "skeleton" "skeleton" s_skeleton a24 d24) (b24 : Binds K d24 ["sides", "form"] []) (m24 : mg "skeleton" = some (.ref a24))
    (F25 : Fun K "tasks" "tasks" s_tasks a25 d25) (b25 : Binds K d25 ["sides", "form"] []) (m25 : mg "tasks" = some (.ref a25))
    (F26 : Fun K "_can_call_for" "_can_call_for" s__can_call_for a26 d26) (b26 : Binds K d26 ["sides", "part"] []) (m26 : mg "_can_call_for" = some (.ref a26))
    (F27 : Fun K "can_call" "can_call" s_can_call a27 d27) (b27 : Binds K d27 ["sides", "form", "place"] []) (m27 : mg "can_call" = some (.ref a27))
    (F28 : Fun K "called" "called" s_called a28 d28) (b28 : Binds K d28 ["sides", "form", "place", "answer"] []) (m28 : mg "called" = some (.ref a28))
    (F29 : Fun K "_law_box" "_law_box" s__law_box a29 d29) (b29 : Binds K d29 ["script", "k"] []) (m29 : mg "_law_box" = some (.ref a29))
    (F30 : Fun K "_law_take" "_law_take" s__law_take a30 d30) (b30 : Binds K d30 ["tin", "below_so"] []) (m30 : mg "_law_take" = some (.ref a30))
    (F31 : Fun K "_law_cells" "_law_cells" s__law_cells a31 d31) (b31 : Binds K d31 ["script", "most_so"] []) (m31 : mg "_law_cells" = some (.ref a31))
    (F32 : Fun K "_law_of" "_law_of" s__law_of a32 d32) (b32 : Binds K d32 ["tin", "goods_so"] []) (m32 : mg "_law_of" = some (.ref a32))
    (F33 : Fun K "_law_pick" "_law_pick" s__law_pick a33 d33) (b33 : Binds K d33 ["tin", "goods_so", "count_so"] []) (m33 : mg "_law_pick" = some (.ref a33))
    (F34 : Fun K "_law_lists" "_law_lists" s__law_lists a34 d34) (b34 : Binds K d34 ["matter"] []) (m34 : mg "_law_lists" = some (.ref a34))
    (F35 : Fun K "_law_same" "_law_same" s__law_same a35 d35) (b35 : Binds K d35 ["got", "due"] []) (m35 : mg "_law_same" = some (.ref a35))
    (F36 : Fun K "_law_spots" "_law_spots" s__law_spots a36 d36) (b36 : Binds K d36 ["leaf"] []) (m36 : mg "_law_spots" = some (.ref a36))
    (F37 : Fun K "_law_at" "_law_at" s__law_at a37 d37) (b37 : Binds K d37 ["leaf", "spot_so"] []) (m37 : mg "_law_at" = some (.ref a37))
    (F38 : Fun K "_law_put" "_law_put" s__law_put a38 d38) (b38 : Binds K d38 ["leaf", "spot_so", "fresh_so"] []) (m38 : mg "_law_put" = some (.ref a38))
    (F39 : Fun K "_law_opens" "_law_opens" s__law_opens a39 d39) (b39 : Binds K d39 ["leaf"] []) (m39 : mg "_law_opens" = some (.ref a39))
    (F40 : Fun K "_law_lies" "_law_lies" s__law_lies a40 d40) (b40 : Binds K d40 ["one_so", "two_so"] []) (m40 : mg "_law_lies" = some (.ref a40))
    (F41 : Fun K "_law_agree" "_law_agree" s__law_agree a41 d41) (b41 : Binds K d41 ["one_so", "two_so"] []) (m41 : mg "_law_agree" = some (.ref a41))
    (F42 : Fun K "_law_bits" "_law_bits" s__law_bits a42 d42) (b42 : Binds K d42 ["page_so"] []) (m42 : mg "_law_bits" = some (.ref a42))
    (F43 : Fun K "_law_touched" "_law_touched" s__law_touched a43 d43) (b43 : Binds K d43 ["page_so", "leaf"] []) (m43 : mg "_law_touched" = some (.ref a43))
    (F44 : Fun K "_law_blot" "_law_blot" s__law_blot a44 d44) (b44 : Binds K d44 ["page_so", "leaf"] []) (m44 : mg "_law_blot" = some (.ref a44))
    (F45 : Fun K "_law_fits" "_law_fits" s__law_fits a45 d45) (b45 : Binds K d45 ["page_so", "leaf"] []) (m45 : mg "_law_fits" = some (.ref a45))
    (F46 : Fun K "_law_dues" "_law_dues" s__law_dues a46 d46) (b46 : Binds K d46 ["page_so", "leaf"] []) (m46 : mg "_law_dues" = some (.ref a46))
    (F47 : Fun K "_law_bone" "_law_bone" s__law_bone a47 d47) (b47 : Binds K d47 ["page_so", "leaf"] []) (m47 : mg "_law_bone" = some (.ref a47))
    (F48 : Fun K "_law_leaf" "_law_leaf" s__law_leaf a48 d48) (b48 : Binds K d48 ["tin", "signs_so", "fuel_so", "deep_so"] []) (m48 : mg "_law_leaf" = some (.ref a48))
    (F49 : Fun K "_law_great" "_law_great" s__law_great a49 d49) (b49 : Binds K d49 ["tin", "signs_so", "fuel_so", "deep_so"] []) (m49 : mg "_law_great" = some (.ref a49))
    (F50 : Fun K "_law_side" "_law_side" s__law_side a50 d50) (b50 : Binds K d50 ["tin"] []) (m50 : mg "_law_side" = some (.ref a50))
    (F51 : Fun K "_law_page" "_law_page" s__law_page a51 d51) (b51 : Binds K d51 ["tin", "many_so"] []) (m51 : mg "_law_page" = some (.ref a51))
    (F52 : Fun K "_law_three" "_law_three" s__law_three a52 d52) (b52 : Binds K d52 [] []) (m52 : mg "_law_three" = some (.ref a52))
    (F53 : Fun K "_law_signs_of" "_law_signs_of" s__law_signs_of a53 d53) (b53 : Binds K d53 ["page_so"] []) (m53 : mg "_law_signs_of" = some (.ref a53))
    (F54 : Fun K "_law_near" "_law_near" s__law_near a54 d54) (b54 : Binds K d54 ["tin", "page_so", "deep_so"] []) (m54 : mg "_law_near" = some (.ref a54))
    (F55 : Fun K "_law_full" "_law_full" s__law_full a55 d55) (b55 : Binds K d55 ["leaf", "word_so"] []) (m55 : mg "_law_full" = some (.ref a55))
    (F56 : Fun K "_law_stage_right" "_law_stage_right" s__law_stage_right a56 d56) (b56 : Binds K d56 ["page_so", "leaf"] []) (m56 : mg "_law_stage_right" = some (.ref a56))
    (F57 : Fun K "_law_trip_right" "_law_trip_right" s__law_trip_right a57 d57) (b57 : Binds K d57 ["page_so", "leaf", "picks_so", "answers_so"] []) (m57 : mg "_law_trip_right" = some (.ref a57))
    (F58 : Fun K "_law_by_hand_right" "_law_by_hand_right" s__law_by_hand_right a58 d58) (b58 : Binds K d58 [] []) (m58 : mg "_law_by_hand_right" = some (.ref a58))
    (F59 : Fun K "_law_right" "_law_right" s__law_right a59 d59) (b59 : Binds K d59 ["tin"] []) (m59 : mg "_law_right" = some (.ref a59))
    (F60 : Fun K "_law_pruned" "_law_pruned" s__law_pruned a60 d60) (b60 : Binds K d60 ["leaf"] []) (m60 : mg "_law_pruned" = some (.ref a60))
    (F61 : Fun K "law" "law" s_law a61 d61) (b61 : Binds K d61 ["script"] []) (m61 : mg "law" = some (.ref a61))
    (T : Tbs) (p1 : P1 ∈ T.1) : Fnd P w K T mg base 125 "law" ["script"] cLaw := by
  have h1 := fun T : Tbs => ok_own_sign (T := T) (P := P) (w := w) (base := base) B O F9 b9 m9
  have h2 := fun T : Tbs => ok_tupled (T := T) (P := P) (w := w) (base := base) B F2 b2 m2
  have h3 := fun T : Tbs => ok_spots_from_below (T := T) (P := P) (w := w) (base := base) B F4 b4 m4
  have h4 := fun T : Tbs => ok_over_last (T := T) (P := P) (w := w) (base := base) B O F5 b5 m5
  have h5 := fun T : Tbs => ok_agree (T := T) (P := P) (w := w) (base := base) B O (h1 T) F12 b12 m12
  have h6 := fun T : Tbs => ok_first_agreeing (T := T) (P := P) (w := w) (base := base) B O (h5 T) F14 b14 m14
  have h7 := fun T : Tbs => ok_pass_from_below (T := T) (P := P) (w := w) (base := base) B O (h3 T) (h4 T) (h6 T) F15 b15 m15
  have h8 := fun T : Tbs => ok_blot_of (T := T) (P := P) (w := w) (base := base) B O (h7 T) F16 b16 m16
  have h10 := fun T : Tbs => ok_blot (T := T) (P := P) (w := w) (base := base) B (h8 T) (h2 T) F17 b17 m17
  have h11 := fun T : Tbs => ok_spots (T := T) (P := P) (w := w) (base := base) B F3 b3 m3
  have h12 := fun T : Tbs => ok_lies (T := T) (P := P) (w := w) (base := base) B O (h1 T) F11 b11 m11
  have h13 := fun T : Tbs => ok_first_fitting (T := T) (P := P) (w := w) (base := base) B (h12 T) F13 b13 m13
  have h14 := fun T : Tbs => ok_open_in (T := T) (P := P) (w := w) (base := base) B O (h11 T) F10 b10 m10
  have h15 := fun T : Tbs => ok_put_all (T := T) (P := P) (w := w) (base := base) B (h3 T) (h4 T) F8 b8 m8
  have h17 := fun T : Tbs => ok__due_in (T := T) (P := P) (w := w) (base := base) B (h11 T) (h13 T) F19 b19 m19
  have h18 := fun T : Tbs => ok_due_places (T := T) (P := P) (w := w) (base := base) B (h17 T) (h2 T) F20 b20 m20
  have h19 := fun T : Tbs => ok_is_standing (T := T) (P := P) (w := w) (base := base) B (h18 T) F21 b21 m21
  have h20 := fun T : Tbs => ok_is_ended (T := T) (P := P) (w := w) (base := base) B (h19 T) (h14 T) (h2 T) F22 b22 m22
  have h21 := fun T : Tbs => ok__can_call_for (T := T) (P := P) (w := w) (base := base) B O (h13 T) F26 b26 m26
  have h22 := fun T : Tbs => ok_is_below (T := T) (P := P) (w := w) (base := base) B F18 b18 m18
  have h23 := fun T : Tbs => ok_outermost_due (T := T) (P := P) (w := w) (base := base) B (h18 T) (h22 T) F23 b23 m23
  have h24 := fun T : Tbs => ok_skeleton (T := T) (P := P) (w := w) (base := base) B O (h23 T) (h15 T) (h2 T) F24 b24 m24
  have h25 := fun T : Tbs => ok_tasks (T := T) (P := P) (w := w) (base := base) B (h24 T) (h14 T) F25 b25 m25
  have g1 := ok_is_numbers (T := T) (P := P) (w := w) (base := base) B N p1 F1 b1 m1 t1
  have g3 := ok_part_at (T := T) (P := P) (w := w) (base := base) B g1 F6 b6 m6
  have g4 := ok_standing_at (T := T) (P := P) (w := w) (base := base) B g3 F7 b7 m7
  have g5 := ok_can_call (T := T) (P := P) (w := w) (base := base) B (h21 T) (h2 T) g4 F27 b27 m27
  have g6 := ok_called (T := T) (P := P) (w := w) (base := base) B g5 (h15 T) (h2 T) F28 b28 m28
  have l1 := fun T : Tbs => ok__law_take (T := T) (P := P) (w := w) (base := base) B F30 b30 m30
  have l2 := fun T : Tbs => ok__law_of (T := T) (P := P) (w := w) (base := base) B (l1 T) F32 b32 m32
  have l3 := fun T : Tbs => ok__law_box (T := T) (P := P) (w := w) (base := base) B F29 b29 m29
  have l4 := fun T : Tbs => ok__law_cells (T := T) (P := P) (w := w) (base := base) B F31 b31 m31
  have l5 := fun T : Tbs => ok__law_lists (T := T) (P := P) (w := w) (base := base) B F34 b34 m34 62
  have l6 := fun T : Tbs => ok__law_same (T := T) (P := P) (w := w) (base := base) B F35 b35 m35 62
  have l7 := fun T : Tbs => ok__law_spots (T := T) (P := P) (w := w) (base := base) B F36 b36 m36 60
  have l8 := fun T : Tbs => ok__law_at (T := T) (P := P) (w := w) (base := base) B F37 b37 m37
  have l9 := fun T : Tbs => ok__law_put (T := T) (P := P) (w := w) (base := base) B F38 b38 m38 60
  have l10 := fun T : Tbs => ok__law_agree (T := T) (P := P) (w := w) (base := base) B F41 b41 m41 60
  have l11 := fun T : Tbs => ok__law_touched (T := T) (P := P) (w := w) (base := base) B (l10 T) F43 b43 m43
  have l14 := fun T : Tbs => ok__law_blot (T := T) (P := P) (w := w) (base := base) B (l11 T) (l8 T) (l7 T) (l9 T) F44 b44 m44
  have l15 := fun T : Tbs => ok__law_pick (T := T) (P := P) (w := w) (base := base) B (l1 T) F33 b33 m33
  have l16 := fun T : Tbs => ok__law_three (T := T) (P := P) (w := w) (base := base) B F52 b52 m52
  have l17 := fun T : Tbs => ok__law_side (T := T) (P := P) (w := w) (base := base) B (l2 T) F50 b50 m50
  have l18 := fun T : Tbs => ok__law_leaf (T := T) (P := P) (w := w) (base := base) B (l1 T) (l2 T) F48 b48 m48 3
  have l19 := fun T : Tbs => ok__law_great (T := T) (P := P) (w := w) (base := base) B 3 (l2 T) (l18 T) F49 b49 m49
  have l20 := fun T : Tbs => ok__law_bits (T := T) (P := P) (w := w) (base := base) B ((l7 T).mono (by decide)) (l8 T) F42 b42 m42
  have l21 := Fnd.keep l20
  have l22 := fun T : Tbs => ok__law_page (T := T) (P := P) (w := w) (base := base) B (l1 T) (l2 T) (l17 T) (l21 T) F51 b51 m51
  have l23 := fun T : Tbs => ok__law_signs_of (T := T) (P := P) (w := w) (base := base) B (l21 T) F53 b53 m53
  have l24 := fun T : Tbs => ok__law_near (T := T) (P := P) (w := w) (base := base) B (l2 T) (l7 T) (l15 T) (l9 T) F54 b54 m54 2
  have l25 := fun T : Tbs => ok__law_lies (T := T) (P := P) (w := w) (base := base) B F40 b40 m40 60
  have l26 := fun T : Tbs => ok__law_opens (T := T) (P := P) (w := w) (base := base) B (l7 T) (l8 T) F39 b39 m39
  have l27 := fun T : Tbs => ok__law_fits (T := T) (P := P) (w := w) (base := base) B (l25 T) F45 b45 m45
  have l28 := fun T : Tbs => ok__law_dues (T := T) (P := P) (w := w) (base := base) B (l7 T) (l8 T) (l27 T) F46 b46 m46
  have l29 := fun T : Tbs => ok__law_bone (T := T) (P := P) (w := w) (base := base) B (l27 T) F47 b47 m47 60
  have l30 := fun T : Tbs => ok__law_full (T := T) (P := P) (w := w) (base := base) B (l26 T) (l9 T) F55 b55 m55
  have l31 := fun T : Tbs => ok__law_pruned (T := T) (P := P) (w := w) (base := base) B F60 b60 m60
  have g7 := ok__law_stage_right (T := T) (P := P) (w := w) (base := base) B (l14 T) (l5 T) (l29 T) (Fnd.keep h10 T) (Fnd.keep h24 T) (h25 T) (l26 T) (l30 T) (h20 T) (l28 T) (l7 T) g5 (l6 T).soft F56 b56 m56
  have g8 := ok__law_trip_right (T := T) (P := P) (w := w) (base := base) B g7 (l26 T) (l28 T) (Fnd.keep h10 T) g6.soft (l5 T) (l9 T) (Fnd.keep l6 T) (l14 T) (l25 T) F57 b57 m57
  have g9 := ok__law_by_hand_right (T := T) (P := P) (w := w) (base := base) B (l16 T) (h10 T) g6 (h25 T) (h24 T) (h20 T) (l6 T).soft g8.soft F58 b58 m58
  have g10 := ok__law_right (T := T) (P := P) (w := w) (base := base) B (l1 T) (l16 T) (l22 T) (l23 T) (l24 T) (l19 T) (l18 T) (l31 T) g8.soft F59 b59 m59
  exact ok_law (T := T) (P := P) (w := w) (base := base) B g9 (l4 T) (l3 T) g10 F61 b61 m61
end
/-- what law(script) promises -/
def spEnd (K : PySem.W.Frag) (Ps : List Addr) : Sp := fun vs H Q _ => ∃ (a : Addr) (ns : List Int), vs = [.ref a] ∧ (∀ P ∈ Ps, GxR.TabG H P) ∧ SqL K H a (ns.map V.int) ∧ ns.length ≤ 63 ∧ ∀ H', Q (.bl true) H'
theorem sp_end {K : PySem.W.Frag} {Ps : List Addr} {vs : List V} {H : Hp} {Q : VK} {E : XK} (h : spEnd K Ps vs H Q E) : spOf (K, ((Ps, []) : Tbs)) 1 cLaw vs H Q E := by
  obtain ⟨a, ns, rfl, on, sq, hl, q⟩ := h
  have e0 : ∀ s : SV, (∃ x, s = .d x) → ads (tmpS [V.ref a] [s] ++ []) = [] := fun s ⟨x, e⟩ => by subst e; rfl
  have fin : ∀ (s : SV) (ss' : List SV) (v : V) (H' : Hp), (s = .d (.bool true) ∧ ss' = [.no]) → ss'.length = 1 → Hs (K, ((Ps, []) : Tbs)) H' ((some v, s) :: (tmpS [V.ref a] ss' ++ [])) → Q v H' := fun s ss' v H' ⟨e, e2⟩ _ hs => by
    subst e e2
    have d := hs.get_d
    cases d
    exact q H'
  refine ⟨rfl, [.d (scD (ns.map PyData.int))], [], fun s ss' => s = .d (.bool true) ∧ ss' = [.no], rfl, ⟨by rw [e0 _ ⟨_, rfl⟩]; exact List.nodup_nil, fun p hp => ?_, on, (fun _ z => by cases z)⟩, ⟨ns, rfl, hl, rfl, rfl⟩, fun s ss' v H' p l hs => fin s ss' v H' p l hs⟩
  have ep : p = (some (V.ref a), SV.d (scD (ns.map PyData.int))) := by simpa [tmpS] using hp
  subst ep
  rw [e0 _ ⟨_, rfl⟩, hid_nil]
  exact .scr sq (.ints ns)
theorem tab_in {K : PySem.W.Frag} {x : Str} {f c P : Addr} {oc e : Value} {od dd : Option Addr} {fd : FuncData} {osl sl : Array (Option Value)} {vs : Array Value} (h1 : PySem.W.nsIn K mainGlobals x = some (some (.ref f))) (h2 : K.lookup f = some ⟨oc, od, .func fd, osl⟩) (h3 : fd.code = .ref c)
    (h4 : K.lookup c = some ⟨e, dd, .fields vs, sl⟩) (h5 : vs[11]? = some (.ref P)) : PySem.W.tabIn K x = some (c, P) := by
  unfold PySem.W.tabIn
  rw [h1]
  dsimp only
  rw [h2]
  dsimp only
  rw [h3]
  dsimp only
  rw [h4]
  dsimp only
  rw [h5]
/-- the table of is_numbers: the code object is written out, it itself is empty -/
def TwoT (K : PySem.W.Frag) (h : Heap) : Prop := ∀ (x : Str) (c P : Addr), x = "is_numbers" → PySem.W.tabIn K x = some (c, P) → PySem.W.CodeHd h c P ∧ h.get? P = some { cls := .none, data := .fields #[] }

section
open PySem.W
set_option maxHeartbeats 16000001 in
theorem all_mk55 {l : PySem.W.OpenLaw} {w : World} {K : PySem.W.Frag} {h : Heap} {mg : Str → Option Value} {fa : Addr} (X : K.In h) (G : h.Ns mainGlobals mg) (hfa : mg "law" = some (.ref fa)) (TT : TwoT K h) {P1 o1 : Addr}
    {f0 : Addr} {od0 an0 : Option Addr} {sl0 : Array (Option Value)} {oc0 kV0 dc0 pm0 cd0 ct0 : Value}
    (a0 : PySem.W.nsIn K mainGlobals "is_number" = some (some (.ref f0))) (l0 : K.lookup f0 = some ⟨oc0, od0, .func (PySem.W.fnOf "is_number" "is_number" (defArgs s_is_number) (defBody s_is_number) (defScope s_is_number) .none kV0 dc0 pm0 an0 cd0 ct0), sl0⟩) (c0 : PySem.W.codeIn K cd0 "is_number" = true) (k0 : PySem.W.keepIn K (.ref f0) = true)
    {f1 : Addr} {od1 an1 : Option Addr} {sl1 : Array (Option Value)} {oc1 kV1 dc1 pm1 ct1 : Value}
    (a1 : PySem.W.nsIn K mainGlobals "is_numbers" = some (some (.ref f1))) (l1 : K.lookup f1 = some ⟨oc1, od1, .func (PySem.W.fnOf "is_numbers" "is_numbers" (defArgs s_is_numbers) (defBody s_is_numbers) (defScope s_is_numbers) .none kV1 dc1 pm1 an1 (.ref o1) ct1), sl1⟩) (c1 : PySem.W.codeIn K (.ref o1) "is_numbers" = true) (k1 : PySem.W.keepIn K (.ref f1) = true)
    {f2 : Addr} {od2 an2 : Option Addr} {sl2 : Array (Option Value)} {oc2 kV2 dc2 pm2 cd2 ct2 : Value}
    (a2 : PySem.W.nsIn K mainGlobals "tupled" = some (some (.ref f2))) (l2 : K.lookup f2 = some ⟨oc2, od2, .func (PySem.W.fnOf "tupled" "tupled" (defArgs s_tupled) (defBody s_tupled) (defScope s_tupled) .none kV2 dc2 pm2 an2 cd2 ct2), sl2⟩) (c2 : PySem.W.codeIn K cd2 "tupled" = true) (k2 : PySem.W.keepIn K (.ref f2) = true)
    {f3 : Addr} {od3 an3 : Option Addr} {sl3 : Array (Option Value)} {oc3 kV3 dc3 pm3 cd3 ct3 : Value}
    (a3 : PySem.W.nsIn K mainGlobals "spots" = some (some (.ref f3))) (l3 : K.lookup f3 = some ⟨oc3, od3, .func (PySem.W.fnOf "spots" "spots" (defArgs s_spots) (defBody s_spots) (defScope s_spots) .none kV3 dc3 pm3 an3 cd3 ct3), sl3⟩) (c3 : PySem.W.codeIn K cd3 "spots" = true) (k3 : PySem.W.keepIn K (.ref f3) = true)
    {f4 : Addr} {od4 an4 : Option Addr} {sl4 : Array (Option Value)} {oc4 kV4 dc4 pm4 cd4 ct4 : Value}
    (a4 : PySem.W.nsIn K mainGlobals "spots_from_below" = some (some (.ref f4))) (l4 : K.lookup f4 = some ⟨oc4, od4, .func (PySem.W.fnOf "spots_from_below" "spots_from_below" (defArgs s_spots_from_below) (defBody s_spots_from_below) (defScope s_spots_from_below) .none kV4 dc4 pm4 an4 cd4 ct4), sl4⟩) (c4 : PySem.W.codeIn K cd4 "spots_from_below" = true) (k4 : PySem.W.keepIn K (.ref f4) = true)
    {f5 : Addr} {od5 an5 : Option Addr} {sl5 : Array (Option Value)} {oc5 kV5 dc5 pm5 cd5 ct5 : Value}
    (a5 : PySem.W.nsIn K mainGlobals "over_last" = some (some (.ref f5))) (l5 : K.lookup f5 = some ⟨oc5, od5, .func (PySem.W.fnOf "over_last" "over_last" (defArgs s_over_last) (defBody s_over_last) (defScope s_over_last) .none kV5 dc5 pm5 an5 cd5 ct5), sl5⟩) (c5 : PySem.W.codeIn K cd5 "over_last" = true) (k5 : PySem.W.keepIn K (.ref f5) = true)
    {f6 : Addr} {od6 an6 : Option Addr} {sl6 : Array (Option Value)} {oc6 kV6 dc6 pm6 cd6 ct6 : Value}
    (a6 : PySem.W.nsIn K mainGlobals "part_at" = some (some (.ref f6))) (l6 : K.lookup f6 = some ⟨oc6, od6, .func (PySem.W.fnOf "part_at" "part_at" (defArgs s_part_at) (defBody s_part_at) (defScope s_part_at) .none kV6 dc6 pm6 an6 cd6 ct6), sl6⟩) (c6 : PySem.W.codeIn K cd6 "part_at" = true) (k6 : PySem.W.keepIn K (.ref f6) = true)
    {f7 : Addr} {od7 an7 : Option Addr} {sl7 : Array (Option Value)} {oc7 kV7 dc7 pm7 cd7 ct7 : Value}
    (a7 : PySem.W.nsIn K mainGlobals "standing_at" = some (some (.ref f7))) (l7 : K.lookup f7 = some ⟨oc7, od7, .func (PySem.W.fnOf "standing_at" "standing_at" (defArgs s_standing_at) (defBody s_standing_at) (defScope s_standing_at) .none kV7 dc7 pm7 an7 cd7 ct7), sl7⟩) (c7 : PySem.W.codeIn K cd7 "standing_at" = true) (k7 : PySem.W.keepIn K (.ref f7) = true)
    {f8 : Addr} {od8 an8 : Option Addr} {sl8 : Array (Option Value)} {oc8 kV8 dc8 pm8 cd8 ct8 : Value}
    (a8 : PySem.W.nsIn K mainGlobals "put_all" = some (some (.ref f8))) (l8 : K.lookup f8 = some ⟨oc8, od8, .func (PySem.W.fnOf "put_all" "put_all" (defArgs s_put_all) (defBody s_put_all) (defScope s_put_all) .none kV8 dc8 pm8 an8 cd8 ct8), sl8⟩) (c8 : PySem.W.codeIn K cd8 "put_all" = true) (k8 : PySem.W.keepIn K (.ref f8) = true)
    {f9 : Addr} {od9 an9 : Option Addr} {sl9 : Array (Option Value)} {oc9 kV9 dc9 pm9 cd9 ct9 : Value}
    (a9 : PySem.W.nsIn K mainGlobals "own_sign" = some (some (.ref f9))) (l9 : K.lookup f9 = some ⟨oc9, od9, .func (PySem.W.fnOf "own_sign" "own_sign" (defArgs s_own_sign) (defBody s_own_sign) (defScope s_own_sign) .none kV9 dc9 pm9 an9 cd9 ct9), sl9⟩) (c9 : PySem.W.codeIn K cd9 "own_sign" = true) (k9 : PySem.W.keepIn K (.ref f9) = true)
    {f10 : Addr} {od10 an10 : Option Addr} {sl10 : Array (Option Value)} {oc10 kV10 dc10 pm10 cd10 ct10 : Value}
    (a10 : PySem.W.nsIn K mainGlobals "open_in" = some (some (.ref f10))) (l10 : K.lookup f10 = some ⟨oc10, od10, .func (PySem.W.fnOf "open_in" "open_in" (defArgs s_open_in) (defBody s_open_in) (defScope s_open_in) .none kV10 dc10 pm10 an10 cd10 ct10), sl10⟩) (c10 : PySem.W.codeIn K cd10 "open_in" = true) (k10 : PySem.W.keepIn K (.ref f10) = true)
    {f11 : Addr} {od11 an11 : Option Addr} {sl11 : Array (Option Value)} {oc11 kV11 dc11 pm11 cd11 ct11 : Value}
    (a11 : PySem.W.nsIn K mainGlobals "lies" = some (some (.ref f11))) (l11 : K.lookup f11 = some ⟨oc11, od11, .func (PySem.W.fnOf "lies" "lies" (defArgs s_lies) (defBody s_lies) (defScope s_lies) .none kV11 dc11 pm11 an11 cd11 ct11), sl11⟩) (c11 : PySem.W.codeIn K cd11 "lies" = true) (k11 : PySem.W.keepIn K (.ref f11) = true)
    {f12 : Addr} {od12 an12 : Option Addr} {sl12 : Array (Option Value)} {oc12 kV12 dc12 pm12 cd12 ct12 : Value}
    (a12 : PySem.W.nsIn K mainGlobals "agree" = some (some (.ref f12))) (l12 : K.lookup f12 = some ⟨oc12, od12, .func (PySem.W.fnOf "agree" "agree" (defArgs s_agree) (defBody s_agree) (defScope s_agree) .none kV12 dc12 pm12 an12 cd12 ct12), sl12⟩) (c12 : PySem.W.codeIn K cd12 "agree" = true) (k12 : PySem.W.keepIn K (.ref f12) = true)
    {f13 : Addr} {od13 an13 : Option Addr} {sl13 : Array (Option Value)} {oc13 kV13 dc13 pm13 cd13 ct13 : Value}
    (a13 : PySem.W.nsIn K mainGlobals "first_fitting" = some (some (.ref f13))) (l13 : K.lookup f13 = some ⟨oc13, od13, .func (PySem.W.fnOf "first_fitting" "first_fitting" (defArgs s_first_fitting) (defBody s_first_fitting) (defScope s_first_fitting) .none kV13 dc13 pm13 an13 cd13 ct13), sl13⟩) (c13 : PySem.W.codeIn K cd13 "first_fitting" = true) (k13 : PySem.W.keepIn K (.ref f13) = true)
    {f14 : Addr} {od14 an14 : Option Addr} {sl14 : Array (Option Value)} {oc14 kV14 dc14 pm14 cd14 ct14 : Value}
    (a14 : PySem.W.nsIn K mainGlobals "first_agreeing" = some (some (.ref f14))) (l14 : K.lookup f14 = some ⟨oc14, od14, .func (PySem.W.fnOf "first_agreeing" "first_agreeing" (defArgs s_first_agreeing) (defBody s_first_agreeing) (defScope s_first_agreeing) .none kV14 dc14 pm14 an14 cd14 ct14), sl14⟩) (c14 : PySem.W.codeIn K cd14 "first_agreeing" = true) (k14 : PySem.W.keepIn K (.ref f14) = true)
    {f15 : Addr} {od15 an15 : Option Addr} {sl15 : Array (Option Value)} {oc15 kV15 dc15 pm15 cd15 ct15 : Value}
    (a15 : PySem.W.nsIn K mainGlobals "pass_from_below" = some (some (.ref f15))) (l15 : K.lookup f15 = some ⟨oc15, od15, .func (PySem.W.fnOf "pass_from_below" "pass_from_below" (defArgs s_pass_from_below) (defBody s_pass_from_below) (defScope s_pass_from_below) .none kV15 dc15 pm15 an15 cd15 ct15), sl15⟩) (c15 : PySem.W.codeIn K cd15 "pass_from_below" = true) (k15 : PySem.W.keepIn K (.ref f15) = true)
    {f16 : Addr} {od16 an16 : Option Addr} {sl16 : Array (Option Value)} {oc16 kV16 dc16 pm16 cd16 ct16 : Value}
    (a16 : PySem.W.nsIn K mainGlobals "blot_of" = some (some (.ref f16))) (l16 : K.lookup f16 = some ⟨oc16, od16, .func (PySem.W.fnOf "blot_of" "blot_of" (defArgs s_blot_of) (defBody s_blot_of) (defScope s_blot_of) .none kV16 dc16 pm16 an16 cd16 ct16), sl16⟩) (c16 : PySem.W.codeIn K cd16 "blot_of" = true) (k16 : PySem.W.keepIn K (.ref f16) = true)
    {f17 : Addr} {od17 an17 : Option Addr} {sl17 : Array (Option Value)} {oc17 kV17 dc17 pm17 cd17 ct17 : Value}
    (a17 : PySem.W.nsIn K mainGlobals "blot" = some (some (.ref f17))) (l17 : K.lookup f17 = some ⟨oc17, od17, .func (PySem.W.fnOf "blot" "blot" (defArgs s_blot) (defBody s_blot) (defScope s_blot) .none kV17 dc17 pm17 an17 cd17 ct17), sl17⟩) (c17 : PySem.W.codeIn K cd17 "blot" = true) (k17 : PySem.W.keepIn K (.ref f17) = true)
    {f18 : Addr} {od18 an18 : Option Addr} {sl18 : Array (Option Value)} {oc18 kV18 dc18 pm18 cd18 ct18 : Value}
    (a18 : PySem.W.nsIn K mainGlobals "is_below" = some (some (.ref f18))) (l18 : K.lookup f18 = some ⟨oc18, od18, .func (PySem.W.fnOf "is_below" "is_below" (defArgs s_is_below) (defBody s_is_below) (defScope s_is_below) .none kV18 dc18 pm18 an18 cd18 ct18), sl18⟩) (c18 : PySem.W.codeIn K cd18 "is_below" = true) (k18 : PySem.W.keepIn K (.ref f18) = true)
    {f19 : Addr} {od19 an19 : Option Addr} {sl19 : Array (Option Value)} {oc19 kV19 dc19 pm19 cd19 ct19 : Value}
    (a19 : PySem.W.nsIn K mainGlobals "_due_in" = some (some (.ref f19))) (l19 : K.lookup f19 = some ⟨oc19, od19, .func (PySem.W.fnOf "_due_in" "_due_in" (defArgs s__due_in) (defBody s__due_in) (defScope s__due_in) .none kV19 dc19 pm19 an19 cd19 ct19), sl19⟩) (c19 : PySem.W.codeIn K cd19 "_due_in" = true) (k19 : PySem.W.keepIn K (.ref f19) = true)
    {f20 : Addr} {od20 an20 : Option Addr} {sl20 : Array (Option Value)} {oc20 kV20 dc20 pm20 cd20 ct20 : Value}
    (a20 : PySem.W.nsIn K mainGlobals "due_places" = some (some (.ref f20))) (l20 : K.lookup f20 = some ⟨oc20, od20, .func (PySem.W.fnOf "due_places" "due_places" (defArgs s_due_places) (defBody s_due_places) (defScope s_due_places) .none kV20 dc20 pm20 an20 cd20 ct20), sl20⟩) (c20 : PySem.W.codeIn K cd20 "due_places" = true) (k20 : PySem.W.keepIn K (.ref f20) = true)
    {f21 : Addr} {od21 an21 : Option Addr} {sl21 : Array (Option Value)} {oc21 kV21 dc21 pm21 cd21 ct21 : Value}
    (a21 : PySem.W.nsIn K mainGlobals "is_standing" = some (some (.ref f21))) (l21 : K.lookup f21 = some ⟨oc21, od21, .func (PySem.W.fnOf "is_standing" "is_standing" (defArgs s_is_standing) (defBody s_is_standing) (defScope s_is_standing) .none kV21 dc21 pm21 an21 cd21 ct21), sl21⟩) (c21 : PySem.W.codeIn K cd21 "is_standing" = true) (k21 : PySem.W.keepIn K (.ref f21) = true)
    {f22 : Addr} {od22 an22 : Option Addr} {sl22 : Array (Option Value)} {oc22 kV22 dc22 pm22 cd22 ct22 : Value}
    (a22 : PySem.W.nsIn K mainGlobals "is_ended" = some (some (.ref f22))) (l22 : K.lookup f22 = some ⟨oc22, od22, .func (PySem.W.fnOf "is_ended" "is_ended" (defArgs s_is_ended) (defBody s_is_ended) (defScope s_is_ended) .none kV22 dc22 pm22 an22 cd22 ct22), sl22⟩) (c22 : PySem.W.codeIn K cd22 "is_ended" = true) (k22 : PySem.W.keepIn K (.ref f22) = true)
    {f23 : Addr} {od23 an23 : Option Addr} {sl23 : Array (Option Value)} {oc23 kV23 dc23 pm23 cd23 ct23 : Value}
    (a23 : PySem.W.nsIn K mainGlobals "outermost_due" = some (some (.ref f23))) (l23 : K.lookup f23 = some ⟨oc23, od23, .func (PySem.W.fnOf "outermost_due" "outermost_due" (defArgs s_outermost_due) (defBody s_outermost_due) (defScope s_outermost_due) .none kV23 dc23 pm23 an23 cd23 ct23), sl23⟩) (c23 : PySem.W.codeIn K cd23 "outermost_due" = true) (k23 : PySem.W.keepIn K (.ref f23) = true)
    {f24 : Addr} {od24 an24 : Option Addr} {sl24 : Array (Option Value)} {oc24 kV24 dc24 pm24 cd24 ct24 : Value}
    (a24 : PySem.W.nsIn K mainGlobals "skeleton" = some (some (.ref f24))) (l24 : K.lookup f24 = some ⟨oc24, od24, .func (PySem.W.fnOf "skeleton" "skeleton" (defArgs s_skeleton) (defBody s_skeleton) (defScope s_skeleton) .none kV24 dc24 pm24 an24 cd24 ct24), sl24⟩) (c24 : PySem.W.codeIn K cd24 "skeleton" = true) (k24 : PySem.W.keepIn K (.ref f24) = true)
    {f25 : Addr} {od25 an25 : Option Addr} {sl25 : Array (Option Value)} {oc25 kV25 dc25 pm25 cd25 ct25 : Value}
    (a25 : PySem.W.nsIn K mainGlobals "tasks" = some (some (.ref f25))) (l25 : K.lookup f25 = some ⟨oc25, od25, .func (PySem.W.fnOf "tasks" "tasks" (defArgs s_tasks) (defBody s_tasks) (defScope s_tasks) .none kV25 dc25 pm25 an25 cd25 ct25), sl25⟩) (c25 : PySem.W.codeIn K cd25 "tasks" = true) (k25 : PySem.W.keepIn K (.ref f25) = true)
    {f26 : Addr} {od26 an26 : Option Addr} {sl26 : Array (Option Value)} {oc26 kV26 dc26 pm26 cd26 ct26 : Value}
    (a26 : PySem.W.nsIn K mainGlobals "_can_call_for" = some (some (.ref f26))) (l26 : K.lookup f26 = some ⟨oc26, od26, .func (PySem.W.fnOf "_can_call_for" "_can_call_for" (defArgs s__can_call_for) (defBody s__can_call_for) (defScope s__can_call_for) .none kV26 dc26 pm26 an26 cd26 ct26), sl26⟩) (c26 : PySem.W.codeIn K cd26 "_can_call_for" = true) (k26 : PySem.W.keepIn K (.ref f26) = true)
    {f27 : Addr} {od27 an27 : Option Addr} {sl27 : Array (Option Value)} {oc27 kV27 dc27 pm27 cd27 ct27 : Value}
    (a27 : PySem.W.nsIn K mainGlobals "can_call" = some (some (.ref f27))) (l27 : K.lookup f27 = some ⟨oc27, od27, .func (PySem.W.fnOf "can_call" "can_call" (defArgs s_can_call) (defBody s_can_call) (defScope s_can_call) .none kV27 dc27 pm27 an27 cd27 ct27), sl27⟩) (c27 : PySem.W.codeIn K cd27 "can_call" = true) (k27 : PySem.W.keepIn K (.ref f27) = true)
    {f28 : Addr} {od28 an28 : Option Addr} {sl28 : Array (Option Value)} {oc28 kV28 dc28 pm28 cd28 ct28 : Value}
    (a28 : PySem.W.nsIn K mainGlobals "called" = some (some (.ref f28))) (l28 : K.lookup f28 = some ⟨oc28, od28, .func (PySem.W.fnOf "called" "called" (defArgs s_called) (defBody s_called) (defScope s_called) .none kV28 dc28 pm28 an28 cd28 ct28), sl28⟩) (c28 : PySem.W.codeIn K cd28 "called" = true) (k28 : PySem.W.keepIn K (.ref f28) = true)
    {f29 : Addr} {od29 an29 : Option Addr} {sl29 : Array (Option Value)} {oc29 kV29 dc29 pm29 cd29 ct29 : Value}
    (a29 : PySem.W.nsIn K mainGlobals "_law_box" = some (some (.ref f29))) (l29 : K.lookup f29 = some ⟨oc29, od29, .func (PySem.W.fnOf "_law_box" "_law_box" (defArgs s__law_box) (defBody s__law_box) (defScope s__law_box) .none kV29 dc29 pm29 an29 cd29 ct29), sl29⟩) (c29 : PySem.W.codeIn K cd29 "_law_box" = true) (k29 : PySem.W.keepIn K (.ref f29) = true)
    {f30 : Addr} {od30 an30 : Option Addr} {sl30 : Array (Option Value)} {oc30 kV30 dc30 pm30 cd30 ct30 : Value}
    (a30 : PySem.W.nsIn K mainGlobals "_law_take" = some (some (.ref f30))) (l30 : K.lookup f30 = some ⟨oc30, od30, .func (PySem.W.fnOf "_law_take" "_law_take" (defArgs s__law_take) (defBody s__law_take) (defScope s__law_take) .none kV30 dc30 pm30 an30 cd30 ct30), sl30⟩) (c30 : PySem.W.codeIn K cd30 "_law_take" = true) (k30 : PySem.W.keepIn K (.ref f30) = true)
    {f31 : Addr} {od31 an31 : Option Addr} {sl31 : Array (Option Value)} {oc31 kV31 dc31 pm31 cd31 ct31 : Value}
    (a31 : PySem.W.nsIn K mainGlobals "_law_cells" = some (some (.ref f31))) (l31 : K.lookup f31 = some ⟨oc31, od31, .func (PySem.W.fnOf "_law_cells" "_law_cells" (defArgs s__law_cells) (defBody s__law_cells) (defScope s__law_cells) .none kV31 dc31 pm31 an31 cd31 ct31), sl31⟩) (c31 : PySem.W.codeIn K cd31 "_law_cells" = true) (k31 : PySem.W.keepIn K (.ref f31) = true)
    {f32 : Addr} {od32 an32 : Option Addr} {sl32 : Array (Option Value)} {oc32 kV32 dc32 pm32 cd32 ct32 : Value}
    (a32 : PySem.W.nsIn K mainGlobals "_law_of" = some (some (.ref f32))) (l32 : K.lookup f32 = some ⟨oc32, od32, .func (PySem.W.fnOf "_law_of" "_law_of" (defArgs s__law_of) (defBody s__law_of) (defScope s__law_of) .none kV32 dc32 pm32 an32 cd32 ct32), sl32⟩) (c32 : PySem.W.codeIn K cd32 "_law_of" = true) (k32 : PySem.W.keepIn K (.ref f32) = true)
    {f33 : Addr} {od33 an33 : Option Addr} {sl33 : Array (Option Value)} {oc33 kV33 dc33 pm33 cd33 ct33 : Value}
    (a33 : PySem.W.nsIn K mainGlobals "_law_pick" = some (some (.ref f33))) (l33 : K.lookup f33 = some ⟨oc33, od33, .func (PySem.W.fnOf "_law_pick" "_law_pick" (defArgs s__law_pick) (defBody s__law_pick) (defScope s__law_pick) .none kV33 dc33 pm33 an33 cd33 ct33), sl33⟩) (c33 : PySem.W.codeIn K cd33 "_law_pick" = true) (k33 : PySem.W.keepIn K (.ref f33) = true)
    {f34 : Addr} {od34 an34 : Option Addr} {sl34 : Array (Option Value)} {oc34 kV34 dc34 pm34 cd34 ct34 : Value}
    (a34 : PySem.W.nsIn K mainGlobals "_law_lists" = some (some (.ref f34))) (l34 : K.lookup f34 = some ⟨oc34, od34, .func (PySem.W.fnOf "_law_lists" "_law_lists" (defArgs s__law_lists) (defBody s__law_lists) (defScope s__law_lists) .none kV34 dc34 pm34 an34 cd34 ct34), sl34⟩) (c34 : PySem.W.codeIn K cd34 "_law_lists" = true) (k34 : PySem.W.keepIn K (.ref f34) = true)
    {f35 : Addr} {od35 an35 : Option Addr} {sl35 : Array (Option Value)} {oc35 kV35 dc35 pm35 cd35 ct35 : Value}
    (a35 : PySem.W.nsIn K mainGlobals "_law_same" = some (some (.ref f35))) (l35 : K.lookup f35 = some ⟨oc35, od35, .func (PySem.W.fnOf "_law_same" "_law_same" (defArgs s__law_same) (defBody s__law_same) (defScope s__law_same) .none kV35 dc35 pm35 an35 cd35 ct35), sl35⟩) (c35 : PySem.W.codeIn K cd35 "_law_same" = true) (k35 : PySem.W.keepIn K (.ref f35) = true)
    {f36 : Addr} {od36 an36 : Option Addr} {sl36 : Array (Option Value)} {oc36 kV36 dc36 pm36 cd36 ct36 : Value}
    (a36 : PySem.W.nsIn K mainGlobals "_law_spots" = some (some (.ref f36))) (l36 : K.lookup f36 = some ⟨oc36, od36, .func (PySem.W.fnOf "_law_spots" "_law_spots" (defArgs s__law_spots) (defBody s__law_spots) (defScope s__law_spots) .none kV36 dc36 pm36 an36 cd36 ct36), sl36⟩) (c36 : PySem.W.codeIn K cd36 "_law_spots" = true) (k36 : PySem.W.keepIn K (.ref f36) = true)
    {f37 : Addr} {od37 an37 : Option Addr} {sl37 : Array (Option Value)} {oc37 kV37 dc37 pm37 cd37 ct37 : Value}
    (a37 : PySem.W.nsIn K mainGlobals "_law_at" = some (some (.ref f37))) (l37 : K.lookup f37 = some ⟨oc37, od37, .func (PySem.W.fnOf "_law_at" "_law_at" (defArgs s__law_at) (defBody s__law_at) (defScope s__law_at) .none kV37 dc37 pm37 an37 cd37 ct37), sl37⟩) (c37 : PySem.W.codeIn K cd37 "_law_at" = true) (k37 : PySem.W.keepIn K (.ref f37) = true)
    {f38 : Addr} {od38 an38 : Option Addr} {sl38 : Array (Option Value)} {oc38 kV38 dc38 pm38 cd38 ct38 : Value}
    (a38 : PySem.W.nsIn K mainGlobals "_law_put" = some (some (.ref f38))) (l38 : K.lookup f38 = some ⟨oc38, od38, .func (PySem.W.fnOf "_law_put" "_law_put" (defArgs s__law_put) (defBody s__law_put) (defScope s__law_put) .none kV38 dc38 pm38 an38 cd38 ct38), sl38⟩) (c38 : PySem.W.codeIn K cd38 "_law_put" = true) (k38 : PySem.W.keepIn K (.ref f38) = true)
    {f39 : Addr} {od39 an39 : Option Addr} {sl39 : Array (Option Value)} {oc39 kV39 dc39 pm39 cd39 ct39 : Value}
    (a39 : PySem.W.nsIn K mainGlobals "_law_opens" = some (some (.ref f39))) (l39 : K.lookup f39 = some ⟨oc39, od39, .func (PySem.W.fnOf "_law_opens" "_law_opens" (defArgs s__law_opens) (defBody s__law_opens) (defScope s__law_opens) .none kV39 dc39 pm39 an39 cd39 ct39), sl39⟩) (c39 : PySem.W.codeIn K cd39 "_law_opens" = true) (k39 : PySem.W.keepIn K (.ref f39) = true)
    {f40 : Addr} {od40 an40 : Option Addr} {sl40 : Array (Option Value)} {oc40 kV40 dc40 pm40 cd40 ct40 : Value}
    (a40 : PySem.W.nsIn K mainGlobals "_law_lies" = some (some (.ref f40))) (l40 : K.lookup f40 = some ⟨oc40, od40, .func (PySem.W.fnOf "_law_lies" "_law_lies" (defArgs s__law_lies) (defBody s__law_lies) (defScope s__law_lies) .none kV40 dc40 pm40 an40 cd40 ct40), sl40⟩) (c40 : PySem.W.codeIn K cd40 "_law_lies" = true) (k40 : PySem.W.keepIn K (.ref f40) = true)
    {f41 : Addr} {od41 an41 : Option Addr} {sl41 : Array (Option Value)} {oc41 kV41 dc41 pm41 cd41 ct41 : Value}
    (a41 : PySem.W.nsIn K mainGlobals "_law_agree" = some (some (.ref f41))) (l41 : K.lookup f41 = some ⟨oc41, od41, .func (PySem.W.fnOf "_law_agree" "_law_agree" (defArgs s__law_agree) (defBody s__law_agree) (defScope s__law_agree) .none kV41 dc41 pm41 an41 cd41 ct41), sl41⟩) (c41 : PySem.W.codeIn K cd41 "_law_agree" = true) (k41 : PySem.W.keepIn K (.ref f41) = true)
    {f42 : Addr} {od42 an42 : Option Addr} {sl42 : Array (Option Value)} {oc42 kV42 dc42 pm42 cd42 ct42 : Value}
    (a42 : PySem.W.nsIn K mainGlobals "_law_bits" = some (some (.ref f42))) (l42 : K.lookup f42 = some ⟨oc42, od42, .func (PySem.W.fnOf "_law_bits" "_law_bits" (defArgs s__law_bits) (defBody s__law_bits) (defScope s__law_bits) .none kV42 dc42 pm42 an42 cd42 ct42), sl42⟩) (c42 : PySem.W.codeIn K cd42 "_law_bits" = true) (k42 : PySem.W.keepIn K (.ref f42) = true)
    {f43 : Addr} {od43 an43 : Option Addr} {sl43 : Array (Option Value)} {oc43 kV43 dc43 pm43 cd43 ct43 : Value}
    (a43 : PySem.W.nsIn K mainGlobals "_law_touched" = some (some (.ref f43))) (l43 : K.lookup f43 = some ⟨oc43, od43, .func (PySem.W.fnOf "_law_touched" "_law_touched" (defArgs s__law_touched) (defBody s__law_touched) (defScope s__law_touched) .none kV43 dc43 pm43 an43 cd43 ct43), sl43⟩) (c43 : PySem.W.codeIn K cd43 "_law_touched" = true) (k43 : PySem.W.keepIn K (.ref f43) = true)
    {f44 : Addr} {od44 an44 : Option Addr} {sl44 : Array (Option Value)} {oc44 kV44 dc44 pm44 cd44 ct44 : Value}
    (a44 : PySem.W.nsIn K mainGlobals "_law_blot" = some (some (.ref f44))) (l44 : K.lookup f44 = some ⟨oc44, od44, .func (PySem.W.fnOf "_law_blot" "_law_blot" (defArgs s__law_blot) (defBody s__law_blot) (defScope s__law_blot) .none kV44 dc44 pm44 an44 cd44 ct44), sl44⟩) (c44 : PySem.W.codeIn K cd44 "_law_blot" = true) (k44 : PySem.W.keepIn K (.ref f44) = true)
    {f45 : Addr} {od45 an45 : Option Addr} {sl45 : Array (Option Value)} {oc45 kV45 dc45 pm45 cd45 ct45 : Value}
    (a45 : PySem.W.nsIn K mainGlobals "_law_fits" = some (some (.ref f45))) (l45 : K.lookup f45 = some ⟨oc45, od45, .func (PySem.W.fnOf "_law_fits" "_law_fits" (defArgs s__law_fits) (defBody s__law_fits) (defScope s__law_fits) .none kV45 dc45 pm45 an45 cd45 ct45), sl45⟩) (c45 : PySem.W.codeIn K cd45 "_law_fits" = true) (k45 : PySem.W.keepIn K (.ref f45) = true)
    {f46 : Addr} {od46 an46 : Option Addr} {sl46 : Array (Option Value)} {oc46 kV46 dc46 pm46 cd46 ct46 : Value}
    (a46 : PySem.W.nsIn K mainGlobals "_law_dues" = some (some (.ref f46))) (l46 : K.lookup f46 = some ⟨oc46, od46, .func (PySem.W.fnOf "_law_dues" "_law_dues" (defArgs s__law_dues) (defBody s__law_dues) (defScope s__law_dues) .none kV46 dc46 pm46 an46 cd46 ct46), sl46⟩) (c46 : PySem.W.codeIn K cd46 "_law_dues" = true) (k46 : PySem.W.keepIn K (.ref f46) = true)
    {f47 : Addr} {od47 an47 : Option Addr} {sl47 : Array (Option Value)} {oc47 kV47 dc47 pm47 cd47 ct47 : Value}
    (a47 : PySem.W.nsIn K mainGlobals "_law_bone" = some (some (.ref f47))) (l47 : K.lookup f47 = some ⟨oc47, od47, .func (PySem.W.fnOf "_law_bone" "_law_bone" (defArgs s__law_bone) (defBody s__law_bone) (defScope s__law_bone) .none kV47 dc47 pm47 an47 cd47 ct47), sl47⟩) (c47 : PySem.W.codeIn K cd47 "_law_bone" = true) (k47 : PySem.W.keepIn K (.ref f47) = true)
    {f48 : Addr} {od48 an48 : Option Addr} {sl48 : Array (Option Value)} {oc48 kV48 dc48 pm48 cd48 ct48 : Value}
    (a48 : PySem.W.nsIn K mainGlobals "_law_leaf" = some (some (.ref f48))) (l48 : K.lookup f48 = some ⟨oc48, od48, .func (PySem.W.fnOf "_law_leaf" "_law_leaf" (defArgs s__law_leaf) (defBody s__law_leaf) (defScope s__law_leaf) .none kV48 dc48 pm48 an48 cd48 ct48), sl48⟩) (c48 : PySem.W.codeIn K cd48 "_law_leaf" = true) (k48 : PySem.W.keepIn K (.ref f48) = true)
    {f49 : Addr} {od49 an49 : Option Addr} {sl49 : Array (Option Value)} {oc49 kV49 dc49 pm49 cd49 ct49 : Value}
    (a49 : PySem.W.nsIn K mainGlobals "_law_great" = some (some (.ref f49))) (l49 : K.lookup f49 = some ⟨oc49, od49, .func (PySem.W.fnOf "_law_great" "_law_great" (defArgs s__law_great) (defBody s__law_great) (defScope s__law_great) .none kV49 dc49 pm49 an49 cd49 ct49), sl49⟩) (c49 : PySem.W.codeIn K cd49 "_law_great" = true) (k49 : PySem.W.keepIn K (.ref f49) = true)
    {f50 : Addr} {od50 an50 : Option Addr} {sl50 : Array (Option Value)} {oc50 kV50 dc50 pm50 cd50 ct50 : Value}
    (a50 : PySem.W.nsIn K mainGlobals "_law_side" = some (some (.ref f50))) (l50 : K.lookup f50 = some ⟨oc50, od50, .func (PySem.W.fnOf "_law_side" "_law_side" (defArgs s__law_side) (defBody s__law_side) (defScope s__law_side) .none kV50 dc50 pm50 an50 cd50 ct50), sl50⟩) (c50 : PySem.W.codeIn K cd50 "_law_side" = true) (k50 : PySem.W.keepIn K (.ref f50) = true)
    {f51 : Addr} {od51 an51 : Option Addr} {sl51 : Array (Option Value)} {oc51 kV51 dc51 pm51 cd51 ct51 : Value}
    (a51 : PySem.W.nsIn K mainGlobals "_law_page" = some (some (.ref f51))) (l51 : K.lookup f51 = some ⟨oc51, od51, .func (PySem.W.fnOf "_law_page" "_law_page" (defArgs s__law_page) (defBody s__law_page) (defScope s__law_page) .none kV51 dc51 pm51 an51 cd51 ct51), sl51⟩) (c51 : PySem.W.codeIn K cd51 "_law_page" = true) (k51 : PySem.W.keepIn K (.ref f51) = true)
    {f52 : Addr} {od52 an52 : Option Addr} {sl52 : Array (Option Value)} {oc52 kV52 dc52 pm52 cd52 ct52 : Value}
    (a52 : PySem.W.nsIn K mainGlobals "_law_three" = some (some (.ref f52))) (l52 : K.lookup f52 = some ⟨oc52, od52, .func (PySem.W.fnOf "_law_three" "_law_three" (defArgs s__law_three) (defBody s__law_three) (defScope s__law_three) .none kV52 dc52 pm52 an52 cd52 ct52), sl52⟩) (c52 : PySem.W.codeIn K cd52 "_law_three" = true) (k52 : PySem.W.keepIn K (.ref f52) = true)
    {f53 : Addr} {od53 an53 : Option Addr} {sl53 : Array (Option Value)} {oc53 kV53 dc53 pm53 cd53 ct53 : Value}
    (a53 : PySem.W.nsIn K mainGlobals "_law_signs_of" = some (some (.ref f53))) (l53 : K.lookup f53 = some ⟨oc53, od53, .func (PySem.W.fnOf "_law_signs_of" "_law_signs_of" (defArgs s__law_signs_of) (defBody s__law_signs_of) (defScope s__law_signs_of) .none kV53 dc53 pm53 an53 cd53 ct53), sl53⟩) (c53 : PySem.W.codeIn K cd53 "_law_signs_of" = true) (k53 : PySem.W.keepIn K (.ref f53) = true)
    {f54 : Addr} {od54 an54 : Option Addr} {sl54 : Array (Option Value)} {oc54 kV54 dc54 pm54 cd54 ct54 : Value}
    (a54 : PySem.W.nsIn K mainGlobals "_law_near" = some (some (.ref f54))) (l54 : K.lookup f54 = some ⟨oc54, od54, .func (PySem.W.fnOf "_law_near" "_law_near" (defArgs s__law_near) (defBody s__law_near) (defScope s__law_near) .none kV54 dc54 pm54 an54 cd54 ct54), sl54⟩) (c54 : PySem.W.codeIn K cd54 "_law_near" = true) (k54 : PySem.W.keepIn K (.ref f54) = true)
    {f55 : Addr} {od55 an55 : Option Addr} {sl55 : Array (Option Value)} {oc55 kV55 dc55 pm55 cd55 ct55 : Value}
    (a55 : PySem.W.nsIn K mainGlobals "_law_full" = some (some (.ref f55))) (l55 : K.lookup f55 = some ⟨oc55, od55, .func (PySem.W.fnOf "_law_full" "_law_full" (defArgs s__law_full) (defBody s__law_full) (defScope s__law_full) .none kV55 dc55 pm55 an55 cd55 ct55), sl55⟩) (c55 : PySem.W.codeIn K cd55 "_law_full" = true) (k55 : PySem.W.keepIn K (.ref f55) = true)
    {f56 : Addr} {od56 an56 : Option Addr} {sl56 : Array (Option Value)} {oc56 kV56 dc56 pm56 cd56 ct56 : Value}
    (a56 : PySem.W.nsIn K mainGlobals "_law_stage_right" = some (some (.ref f56))) (l56 : K.lookup f56 = some ⟨oc56, od56, .func (PySem.W.fnOf "_law_stage_right" "_law_stage_right" (defArgs s__law_stage_right) (defBody s__law_stage_right) (defScope s__law_stage_right) .none kV56 dc56 pm56 an56 cd56 ct56), sl56⟩) (c56 : PySem.W.codeIn K cd56 "_law_stage_right" = true) (k56 : PySem.W.keepIn K (.ref f56) = true)
    {f57 : Addr} {od57 an57 : Option Addr} {sl57 : Array (Option Value)} {oc57 kV57 dc57 pm57 cd57 ct57 : Value}
    (a57 : PySem.W.nsIn K mainGlobals "_law_trip_right" = some (some (.ref f57))) (l57 : K.lookup f57 = some ⟨oc57, od57, .func (PySem.W.fnOf "_law_trip_right" "_law_trip_right" (defArgs s__law_trip_right) (defBody s__law_trip_right) (defScope s__law_trip_right) .none kV57 dc57 pm57 an57 cd57 ct57), sl57⟩) (c57 : PySem.W.codeIn K cd57 "_law_trip_right" = true) (k57 : PySem.W.keepIn K (.ref f57) = true)
    {f58 : Addr} {od58 an58 : Option Addr} {sl58 : Array (Option Value)} {oc58 kV58 dc58 pm58 cd58 ct58 : Value}
    (a58 : PySem.W.nsIn K mainGlobals "_law_by_hand_right" = some (some (.ref f58))) (l58 : K.lookup f58 = some ⟨oc58, od58, .func (PySem.W.fnOf "_law_by_hand_right" "_law_by_hand_right" (defArgs s__law_by_hand_right) (defBody s__law_by_hand_right) (defScope s__law_by_hand_right) .none kV58 dc58 pm58 an58 cd58 ct58), sl58⟩) (c58 : PySem.W.codeIn K cd58 "_law_by_hand_right" = true) (k58 : PySem.W.keepIn K (.ref f58) = true)
    {f59 : Addr} {od59 an59 : Option Addr} {sl59 : Array (Option Value)} {oc59 kV59 dc59 pm59 cd59 ct59 : Value}
    (a59 : PySem.W.nsIn K mainGlobals "_law_right" = some (some (.ref f59))) (l59 : K.lookup f59 = some ⟨oc59, od59, .func (PySem.W.fnOf "_law_right" "_law_right" (defArgs s__law_right) (defBody s__law_right) (defScope s__law_right) .none kV59 dc59 pm59 an59 cd59 ct59), sl59⟩) (c59 : PySem.W.codeIn K cd59 "_law_right" = true) (k59 : PySem.W.keepIn K (.ref f59) = true)
    {f60 : Addr} {od60 an60 : Option Addr} {sl60 : Array (Option Value)} {oc60 kV60 dc60 pm60 cd60 ct60 : Value}
    (a60 : PySem.W.nsIn K mainGlobals "_law_pruned" = some (some (.ref f60))) (l60 : K.lookup f60 = some ⟨oc60, od60, .func (PySem.W.fnOf "_law_pruned" "_law_pruned" (defArgs s__law_pruned) (defBody s__law_pruned) (defScope s__law_pruned) .none kV60 dc60 pm60 an60 cd60 ct60), sl60⟩) (c60 : PySem.W.codeIn K cd60 "_law_pruned" = true) (k60 : PySem.W.keepIn K (.ref f60) = true)
    {f61 : Addr} {od61 an61 : Option Addr} {sl61 : Array (Option Value)} {oc61 kV61 dc61 pm61 cd61 ct61 : Value}
    (a61 : PySem.W.nsIn K mainGlobals "law" = some (some (.ref f61))) (l61 : K.lookup f61 = some ⟨oc61, od61, .func (PySem.W.fnOf "law" "law" (defArgs s_law) (defBody s_law) (defScope s_law) .none kV61 dc61 pm61 an61 cd61 ct61), sl61⟩) (c61 : PySem.W.codeIn K cd61 "law" = true) (k61 : PySem.W.keepIn K (.ref f61) = true)
    (z_len : PySem.W.nsIn K mainGlobals "len" = some none)
    (z_int : PySem.W.nsIn K mainGlobals "int" = some none)
    (z_abs : PySem.W.nsIn K mainGlobals "abs" = some none)
    (z_min : PySem.W.nsIn K mainGlobals "min" = some none)
    (z_max : PySem.W.nsIn K mainGlobals "max" = some none)
    (z_tuple : PySem.W.nsIn K mainGlobals "tuple" = some none)
    (z_list : PySem.W.nsIn K mainGlobals "list" = some none)
    (z_bool : PySem.W.nsIn K mainGlobals "bool" = some none)
    (z_str : PySem.W.nsIn K mainGlobals "str" = some none)
    (z_range : PySem.W.nsIn K mainGlobals "range" = some none)
    (z_enumerate : PySem.W.nsIn K mainGlobals "enumerate" = some none)
    (z_zip : PySem.W.nsIn K mainGlobals "zip" = some none)
    (z_reversed : PySem.W.nsIn K mainGlobals "reversed" = some none)
    (z_isinstance : PySem.W.nsIn K mainGlobals "isinstance" = some none)
    (z_all : PySem.W.nsIn K mainGlobals "all" = some none)
    (z_any : PySem.W.nsIn K mainGlobals "any" = some none)
    (z_sorted : PySem.W.nsIn K mainGlobals "sorted" = some none)
    (z_set : PySem.W.nsIn K mainGlobals "set" = some none)
    (z_dict : PySem.W.nsIn K mainGlobals "dict" = some none)
    {fo : Addr} {odo : Option Addr} {no : Nat} {slo : Array (Option Value)} (ao : PySem.W.nsIn K mainGlobals "OPEN" = some (some (.ref fo))) (lo : K.lookup fo = some ⟨.type "tuple", odo, .seq #[] no, slo⟩)
    {e1 : Value} {ed1 : Option Addr} {vs1 : Array Value} {es1 : Array (Option Value)} (y1 : K.lookup o1 = some ⟨e1, ed1, .fields vs1, es1⟩)
    (v1 : vs1[11]? = some (.ref P1)) (n1 : K.lookup P1 = none) :
    LamX.LawAtS l w K CX0 125 63 "script" mg fa h := by
  have e := hfa.symm.trans (PySem.W.mg_of X G a61)
  cases e
  have F1 := funC_mk (st := s_is_numbers) l1 c1 k1
  have b1 := F1.fn.binds (ps := ["thing"]) fun _ _ _ _ _ _ us hl => match us, hl with | [_], _ => rfl
  have F2 := fun_mk (st := s_tupled) l2 c2 k2
  have b2 := F2.binds (ps := ["given"]) fun _ _ _ _ _ _ us hl => match us, hl with | [_], _ => rfl
  have F3 := fun_mk (st := s_spots) l3 c3 k3
  have b3 := F3.binds (ps := ["form"]) fun _ _ _ _ _ _ us hl => match us, hl with | [_], _ => rfl
  have F4 := fun_mk (st := s_spots_from_below) l4 c4 k4
  have b4 := F4.binds (ps := ["form"]) fun _ _ _ _ _ _ us hl => match us, hl with | [_], _ => rfl
  have F5 := fun_mk (st := s_over_last) l5 c5 k5
  have b5 := F5.binds (ps := ["part", "done"]) fun _ _ _ _ _ _ us hl => match us, hl with | [_, _], _ => rfl
  have F6 := fun_mk (st := s_part_at) l6 c6 k6
  have b6 := F6.binds (ps := ["form", "place"]) fun _ _ _ _ _ _ us hl => match us, hl with | [_, _], _ => rfl
  have F7 := fun_mk (st := s_standing_at) l7 c7 k7
  have b7 := F7.binds (ps := ["form", "place"]) fun _ _ _ _ _ _ us hl => match us, hl with | [_, _], _ => rfl
  have F8 := fun_mk (st := s_put_all) l8 c8 k8
  have b8 := F8.binds (ps := ["form", "table"]) fun _ _ _ _ _ _ us hl => match us, hl with | [_, _], _ => rfl
  have F9 := fun_mk (st := s_own_sign) l9 c9 k9
  have b9 := F9.binds (ps := ["form"]) fun _ _ _ _ _ _ us hl => match us, hl with | [_], _ => rfl
  have F10 := fun_mk (st := s_open_in) l10 c10 k10
  have b10 := F10.binds (ps := ["form"]) fun _ _ _ _ _ _ us hl => match us, hl with | [_], _ => rfl
  have F11 := fun_mk (st := s_lies) l11 c11 k11
  have b11 := F11.binds (ps := ["form", "other"]) fun _ _ _ _ _ _ us hl => match us, hl with | [_, _], _ => rfl
  have F12 := fun_mk (st := s_agree) l12 c12 k12
  have b12 := F12.binds (ps := ["form", "other"]) fun _ _ _ _ _ _ us hl => match us, hl with | [_, _], _ => rfl
  have F13 := fun_mk (st := s_first_fitting) l13 c13 k13
  have b13 := F13.binds (ps := ["sides", "form"]) fun _ _ _ _ _ _ us hl => match us, hl with | [_, _], _ => rfl
  have F14 := fun_mk (st := s_first_agreeing) l14 c14 k14
  have b14 := F14.binds (ps := ["sides", "form"]) fun _ _ _ _ _ _ us hl => match us, hl with | [_, _], _ => rfl
  have F15 := fun_mk (st := s_pass_from_below) l15 c15 k15
  have b15 := F15.binds (ps := ["sides", "form"]) fun _ _ _ _ _ _ us hl => match us, hl with | [_, _], _ => rfl
  have F16 := fun_mk (st := s_blot_of) l16 c16 k16
  have b16 := F16.binds (ps := ["sides", "form"]) fun _ _ _ _ _ _ us hl => match us, hl with | [_, _], _ => rfl
  have F17 := fun_mk (st := s_blot) l17 c17 k17
  have b17 := F17.binds (ps := ["sides", "form"]) fun _ _ _ _ _ _ us hl => match us, hl with | [_, _], _ => rfl
  have F18 := fun_mk (st := s_is_below) l18 c18 k18
  have b18 := F18.binds (ps := ["place", "other"]) fun _ _ _ _ _ _ us hl => match us, hl with | [_, _], _ => rfl
  have F19 := fun_mk (st := s__due_in) l19 c19 k19
  have b19 := F19.binds (ps := ["sides", "form"]) fun _ _ _ _ _ _ us hl => match us, hl with | [_, _], _ => rfl
  have F20 := fun_mk (st := s_due_places) l20 c20 k20
  have b20 := F20.binds (ps := ["sides", "form"]) fun _ _ _ _ _ _ us hl => match us, hl with | [_, _], _ => rfl
  have F21 := fun_mk (st := s_is_standing) l21 c21 k21
  have b21 := F21.binds (ps := ["sides", "form"]) fun _ _ _ _ _ _ us hl => match us, hl with | [_, _], _ => rfl
  have F22 := fun_mk (st := s_is_ended) l22 c22 k22
  have b22 := F22.binds (ps := ["sides", "form"]) fun _ _ _ _ _ _ us hl => match us, hl with | [_, _], _ => rfl
  have F23 := fun_mk (st := s_outermost_due) l23 c23 k23
  have b23 := F23.binds (ps := ["sides", "form"]) fun _ _ _ _ _ _ us hl => match us, hl with | [_, _], _ => rfl
  have F24 := fun_mk (st := s_skeleton) l24 c24 k24
  have b24 := F24.binds (ps := ["sides", "form"]) fun _ _ _ _ _ _ us hl => match us, hl with | [_, _], _ => rfl
  have F25 := fun_mk (st := s_tasks) l25 c25 k25
  have b25 := F25.binds (ps := ["sides", "form"]) fun _ _ _ _ _ _ us hl => match us, hl with | [_, _], _ => rfl
  have F26 := fun_mk (st := s__can_call_for) l26 c26 k26
  have b26 := F26.binds (ps := ["sides", "part"]) fun _ _ _ _ _ _ us hl => match us, hl with | [_, _], _ => rfl
  have F27 := fun_mk (st := s_can_call) l27 c27 k27
  have b27 := F27.binds (ps := ["sides", "form", "place"]) fun _ _ _ _ _ _ us hl => match us, hl with | [_, _, _], _ => rfl
  have F28 := fun_mk (st := s_called) l28 c28 k28
  have b28 := F28.binds (ps := ["sides", "form", "place", "answer"]) fun _ _ _ _ _ _ us hl => match us, hl with | [_, _, _, _], _ => rfl
  have F29 := fun_mk (st := s__law_box) l29 c29 k29
  have b29 := F29.binds (ps := ["script", "k"]) fun _ _ _ _ _ _ us hl => match us, hl with | [_, _], _ => rfl
  have F30 := fun_mk (st := s__law_take) l30 c30 k30
  have b30 := F30.binds (ps := ["tin", "below_so"]) fun _ _ _ _ _ _ us hl => match us, hl with | [_, _], _ => rfl
  have F31 := fun_mk (st := s__law_cells) l31 c31 k31
  have b31 := F31.binds (ps := ["script", "most_so"]) fun _ _ _ _ _ _ us hl => match us, hl with | [_, _], _ => rfl
  have F32 := fun_mk (st := s__law_of) l32 c32 k32
  have b32 := F32.binds (ps := ["tin", "goods_so"]) fun _ _ _ _ _ _ us hl => match us, hl with | [_, _], _ => rfl
  have F33 := fun_mk (st := s__law_pick) l33 c33 k33
  have b33 := F33.binds (ps := ["tin", "goods_so", "count_so"]) fun _ _ _ _ _ _ us hl => match us, hl with | [_, _, _], _ => rfl
  have F34 := fun_mk (st := s__law_lists) l34 c34 k34
  have b34 := F34.binds (ps := ["matter"]) fun _ _ _ _ _ _ us hl => match us, hl with | [_], _ => rfl
  have F35 := fun_mk (st := s__law_same) l35 c35 k35
  have b35 := F35.binds (ps := ["got", "due"]) fun _ _ _ _ _ _ us hl => match us, hl with | [_, _], _ => rfl
  have F36 := fun_mk (st := s__law_spots) l36 c36 k36
  have b36 := F36.binds (ps := ["leaf"]) fun _ _ _ _ _ _ us hl => match us, hl with | [_], _ => rfl
  have F37 := fun_mk (st := s__law_at) l37 c37 k37
  have b37 := F37.binds (ps := ["leaf", "spot_so"]) fun _ _ _ _ _ _ us hl => match us, hl with | [_, _], _ => rfl
  have F38 := fun_mk (st := s__law_put) l38 c38 k38
  have b38 := F38.binds (ps := ["leaf", "spot_so", "fresh_so"]) fun _ _ _ _ _ _ us hl => match us, hl with | [_, _, _], _ => rfl
  have F39 := fun_mk (st := s__law_opens) l39 c39 k39
  have b39 := F39.binds (ps := ["leaf"]) fun _ _ _ _ _ _ us hl => match us, hl with | [_], _ => rfl
  have F40 := fun_mk (st := s__law_lies) l40 c40 k40
  have b40 := F40.binds (ps := ["one_so", "two_so"]) fun _ _ _ _ _ _ us hl => match us, hl with | [_, _], _ => rfl
  have F41 := fun_mk (st := s__law_agree) l41 c41 k41
  have b41 := F41.binds (ps := ["one_so", "two_so"]) fun _ _ _ _ _ _ us hl => match us, hl with | [_, _], _ => rfl
  have F42 := fun_mk (st := s__law_bits) l42 c42 k42
  have b42 := F42.binds (ps := ["page_so"]) fun _ _ _ _ _ _ us hl => match us, hl with | [_], _ => rfl
  have F43 := fun_mk (st := s__law_touched) l43 c43 k43
  have b43 := F43.binds (ps := ["page_so", "leaf"]) fun _ _ _ _ _ _ us hl => match us, hl with | [_, _], _ => rfl
  have F44 := fun_mk (st := s__law_blot) l44 c44 k44
  have b44 := F44.binds (ps := ["page_so", "leaf"]) fun _ _ _ _ _ _ us hl => match us, hl with | [_, _], _ => rfl
  have F45 := fun_mk (st := s__law_fits) l45 c45 k45
  have b45 := F45.binds (ps := ["page_so", "leaf"]) fun _ _ _ _ _ _ us hl => match us, hl with | [_, _], _ => rfl
  have F46 := fun_mk (st := s__law_dues) l46 c46 k46
  have b46 := F46.binds (ps := ["page_so", "leaf"]) fun _ _ _ _ _ _ us hl => match us, hl with | [_, _], _ => rfl
  have F47 := fun_mk (st := s__law_bone) l47 c47 k47
  have b47 := F47.binds (ps := ["page_so", "leaf"]) fun _ _ _ _ _ _ us hl => match us, hl with | [_, _], _ => rfl
  have F48 := fun_mk (st := s__law_leaf) l48 c48 k48
  have b48 := F48.binds (ps := ["tin", "signs_so", "fuel_so", "deep_so"]) fun _ _ _ _ _ _ us hl => match us, hl with | [_, _, _, _], _ => rfl
  have F49 := fun_mk (st := s__law_great) l49 c49 k49
  have b49 := F49.binds (ps := ["tin", "signs_so", "fuel_so", "deep_so"]) fun _ _ _ _ _ _ us hl => match us, hl with | [_, _, _, _], _ => rfl
  have F50 := fun_mk (st := s__law_side) l50 c50 k50
  have b50 := F50.binds (ps := ["tin"]) fun _ _ _ _ _ _ us hl => match us, hl with | [_], _ => rfl
  have F51 := fun_mk (st := s__law_page) l51 c51 k51
  have b51 := F51.binds (ps := ["tin", "many_so"]) fun _ _ _ _ _ _ us hl => match us, hl with | [_, _], _ => rfl
  have F52 := fun_mk (st := s__law_three) l52 c52 k52
  have b52 := F52.binds (ps := []) fun _ _ _ _ _ _ us hl => match us, hl with | [], _ => rfl
  have F53 := fun_mk (st := s__law_signs_of) l53 c53 k53
  have b53 := F53.binds (ps := ["page_so"]) fun _ _ _ _ _ _ us hl => match us, hl with | [_], _ => rfl
  have F54 := fun_mk (st := s__law_near) l54 c54 k54
  have b54 := F54.binds (ps := ["tin", "page_so", "deep_so"]) fun _ _ _ _ _ _ us hl => match us, hl with | [_, _, _], _ => rfl
  have F55 := fun_mk (st := s__law_full) l55 c55 k55
  have b55 := F55.binds (ps := ["leaf", "word_so"]) fun _ _ _ _ _ _ us hl => match us, hl with | [_, _], _ => rfl
  have F56 := fun_mk (st := s__law_stage_right) l56 c56 k56
  have b56 := F56.binds (ps := ["page_so", "leaf"]) fun _ _ _ _ _ _ us hl => match us, hl with | [_, _], _ => rfl
  have F57 := fun_mk (st := s__law_trip_right) l57 c57 k57
  have b57 := F57.binds (ps := ["page_so", "leaf", "picks_so", "answers_so"]) fun _ _ _ _ _ _ us hl => match us, hl with | [_, _, _, _], _ => rfl
  have F58 := fun_mk (st := s__law_by_hand_right) l58 c58 k58
  have b58 := F58.binds (ps := []) fun _ _ _ _ _ _ us hl => match us, hl with | [], _ => rfl
  have F59 := fun_mk (st := s__law_right) l59 c59 k59
  have b59 := F59.binds (ps := ["tin"]) fun _ _ _ _ _ _ us hl => match us, hl with | [_], _ => rfl
  have F60 := fun_mk (st := s__law_pruned) l60 c60 k60
  have b60 := F60.binds (ps := ["leaf"]) fun _ _ _ _ _ _ us hl => match us, hl with | [_], _ => rfl
  have F61 := fun_mk (st := s_law) l61 c61 k61
  have b61 := F61.binds (ps := ["script"]) fun _ _ _ _ _ _ us hl => match us, hl with | [_], _ => rfl
  have N : NumF K mg f0 s_is_number := ⟨⟨oc0, od0, kV0, dc0, pm0, an0, cd0, ct0, sl0, l0, c0, fun s u => .of_eq rfl⟩, k0, PySem.W.mg_of X G a0, ⟨_, _, _, _, _, _, _, _, _, _, _, rfl⟩, rfl, rfl, rfl, by decide +kernel, by decide +kernel, by decide +kernel, by decide +kernel, by decide +kernel⟩
  have B : BI mg := ⟨PySem.W.mg_none_of X G z_len, PySem.W.mg_none_of X G z_int, PySem.W.mg_none_of X G z_abs, PySem.W.mg_none_of X G z_min, PySem.W.mg_none_of X G z_max, PySem.W.mg_none_of X G z_tuple, PySem.W.mg_none_of X G z_list, PySem.W.mg_none_of X G z_bool, PySem.W.mg_none_of X G z_str, PySem.W.mg_none_of X G z_range, PySem.W.mg_none_of X G z_enumerate, PySem.W.mg_none_of X G z_zip, PySem.W.mg_none_of X G z_reversed, PySem.W.mg_none_of X G z_isinstance, PySem.W.mg_none_of X G z_all, PySem.W.mg_none_of X G z_any, PySem.W.mg_none_of X G z_sorted, PySem.W.mg_none_of X G z_set, PySem.W.mg_none_of X G z_dict⟩
  have O : ConstAt K mg "OPEN" (.tuple []) := ⟨.ref fo, .ref fo, PySem.W.mg_of X G ao, rfl, fun H => .tup (.inr ⟨_, #[], _, lo, rfl, rfl, by decide, .nil⟩) .nil⟩
  have q1 := TT _ _ _ rfl (tab_in a1 l1 rfl y1 v1)
  refine ⟨PySem.W.fnOf "law" "law" (defArgs s_law) (defBody s_law) (defScope s_law) .none kV61 dc61 pm61 an61 cd61 ct61, [(o1, P1)], spEnd K [P1], fun p hp => ?_, fun p hp => ?_, fun p hp => ?_, fun s v => .of_eq rfl, fun H a ns hl _ hT hS => ?_, fun base hK hN hT => ?_⟩
  · simp only [List.mem_cons, List.mem_nil_iff, or_false] at hp
    subst hp
    exact q1.2
  · simp only [List.mem_cons, List.mem_nil_iff, or_false] at hp
    subst hp
    exact n1
  · simp only [List.mem_cons, List.mem_nil_iff, or_false] at hp
    subst hp
    exact q1.1
  · refine ⟨a, ns, rfl, fun P hP => ?_, hS, hl, fun _ => rfl⟩
    have e : H P = some (.tbl #[]) := by
      simp only [List.mem_cons, List.mem_nil_iff, or_false] at hP
      subst hP
      exact hT (o1, _) List.mem_cons_self
    exact ⟨#[], e, by first | exact .nil | trivial | simp [TriplesOk]⟩
  have t1 := hT (o1, P1) List.mem_cons_self
  obtain ⟨f, fd, g1, _, _, g4, oc, od, osl, g5⟩ := chain55 (P := l.prog) (w := w) (base := base) B O N ⟨t1.code, t1.bm, t1.gP⟩ F1 b1 (PySem.W.mg_of X G a1) F2 b2 (PySem.W.mg_of X G a2) F3 b3 (PySem.W.mg_of X G a3) F4 b4 (PySem.W.mg_of X G a4) F5 b5 (PySem.W.mg_of X G a5) F6 b6 (PySem.W.mg_of X G a6) F7 b7 (PySem.W.mg_of X G a7) F8 b8 (PySem.W.mg_of X G a8) F9 b9 (PySem.W.mg_of X G a9) F10 b10 (PySem.W.mg_of X G a10) F11 b11 (PySem.W.mg_of X G a11) F12 b12 (PySem.W.mg_of X G a12) F13 b13 (PySem.W.mg_of X G a13) F14 b14 (PySem.W.mg_of X G a14) F15 b15 (PySem.W.mg_of X G a15) F16 b16 (PySem.W.mg_of X G a16) F17 b17 (PySem.W.mg_of X G a17) F18 b18 (PySem.W.mg_of X G a18) F19 b19 (PySem.W.mg_of X G a19) F20 b20 (PySem.W.mg_of X G a20) F21 b21 (PySem.W.mg_of X G a21) F22 b22 (PySem.W.mg_of X G a22) F23 b23 (PySem.W.mg_of X G a23) F24 b24 (PySem.W.mg_of X G a24) F25 b25 (PySem.W.mg_of X G a25) F26 b26 (PySem.W.mg_of X G a26) F27 b27 (PySem.W.mg_of X G a27) F28 b28 (PySem.W.mg_of X G a28) F29 b29 (PySem.W.mg_of X G a29) F30 b30 (PySem.W.mg_of X G a30) F31 b31 (PySem.W.mg_of X G a31) F32 b32 (PySem.W.mg_of X G a32) F33 b33 (PySem.W.mg_of X G a33) F34 b34 (PySem.W.mg_of X G a34) F35 b35 (PySem.W.mg_of X G a35) F36 b36 (PySem.W.mg_of X G a36) F37 b37 (PySem.W.mg_of X G a37) F38 b38 (PySem.W.mg_of X G a38) F39 b39 (PySem.W.mg_of X G a39) F40 b40 (PySem.W.mg_of X G a40) F41 b41 (PySem.W.mg_of X G a41) F42 b42 (PySem.W.mg_of X G a42) F43 b43 (PySem.W.mg_of X G a43) F44 b44 (PySem.W.mg_of X G a44) F45 b45 (PySem.W.mg_of X G a45) F46 b46 (PySem.W.mg_of X G a46) F47 b47 (PySem.W.mg_of X G a47) F48 b48 (PySem.W.mg_of X G a48) F49 b49 (PySem.W.mg_of X G a49) F50 b50 (PySem.W.mg_of X G a50) F51 b51 (PySem.W.mg_of X G a51) F52 b52 (PySem.W.mg_of X G a52) F53 b53 (PySem.W.mg_of X G a53) F54 b54 (PySem.W.mg_of X G a54) F55 b55 (PySem.W.mg_of X G a55) F56 b56 (PySem.W.mg_of X G a56) F57 b57 (PySem.W.mg_of X G a57) F58 b58 (PySem.W.mg_of X G a58) F59 b59 (PySem.W.mg_of X G a59) F60 b60 (PySem.W.mg_of X G a60) F61 b61 (PySem.W.mg_of X G a61) ([P1], []) List.mem_cons_self
  have ef := Option.some.inj (hfa.symm.trans g4)
  cases ef
  have eo := Option.some.inj (l61.symm.trans g5)
  cases eo
  exact g1.imp fun vs H Q E z => sp_end z
end
theorem walk55 {l : PySem.W.OpenLaw} {q : Program} {loose : List Str} {XP : (Str → Option Value) → Heap → Prop} {YP : World → Heap → Prop} {d : DefRec} {K : Params → PySem.W.Frag} (hn : l.most = some 63) (hdf : d.params.defaults = [])
    (r1 : ((recsOf q).find? fun e => e.name == ("is_numbers" : Str)).isSome = true) (hY : ∀ (w : World) (h : Heap), YP w h → (K w.params).In h)
    (F : ∀ (w : World) (mg : Str → Option Value) (fa : Addr) (h : Heap), (K w.params).In h → h.Ns mainGlobals mg → mg d.name = some (.ref fa) → TwoT (K w.params) h → LamX.LawAtS l w (K w.params) CX0 125 63 "script" mg fa h) :
    PySem.W.WalkO q loose XP YP l.row.toRowW d [] (fun f vs => PySem.call f vs) := by
  refine Att.attach_callB hn hdf fun wo _ st gm _ fo _ _ _ _ lst _ ks G Y _ _ _ at_ isL allI len bits gens => ?_
  have KX := hY wo _ Y
  have tt : TwoT (K wo.params) st.heap := fun x c P hx ht => by
    subst hx
    obtain ⟨r, hr⟩ := Option.isSome_iff_exists.mp r1
    exact PySem.W.tab_of G.T KX hr ht
  obtain ⟨fd, cs, sp, hT, nT, C, hb, hsp, hF⟩ := F wo gm fo _ KX G.T.g at_ tt
  exact LamX.law_callTs KX G.T.g G.T.b G.T.builtins G.T.nolimit gens hT nT C G.T.bmain isL allI (Nat.le_trans len (by decide)) ⟨rfl, by decide, by decide⟩ hF hb (fun H hH hS => hsp H lst ks len bits hH hS) fun _ _ _ z => z
end DL
open PySem PySem.W PyProof.Rows
set_option maxRecDepth 100000 in
set_option maxHeartbeats 0 in
theorem PySem.Challenge.cw_notinvain_k55_across_calls_never_lessen_holds : PySem.Challenge.rw_notinvain_k55_across_calls_never_lessen.Holds := by
  w_on; o_law; k_head; (case hw => w_witness2)
  k_fill
  refine DL.walk55 (l := PySem.Challenge.rw_notinvain_k55_across_calls_never_lessen) rfl rfl ?R1 (fun w h Y => PySem.W.kIn_of Y) ?F
  case R1 => decide +kernel
  case F =>
    intro w mg fa h KX G hmg TT
    refine' DL.all_mk55 KX G hmg TT ?a0 ?l0 ?c0 ?k0 ?a1 ?l1 ?c1 ?k1 ?a2 ?l2 ?c2 ?k2 ?a3 ?l3 ?c3 ?k3 ?a4 ?l4 ?c4 ?k4 ?a5 ?l5 ?c5 ?k5 ?a6 ?l6 ?c6 ?k6 ?a7 ?l7 ?c7 ?k7 ?a8 ?l8 ?c8 ?k8 ?a9 ?l9 ?c9 ?k9 ?a10 ?l10 ?c10 ?k10 ?a11 ?l11 ?c11 ?k11 ?a12 ?l12 ?c12 ?k12 ?a13 ?l13 ?c13 ?k13 ?a14 ?l14 ?c14 ?k14 ?a15 ?l15 ?c15 ?k15 ?a16 ?l16 ?c16 ?k16 ?a17 ?l17 ?c17 ?k17 ?a18 ?l18 ?c18 ?k18 ?a19 ?l19 ?c19 ?k19 ?a20 ?l20 ?c20 ?k20 ?a21 ?l21 ?c21 ?k21 ?a22 ?l22 ?c22 ?k22 ?a23 ?l23 ?c23 ?k23 ?a24 ?l24 ?c24 ?k24 ?a25 ?l25 ?c25 ?k25 ?a26 ?l26 ?c26 ?k26 ?a27 ?l27 ?c27 ?k27 ?a28 ?l28 ?c28 ?k28 ?a29 ?l29 ?c29 ?k29 ?a30 ?l30 ?c30 ?k30 ?a31 ?l31 ?c31 ?k31 ?a32 ?l32 ?c32 ?k32 ?a33 ?l33 ?c33 ?k33 ?a34 ?l34 ?c34 ?k34 ?a35 ?l35 ?c35 ?k35 ?a36 ?l36 ?c36 ?k36 ?a37 ?l37 ?c37 ?k37 ?a38 ?l38 ?c38 ?k38 ?a39 ?l39 ?c39 ?k39 ?a40 ?l40 ?c40 ?k40 ?a41 ?l41 ?c41 ?k41 ?a42 ?l42 ?c42 ?k42 ?a43 ?l43 ?c43 ?k43 ?a44 ?l44 ?c44 ?k44 ?a45 ?l45 ?c45 ?k45 ?a46 ?l46 ?c46 ?k46 ?a47 ?l47 ?c47 ?k47 ?a48 ?l48 ?c48 ?k48 ?a49 ?l49 ?c49 ?k49 ?a50 ?l50 ?c50 ?k50 ?a51 ?l51 ?c51 ?k51 ?a52 ?l52 ?c52 ?k52 ?a53 ?l53 ?c53 ?k53 ?a54 ?l54 ?c54 ?k54 ?a55 ?l55 ?c55 ?k55 ?a56 ?l56 ?c56 ?k56 ?a57 ?l57 ?c57 ?k57 ?a58 ?l58 ?c58 ?k58 ?a59 ?l59 ?c59 ?k59 ?a60 ?l60 ?c60 ?k60 ?a61 ?l61 ?c61 ?k61 ?z_len ?z_int ?z_abs ?z_min ?z_max ?z_tuple ?z_list ?z_bool ?z_str ?z_range ?z_enumerate ?z_zip ?z_reversed ?z_isinstance ?z_all ?z_any ?z_sorted ?z_set ?z_dict ?ao ?lo ?y1 ?v1 ?n1
    (case a0 => k_is); (case l0 => k_is); (case c0 => k_is); (case k0 => k_is); (case a1 => k_is); (case l1 => k_is); (case c1 => k_is); (case k1 => k_is)
    (case a2 => k_is); (case l2 => k_is); (case c2 => k_is); (case k2 => k_is); (case a3 => k_is); (case l3 => k_is); (case c3 => k_is); (case k3 => k_is)
    (case a4 => k_is); (case l4 => k_is); (case c4 => k_is); (case k4 => k_is); (case a5 => k_is); (case l5 => k_is); (case c5 => k_is); (case k5 => k_is)
    (case a6 => k_is); (case l6 => k_is); (case c6 => k_is); (case k6 => k_is); (case a7 => k_is); (case l7 => k_is); (case c7 => k_is); (case k7 => k_is)
    (case a8 => k_is); (case l8 => k_is); (case c8 => k_is); (case k8 => k_is); (case a9 => k_is); (case l9 => k_is); (case c9 => k_is); (case k9 => k_is)
    (case a10 => k_is); (case l10 => k_is); (case c10 => k_is); (case k10 => k_is); (case a11 => k_is); (case l11 => k_is); (case c11 => k_is); (case k11 => k_is)
    (case a12 => k_is); (case l12 => k_is); (case c12 => k_is); (case k12 => k_is); (case a13 => k_is); (case l13 => k_is); (case c13 => k_is); (case k13 => k_is)
    (case a14 => k_is); (case l14 => k_is); (case c14 => k_is); (case k14 => k_is); (case a15 => k_is); (case l15 => k_is); (case c15 => k_is); (case k15 => k_is)
    (case a16 => k_is); (case l16 => k_is); (case c16 => k_is); (case k16 => k_is); (case a17 => k_is); (case l17 => k_is); (case c17 => k_is); (case k17 => k_is)
    (case a18 => k_is); (case l18 => k_is); (case c18 => k_is); (case k18 => k_is); (case a19 => k_is); (case l19 => k_is); (case c19 => k_is); (case k19 => k_is)
    (case a20 => k_is); (case l20 => k_is); (case c20 => k_is); (case k20 => k_is); (case a21 => k_is); (case l21 => k_is); (case c21 => k_is); (case k21 => k_is)
    (case a22 => k_is); (case l22 => k_is); (case c22 => k_is); (case k22 => k_is); (case a23 => k_is); (case l23 => k_is); (case c23 => k_is); (case k23 => k_is)
    (case a24 => k_is); (case l24 => k_is); (case c24 => k_is); (case k24 => k_is); (case a25 => k_is); (case l25 => k_is); (case c25 => k_is); (case k25 => k_is)
    (case a26 => k_is); (case l26 => k_is); (case c26 => k_is); (case k26 => k_is); (case a27 => k_is); (case l27 => k_is); (case c27 => k_is); (case k27 => k_is)
    (case a28 => k_is); (case l28 => k_is); (case c28 => k_is); (case k28 => k_is); (case a29 => k_is); (case l29 => k_is); (case c29 => k_is); (case k29 => k_is)
    (case a30 => k_is); (case l30 => k_is); (case c30 => k_is); (case k30 => k_is); (case a31 => k_is); (case l31 => k_is); (case c31 => k_is); (case k31 => k_is)
    (case a32 => k_is); (case l32 => k_is); (case c32 => k_is); (case k32 => k_is); (case a33 => k_is); (case l33 => k_is); (case c33 => k_is); (case k33 => k_is)
    (case a34 => k_is); (case l34 => k_is); (case c34 => k_is); (case k34 => k_is); (case a35 => k_is); (case l35 => k_is); (case c35 => k_is); (case k35 => k_is)
    (case a36 => k_is); (case l36 => k_is); (case c36 => k_is); (case k36 => k_is); (case a37 => k_is); (case l37 => k_is); (case c37 => k_is); (case k37 => k_is)
    (case a38 => k_is); (case l38 => k_is); (case c38 => k_is); (case k38 => k_is); (case a39 => k_is); (case l39 => k_is); (case c39 => k_is); (case k39 => k_is)
    (case a40 => k_is); (case l40 => k_is); (case c40 => k_is); (case k40 => k_is); (case a41 => k_is); (case l41 => k_is); (case c41 => k_is); (case k41 => k_is)
    (case a42 => k_is); (case l42 => k_is); (case c42 => k_is); (case k42 => k_is); (case a43 => k_is); (case l43 => k_is); (case c43 => k_is); (case k43 => k_is)
    (case a44 => k_is); (case l44 => k_is); (case c44 => k_is); (case k44 => k_is); (case a45 => k_is); (case l45 => k_is); (case c45 => k_is); (case k45 => k_is)
    (case a46 => k_is); (case l46 => k_is); (case c46 => k_is); (case k46 => k_is); (case a47 => k_is); (case l47 => k_is); (case c47 => k_is); (case k47 => k_is)
    (case a48 => k_is); (case l48 => k_is); (case c48 => k_is); (case k48 => k_is); (case a49 => k_is); (case l49 => k_is); (case c49 => k_is); (case k49 => k_is)
    (case a50 => k_is); (case l50 => k_is); (case c50 => k_is); (case k50 => k_is); (case a51 => k_is); (case l51 => k_is); (case c51 => k_is); (case k51 => k_is)
    (case a52 => k_is); (case l52 => k_is); (case c52 => k_is); (case k52 => k_is); (case a53 => k_is); (case l53 => k_is); (case c53 => k_is); (case k53 => k_is)
    (case a54 => k_is); (case l54 => k_is); (case c54 => k_is); (case k54 => k_is); (case a55 => k_is); (case l55 => k_is); (case c55 => k_is); (case k55 => k_is)
    (case a56 => k_is); (case l56 => k_is); (case c56 => k_is); (case k56 => k_is); (case a57 => k_is); (case l57 => k_is); (case c57 => k_is); (case k57 => k_is)
    (case a58 => k_is); (case l58 => k_is); (case c58 => k_is); (case k58 => k_is); (case a59 => k_is); (case l59 => k_is); (case c59 => k_is); (case k59 => k_is)
    (case a60 => k_is); (case l60 => k_is); (case c60 => k_is); (case k60 => k_is); (case a61 => k_is); (case l61 => k_is); (case c61 => k_is); (case k61 => k_is)
    (case z_len => k_is); (case z_int => k_is); (case z_abs => k_is); (case z_min => k_is); (case z_max => k_is); (case z_tuple => k_is); (case z_list => k_is); (case z_bool => k_is)
    (case z_str => k_is); (case z_range => k_is); (case z_enumerate => k_is); (case z_zip => k_is); (case z_reversed => k_is); (case z_isinstance => k_is); (case z_all => k_is); (case z_any => k_is)
    (case z_sorted => k_is); (case z_set => k_is); (case z_dict => k_is); (case ao => k_is); (case lo => k_is); (case y1 => k_is); (case v1 => exact rfl); (case n1 => kernel_rfl)
