import PyProof.Rows.All
import Wide.All
import OpenK.AllK
import Wide.FinOn
import HandS.ForList
import HandS.HeadEnd
import HandS.Base
import HandS.Call
import HandS.List
import HandS.Dict
import HandS.ExcInit
import HandS.ExcField
import KE.KExcInit
import KE.KExcIs
import HandS.IsInst
import HandS.ForMost
import HandS.Style
import HandS.RevRange
import HandS.Zip
import HandS.Conv
import HandS.TupAny
import HandS.Flow
import HandS.AnyAll
import KE.GoesMore
import KE.GoesEnum
import KE.KDictZip
import HandS.Keys
import OpenK.KMore
import HandS.TupSets
import HandS.Set
import KE.KeyNested
import KE.SortCalls
import HandS.Deep
import PyProof.ExcBaseAll.LookupError
import PyProof.ExcBaseAll.ValueError
import KE.KExcLine
import KE.RegKIsAll
import PySem.Challenge.RW_notinvain_k00_errors_made_by_hand
set_option Elab.async false
set_option linter.all false
set_option maxRecDepth 100000
set_option maxHeartbeats 4000000
/-! own dicts whose keys are tuples of ints that may be written ones: told by the dict's one object, the keys beside -/
namespace L2
open PySem PySem.Spec PyProof.Rows

abbrev En := List Int × Addr × V
abbrev Er := List Int × Addr × Value
def kh (ks : List Int) : Int := reduceHash (Builtin.Tuple.tupleHashOf (ks.map hashInt))
def enR : En → Er → Prop := fun p q => p.1 = q.1 ∧ p.2.1 = q.2.1 ∧ RelV p.2.2 q.2.2
def dxP (a : Addr) (ws : List En) (h : Heap) : Prop := ws.length ≤ sizeLine ∧ (a == sysModules) = false ∧ ∃ xs : List Er, Paired enR ws xs ∧
  ∃ o es ep, h.get? a = some o ∧ o.ExactDict ∧ o.data = .dict es ep ∧ es.toList = xs.map (fun x => (⟨kh x.1, .ref x.2.1, x.2.2⟩ : DictEntry)) ∧ (xs.map (·.1)).Nodup
def dto (a : Addr) (ws : List En) : HO := .ext (dxP a ws)
theorem dto_ok {P : Program} {w : World} {H : Hp} {h : Heap} {a : Addr} {ws : List En} (x : dxP a ws h) : ObjOk P w H h a (dto a ws) := by
  refine ⟨x, ?_, fun h1 h2 z k => ?_⟩
  · obtain ⟨_, _, _, _, o, _, _, e, _⟩ := x
    exact ⟨o, e⟩
  · obtain ⟨n, d, xs, r, o, es, ep, e, q⟩ := z
    exact ⟨n, d, xs, r, o, es, ep, k o e, q⟩
theorem dto_at {P : Program} {w : World} {H : Hp} {h : Heap} {a : Addr} {ws : List En} (ok : HOk P w H h) (e : H a = some (dto a ws)) : dxP a ws h := by
  have x : ObjOk P w H h a (.ext (dxP a ws)) := ok a _ e
  exact x.1
theorem dto_tbl {a : Addr} {ws : List En} {ps : Array Value} : dto a ws ≠ .tbl ps := fun z => nomatch (show HO.ext _ = HO.tbl ps from z)
theorem dto_tup {a : Addr} {ws : List En} {ps : List V} : dto a ws ≠ .tup ps := fun z => nomatch (show HO.ext _ = HO.tup ps from z)
theorem dto_lst {a : Addr} {ws : List En} {ps : List V} : dto a ws ≠ .lst ps := fun z => nomatch (show HO.ext _ = HO.lst ps from z)
theorem dto_frz {a : Addr} {ws : List En} {o : Obj} {u : HO} : dto a ws ≠ .frz o u := fun z => nomatch (show HO.ext _ = HO.frz o u from z)
theorem dto_own {a x : Addr} {ws : List En} : dto a ws ≠ .own x := fun z => nomatch (show HO.ext _ = HO.own x from z)

/-! ### what a key holds, and its writing -/
def enV (ws : List En) (k : List Int) : Option V := (ws.find? fun p => decide (p.1 = k)).map (·.2.2)
def enPut (ws : List En) (k : List Int) (b : Addr) (y : V) : List En :=
  if (ws.any fun p => decide (p.1 = k)) then ws.map (fun p => if p.1 = k then (p.1, p.2.1, y) else p) else ws ++ [(k, b, y)]
theorem enR_val {ws : List En} {xs : List Er} (r : Paired enR ws xs) (k : List Int) : RelO (enV ws k) ((atKey xs k).map (·.2)) := by
  induction r with
  | nil => exact True.intro
  | @cons p q ps qs h t ih =>
    obtain ⟨h1, _, h2⟩ := h
    unfold enV atKey at ih ⊢
    simp only [List.find?_cons, ← h1]
    cases decide (p.1 = k) with
    | true => exact h2
    | false => exact ih
theorem enR_any {ws : List En} {xs : List Er} (r : Paired enR ws xs) (k : List Int) : (ws.any fun p => decide (p.1 = k)) = (atKey xs k).isSome := by
  induction r with
  | nil => rfl
  | @cons p q ps qs h t ih =>
    unfold atKey at ih ⊢
    simp only [List.find?_cons, List.any_cons, ← h.1, ih]
    cases decide (p.1 = k) <;> simp
theorem enR_put {ws : List En} {xs : List Er} (r : Paired enR ws xs) (k : List Int) {b : Addr} {y : V} {u : Value} (ry : RelV y u) : Paired enR (enPut ws k b y) (storedH xs k b u) := by
  unfold enPut storedH
  rw [enR_any r k]
  by_cases z : (atKey xs k).isSome = true
  · rw [if_pos z, if_pos z]
    clear z
    induction r with
    | nil => exact .nil
    | @cons p q ps qs h t ih =>
      refine .cons ?_ ih
      obtain ⟨h1, h2, h3⟩ := h
      unfold putAt
      dsimp only
      by_cases e : p.1 = k
      · rw [if_pos e, if_pos (h1.symm.trans e)]; exact ⟨h1, h2, ry⟩
      · rw [if_neg e, if_neg fun y => e (h1.trans y)]; exact ⟨h1, h2, h3⟩
  · rw [if_neg z, if_neg z]
    exact Paired.snoc r ⟨rfl, rfl, ry⟩
theorem length_enPut (ws : List En) (k : List Int) (b : Addr) (y : V) : (enPut ws k b y).length ≤ ws.length + 1 := by
  unfold enPut
  split
  · rw [List.length_map]; omega
  · rw [List.length_append]; exact Nat.le_refl _

/-! ### keys -/
theorem int_items {P : Program} {w : World} : ∀ {ks : List Int} {us : List Value}, Vals (ks.map V.int) us → ItemsAre (intKind P w) ks us
  | [], _, r => by cases r; exact .nil
  | k :: ks, _, r => by
    cases r with
    | cons h t =>
      obtain ⟨z, rfl⟩ := h
      exact .cons (by simp [PySem.intKind, Value.isInt]) (int_items t)
theorem tup_key {P : Program} {w : World} {K : PySem.W.Frag} {H : Hp} {h : Heap} {b : Addr} {ks : List Int} (X : K.In h) (ok : HOk P w H h) (e : SqT K H b (ks.map V.int)) : (tupleKind (intKind P w)).is h ks b := by
  rcases e with e | ⟨o, its, n, e1, e2, e3, _, r⟩
  · obtain ⟨_, its, r, o, h1, h2, n, h3⟩ := (show ObjOk P w H h b (.tup (ks.map V.int)) from e.ok ok)
    exact ⟨o, its.toArray, n, h1, h2, h3, by simpa using int_items r⟩
  · exact ⟨o, its, n, X _ _ e1, e2, e3, int_items r⟩
abbrev EnK (K : PySem.W.Frag) (H : Hp) (ws : List En) : Prop := ∀ p ∈ ws, SqT K H p.2.1 (p.1.map V.int)
theorem dto_of {P : Program} {w : World} {K : PySem.W.Frag} {H : Hp} {h : Heap} {a : Addr} {ws : List En} (X : K.In h) (ok : HOk P w H h) (e : H a = some (dto a ws)) (hk : EnK K H ws) :
    ws.length ≤ sizeLine ∧ (a == sysModules) = false ∧ ∃ xs, Paired enR ws xs ∧ h.DictOfH (tupleKind (intKind P w)) a xs := by
  obtain ⟨n, d, xs, r, o, es, ep, h1, h2, h3, h4, h5⟩ := dto_at ok e
  refine ⟨n, d, xs, r, o, es, ep, h1, h2, h3, h4, ?_, h5⟩
  clear h4 h5 n e
  induction r with
  | nil => intro x hx; cases hx
  | @cons p q ps qs hq t ih =>
    intro x hx
    rcases List.mem_cons.mp hx with z | hx
    · subst z
      have y := hk p List.mem_cons_self
      rw [hq.1, hq.2.1] at y
      exact tup_key X ok y
    · exact ih (fun p hp => hk p (List.mem_cons_of_mem _ hp)) x hx

section
variable {X : Cx} {pins : List (Addr × Obj)} {σ : St} {H : Hp} {s : Shared} {a b : Addr} {ws : List En} {k : List Int} {u r : Value} {v : V} {A : Around} {E : Value → Shared → Prop}
theorem dto_getItem {Q : Value → Shared → Prop} (hu : A.units + 1 < cLine) (I : Inv X pins σ H s) (e : H a = some (dto a ws)) (hk : EnK X.K H ws) (eb : SqT X.K H b (k.map V.int)) (l : enV ws k = some v) (h : ∀ w' s', Inv X pins σ H s' → RelV v w' → Q w' s') :
    wpAny (model X.prog X.w) A (getItem (.ref a) (.ref b)) Q E s := by
  obtain ⟨_, _, xs, rel, dd⟩ := dto_of (P := X.prog) (w := X.w) I.kIn I.hok e hk
  obtain ⟨w', hw, rw'⟩ := RelO.some_of (v := v) (o := (atKey xs k).map (·.2)) (by rw [← l]; exact enR_val rel k)
  obtain ⟨p, hp, rfl⟩ := Option.map_eq_some_iff.mp hw
  exact wpAny_getItem_heap (tupleKind_room_in1 hu) (tup_key I.kIn I.hok eb) dd hp (h _ _ (I.tok _) rw')
theorem dto_isSome {ws : List En} {xs : List Er} (r : Paired enR ws xs) (k : List Int) : (atKey xs k).isSome = (enV ws k).isSome := by
  rw [← enR_any r k]
  unfold enV
  rw [Option.isSome_map]
  clear r
  induction ws with
  | nil => rfl
  | cons p ps ih =>
    simp only [List.find?_cons, List.any_cons, ih]
    cases decide (p.1 = k) <;> simp
theorem dto_in {Q : Value → Shared → Prop} (hu : A.units + 1 < cLine) (I : Inv X pins σ H s) (e : H a = some (dto a ws)) (hk : EnK X.K H ws) (eb : SqT X.K H b (k.map V.int)) (h : ∀ s', Inv X pins σ H s' → Q (.bool (enV ws k).isSome) s') :
    wpAny (model X.prog X.w) A (compareOp .In (.ref b) (.ref a)) Q E s := by
  obtain ⟨_, hd, xs, rel, dd⟩ := dto_of (P := X.prog) (w := X.w) I.kIn I.hok e hk
  refine wpAny_in_heap (tupleKind_room_in1 hu) (tup_key I.kIn I.hok eb) hd dd ?_
  rw [dto_isSome rel k]
  exact h _ (I.tok _)
theorem dto_notIn {Q : Value → Shared → Prop} (hu : A.units + 1 < cLine) (I : Inv X pins σ H s) (e : H a = some (dto a ws)) (hk : EnK X.K H ws) (eb : SqT X.K H b (k.map V.int)) (h : ∀ s', Inv X pins σ H s' → Q (.bool (!(enV ws k).isSome)) s') :
    wpAny (model X.prog X.w) A (compareOp .NotIn (.ref b) (.ref a)) Q E s := by
  obtain ⟨_, hd, xs, rel, dd⟩ := dto_of (P := X.prog) (w := X.w) I.kIn I.hok e hk
  refine wpAny_notIn_heap (tupleKind_room_in1 hu) (tup_key I.kIn I.hok eb) hd dd ?_
  rw [dto_isSome rel k]
  exact h _ (I.tok _)
theorem dto_setItem {Q : Unit → Shared → Prop} (hu : A.units + 1 < cLine) (I : Inv X pins σ H s) (e : H a = some (dto a ws)) (hk : EnK X.K H ws) (eb : SqT X.K H b (k.map V.int)) (rv : RelV v r) (hl : ws.length < sizeLine)
    (h : ∀ s', Inv X pins σ (upd H a (dto a (enPut ws k b v))) s' → Q () s') : wpAny (model X.prog X.w) A (setItem (.ref a) (.ref b) r) Q E s := by
  obtain ⟨_, hd, xs, rel, dd⟩ := dto_of (P := X.prog) (w := X.w) I.kIn I.hok e hk
  have hz : xs.length ≤ sizeLine := by rw [← Paired.length rel]; omega
  refine wpAny_setItem_heap (hsz := hz) (tupleKind_room_in1 hu) (tup_key I.kIn I.hok eb) dd fun h' dd' hs => h _ ?_
  obtain ⟨o, es, ep, h1, h2, h3, h4, _, h5⟩ := dd'
  have hl2 : (enPut ws k b v).length ≤ sizeLine := by have := length_enPut ws k b v; omega
  exact d_write I (by rw [e]; exact True.intro) hs ⟨o, h1⟩ (dto_ok ⟨hl2, hd, _, enR_put rel k rv, o, es, ep, h1, h2, h3, h4, h5⟩)
end
theorem dto_empty {P : Program} {w : World} {H : Hp} (h : Heap) (hb : sysModules < h.objs.size) : ObjOk P w H (h.push { cls := .type "dict", data := .dict #[] }) h.objs.size (dto h.objs.size []) :=
  dto_ok ⟨Nat.zero_le _, beq_eq_false_iff_ne.mpr (Ne.symm (Nat.ne_of_lt hb)), [], .nil, _, #[], 0, Heap.get?_push_size _ rfl, ⟨rfl, rfl, rfl⟩, rfl, rfl, List.nodup_nil⟩
end L2

/-! own exceptions as values: made by a call, one field stored by __init__, the field read; under any built-in base -/
namespace L2
open PySem PySem.Spec PyProof.Rows
/-- what the written part says of an exception class of one's own -/
structure XC (K : PySem.W.Frag) (tl : List Value) (newId : String) (C : Addr) : Prop where
  ini : PySem.W.excInitIn K C tl newId = true
  over : PySem.W.excOver K C tl = true
  sa : PySem.W.findIn K (.ref C) "__setattr__" = some (some (.builtin "object.__setattr__"))
  ga : PySem.W.findIn K (.ref C) "__getattribute__" = some (some (.builtin "BaseException.__getattribute__"))
  gg : PySem.W.findIn K (.ref C) "__getattr__" = some none
  exC : PySem.W.subIn K (.ref C) (.type "BaseException") = some true
  hdC : PySem.W.hasDictIn K C = true
  kC : PySem.W.keepIn K (.ref C) = true
  tyC : PySem.W.typeIn K (.ref C) = some (.type "type")
abbrev exOf (C t1 : Addr) (d : Option Addr) : Obj := { cls := .ref C, dict := d, data := .fields #[.ref t1, .none, .none, .none, .bool false, .none] }
section
variable {X : Cx} {pins : List (Addr × Obj)} {σ : St} {H : Hp} {s : Shared} {a C : Addr} {f : Str} {y : V} {u : Value} {Q : Unit → Shared → Prop} {E : Value → Shared → Prop} {A : Around} {tl : List Value} {B newId : String}
/-- behind self.f = y, the first store -/
def stored1 (H : Hp) (a C dx : Addr) (f : Str) (y : V) : Hp := upd (upd (upd H dx (exd dx [])) a (exo a C (some dx))) dx (exd dx [(f, y)])
theorem xst_new (SF : StoreFacts B tl "object.__setattr__" "object") (T : XC X.K tl newId C) (I : Inv X pins σ H s) (e : H a = some (exo a C none)) (hno : PySem.W.findIn X.K (.ref C) f = some none) (ry : RelV y u)
    (h : ∀ dx s', H dx = none → dx ≠ a → Inv X pins σ (stored1 H a C dx f y) s' → Q () s') : wpAny (model X.prog X.w) A (setAttr (.ref a) f u) Q E s := by
  obtain ⟨t1, ho⟩ := exo_at I.hok e
  obtain ⟨hp, g, d, t, os⟩ := s
  have hs : hp.objs.size ≤ hp.objs.size := Nat.le_refl _
  have nn : H hp.objs.size = none := I.hok.fresh hs
  have na : hp.objs.size ≠ a := fun z => by rw [z, e] at nn; cases nn
  obtain ⟨cd, hc, hd⟩ : ∃ cd, PySem.W.clsIn X.K C = some cd ∧ cd.hasDict = true := by
    exact PySem.W.any_some T.hdC
  refine PySem.W.set_plain I.kIn (ox := exOf C t1 none) (od := none) ⟨ho, rfl, rfl, trivial⟩ T.sa ?_
  refine PySem.W.osa_openX (od := none) (ox := exOf C t1 none) (r := none) SF I.kIn ⟨ho, rfl, rfl, trivial⟩ T.over (by unfold PySem.W.takerIn; rw [hno]; rfl) fun b => ?_
  refine wpAny_bind (wpAny_pure (wpAny_bind (PySem.W.instanceDict_exc (t := t1) (c2 := .none) ho (PySem.W.looks_clsIn I.kIn hc) hd ?_)))
  -- the new dict
  have J1 : Inv X pins σ (upd H hp.objs.size (exd hp.objs.size [])) ⟨hp.push { cls := .type "dict", data := .dict #[] }, g, d, t, os⟩ :=
    I.laid (t' := t) (a := hp.objs.size) (o := exd hp.objs.size []) (fun _ _ q => Heap.get?_push_of_some _ q) hs
      (exd_ok (mA := fun _ => none) ⟨_, #[], _, Heap.get?_push_at rfl rfl, rfl, fun e he => absurd he (by simp), List.Pairwise.nil, fun _ => rfl⟩ fun _ => True.intro)
  have ea : upd H hp.objs.size (exd hp.objs.size []) a = some (exo a C none) := by rw [upd_ne (Ne.symm na)]; exact e
  have hg1 : (hp.push { cls := .type "dict", data := .dict #[] }).get? a = some (exOf C t1 none) := Heap.get?_push_of_some _ ho
  have hg2 := Heap.get?_update_self (fun o => ({ o with dict := some hp.objs.size } : Obj)) hg1 rfl
  have k2 : ∀ b u, b ≠ a → (hp.push { cls := .type "dict", data := .dict #[] }).get? b = some u → ((hp.push { cls := .type "dict", data := .dict #[] }).update a fun o => { o with dict := some hp.objs.size }).get? b = some u :=
    fun b u hb q => by rw [Heap.get?_update_other _ _ (Ne.symm hb)]; exact q
  have J2 := J1.write (t' := t) (x := a) (e := a) (o := exo a C (some hp.objs.size)) (by rw [ea]; exact True.intro) (.inl rfl) k2 ⟨_, hg2⟩ (exo_ok hg2)
  have ed : upd (upd H hp.objs.size (exd hp.objs.size [])) a (exo a C (some hp.objs.size)) hp.objs.size = some (exd hp.objs.size []) := by rw [upd_ne na, upd_same]
  obtain ⟨mA, hns, rel⟩ := exd_at J2.hok ed
  refine PySem.OEX.store_in_old (m0 := mA) (ns := []) hns (within_of rel) (by decide) fun h' tk' hn' hsb => ?_
  have J3 := J2.write (t' := tk') (x := hp.objs.size) (e := hp.objs.size) (o := exd hp.objs.size [(f, y)]) (by rw [ed]; exact True.intro) (.inl rfl) (fun b o hb q => (hsb.2 b hb).trans q)
    (by obtain ⟨o, _, _, e', _⟩ := hn'; exact ⟨o, e'⟩) (exd_ok hn' (relO_put (fs := []) ry rel))
  exact h _ _ nn na J3
end
end L2
namespace L2
open PySem PySem.Spec PyProof.Rows
section
variable {X : Cx} {pins : List (Addr × Obj)} {σ : St} {H : Hp} {s : Shared} {a C : Addr} {E : Value → Shared → Prop} {A : Around} {tl : List Value} {B newId initId : String}
theorem exo_same (e : H a = some (exo a C none)) : upd H a (exo a C none) = H := by
  funext b
  by_cases hb : b = a
  · rw [hb, upd_same, e]
  · rw [upd_ne hb]
/-- the base's own __init__: nothing of it is told -/
theorem xinit_ok {us : List Value} {Q : Value → Shared → Prop} (FB : ExcBaseFacts B newId initId tl) (T : XC X.K tl newId C) (I : Inv X pins σ H s) (e : H a = some (exo a C none)) (hl : us.length ≤ sizeLine) (h : ∀ s', Inv X pins σ H s' → Q .none s') :
    wpAny (model X.prog X.w) A (call (.builtin initId) (.ref a :: us)) Q E s := by
  obtain ⟨nm, N, qn, bs, bm, hdct, sn, sub, ab, col, dd, k0, k1, k2, k3, k5, hC, hT⟩ := PySem.W.excInit_of I.kIn T.ini
  obtain ⟨t1, ho⟩ := exo_at I.hok e
  obtain ⟨hp, g, d, t, os⟩ := s
  refine wpAny_call (PySem.HandSPX.init_base FB hT hC ho hl fun h' t2 k hx => ?_)
  have J := I.write (t' := t) (x := a) (e := a) (o := exo a C none) (by rw [e]; exact True.intro) (.inl rfl) k ⟨_, hx⟩ (exo_ok hx)
  rw [exo_same e] at J
  exact h _ J
/-- Base.__init__(self, ..) -/
def tXInit (K : PySem.W.Frag) (tl : List Value) (newId : String) (ta : TA) : TE := fun σ H Q => ta σ H fun vs H1 => ∃ (a C : Addr) (ws : List V), vs = .ref a :: ws ∧ ws.length ≤ 1000 ∧ XC K tl newId C ∧ H1 a = some (exo a C none) ∧ Q .non H1
theorem pe_xinit {bn : Str} {e : Expr} {es : List Expr} {ta : TA} {p1 p2 pos : Pos} {pl : Sem Bool} (FB : ExcBaseFacts B newId initId tl) (hb : bootBuiltins bn = some (.type B)) (hty : typeOf (.type B) = pure (.type "type")) (hst : Manifest.isStub B = false) (hhd : PySem.W.handedIn (.builtin initId) = true)
    (hg : Gl X bn) (hm : X.mg bn = none) (vV : PySem.W.findCls X.K (.type B) (.type "type") "__init__" = some (.val (.builtin initId))) (ha : PA X (e :: es) ta) (h1 : bn ≠ "__name__") (h2 : (bn == ("__debug__" : Str)) = false)
    (hc : eval (.Call (.Attribute (.Name bn p1) "__init__" p2) (e :: es) [] pos) X.env = (do
      let ov ← eval (.Name bn p1) X.env
      standAt p2.atName
      let (f, first) ← holding [ov] (getMethod ov "__init__" pl)
      callWith pos f first (backTo pos (starEach (e :: es) X.env)) (backToKw pos (keywordEach [] X.env))) := by rfl)
    (he : starEach (e :: es) X.env = (false, eval e X.env) :: starEach es X.env := by rfl) (hpl : (backTo pos (starEach es X.env)).any (·.1) = false := by rfl) :
    PE X (.Call (.Attribute (.Name bn p1) "__init__" p2) (e :: es) [] pos) (tXInit X.K tl newId ta) := by
  refine ⟨fun pins s σ H Q I h => PySem.W.methodCall_KW (ld_blt I hg hm hb ?_ h1 h2) hc⟩
  obtain ⟨m, fr⟩ := I.fr
  refine PySem.W.method_type fr I.ok.mod.kin hty hst vV hhd ?_
  show wpAny _ _ (callWith pos (Value.builtin initId) [] (backTo pos (starEach (e :: es) X.env)) []) _ _ _
  refine PyProof.Rows.callWith_method1 (thn (ha.run pos pins _ σ H _ (I.tok _) h) fun us s1 ⟨vs, H1, I1, r1, a, C, ws, ev, hl, T, ea, q⟩ => ?_) he hpl
  subst ev
  cases r1 with
  | @cons _ u0 _ ur ra rw' =>
    cases ra
    have hlen : ur.length ≤ sizeLine := by
      have := Paired.length rw'
      rw [sizeLine_eq]
      omega
    exact xinit_ok FB T I1 ea hlen fun s' J => ⟨.non, H1, J, rfl, q⟩
/-- self.f = e, the first store -/
def tXst (K : PySem.W.Frag) (tl : List Value) (newId : String) (f : Str) (to te : TE) : TS := fun D σ H => te σ H fun y H1 => to σ H1 fun x H2 => ∃ a C : Addr, x = .ref a ∧ XC K tl newId C ∧ PySem.W.findIn K (.ref C) f = some none ∧
  H2 a = some (exo a C none) ∧ ∀ dx, H2 dx = none → dx ≠ a → D.nx σ (stored1 H2 a C dx f y)
theorem ps_xst {o e : Expr} {to te : TE} {f : Str} {p' pos : Pos} (SF : StoreFacts B tl "object.__setattr__" "object") (ho : PE X o to) (he : PE X e te) (hs : swapsWith e (some (.Attribute o f p')) pos.line X.env = pure false := by rfl) :
    PS X (.Assign [.Attribute o f p'] e pos) (tXst X.K tl newId f to te) := by
  refine ⟨fun pins s σ H D I h => plainObj_wpAny_Assign_Attribute (thn (he.run pins s σ H _ I h) fun v s1 ⟨y, H1, I1, r1, q1⟩ => thn (ho.run pins s1 σ H1 _ I1 q1) fun u s2 ⟨x, H2, I2, r2, a, C, ex, T, hno, ea, q⟩ => ?_) hs⟩
  subst ex
  cases r2
  exact xst_new SF T I2 ea hno r1 fun dx s' n ne J => ⟨σ, _, J, q dx n ne⟩
/-- the exception is made, its own __init__ has run -/
theorem xmk_call {CX : CXT} {fI : Addr} {k : Nat} {fd : FuncData} {ps : List Str} {sp : Sp} {vs : List V} {us : List Value} {Q : VK} (FB : ExcBaseFacts B newId initId tl) (T : XC X.K tl newId C)
    (iC : PySem.W.findIn X.K (.ref C) "__init__" = some (some (.ref fI))) (tI : PySem.W.typeIn X.K (.ref fI) = some (.type "function"))
    (F1 : FnOk X.prog X.w X.K X.mg X.base CX k fI fd ps sp) (hr : Room (k + 1) X.A) (hb : Binds X.K fd ps []) (hx : Passes CX X (fun _ _ _ => False)) (I : Inv X pins σ H s) (r1 : Vals vs us) (hz : vs.length ≤ 1000)
    (q1 : ∀ a, H a = none → sp (.ref a :: vs) (upd H a (exo a C none)) (fun v H2 => v = .non ∧ Q (.ref a) H2) fun _ _ _ => False) :
    wpAny (model X.prog X.w) X.A (call (.ref C) us) (EP X pins σ Q) X.xe s := by
  obtain ⟨nm, N, qn, bs, bm, hdct, sn, sub, ab, col, dd, k0, k1, k2, k3, k5, hC, hT⟩ := PySem.W.excInit_of I.kIn T.ini
  obtain ⟨hp, g, dr, tk, os⟩ := s
  have hsz : hp.objs.size ≤ hp.objs.size + 1 := Nat.le_succ _
  have hq := q1 (hp.objs.size + 1) (I.hok.fresh hsz)
  have kk : ∀ b o, hp.get? b = some o → ((hp.push (PySem.W.kdv_tup us)).push (PySem.HandSPX.excO C hp.objs.size)).get? b = some o := fun b o e => Heap.get?_push_of_some _ (Heap.get?_push_of_some _ e)
  have hget : ((hp.push (PySem.W.kdv_tup us)).push (PySem.HandSPX.excO C hp.objs.size)).get? (hp.objs.size + 1) = some (PySem.HandSPX.excO C hp.objs.size) := by heap_get
  have I2 := I.laid (t' := tk) (a := hp.objs.size + 1) (o := exo (hp.objs.size + 1) C none) kk hsz (exo_ok hget)
  have r2 : Vals (V.ref (hp.objs.size + 1) :: vs) (Value.ref (hp.objs.size + 1) :: us) := .cons rfl r1
  have hl : (Value.ref (hp.objs.size + 1) :: us).length = ps.length := r2.length.symm.trans (F1.len _ _ _ _ hq)
  have hus : us.length ≤ sizeLine := by
    have := Paired.length r1
    rw [sizeLine_eq]
    omega
  refine wpAny_call (PySem.HandSPX.call_own FB hT hC (PySem.W.looks_findIn I.kIn iC) (fun self => PySem.W.bind_fn I.kIn self tI) hus (codeAny_mono (F1.run _ X.stack _ _ ⟨Value.ref (hp.objs.size + 1) :: us, []⟩ _ _ _ (fun _ _ _ => False)
    (hr.make C us []) (I2.env0.make C us []) (by simpa using hb _ (Value.ref (hp.objs.size + 1) :: us) I2.kIn (by simpa using hl)) r2 hq) fun r s' hq' => ?_))
  cases r with
  | error er => exact hx pins σ _ _ er s' I2 hq'
  | ok fl =>
    cases fl with
    | ret u =>
      obtain ⟨v, H2, os2, bare2, un2, hok2, rv, ev, q2⟩ := hq'
      subst ev
      cases rv
      exact ⟨rfl, .ref (hp.objs.size + 1), H2, I2.call' (ch := []) os2 un2 hok2 bare2 (fun b z => absurd z (by simp)), rfl, q2⟩
    | next => exact hq'.elim
    | brk => exact hq'.elim
    | cont => exact hq'.elim
def tXMk (C : Addr) (sp : Sp) (ta : TA) : TE := fun σ H Q => ta σ H fun vs H1 => vs.length ≤ 1000 ∧ ∀ a, H1 a = none → sp (.ref a :: vs) (upd H1 a (exo a C none)) (fun v H2 => v = .non ∧ Q (.ref a) H2) fun _ _ _ => False
theorem pe_xmk {CX : CXT} {x : Str} {fI : Addr} {k : Nat} {fd : FuncData} {ps : List Str} {sp : Sp} {e : Expr} {es : List Expr} {ta : TA} {p pos : Pos} (FB : ExcBaseFacts B newId initId tl) (T : XC X.K tl newId C)
    (iC : PySem.W.findIn X.K (.ref C) "__init__" = some (some (.ref fI))) (tI : PySem.W.typeIn X.K (.ref fI) = some (.type "function"))
    (F1 : FnOk X.prog X.w X.K X.mg X.base CX k fI fd ps sp) (hr : Room (k + 1) X.A) (hb : Binds X.K fd ps []) (hx : Passes CX X (fun _ _ _ => False)) (hg : Gl X x) (hm : X.mg x = some (.ref C)) (ha : PA X (e :: es) ta)
    (hdb : (x == ("__debug__" : Str)) = false := by decide) (he : starEach (e :: es) X.env = (false, eval e X.env) :: starEach es X.env := by rfl) (hpl : (backTo pos (starEach es X.env)).any (·.1) = false := by rfl) :
    PE X (.Call (.Name x p) (e :: es) [] pos) (tXMk C sp ta) :=
  ⟨fun pins s σ H Q I h => wpAny_Call_Name_kw (ld_glob I hg hm (PySem.W.callWith_K (h₀ := X.base) I.ok.mod.kin T.kC (thn (ha.run pos pins s σ H _ I h) fun us s1 ⟨vs, H1, I1, r1, hz, q1⟩ =>
    ⟨I1.kIn, xmk_call FB T iC tI F1 hr hb hx I1 r1 hz q1⟩) he hpl) hdb)⟩
theorem pe_xmk0 {CX : CXT} {x : Str} {fI : Addr} {k : Nat} {fd : FuncData} {ps : List Str} {sp : Sp} {p pos : Pos} (FB : ExcBaseFacts B newId initId tl) (T : XC X.K tl newId C)
    (iC : PySem.W.findIn X.K (.ref C) "__init__" = some (some (.ref fI))) (tI : PySem.W.typeIn X.K (.ref fI) = some (.type "function"))
    (F1 : FnOk X.prog X.w X.K X.mg X.base CX k fI fd ps sp) (hr : Room (k + 1) X.A) (hb : Binds X.K fd ps []) (hx : Passes CX X (fun _ _ _ => False)) (hg : Gl X x) (hm : X.mg x = some (.ref C)) (hdb : (x == ("__debug__" : Str)) = false := by decide) :
    PE X (.Call (.Name x p) [] [] pos) (tXMk C sp fun _ H Q => Q [] H) :=
  ⟨fun pins s σ H Q I h => wpAny_Call_Name_kw (ld_glob I hg hm (PySem.W.callWith_K0 I.kIn T.kC (xmk_call (us := []) FB T iC tI F1 hr hb hx I .nil h.1 h.2)) hdb)⟩
/-- err.f -/
def tXGet (K : PySem.W.Frag) (f : Str) (te : TE) : TE := fun σ H Q => te σ H fun x H1 => ∃ (a C dd : Addr) (fs : List (Str × V)) (v : V), x = .ref a ∧ XfC K C ∧ PySem.W.findIn K (.ref C) f = some none ∧ H1 a = some (exo a C (some dd)) ∧ H1 dd = some (exd dd fs) ∧
  fs.lookup f = some v ∧ Q v H1
theorem pe_xget {e : Expr} {te : TE} {pos : Pos} {f : Str} (he : PE X e te) (hb : attributeBase e f X.env (eval e X.env) = eval e X.env := by rfl) : PE X (.Attribute e f pos) (tXGet X.K f te) := by
  refine ⟨fun pins s σ H Q I h => attr_of hb (thn (he.run pins s σ H _ I h) fun u s1 ⟨x, H1, I1, rx, a, C, dd, fs, v, ex, T, hno, ea, ed, l, q⟩ => ?_)⟩
  subst ex
  cases rx
  obtain ⟨t1, ho⟩ := exo_at I1.hok ea
  obtain ⟨mA, hns, hr⟩ := exd_at I1.hok ed
  obtain ⟨od, hd, hl⟩ := lookIn_ns hns
  obtain ⟨u, hu, ru⟩ := RelO.some_of (v := v) (o := mA f) (by rw [← l]; exact hr f)
  exact HandSPX.exc_get I1.kIn (ox := exOf C t1 (some dd)) (od := some od) ⟨ho, rfl, rfl, hd⟩ T.ga T.gg T.exC (PySem.W.findObj_own T.hdC hno rfl (by rw [hl, hu])) (handed_of ru) ⟨v, H1, I1.tok _, ru, q⟩
end
end L2

/-! isinstance of an own exception that is held as a value -/
namespace L2
open PySem PySem.Spec PyProof.Rows
structure XI (K : PySem.W.Frag) (C : Addr) : Prop where
  cl : (PySem.W.clsIn K C).isSome = true
  ga : PySem.W.findIn K (.ref C) "__getattribute__" = some (some (.builtin "BaseException.__getattribute__"))
  gg : PySem.W.findIn K (.ref C) "__getattr__" = some none
  exC : PySem.W.subIn K (.ref C) (.type "BaseException") = some true
  ca : PySem.W.findIn K (.ref C) "__class__" = some (some (.builtin "object.__class__"))
  cg : PySem.W.specialIn K (.builtin "object.__class__") "__get__" = some (some (.builtin "getset_descriptor.__get__"))
  ct : PySem.W.takesIn K (.builtin "object.__class__") = some true
  mo : PySem.W.mroIn K C (.type "object") = some true
/-- at a: an exception of the class at C, with the fields fs -/
def ExAt (H : Hp) (a C : Addr) (fs : List (Str × V)) : Prop := (fs = [] ∧ H a = some (exo a C none)) ∨ ∃ dd, H a = some (exo a C (some dd)) ∧ H dd = some (exd dd fs)
theorem ExAt.obj {X : Cx} {pins : List (Addr × Obj)} {σ : St} {H : Hp} {s : Shared} {a C : Addr} {fs : List (Str × V)} (I : Inv X pins σ H s) (e : ExAt H a C fs) : ∃ ox od, PySem.W.InstAt s.heap a ox C od := by
  rcases e with ⟨_, e⟩ | ⟨dd, e, ed⟩
  · obtain ⟨t1, ho⟩ := exo_at I.hok e
    exact ⟨_, none, ho, rfl, rfl, trivial⟩
  · obtain ⟨t1, ho⟩ := exo_at I.hok e
    obtain ⟨mA, ⟨o, es, ep, h1, _⟩, _⟩ := exd_at I.hok ed
    exact ⟨_, some o, ho, rfl, rfl, h1⟩
def rIsX (K : PySem.W.Frag) : List V → Hp → VK → Prop := fun xs H Q => ∃ (a C : Addr) (fs : List (Str × V)) (c : V) (u : Value) (b : Bool), xs = [.ref a, c] ∧ ClsV c u ∧ XI K C ∧ ExAt H a C fs ∧ PySem.W.kitOne K (.ref C) u = some b ∧ Q (.bl b) H
theorem call_isX {X : Cx} : CallR X (.builtin "isinstance") (rIsX X.K) := by
  intro pins s σ H xs us Q I r h
  obtain ⟨a, C, fs, c, u, b, rfl, k, T, ea, e, q⟩ := h
  obtain ⟨u1, u2, rfl, r1, r2⟩ := vals2 r
  have e2 := k.eq r2
  subst e2
  cases r1
  obtain ⟨ox, od, J⟩ := ea.obj I
  exact PySem.W.kia_one (PySem.W.kitx_exc T.cl T.ga T.gg T.exC T.ca T.cg T.ct T.mo) I.kIn J e (fun z => nomatch z) fun tk => ⟨.bl b, H, I.tok tk, rfl, q⟩
end L2

namespace DL
open PySem L2

/-! ## slots -/
/-- what a slot holds: nothing known; a value that no one changes; an own list; an own dict (keys: tuples) -/
inductive SV where
  | no
  | d (x : PyData)
  | m (xs : List PyData)
  | t (kvs : List (List Int × PyData))

mutual
inductive Dt (K : PySem.W.Frag) (H : Hp) : V → PyData → Prop
  | non : Dt K H .non .none
  | bl (b : Bool) : Dt K H (.bl b) (.bool b)
  | int (i : Int) : Dt K H (.int i) (.int i)
  | str (x : Str) : Dt K H (.str x) (.str x)
  | lst {a : Addr} {xs : List V} {ds : List PyData} : H a = some (.lst xs) → DtAll K H xs ds → Dt K H (.ref a) (.list ds)
  | tup {a : Addr} {xs : List V} {ds : List PyData} : SqT K H a xs → DtAll K H xs ds → Dt K H (.ref a) (.tuple ds)
  | scr {a : Addr} {xs : List V} {ds : List PyData} : SqL K H a xs → DtAll K H xs ds → Dt K H (.ref a) (.dict [(.list ds, .none)])
  | exc0 {a C : Addr} : H a = some (exo a C none) → Dt K H (.ref a) (.dict [(.int C, .none)])
  | exc1 {a C dd : Addr} {f : Str} {v : V} {d : PyData} : H a = some (exo a C (some dd)) → H dd = some (exd dd [(f, v)]) → Dt K H v d → Dt K H (.ref a) (.dict [(.int C, .none), (.str f, d)])
inductive DtAll (K : PySem.W.Frag) (H : Hp) : List V → List PyData → Prop
  | nil : DtAll K H [] []
  | cons {v : V} {vs : List V} {d : PyData} {ds : List PyData} : Dt K H v d → DtAll K H vs ds → DtAll K H (v :: vs) (d :: ds)
end
/-- less known, the same content -/
def Le (H H' : Hp) : Prop := ∀ a o, H a = some o → H' a = some o
theorem Le.refl (H : Hp) : Le H H := fun _ _ h => h
theorem Le.trans {H H1 H2 : Hp} (a : Le H H1) (b : Le H1 H2) : Le H H2 := fun x o h => b x o (a x o h)
theorem Le.sqL {K : PySem.W.Frag} {H H' : Hp} {a : Addr} {xs : List V} (e : Le H H') (h : SqL K H a xs) : SqL K H' a xs := by
  rcases h with (h | ⟨ow, h⟩) | h
  · exact .inl (.inl (e _ _ h))
  · exact .inl (.inr ⟨ow, e _ _ h⟩)
  · exact .inr h
theorem Le.sqT {K : PySem.W.Frag} {H H' : Hp} {a : Addr} {xs : List V} (e : Le H H') (h : SqT K H a xs) : SqT K H' a xs := by
  rcases h with (h | ⟨ow, h⟩) | h
  · exact .inl (.inl (e _ _ h))
  · exact .inl (.inr ⟨ow, e _ _ h⟩)
  · exact .inr h
mutual
theorem Dt.le {K : PySem.W.Frag} {H H' : Hp} (e : Le H H') : ∀ {v : V} {d : PyData}, Dt K H v d → Dt K H' v d
  | _, _, .non => .non
  | _, _, .bl b => .bl b
  | _, _, .int i => .int i
  | _, _, .str x => .str x
  | _, _, .lst h r => .lst (e _ _ h) (DtAll.le e r)
  | _, _, .tup h r => .tup (e.sqT h) (DtAll.le e r)
  | _, _, .scr h r => .scr (e.sqL h) (DtAll.le e r)
  | _, _, .exc0 h => .exc0 (e _ _ h)
  | _, _, .exc1 h h2 r => .exc1 (e _ _ h) (e _ _ h2) (Dt.le e r)
theorem DtAll.le {K : PySem.W.Frag} {H H' : Hp} (e : Le H H') : ∀ {vs : List V} {ds : List PyData}, DtAll K H vs ds → DtAll K H' vs ds
  | _, _, .nil => .nil
  | _, _, .cons h r => .cons (Dt.le e h) (DtAll.le e r)
end
mutual
theorem Dt.le2 {K : PySem.W.Frag} {H H' : Hp} (e : ∀ a xs, H a = some (.lst xs) → H' a = some (.lst xs)) (e2 : ∀ a xs, SqT K H a xs → SqT K H' a xs) (e3 : ∀ a xs, SqL K H a xs → SqL K H' a xs) (e4 : ∀ a φ, H a = some (.ext φ) → H' a = some (.ext φ)) : ∀ {v : V} {d : PyData}, Dt K H v d → Dt K H' v d
  | _, _, .non => .non
  | _, _, .bl b => .bl b
  | _, _, .int i => .int i
  | _, _, .str x => .str x
  | _, _, .lst h r => .lst (e _ _ h) (DtAll.le2 e e2 e3 e4 r)
  | _, _, .tup h r => .tup (e2 _ _ h) (DtAll.le2 e e2 e3 e4 r)
  | _, _, .scr h r => .scr (e3 _ _ h) (DtAll.le2 e e2 e3 e4 r)
  | _, _, .exc0 h => .exc0 (e4 _ _ h)
  | _, _, .exc1 h h2 r => .exc1 (e4 _ _ h) (e4 _ _ h2) (Dt.le2 e e2 e3 e4 r)
theorem DtAll.le2 {K : PySem.W.Frag} {H H' : Hp} (e : ∀ a xs, H a = some (.lst xs) → H' a = some (.lst xs)) (e2 : ∀ a xs, SqT K H a xs → SqT K H' a xs) (e3 : ∀ a xs, SqL K H a xs → SqL K H' a xs) (e4 : ∀ a φ, H a = some (.ext φ) → H' a = some (.ext φ)) : ∀ {vs : List V} {ds : List PyData}, DtAll K H vs ds → DtAll K H' vs ds
  | _, _, .nil => .nil
  | _, _, .cons h r => .cons (Dt.le2 e e2 e3 e4 h) (DtAll.le2 e e2 e3 e4 r)
end
-- no dict in it
mutual
def noD : PyData → Bool
  | .list xs => noDs xs
  | .tuple xs => noDs xs
  | .dict _ => false
  | _ => true
def noDs : List PyData → Bool
  | [] => true
  | x :: r => noD x && noDs r
end
mutual
theorem noD_lay : ∀ d : PyData, d.canLay0 = true → noD d = true
  | .list xs, h => by simp only [PyData.canLay0] at h; simp only [noD]; exact noDs_lay xs h
  | .tuple xs, h => by simp only [PyData.canLay0] at h; simp only [noD]; exact noDs_lay xs h
  | .dict _, h => by simp [PyData.canLay0] at h
  | .none, _ => rfl
  | .bool _, _ => rfl
  | .int _, _ => rfl
  | .str _, _ => rfl
theorem noDs_lay : ∀ ds : List PyData, PyData.canLayAll0 ds = true → noDs ds = true
  | [], _ => rfl
  | x :: r, h => by
    simp only [PyData.canLayAll0, Bool.and_eq_true] at h
    simp only [noDs, Bool.and_eq_true]
    exact ⟨noD_lay x h.1, noDs_lay r h.2⟩
end
mutual
theorem Dt.dp {K : PySem.W.Frag} {H : Hp} : ∀ {v : V} {d : PyData}, Dt K H v d → noD d = true → Dp K H v d
  | _, _, .non, _ => .non
  | _, _, .bl b, _ => .bl b
  | _, _, .int i, _ => .int i
  | _, _, .str x, _ => .str x
  | _, _, .lst h r, n => .lst (SqL.of h) (DtAll.dp r (by simpa only [noD] using n))
  | _, _, .tup h r, n => .tup h (DtAll.dp r (by simpa only [noD] using n))
  | _, _, .scr _ _, n => by simp [noD] at n
  | _, _, .exc0 _, n => by simp [noD] at n
  | _, _, .exc1 _ _ _, n => by simp [noD] at n
theorem DtAll.dp {K : PySem.W.Frag} {H : Hp} : ∀ {vs : List V} {ds : List PyData}, DtAll K H vs ds → noDs ds = true → DpAll K H vs ds
  | _, _, .nil, _ => .nil
  | _, _, .cons h r, n => by
    simp only [noDs, Bool.and_eq_true] at n
    exact .cons (Dt.dp h n.1) (DtAll.dp r n.2)
end
section
variable {K : PySem.W.Frag} {H H' : Hp} {vs ws : List V} {ds es : List PyData}
theorem DtAll.length : ∀ {vs : List V} {ds : List PyData}, DtAll K H vs ds → vs.length = ds.length
  | _, _, .nil => rfl
  | _, _, .cons _ r => by rw [List.length_cons, List.length_cons, DtAll.length r]
theorem DtAll.append : ∀ {vs : List V} {ds : List PyData}, DtAll K H vs ds → DtAll K H ws es → DtAll K H (vs ++ ws) (ds ++ es)
  | _, _, .nil, s => s
  | _, _, .cons h r, s => .cons h (DtAll.append r s)
theorem DtAll.get : ∀ {vs : List V} {ds : List PyData} {i : Nat} {d : PyData}, DtAll K H vs ds → ds[i]? = some d → ∃ v, vs[i]? = some v ∧ Dt K H v d
  | _, _, _, _, .nil, eg => by simp at eg
  | _, _, 0, _, .cons h _, e => by simp at e; subst e; exact ⟨_, rfl, h⟩
  | _, _, i + 1, d, .cons _ r, e => by
    obtain ⟨v, h1, h2⟩ := DtAll.get (i := i) r (by simpa using e)
    exact ⟨v, by simpa using h1, h2⟩
theorem DtAll.getV : ∀ {vs : List V} {ds : List PyData} {i : Nat} {v : V}, DtAll K H vs ds → vs[i]? = some v → ∃ d, ds[i]? = some d ∧ Dt K H v d
  | _, _, _, _, .nil, eg => by simp at eg
  | _, _, 0, _, .cons h _, e => by simp at e; subst e; exact ⟨_, rfl, h⟩
  | _, _, i + 1, d, .cons _ r, e => by
    obtain ⟨v, h1, h2⟩ := DtAll.getV (i := i) r (by simpa using e)
    exact ⟨v, by simpa using h1, h2⟩
theorem DtAll.set : ∀ {vs : List V} {ds : List PyData} (i : Nat) {v : V} {d : PyData}, Dt K H v d → DtAll K H vs ds → DtAll K H (vs.set i v) (ds.set i d)
  | _, _, _, _, _, _, .nil => .nil
  | _, _, 0, _, _, h, .cons _ r => .cons h r
  | _, _, i + 1, _, _, h, .cons q r => .cons q (DtAll.set i h r)
theorem DtAll.take : ∀ {vs : List V} {ds : List PyData} (n : Nat), DtAll K H vs ds → DtAll K H (vs.take n) (ds.take n)
  | _, _, 0, _ => .nil
  | _, _, _ + 1, .nil => .nil
  | _, _, n + 1, .cons h r => .cons h (DtAll.take n r)
theorem DtAll.drop : ∀ {vs : List V} {ds : List PyData} (n : Nat), DtAll K H vs ds → DtAll K H (vs.drop n) (ds.drop n)
  | _, _, 0, r => r
  | _, _, _ + 1, .nil => .nil
  | _, _, n + 1, .cons _ r => DtAll.drop n r
theorem DtAll.reverse : ∀ {vs : List V} {ds : List PyData}, DtAll K H vs ds → DtAll K H vs.reverse ds.reverse
  | _, _, .nil => .nil
  | _, _, .cons h r => by
    repeat rw [List.reverse_cons]
    exact DtAll.append (DtAll.reverse r) (.cons h .nil)
theorem DtAll.eraseIdx : ∀ {vs : List V} {ds : List PyData} (i : Nat), DtAll K H vs ds → DtAll K H (vs.eraseIdx i) (ds.eraseIdx i)
  | _, _, _, .nil => .nil
  | _, _, 0, .cons _ r => r
  | _, _, i + 1, .cons q r => .cons q (DtAll.eraseIdx i r)
theorem DtAll.dropLast {vs : List V} {ds : List PyData} (r : DtAll K H vs ds) : DtAll K H vs.dropLast ds.dropLast := by
  rw [List.dropLast_eq_take, List.dropLast_eq_take, r.length]
  exact r.take _
/-- ints alone -/
theorem DtAll.ints (ns : List Int) : DtAll K H (ns.map V.int) (ns.map PyData.int) := by
  induction ns with
  | nil => exact .nil
  | cons n r ih => exact .cons (.int n) ih
end

/-! ## what is held -/
abbrev Sl := Option V × SV
def ads : List Sl → List Addr
  | [] => []
  | (some (.ref a), .m _) :: r => a :: ads r
  | (some (.ref a), .t _) :: r => a :: ads r
  | _ :: r => ads r
def adr : Sl → Option Addr
  | (some (.ref a), .m _) => some a
  | (some (.ref a), .t _) => some a
  | _ => none
theorem ads_eq : ∀ ps : List Sl, ads ps = ps.filterMap adr
  | [] => rfl
  | p :: r => by
    have ih := ads_eq r
    obtain ⟨o, s⟩ := p
    cases o with
    | none => exact ih
    | some v => cases v <;> cases s <;> first | exact ih | (show _ :: ads r = _ :: _; rw [ih])
def hid (ms : List Addr) (H : Hp) : Hp := fun b => if b ∈ ms then none else H b
theorem hid_eq {ms ns : List Addr} {H : Hp} (h : ∀ b, b ∈ ms ↔ b ∈ ns) : hid ms H = hid ns H := by
  funext b; unfold hid; simp only [h b]
theorem hid_le {ms ns : List Addr} {H : Hp} (h : ∀ b, b ∈ ns → b ∈ ms) : Le (hid ms H) (hid ns H) := fun a o e => by
  unfold hid at e ⊢
  by_cases q : a ∈ ms
  · rw [if_pos q] at e; cases e
  · rw [if_neg q] at e; rw [if_neg (fun z => q (h a z))]; exact e
theorem hid_sub {ms : List Addr} {H : Hp} : Le (hid ms H) H := fun a o e => by
  unfold hid at e
  split at e
  · cases e
  · exact e
theorem hid_mono {ms : List Addr} {H H' : Hp} (h : ∀ b o, b ∉ ms → H b = some o → H' b = some o) : Le (hid ms H) (hid ms H') := fun a o e => by
  unfold hid at e ⊢
  by_cases q : a ∈ ms
  · rw [if_pos q] at e; cases e
  · rw [if_neg q] at e ⊢; exact h a o q e
theorem hid_of {ms : List Addr} {H : Hp} {a : Addr} {o : HO} (h : H a = some o) (q : a ∉ ms) : hid ms H a = some o := by
  unfold hid; rw [if_neg q]; exact h

def KvD (K : PySem.W.Frag) (H : Hp) : List En → List (List Int × PyData) → Prop := Paired fun p q => p.1 = q.1 ∧ SqT K H p.2.1 (p.1.map V.int) ∧ Dt K H p.2.2 q.2
theorem KvD.le {K : PySem.W.Frag} {H H' : Hp} {ws : List En} {kvs : List (List Int × PyData)} (h : KvD K H ws kvs) (e : Le H H') : KvD K H' ws kvs := Paired.mapP h fun p q z => ⟨z.1, e.sqT z.2.1, z.2.2.le e⟩
def Ok (K : PySem.W.Frag) (H Hd : Hp) : Sl → Prop
  | (_, .no) => True
  | (some v, .d x) => Dt K Hd v x
  | (some (.ref a), .m xs) => ∃ vs, H a = some (.lst vs) ∧ DtAll K Hd vs xs
  | (some (.ref a), .t kvs) => ∃ ws, H a = some (dto a ws) ∧ KvD K Hd ws kvs
  | _ => False
-- the written part, and the tables of the defs that hold generator expressions
/-- .. and what stands at some addresses, whatever is done -/
abbrev Tbs := List Addr × List (Addr × HO)
abbrev KF := PySem.W.Frag × Tbs
structure Hs (K : KF) (H : Hp) (ps : List Sl) : Prop where
  nd : (ads ps).Nodup
  ok : ∀ p ∈ ps, Ok K.1 H (hid (ads ps) H) p
  tb : ∀ P ∈ K.2.1, GxR.TabG H P
  pn : ∀ q ∈ K.2.2, H q.1 = some q.2 ∧ q.1 ∉ ads ps ∧ ∀ z, q.2 ≠ .tbl z
section
variable {K : KF} {H H' : Hp} {ps qs : List Sl} {p : Sl}
theorem Ok.le {Hd Hd' : Hp} (h : Ok K.1 H Hd p) (e : Le Hd Hd') (k : ∀ a o, adr p = some a → H a = some o → H' a = some o) : Ok K.1 H' Hd' p := by
  obtain ⟨o, s⟩ := p
  cases s with
  | no => trivial
  | d x => cases o with
    | none => exact h
    | some v => exact Dt.le e h
  | m xs => cases o with
    | none => exact h
    | some v => cases v with
      | ref a =>
        obtain ⟨vs, h1, h2⟩ := h
        exact ⟨vs, k a _ rfl h1, h2.le e⟩
      | _ => exact h
  | t kvs => cases o with
    | none => exact h
    | some v => cases v with
      | ref a =>
        obtain ⟨ws, h1, h2⟩ := h
        exact ⟨ws, k a _ rfl h1, KvD.le h2 e⟩
      | _ => exact h
theorem mem_ads {a : Addr} : a ∈ ads ps ↔ ∃ p ∈ ps, adr p = some a := by
  rw [ads_eq]; exact List.mem_filterMap
theorem Hs.perm (h : Hs K H ps) (e : ps.Perm qs) : Hs K H qs := by
  have ea : (ads ps).Perm (ads qs) := by rw [ads_eq, ads_eq]; exact e.filterMap _
  refine ⟨ea.nodup_iff.mp h.nd, fun p hp => ?_, h.tb, fun q hq => ⟨(h.pn q hq).1, fun z => (h.pn q hq).2.1 (ea.mem_iff.mpr z), (h.pn q hq).2.2⟩⟩
  have := h.ok p (e.mem_iff.mpr hp)
  rw [hid_eq (ns := ads qs) fun b => ea.mem_iff] at this
  exact this
theorem Hs.tail (h : Hs K H (p :: ps)) : Hs K H ps := by
  have hs : ∀ b, b ∈ ads ps → b ∈ ads (p :: ps) := fun b hb => by
    obtain ⟨q, hq, e⟩ := mem_ads.mp hb
    exact mem_ads.mpr ⟨q, List.mem_cons_of_mem _ hq, e⟩
  have nd : (ads ps).Nodup := by
    have := h.nd
    rw [ads_eq] at this ⊢
    rw [List.filterMap_cons] at this
    split at this
    · exact this
    · exact (List.nodup_cons.mp this).2
  exact ⟨nd, fun q hq => (h.ok q (List.mem_cons_of_mem _ hq)).le (hid_le hs) fun _ _ _ e => e, h.tb, fun q hq => ⟨(h.pn q hq).1, fun z => (h.pn q hq).2.1 (hs _ z), (h.pn q hq).2.2⟩⟩
theorem Hs.cons_no {o : Option V} (h : Hs K H ps) : Hs K H ((o, .no) :: ps) := by
  have e : ads ((o, .no) :: ps) = ads ps := by
    rw [ads_eq, ads_eq, List.filterMap_cons]
    have : adr (o, SV.no) = none := by cases o with
      | none => rfl
      | some v => cases v <;> rfl
    rw [this]
  refine ⟨by rw [e]; exact h.nd, fun q hq => ?_, h.tb, by rw [e]; exact h.pn⟩
  rw [e]
  rcases List.mem_cons.mp hq with z | hq
  · subst z; exact True.intro
  · exact h.ok q hq
/-- the heap grows -/
theorem Hs.grow (h : Hs K H ps) (e : Le H H') : Hs K H' ps :=
  ⟨h.nd, fun p hp => (h.ok p hp).le (hid_mono fun b o _ q => e b o q) fun a o _ q => e a o q, fun P hP => let ⟨ts, e1, t⟩ := h.tb P hP; ⟨ts, e _ _ e1, t⟩, fun q hq => ⟨e _ _ (h.pn q hq).1, (h.pn q hq).2⟩⟩
theorem Hs.cons_d {v : V} {x : PyData} (h : Hs K H ps) (q : Dt K.1 (hid (ads ps) H) v x) : Hs K H ((some v, .d x) :: ps) := by
  have e : ads ((some v, .d x) :: ps) = ads ps := by
    rw [ads_eq, ads_eq, List.filterMap_cons]
    have : adr (some v, SV.d x) = none := by cases v <;> rfl
    rw [this]
  refine ⟨by rw [e]; exact h.nd, fun p hp => ?_, h.tb, by rw [e]; exact h.pn⟩
  rw [e]
  rcases List.mem_cons.mp hp with (z | hp)
  · subst z; exact q
  · exact h.ok p hp
theorem Hs.get_d {v : V} {x : PyData} (h : Hs K H ((some v, .d x) :: ps)) : Dt K.1 (hid (ads ps) H) v x := by
  have e : ads ((some v, .d x) :: ps) = ads ps := by
    rw [ads_eq, ads_eq, List.filterMap_cons]
    have : adr (some v, SV.d x) = none := by cases v <;> rfl
    rw [this]
  have := h.ok _ List.mem_cons_self
  rw [e] at this
  exact this
/-- an own list that stands -/
theorem Hs.get_m {v : V} {xs : List PyData} (h : Hs K H ((some v, .m xs) :: ps)) : ∃ a vs, v = .ref a ∧ H a = some (.lst vs) ∧ DtAll K.1 (hid (a :: ads ps) H) vs xs ∧ a ∉ ads ps := by
  have q := h.ok _ List.mem_cons_self
  cases v with
  | ref a =>
    obtain ⟨vs, h1, h2⟩ := q
    exact ⟨a, vs, rfl, h1, h2, (List.nodup_cons.mp h.nd).1⟩
  | _ => exact q.elim
theorem Hs.get_t {v : V} {kvs : List (List Int × PyData)} (h : Hs K H ((some v, .t kvs) :: ps)) : ∃ a ws, v = .ref a ∧ H a = some (dto a ws) ∧ KvD K.1 (hid (a :: ads ps) H) ws kvs ∧ a ∉ ads ps := by
  have q := h.ok _ List.mem_cons_self
  cases v with
  | ref a =>
    obtain ⟨vs, h1, h2⟩ := q
    exact ⟨a, vs, rfl, h1, h2, (List.nodup_cons.mp h.nd).1⟩
  | _ => exact q.elim
theorem Hs.cons_m {a : Addr} {vs : List V} {xs : List PyData} (h : Hs K H ps) (e : H a = some (.lst vs)) (q : DtAll K.1 (hid (a :: ads ps) H) vs xs) (n : a ∉ ads ps)
    (hu : ∀ p ∈ ps, Ok K.1 H (hid (a :: ads ps) H) p) (np : ∀ q ∈ K.2.2, q.1 ≠ a) : Hs K H ((some (.ref a), .m xs) :: ps) :=
  ⟨List.nodup_cons.mpr ⟨n, h.nd⟩, fun p hp => by
    rcases List.mem_cons.mp hp with (z | hp)
    · subst z; exact ⟨vs, e, q⟩
    · exact hu p hp, h.tb, fun q hq => ⟨(h.pn q hq).1, fun z => (List.mem_cons.mp z).elim (np q hq) (h.pn q hq).2.1, (h.pn q hq).2.2⟩⟩
theorem Hs.free_ads (h : Hs K H ps) {a : Addr} (n : H a = none) : a ∉ ads ps := fun hm => by
  obtain ⟨p, hp, e⟩ := mem_ads.mp hm
  have q := h.ok p hp
  obtain ⟨o, s⟩ := p
  cases o with
  | none => cases e
  | some v => cases v with
    | ref b => cases s with
      | m xs =>
        cases e
        obtain ⟨vs, h1, _⟩ := q
        rw [n] at h1; cases h1
      | t xs =>
        cases e
        obtain ⟨vs, h1, _⟩ := q
        rw [n] at h1; cases h1
      | _ => cases e
    | _ => cases s <;> cases e
theorem le_upd {a : Addr} {o : HO} (n : H a = none) : Le H (upd H a o) := fun b u e => by
  rw [upd_ne (ne_of_none e n)]; exact e
/-- a new list -/
theorem Hs.new_m {a : Addr} {vs : List V} {xs : List PyData} (h : Hs K H ps) (n : H a = none) (q : DtAll K.1 (hid (ads ps) H) vs xs) : Hs K (upd H a (.lst vs)) ((some (.ref a), .m xs) :: ps) := by
  have na := h.free_ads n
  have le : Le (hid (ads ps) H) (hid (a :: ads ps) (upd H a (.lst vs))) := fun b o e => by
    have hb : b ∉ ads ps := fun z => by unfold hid at e; rw [if_pos z] at e; cases e
    have eb : H b = some o := hid_sub b o e
    have ne : b ≠ a := ne_of_none eb n
    unfold hid
    rw [if_neg (fun z => (List.mem_cons.mp z).elim ne hb), upd_ne ne]
    exact eb
  refine (h.grow (le_upd n)).cons_m upd_same (q.le le) na (fun p hp => (h.ok p hp).le le fun b o e q => ?_) fun q hq z => ?_
  · rw [upd_ne (ne_of_none q n)]; exact q
  · have := (h.pn q hq).1
    rw [z, n] at this
    cases this
theorem Hs.new_t {a : Addr} {ws : List En} {kvs : List (List Int × PyData)} (h : Hs K H ps) (n : H a = none) (q : KvD K.1 (hid (ads ps) H) ws kvs) : Hs K (upd H a (dto a ws)) ((some (.ref a), .t kvs) :: ps) := by
  have na := h.free_ads n
  have le : Le (hid (ads ps) H) (hid (a :: ads ps) (upd H a (dto a ws))) := fun b o e => by
    have hb : b ∉ ads ps := fun z => by unfold hid at e; rw [if_pos z] at e; cases e
    have eb : H b = some o := hid_sub b o e
    have ne : b ≠ a := ne_of_none eb n
    unfold hid
    rw [if_neg (fun z => (List.mem_cons.mp z).elim ne hb), upd_ne ne]
    exact eb
  refine ⟨List.nodup_cons.mpr ⟨na, h.nd⟩, fun p hp => ?_, (h.grow (le_upd n)).tb, fun q hq => ⟨((h.grow (le_upd n)).pn q hq).1, fun z => (List.mem_cons.mp z).elim (fun z => ?_) (h.pn q hq).2.1, (h.pn q hq).2.2⟩⟩
  rotate_left
  · have := (h.pn q hq).1
    have z' : q.1 = a := z
    rw [z', n] at this
    cases this
  rcases List.mem_cons.mp hp with (z | hp)
  · subst z; exact ⟨ws, upd_same, q.le le⟩
  · exact (h.ok p hp).le le fun b o e q => by rw [upd_ne (ne_of_none q n)]; exact q
/-- a new tuple -/
theorem Hs.new_tup {a : Addr} {vs : List V} {xs : List PyData} (h : Hs K H ps) (n : H a = none) (q : DtAll K.1 (hid (ads ps) H) vs xs) : Hs K (upd H a (.tup vs)) ((some (.ref a), .d (.tuple xs)) :: ps) := by
  have na := h.free_ads n
  refine (h.grow (le_upd n)).cons_d (.tup (SqT.of (hid_of upd_same na)) (q.le (hid_mono fun b o _ e => ?_)))
  rw [upd_ne (ne_of_none e n)]; exact e
/-- an own list is let go: from now on no one changes it -/
theorem Hs.freeze {v : V} {xs : List PyData} (h : Hs K H ((some v, .m xs) :: ps)) : Hs K H ((some v, .d (.list xs)) :: ps) := by
  obtain ⟨a, vs, rfl, h1, h2, n⟩ := h.get_m
  exact h.tail.cons_d (.lst (hid_of h1 n) (h2.le (hid_le fun b hb => List.mem_cons_of_mem _ hb)))
/-- an own list is changed -/
theorem Hs.write {v : V} {a : Addr} {vs' : List V} {xs xs' : List PyData} (h : Hs K H ((some (.ref a), .m xs) :: ps)) (q : DtAll K.1 (hid (a :: ads ps) H) vs' xs') : Hs K (upd H a (.lst vs')) ((some (.ref a), .m xs') :: ps) := by
  obtain ⟨b, vs, e, h1, h2, n⟩ := h.get_m
  cases e
  have le : Le (hid (a :: ads ps) H) (hid (a :: ads ps) (upd H a (.lst vs'))) := hid_mono fun b o nb e => by
    rw [upd_ne (fun z => nb (by rw [z]; exact List.mem_cons_self))]; exact e
  refine ⟨h.nd, fun p hp => ?_, fun P hP => ?_, fun q hq => ⟨?_, (h.pn q hq).2⟩⟩
  rotate_left
  · obtain ⟨ts, e1, t⟩ := h.tb P hP
    exact ⟨ts, by rw [upd_ne (ne_of e1 h1 (by intro z; cases z))]; exact e1, t⟩
  · rw [upd_ne (fun z => (h.pn q hq).2.1 (List.mem_cons.mpr (.inl z)))]
    exact (h.pn q hq).1
  rcases List.mem_cons.mp hp with (z | hp)
  · subst z; exact ⟨vs', upd_same, q.le le⟩
  · refine (h.ok p (List.mem_cons_of_mem _ hp)).le le fun b o e z => ?_
    rw [upd_ne (fun (y : b = a) => n (by rw [← y]; exact mem_ads.mpr ⟨p, hp, e⟩))]; exact z
/-- an own dict is changed -/
theorem Hs.writeT {a : Addr} {ws' : List En} {kvs kvs' : List (List Int × PyData)} (h : Hs K H ((some (.ref a), .t kvs) :: ps)) (q : KvD K.1 (hid (a :: ads ps) H) ws' kvs') : Hs K (upd H a (dto a ws')) ((some (.ref a), .t kvs') :: ps) := by
  obtain ⟨b, vs, e, h1, h2, n⟩ := h.get_t
  cases e
  have le : Le (hid (a :: ads ps) H) (hid (a :: ads ps) (upd H a (dto a ws'))) := hid_mono fun b o nb e => by
    rw [upd_ne (fun z => nb (by rw [z]; exact List.mem_cons_self))]; exact e
  refine ⟨h.nd, fun p hp => ?_, fun P hP => ?_, fun q hq => ⟨?_, (h.pn q hq).2⟩⟩
  rotate_left
  · obtain ⟨ts, e1, t⟩ := h.tb P hP
    exact ⟨ts, by rw [upd_ne (ne_of e1 h1 (by intro z; cases z))]; exact e1, t⟩
  · rw [upd_ne (fun z => (h.pn q hq).2.1 (List.mem_cons.mpr (.inl z)))]
    exact (h.pn q hq).1
  rcases List.mem_cons.mp hp with (z | hp)
  · subst z; exact ⟨ws', upd_same, q.le le⟩
  · refine (h.ok p (List.mem_cons_of_mem _ hp)).le le fun b o e z => ?_
    rw [upd_ne (fun (y : b = a) => n (by rw [← y]; exact mem_ads.mpr ⟨p, hp, e⟩))]; exact z
/-- a table has grown -/
theorem Hs.tabbed {P : Addr} (h : Hs K H ps) (hP : P ∈ K.2.1) (t : GxR.Tabbed P H H') : Hs K H' ps := by
  obtain ⟨ts, e1, _⟩ := h.tb P hP
  have nP : ∀ b o, H b = some o → (∀ q, o ≠ .tbl q) → H' b = some o := fun b o e q => by
    rw [t.2 b (fun z => by rw [z, e1] at e; exact q ts (Option.some.inj e).symm)]; exact e
  have sq : ∀ {ms : List Addr} {a : Addr} {xs : List V}, SqT K.1 (hid ms H) a xs → SqT K.1 (hid ms H') a xs := fun {ms a xs} e => by
    rcases e with (e | ⟨o, e⟩) | e
    · have hb : a ∉ ms := fun z => by unfold hid at e; rw [if_pos z] at e; cases e
      exact .inl (.inl (hid_of (nP a _ (hid_sub a _ e) fun q z => by cases z) hb))
    · have hb : a ∉ ms := fun z => by unfold hid at e; rw [if_pos z] at e; cases e
      exact .inl (.inr ⟨o, hid_of (nP a _ (hid_sub a _ e) fun q z => by cases z) hb⟩)
    · exact .inr e
  have dt : ∀ {ms : List Addr}, (∀ v d, Dt K.1 (hid ms H) v d → Dt K.1 (hid ms H') v d) := fun {ms} v d q => by
    refine Dt.le2 (H := hid ms H) (fun a xs e => ?_) (fun a xs e => ?_) (fun a xs e => ?_) (fun a φ e => ?_) q
    rotate_left 3
    · have hb : a ∉ ms := fun z => by unfold hid at e; rw [if_pos z] at e; cases e
      exact hid_of (nP a _ (hid_sub a _ e) fun q z => by cases z) hb
    rotate_left 2
    · rcases e with (e | ⟨o, e⟩) | e
      · have hb : a ∉ ms := fun z => by unfold hid at e; rw [if_pos z] at e; cases e
        exact .inl (.inl (hid_of (nP a _ (hid_sub a _ e) fun q z => by cases z) hb))
      · have hb : a ∉ ms := fun z => by unfold hid at e; rw [if_pos z] at e; cases e
        exact .inl (.inr ⟨o, hid_of (nP a _ (hid_sub a _ e) fun q z => by cases z) hb⟩)
      · exact .inr e
    · have hb : a ∉ ms := fun z => by unfold hid at e; rw [if_pos z] at e; cases e
      exact hid_of (nP a _ (hid_sub a _ e) fun q z => by cases z) hb
    · rcases e with (e | ⟨o, e⟩) | e
      · have hb : a ∉ ms := fun z => by unfold hid at e; rw [if_pos z] at e; cases e
        exact .inl (.inl (hid_of (nP a _ (hid_sub a _ e) fun q z => by cases z) hb))
      · have hb : a ∉ ms := fun z => by unfold hid at e; rw [if_pos z] at e; cases e
        exact .inl (.inr ⟨o, hid_of (nP a _ (hid_sub a _ e) fun q z => by cases z) hb⟩)
      · exact .inr e
  have dts : ∀ {ms : List Addr} {vs : List V} {ds : List PyData}, DtAll K.1 (hid ms H) vs ds → DtAll K.1 (hid ms H') vs ds := fun {ms vs ds} q => by
    induction vs generalizing ds with -- by the values
    | nil => cases q; exact .nil
    | cons v vs ih => cases q with
      | cons a b => exact .cons (dt _ _ a) (ih b)
  refine ⟨h.nd, fun p hp => ?_, fun Q hQ => ?_, fun q hq => ⟨nP _ _ (h.pn q hq).1 (h.pn q hq).2.2, (h.pn q hq).2⟩⟩
  · have q := h.ok p hp
    obtain ⟨o, s⟩ := p
    cases s with
    | no => trivial
    | d x => cases o with
      | none => exact q
      | some v => exact dt v x q
    | m xs => cases o with
      | none => exact q
      | some v => cases v with
        | ref a =>
          obtain ⟨vs, h1, h2⟩ := q
          exact ⟨vs, nP a _ h1 (fun q z => by cases z), dts h2⟩
        | _ => exact q
    | t kvs => cases o with
      | none => exact q
      | some v => cases v with
        | ref a =>
          obtain ⟨ws, h1, h2⟩ := q
          exact ⟨ws, nP a _ h1 (fun q z => dto_tbl z), Paired.mapP h2 fun p q z => ⟨z.1, sq z.2.1, dt _ _ z.2.2⟩⟩
        | _ => exact q
  · by_cases e : Q = P
    · rw [e]; exact t.1
    · obtain ⟨us, e2, t2⟩ := h.tb Q hQ
      exact ⟨us, by rw [t.2 Q e]; exact e2, t2⟩
end
end DL

namespace DL
open PySem L2

/-! ## lists of slots -/
section
variable {α : Type}
theorem perm_at : ∀ {l : List α} {i : Nat} {p : α}, l[i]? = some p → l.Perm (p :: l.eraseIdx i)
  | [], _, _, h => by simp at h
  | a :: r, 0, p, h => by simp at h; subst h; exact List.Perm.refl _
  | a :: r, i + 1, p, h => by
    have ih := perm_at (l := r) (i := i) (p := p) (by simpa using h)
    exact (ih.cons a).trans (List.Perm.swap p a _)
theorem perm_set : ∀ {l : List α} {i : Nat} {p q : α}, l[i]? = some p → (l.set i q).Perm (q :: l.eraseIdx i)
  | [], _, _, _, hg => by simp at hg
  | a :: r, 0, p, q, h => List.Perm.refl _
  | a :: r, i + 1, p, q, h => by
    have ih := perm_set (l := r) (i := i) (p := p) (q := q) (by simpa using h)
    exact (ih.cons a).trans (List.Perm.swap q a _)
end
theorem zip_set : ∀ {σ : List (Option V)} {Γ : List SV} {i : Nat} {o : Option V} {s : SV}, (σ.set i o).zip (Γ.set i s) = (σ.zip Γ).set i (o, s)
  | [], _, _, _, _ => by simp
  | _ :: _, [], i, _, _ => by cases i <;> simp
  | a :: r, b :: t, 0, o, s => rfl
  | a :: r, b :: t, i + 1, o, s => by
    show (a, b) :: (r.set i o).zip (t.set i s) = (a, b) :: (r.zip t).set i (o, s)
    rw [zip_set]
theorem zip_at {σ : List (Option V)} {Γ : List SV} {i : Nat} {s : SV} (hl : σ.length = Γ.length) (h : Γ[i]? = some s) : ∃ o, σ[i]? = some o ∧ (σ.zip Γ)[i]? = some (o, s) := by
  have hi := (List.getElem?_eq_some_iff.mp h).1
  have hi' : i < σ.length := by omega
  refine ⟨σ[i], List.getElem?_eq_getElem hi', ?_⟩
  rw [List.getElem?_zip_eq_some]
  exact ⟨List.getElem?_eq_getElem hi', h⟩

section
variable {K : KF} {H : Hp} {l ex : List Sl} {i : Nat} {p q : Sl}
theorem Hs.out (h : Hs K H (l ++ ex)) (e : l[i]? = some p) : Hs K H (p :: (l.eraseIdx i ++ ex)) := h.perm ((perm_at e).append_right ex)
theorem Hs.into (e : l[i]? = some p) (h : Hs K H (q :: (l.eraseIdx i ++ ex))) : Hs K H (l.set i q ++ ex) := h.perm ((perm_set e).symm.append_right ex)
theorem Hs.front {a b : List Sl} (h : Hs K H (a ++ p :: b)) : Hs K H (p :: (a ++ b)) := h.perm List.perm_middle
theorem Hs.mid {a b : List Sl} (h : Hs K H (p :: (a ++ b))) : Hs K H (a ++ p :: b) := h.perm List.perm_middle.symm
theorem Hs.drops {a b : List Sl} (h : Hs K H (a ++ b)) : Hs K H b := by
  induction a with
  | nil => exact h
  | cons x r ih => exact ih h.tail
theorem Hs.swap2 {a b : Sl} {r : List Sl} (h : Hs K H (a :: b :: r)) : Hs K H (b :: a :: r) := h.perm (List.Perm.swap b a r)
/-- of a value that no one changes there may be two -/
theorem Hs.copy {v : V} {x : PyData} (h : Hs K H ((some v, .d x) :: ex)) : Hs K H ((some v, .d x) :: (some v, .d x) :: ex) := by
  refine h.cons_d ?_
  have := h.ok _ List.mem_cons_self
  exact this
end

/-! ## the judgements -/
abbrev G := List SV
/-- a result, and the slot from which it was taken (an own list that is lent) -/
abbrev R := SV × Option Nat
abbrev TD := G → (R → G → Prop) → Prop
abbrev TDA := G → (List R → G → Prop) → Prop
abbrev TDT := G → (Bool → G → Prop) → Prop
structure ED where
  nx : G → Prop
  rt : SV → G → Prop
  bk : G → Prop := fun _ => False
  ct : G → Prop := fun _ => False
abbrev TDS := ED → G → Prop
structure HE (K : KF) (H : Hp) (σ : St) (Γ : G) (ex : List Sl) : Prop where
  len : σ.length = Γ.length
  hs : Hs K H (σ.zip Γ ++ ex)
def Og (σ : St) (v : V) (r : R) : Prop := ∀ i, r.2 = some i → σ[i]? = some (some v)
theorem Og.none {σ : St} {v : V} {s : SV} : Og σ v (s, none) := fun i e => by cases e
def Ogs (σ : St) (vs : List V) (rs : List R) : Prop := Paired (Og σ) vs rs
def tmp (vs : List V) (rs : List R) : List Sl := (vs.map some).zip (rs.map (·.1))
def tmpS (vs : List V) (ss : List SV) : List Sl := (vs.map some).zip ss

def DE (T : Tbs) (X : Cx) (e : Expr) (t : TD) : Prop := ∃ te, PE X e te ∧ ∀ σ H Γ ex (P : R → G → Prop) (Q : VK), HE (X.K, T) H σ Γ ex → t Γ P →
  (∀ v H' r Γ', HE (X.K, T) H' σ Γ' ((some v, r.1) :: ex) → Og σ v r → P r Γ' → Q v H') → te σ H Q
def DA (T : Tbs) (X : Cx) (es : List Expr) (t : TDA) : Prop := ∃ ta, PA X es ta ∧ ∀ σ H Γ ex (P : List R → G → Prop) (Q : List V → Hp → Prop), HE (X.K, T) H σ Γ ex → t Γ P →
  (∀ vs H' rs Γ', HE (X.K, T) H' σ Γ' (tmp vs rs ++ ex) → Ogs σ vs rs → P rs Γ' → Q vs H') → ta σ H Q
def DT (T : Tbs) (X : Cx) (e : Expr) (t : TDT) : Prop := ∃ tt, PT X e tt ∧ ∀ σ H Γ ex (P : Bool → G → Prop) (Q : Bool → Hp → Prop), HE (X.K, T) H σ Γ ex → t Γ P →
  (∀ b H' Γ', HE (X.K, T) H' σ Γ' ex → P b Γ' → Q b H') → tt σ H Q
/-- .. whatever the whole of it is (and, or) -/
def DW (T : Tbs) (X : Cx) (e : Expr) (t : TDT) : Prop := ∃ tt, PW X e tt ∧ ∀ σ H Γ ex (P : Bool → G → Prop) (Q : Bool → Hp → Prop), HE (X.K, T) H σ Γ ex → t Γ P →
  (∀ b H' Γ', HE (X.K, T) H' σ Γ' ex → P b Γ' → Q b H') → tt σ H Q
structure HS (K : KF) (fx : List Nat) (ρ : Nat → V) (H : Hp) (σ : St) (Γ : G) (ex : List Sl) : Prop where
  he : HE K H σ Γ ex
  fix : ∀ i ∈ fx, σ[i]? = some (some (ρ i))
structure Cmp (K : KF) (fx : List Nat) (ρ : Nat → V) (ex : List Sl) (E : ED) (D : Ends) : Prop where
  nx : ∀ σ H Γ, HS K fx ρ H σ Γ ex → E.nx Γ → D.nx σ H
  rt : ∀ v s σ H Γ, HS K fx ρ H σ Γ ((some v, s) :: ex) → E.rt s Γ → D.rt v H
  bk : ∀ σ H Γ, HS K fx ρ H σ Γ ex → E.bk Γ → D.bk σ H
  ct : ∀ σ H Γ, HS K fx ρ H σ Γ ex → E.ct Γ → D.ct σ H
def DS (T : Tbs) (X : Cx) (fx : List Nat) (st : Stmt) (t : TDS) : Prop := ∃ ts, PS X st ts ∧ ∀ ρ σ H Γ ex E D, HS (X.K, T) fx ρ H σ Γ ex → t E Γ → Cmp (X.K, T) fx ρ ex E D → ts D σ H
def DSs (T : Tbs) (X : Cx) (fx : List Nat) (st : List Stmt) (t : TDS) : Prop := ∃ ts, PSs X st ts ∧ ∀ ρ σ H Γ ex E D, HS (X.K, T) fx ρ H σ Γ ex → t E Γ → Cmp (X.K, T) fx ρ ex E D → ts D σ H

/-! ## lending -/
def back : List R → List SV → G → G
  | r :: rs, s :: ss, Γ => back rs ss (match r.2 with | some i => Γ.set i s | none => Γ)
  | _, _, Γ => Γ
section
variable {K : KF} {H : Hp} {σ : St} {Γ : G} {ex : List Sl} {v : V} {s : SV}
theorem HE.put {i : Nat} (h : HE K H σ Γ ((some v, s) :: ex)) (e : σ[i]? = some (some v)) : HE K H σ (Γ.set i s) ex := by
  refine ⟨by rw [List.length_set]; exact h.len, ?_⟩
  obtain ⟨hi, _⟩ := List.getElem?_eq_some_iff.mp e
  have hi' : i < Γ.length := by rw [← h.len]; exact hi
  obtain ⟨o, h1, h2⟩ := zip_at h.len (List.getElem?_eq_getElem hi')
  have e2 : σ.set i (some v) = σ := by
    refine List.ext_getElem? (fun j => ?_)
    rw [List.getElem?_set]
    split
    · rename_i q; subst q; first | exact e.symm | (rw [if_pos hi, e])
    · rfl
  have hz : σ.zip (Γ.set i s) = (σ.zip Γ).set i (some v, s) := by rw [← zip_set, e2]
  rw [hz]
  refine Hs.into h2 ?_
  have h3 := h.hs.front
  exact (Hs.out h3.tail h2).tail |> fun _ => by
    have h4 : Hs K H ((some v, s) :: ((σ.zip Γ) ++ ex)) := h3
    have h5 : Hs K H (((some v, s) :: (σ.zip Γ)) ++ ex) := h4
    have h6 : Hs K H ((o, Γ[i]) :: (((some v, s) :: (σ.zip Γ)).eraseIdx (i + 1) ++ ex)) := Hs.out (i := i + 1) h5 (by simpa using h2)
    exact h6.tail
theorem HE.dropx {p : Sl} (h : HE K H σ Γ (p :: ex)) : HE K H σ Γ ex := ⟨h.len, h.hs.front.tail⟩
theorem HE.perm {ex' : List Sl} (h : HE K H σ Γ ex) (e : ex.Perm ex') : HE K H σ Γ ex' := ⟨h.len, h.hs.perm (e.append_left _)⟩
theorem HE.back : ∀ {rs : List R} {ss : List SV} {vs : List V} {Γ : G}, ss.length = rs.length → Ogs σ vs rs → HE K H σ Γ (tmpS vs ss ++ ex) → HE K H σ (back rs ss Γ) ex
  | [], ss, vs, Γ, hl, og, h => by
    cases og
    cases ss with
    | nil => exact h
    | cons _ _ => cases hl
  | r :: rs, [], _, _, hl, _, _ => by cases hl
  | r :: rs, s :: ss, _, Γ, hl, og, h => by
    cases og with
    | cons o og =>
      rename_i v vs
      have h1 : HE K H σ Γ ((some v, s) :: (tmpS vs ss ++ ex)) := h
      show HE K H σ (DL.back rs ss (match r.2 with | some i => Γ.set i s | none => Γ)) ex
      refine HE.back (by simpa using hl) og ?_
      cases e : r.2 with
      | none => exact h1.dropx
      | some i => exact h1.put (o i e)
end

/-! ## operations by values -/
abbrev CT := List SV → (SV → List SV → Prop) → Prop
def Snd (K : KF) (r : List V → Hp → VK → Prop) (c : CT) : Prop := ∀ vs H ss ex (P : SV → List SV → Prop) (Q : VK), vs.length = ss.length → Hs K H (tmpS vs ss ++ ex) → c ss P →
  (∀ s ss' v H', P s ss' → ss'.length = ss.length → Hs K H' ((some v, s) :: (tmpS vs ss' ++ ex)) → Q v H') → r vs H Q
def Snd2 (K : KF) (r : R2) (c : CT) : Prop := ∀ x y H s1 s2 ex (P : SV → List SV → Prop) (Q : VK), Hs K H ((some x, s1) :: (some y, s2) :: ex) → c [s1, s2] P →
  (∀ s s1' s2' v H', P s [s1', s2'] → Hs K H' ((some v, s) :: (some x, s1') :: (some y, s2') :: ex) → Q v H') → r x y H Q
/-- a method's: the receiver, the arguments -/
def SndM (K : KF) (r : V → List V → Hp → VK → Prop) (c : CT) : Prop := ∀ x vs H s ss ex (P : SV → List SV → Prop) (Q : VK), vs.length = ss.length → Hs K H ((some x, s) :: (tmpS vs ss ++ ex)) → c (s :: ss) P →
  (∀ z s' ss' v H', P z (s' :: ss') → ss'.length = ss.length → Hs K H' ((some v, z) :: (some x, s') :: (tmpS vs ss' ++ ex)) → Q v H') → r x vs H Q
def tAp (ta : TDA) (c : CT) : TD := fun Γ P => ta Γ fun rs Γ1 => c (rs.map (·.1)) fun s ss => P (s, none) (back rs ss Γ1)
def tAp2 (ta tb : TD) (c : CT) : TD := fun Γ P => ta Γ fun r1 Γ1 => tb Γ1 fun r2 Γ2 => c [r1.1, r2.1] fun s ss => P (s, none) (back [r1, r2] ss Γ2)

section
variable {T : Tbs} {X : Cx} {a b e : Expr} {es : List Expr} {ta tb t : TD} {pos : Pos} {u : TDA} {c : CT}
theorem vals_len {σ : St} {vs : List V} {rs : List R} (h : Ogs σ vs rs) : vs.length = rs.length := Paired.length h
theorem tmp_S {vs : List V} {rs : List R} : tmp vs rs = tmpS vs (rs.map (·.1)) := rfl
def tdNil : TDA := fun Γ P => P [] Γ
def tdCons (t : TD) (u : TDA) : TDA := fun Γ P => t Γ fun r Γ1 => u Γ1 fun rs Γ2 => P (r :: rs) Γ2
theorem da_nil : DA T X [] tdNil := ⟨_, pa_nil, fun σ H Γ ex P Q h p q => q [] H [] Γ h .nil p⟩
theorem da_cons (ha : DE T X e t) (hr : DA T X es u) (hs : starEach (e :: es) X.env = (false, eval e X.env) :: starEach es X.env := by rfl) : DA T X (e :: es) (tdCons t u) := by
  obtain ⟨te, h1, h2⟩ := ha
  obtain ⟨tr, h3, h4⟩ := hr
  refine ⟨_, pa_cons h1 h3 hs, fun σ H Γ ex P Q h p q => ?_⟩
  refine h2 σ H Γ ex _ _ h p fun v H1 r Γ1 he og p1 => ?_
  refine h4 σ H1 Γ1 _ _ _ he p1 fun vs H2 rs Γ2 he2 ogs p2 => ?_
  refine q (v :: vs) H2 (r :: rs) Γ2 (he2.perm ?_) (.cons og ogs) p2
  exact List.perm_middle
/-- what a reading makes of an expression -/
def Sound (K : KF) (te : TE) (t : TD) : Prop := ∀ σ H Γ ex (P : R → G → Prop) (Q : VK), HE K H σ Γ ex → t Γ P → (∀ v H' r Γ', HE K H' σ Γ' ((some v, r.1) :: ex) → Og σ v r → P r Γ' → Q v H') → te σ H Q
theorem op2_sound {K : KF} {r : R2} {te tr : TE} (hs : Snd2 K r c) (h2 : Sound K te ta) (h4 : Sound K tr tb) : Sound K (tOp r te tr) (tAp2 ta tb c) := by
  intro σ H Γ ex P Q h p q
  refine h2 σ H Γ ex _ _ h p fun v H1 r Γ1 he og p1 => ?_
  refine h4 σ H1 Γ1 _ _ _ he p1 fun w H2 r' Γ2 he2 og2 p2 => ?_
  have hx : Hs K H2 ((some v, r.1) :: (some w, r'.1) :: (σ.zip Γ2 ++ ex)) := by
    have := he2.hs
    refine this.perm ?_
    refine (List.perm_middle (a := (some w, r'.1)) (l₁ := σ.zip Γ2) (l₂ := (some v, r.1) :: ex)).trans ?_
    refine ((List.perm_middle (a := (some v, r.1)) (l₁ := σ.zip Γ2) (l₂ := ex)).cons _).trans ?_
    exact List.Perm.swap _ _ _
  refine hs v w H2 r.1 r'.1 _ _ _ hx p2 fun s s1 s2 z H3 p3 h5 => ?_
  have h6 : HE K H3 σ Γ2 (tmpS [v, w] [s1, s2] ++ ((some z, s) :: ex)) := by
    refine ⟨he2.len, h5.perm ?_⟩
    show List.Perm ((some z, s) :: (some v, s1) :: (some w, s2) :: (σ.zip Γ2 ++ ex)) (σ.zip Γ2 ++ ((some v, s1) :: (some w, s2) :: (some z, s) :: ex))
    have p1 : List.Perm ((some z, s) :: (some v, s1) :: (some w, s2) :: (σ.zip Γ2 ++ ex)) ([(some v, s1), (some w, s2), (some z, s)] ++ (σ.zip Γ2 ++ ex)) :=
      (List.perm_middle (a := ((some z, s) : Sl)) (l₁ := [(some v, s1), (some w, s2)]) (l₂ := σ.zip Γ2 ++ ex)).symm.trans (List.Perm.refl _)
    refine p1.trans ?_
    rw [← List.append_assoc]
    refine (List.Perm.append_right ex List.perm_append_comm).trans ?_
    rw [List.append_assoc]
    exact List.Perm.refl _
  exact q z H3 (s, none) _ (HE.back (rs := [r, r']) (vs := [v, w]) rfl (.cons og (.cons og2 .nil)) h6) Og.none p3
/-- two operands -/
theorem de_op2 {r : R2} {pe : TE → TE → TE} {mk : Expr} (hp : ∀ ta tb, PE X a ta → PE X b tb → PE X mk (tOp r ta tb)) (hs : Snd2 (X.K, T) r c) (ha : DE T X a ta) (hb : DE T X b tb) : DE T X mk (tAp2 ta tb c) := by
  obtain ⟨te, h1, h2⟩ := ha
  obtain ⟨tr, h3, h4⟩ := hb
  exact ⟨_, hp _ _ h1 h3, op2_sound hs h2 h4⟩
/-- .. as a test -/
def tdTest (t : TD) : TDT := fun Γ P => t Γ fun r Γ1 => ∃ k, r.1 = .d (.bool k) ∧ P k Γ1
theorem Sound.test {K : KF} {te : TE} {t : TD} (h : Sound K te t) : ∀ σ H Γ ex (P : Bool → G → Prop) (Q : Bool → Hp → Prop), HE K H σ Γ ex → tdTest t Γ P → (∀ b H' Γ', HE K H' σ Γ' ex → P b Γ' → Q b H') → tTest te σ H Q := by
  intro σ H Γ ex P Q hh p q
  refine h σ H Γ ex _ _ hh p fun v H' r Γ' he og p1 => ?_
  obtain ⟨k, e, p1⟩ := p1
  obtain ⟨s, o⟩ := r
  cases e
  have d := he.hs.front.get_d
  cases d
  exact ⟨k, rfl, q k H' Γ' ⟨he.len, he.hs.front.tail⟩ p1⟩
theorem dt_op2 {r : R2} {mk : Expr} (hp : ∀ ta tb, PE X a ta → PE X b tb → PT X mk (tTest (tOp r ta tb))) (hs : Snd2 (X.K, T) r c) (ha : DE T X a ta) (hb : DE T X b tb) : DT T X mk (tdTest (tAp2 ta tb c)) := by
  obtain ⟨te, h1, h2⟩ := ha
  obtain ⟨tr, h3, h4⟩ := hb
  exact ⟨_, hp _ _ h1 h3, (op2_sound hs h2 h4).test⟩
theorem dt_cmp {op : CmpOp} {r : R2} (ho : OpR X (compareOp op) r) (hs : Snd2 (X.K, T) r c) (ha : DE T X a ta) (hb : DE T X b tb) (hm : behindInMarks op b = false) : DT T X (.Compare a [op] [b] pos) (tdTest (tAp2 ta tb c)) := dt_op2 (fun _ _ h1 h2 => pt_cmpR ho h1 h2 hm) hs ha hb
theorem de_bin {op : Operator} {r : R2} (ho : OpR X (binaryOp op) r) (hs : Snd2 (X.K, T) r c) (ha : DE T X a ta) (hb : DE T X b tb) : DE T X (.BinOp a op b pos) (tAp2 ta tb c) := de_op2 (pe := tOp r) (fun _ _ h1 h2 => pe_op ho h1 h2) hs ha hb
theorem de_cmp {op : CmpOp} {r : R2} (ho : OpR X (compareOp op) r) (hs : Snd2 (X.K, T) r c) (ha : DE T X a ta) (hb : DE T X b tb) (hm : behindInMarks op b = false) : DE T X (.Compare a [op] [b] pos) (tAp2 ta tb c) := de_op2 (pe := tOp r) (fun _ _ h1 h2 => pe_cmpR ho h1 h2 hm) hs ha hb
theorem de_ix {r : R2} (hr : IxR X r) (hs : Snd2 (X.K, T) r c) (ha : DE T X a ta) (hb : DE T X b tb) (hp : PlainIx b) : DE T X (.Subscript a b pos) (tAp2 ta tb c) := de_op2 (pe := tOp r) (fun _ _ h1 h2 => pe_ix hr h1 h2 hp) hs ha hb
/-- arguments, then an operation -/
theorem de_ap {r : List V → Hp → VK → Prop} {mk : Expr} (hp : ∀ ta, PA X es ta → ∃ te, PE X mk te ∧ ∀ σ H Q, ta σ H (fun vs H1 => r vs H1 Q) → te σ H Q) (hs : Snd (X.K, T) r c) (ha : DA T X es u) : DE T X mk (tAp u c) := by
  obtain ⟨ta, h1, h2⟩ := ha
  obtain ⟨te, h3, h4⟩ := hp ta h1
  refine ⟨te, h3, fun σ H Γ ex P Q h p q => h4 σ H Q ?_⟩
  refine h2 σ H Γ ex _ _ h p fun vs H1 rs Γ1 he og p1 => ?_
  have hl := vals_len og
  have hx : Hs (X.K, T) H1 (tmpS vs (rs.map (·.1)) ++ (σ.zip Γ1 ++ ex)) := by
    have := he.hs
    rw [← List.append_assoc] at this ⊢
    exact this.perm (List.Perm.append_right ex List.perm_append_comm)
  refine hs vs H1 (rs.map (·.1)) _ _ _ (by rw [List.length_map]; exact hl) hx p1 fun s ss v H2 p2 l2 h5 => ?_
  have h6 : HE (X.K, T) H2 σ Γ1 (tmpS vs ss ++ ((some v, s) :: ex)) := by
    refine ⟨he.len, h5.perm ?_⟩
    repeat rw [← List.append_assoc]
    refine (List.perm_middle (a := ((some v, s) : Sl)) (l₁ := tmpS vs ss ++ σ.zip Γ1) (l₂ := ex)).symm.trans ?_
    exact (List.perm_append_comm).append_right _
  exact q v H2 (s, none) _ (HE.back (rs := rs) (vs := vs) (by rw [l2, List.length_map]) og h6) Og.none p2

/-! ## names, constants -/
def tdVar (i : Nat) : TD := fun Γ P => match Γ[i]? with
  | some (.d x) => P (.d x, none) Γ
  | some (.m xs) => P (.m xs, some i) (Γ.set i .no)
  | some (.t kvs) => P (.t kvs, some i) (Γ.set i .no)
  | _ => False
theorem set_no {σ : St} {Γ : G} {ex : List Sl} {i : Nat} {o : Option V} {s : SV} {K : KF} {H : Hp} (h : HE K H σ Γ ex) (e : σ[i]? = some o) (hz : (σ.zip Γ)[i]? = some (o, s)) : HE K H σ (Γ.set i .no) ((o, s) :: ex) := by
  refine ⟨by rw [List.length_set]; exact h.len, ?_⟩
  have e2 : σ.set i o = σ := by
    refine List.ext_getElem? (fun j => ?_)
    rw [List.getElem?_set]
    split
    · rename_i q; subst q
      obtain ⟨hi, _⟩ := List.getElem?_eq_some_iff.mp e
      first | exact e.symm | (rw [if_pos hi, e])
    · rfl
  have hzz : σ.zip (Γ.set i .no) = (σ.zip Γ).set i (o, .no) := by rw [← zip_set, e2]
  rw [hzz]
  refine Hs.into (p := (o, s)) hz ?_
  refine Hs.cons_no ?_
  exact (Hs.out h.hs hz).mid
theorem Ok.some {K : KF} {H Hd : Hp} {o : Option V} {s : SV} (h : Ok K.1 H Hd (o, s)) (n : s ≠ .no) : ∃ v, o = Option.some v := by
  cases o with
  | some v => exact ⟨v, rfl⟩
  | none => cases s with
    | no => exact absurd rfl n
    | _ => exact h.elim
theorem de_var (i : Nat) {x : Str} {pos : Pos} (hv : PE X (.Name x pos) (tVar i)) : DE T X (.Name x pos) (tdVar i) := by
  refine ⟨_, hv, fun σ H Γ ex P Q h p q => ?_⟩
  unfold tdVar at p
  cases e : Γ[i]? with
  | none => rw [e] at p; exact p.elim
  | some s =>
    rw [e] at p
    obtain ⟨o, e1, e2⟩ := zip_at h.len e
    have ok := h.hs.ok _ (List.mem_append_left _ (List.mem_of_getElem? e2))
    cases s with
    | no => exact p.elim
    | d x =>
      obtain ⟨v, rfl⟩ := ok.some (by intro z; cases z)
      refine ⟨v, e1, q v H (.d x, none) Γ ⟨h.len, ?_⟩ Og.none p⟩
      exact (h.hs.cons_d ok).mid
    | m xs =>
      obtain ⟨v, rfl⟩ := ok.some (by intro z; cases z)
      exact ⟨v, e1, q v H (.m xs, some i) _ (set_no h e1 e2) (fun j z => by cases z; exact e1) p⟩
    | t xs =>
      obtain ⟨v, rfl⟩ := ok.some (by intro z; cases z)
      exact ⟨v, e1, q v H (.t xs, some i) _ (set_no h e1 e2) (fun j z => by cases z; exact e1) p⟩
def tdC (x : PyData) : TD := fun Γ P => P (.d x, none) Γ
theorem HE.addd {K : KF} {H : Hp} {σ : St} {Γ : G} {ex : List Sl} {v : V} {x : PyData} (h : HE K H σ Γ ex) (q : Dt K.1 (hid (ads (σ.zip Γ ++ ex)) H) v x) : HE K H σ Γ ((some v, .d x) :: ex) := ⟨h.len, (h.hs.cons_d q).mid⟩
theorem de_c {v : V} {x : PyData} (hp : PE X e (tC v)) (hd : ∀ H, Dt X.K H v x) : DE T X e (tdC x) := ⟨_, hp, fun σ H Γ ex P Q h p q => q v H (.d x, none) Γ (h.addd (hd _)) Og.none p⟩
theorem de_int {i j pos} : DE T X (.Constant (.int i) j pos) (tdC (.int i)) := de_c pe_int fun _ => .int i
theorem de_bl {b j pos} : DE T X (.Constant (.bool b) j pos) (tdC (.bool b)) := de_c pe_bl fun _ => .bl b
theorem de_non {j pos} : DE T X (.Constant .none j pos) (tdC .none) := de_c pe_non fun _ => .non
theorem de_str {x j pos} : DE T X (.Constant (.str x) j pos) (tdC (.str x)) := de_c pe_str fun _ => .str x
end
end DL

namespace DL
open PySem L2

/-! ## tests -/
def truthS : SV → Option Bool
  | .d .none => some false
  | .d (.bool b) => some b
  | .d (.int i) => some (i != 0)
  | .d (.list xs) => some (!xs.isEmpty)
  | .d (.tuple xs) => some (!xs.isEmpty)
  | .m xs => some (!xs.isEmpty)
  | _ => none
theorem DtAll.isEmpty {K : KF} {H : Hp} {vs : List V} {ds : List PyData} (h : DtAll K.1 H vs ds) : vs.isEmpty = ds.isEmpty := by cases h <;> rfl
theorem Hs.truth {K : KF} {H : Hp} {v : V} {s : SV} {ps : List Sl} {b : Bool} (h : Hs K H ((some v, s) :: ps)) (e : truthS s = some b) : TruV K.1 v H b := by
  cases s with
  | d x =>
    have q := h.get_d.le hid_sub
    cases q with
    | non => cases e; rfl
    | bl b => cases e; rfl
    | int i => cases e; rfl
    | str x => cases e
    | lst h1 h2 => cases e; exact .inl ⟨_, SqL.of h1, by rw [h2.isEmpty]⟩
    | tup h1 h2 => cases e; exact .inr (.inl ⟨_, h1, by rw [h2.isEmpty]⟩)
    | scr h1 h2 => cases e
    | exc0 _ => cases e
    | exc1 _ _ _ => cases e
  | m xs =>
    obtain ⟨a, vs, rfl, h1, h2, _⟩ := h.get_m
    cases e
    exact .inl ⟨_, SqL.of h1, by rw [h2.isEmpty]⟩
  | no => cases e
  | t _ => cases e
def tdTruth (t : TD) : TDT := fun Γ P => t Γ fun r Γ1 => ∃ b, truthS r.1 = some b ∧ P b (back [r] [r.1] Γ1)
section
variable {T : Tbs} {X : Cx} {a b e : Expr} {es rest : List Expr} {t ta tb : TD} {u u' : TDT} {pos : Pos} {fx : List Nat}
theorem HE.back1 {K : KF} {H : Hp} {σ : St} {Γ : G} {ex : List Sl} {v : V} {r : R} (og : Og σ v r) (h : HE K H σ Γ ((some v, r.1) :: ex)) : HE K H σ (DL.back [r] [r.1] Γ) ex := HE.back (rs := [r]) (vs := [v]) rfl (.cons og .nil) h
theorem dt_truth (h : DE T X e t) (he : ∀ whole, isTrue e X.env whole = (do let v ← whole; standAt e.pos; holding [v] (truthy v)) := by intro _; rfl) : DT T X e (tdTruth t) := by
  obtain ⟨te, h1, h2⟩ := h
  refine ⟨_, pt_truth h1 he, fun σ H Γ ex P Q h p q => ?_⟩
  refine h2 σ H Γ ex _ _ h p fun v H' r Γ' he og p1 => ?_
  obtain ⟨b, e, p1⟩ := p1
  exact ⟨b, he.hs.front.truth e, q b H' _ (he.back1 og) p1⟩
def tdNot (t : TDT) : TDT := fun Γ P => t Γ fun b Γ1 => P (!b) Γ1
theorem dt_not (h : DT T X a u) : DT T X (.UnaryOp .Not a pos) (tdNot u) := by
  obtain ⟨tt, h1, h2⟩ := h
  exact ⟨_, pt_not h1, fun σ H Γ ex P Q h p q => h2 σ H Γ ex _ _ h p fun b H' Γ' he p1 => q (!b) H' Γ' he p1⟩
def tdAnd (t u : TDT) : TDT := fun Γ P => t Γ fun b Γ1 => if b = true then u Γ1 P else P false Γ1
def tdOr (t u : TDT) : TDT := fun Γ P => t Γ fun b Γ1 => if b = true then P true Γ1 else u Γ1 P
theorem dw_and1 (h : DT T X a u) : DW T X (.BoolOp .And [a] pos) u := by
  obtain ⟨tt, h1, h2⟩ := h
  exact ⟨_, pw_and1 h1, h2⟩
theorem dw_or1 (h : DT T X a u) : DW T X (.BoolOp .Or [a] pos) u := by
  obtain ⟨tt, h1, h2⟩ := h
  exact ⟨_, pw_or1 h1, h2⟩
theorem dw_and (h : DT T X a u) (k : DW T X (.BoolOp .And (b :: rest) pos) u') : DW T X (.BoolOp .And (a :: b :: rest) pos) (tdAnd u u') := by
  obtain ⟨tt, h1, h2⟩ := h
  obtain ⟨tw, h3, h4⟩ := k
  refine ⟨_, pw_and h1 h3, fun σ H Γ ex P Q h p q => h2 σ H Γ ex _ _ h p fun b H' Γ' he p1 => ?_⟩
  cases b with
  | true => rw [if_pos rfl] at p1 ⊢; exact h4 σ H' Γ' ex _ _ he p1 q
  | false => rw [if_neg Bool.false_ne_true] at p1 ⊢; exact q false H' Γ' he p1
theorem dw_or (h : DT T X a u) (k : DW T X (.BoolOp .Or (b :: rest) pos) u') : DW T X (.BoolOp .Or (a :: b :: rest) pos) (tdOr u u') := by
  obtain ⟨tt, h1, h2⟩ := h
  obtain ⟨tw, h3, h4⟩ := k
  refine ⟨_, pw_or h1 h3, fun σ H Γ ex P Q h p q => h2 σ H Γ ex _ _ h p fun b H' Γ' he p1 => ?_⟩
  cases b with
  | true => rw [if_pos rfl] at p1 ⊢; exact q true H' Γ' he p1
  | false => rw [if_neg Bool.false_ne_true] at p1 ⊢; exact h4 σ H' Γ' ex _ _ he p1 q
theorem dw_pt (h : DW T X e u) : DT T X e u := by
  obtain ⟨tt, h1, h2⟩ := h
  exact ⟨_, h1.pt, h2⟩

/-! ## values by tests -/
def tdIfE (t : TDT) (ta tb : TD) : TD := fun Γ P => t Γ fun b Γ1 => if b = true then ta Γ1 P else tb Γ1 P
theorem de_ifExp {c : Expr} (hc : DT T X c u) (ha : DE T X a ta) (hb : DE T X b tb) : DE T X (.IfExp c a b pos) (tdIfE u ta tb) := by
  obtain ⟨tt, h1, h2⟩ := hc
  obtain ⟨t1, h3, h4⟩ := ha
  obtain ⟨t2, h5, h6⟩ := hb
  refine ⟨_, pe_ifExp h1 h3 h5, fun σ H Γ ex P Q h p q => h2 σ H Γ ex _ _ h p fun b H' Γ' he p1 => ?_⟩
  cases b with
  | true => rw [if_pos rfl] at p1 ⊢; exact h4 σ H' Γ' ex _ _ he p1 q
  | false => rw [if_neg Bool.false_ne_true] at p1 ⊢; exact h6 σ H' Γ' ex _ _ he p1 q
/-- x or y, x and y of any values -/
def tdOrE (ta tb : TD) : TD := fun Γ P => ta Γ fun r Γ1 => ∃ k, truthS r.1 = some k ∧ if k = true then P r Γ1 else tb (back [r] [r.1] Γ1) P
def tdAndE (ta tb : TD) : TD := fun Γ P => ta Γ fun r Γ1 => ∃ k, truthS r.1 = some k ∧ if k = true then tb (back [r] [r.1] Γ1) P else P r Γ1
theorem de_one {op} (h : DE T X a t) : DE T X (.BoolOp op [a] pos) t := by
  obtain ⟨te, h1, h2⟩ := h
  exact ⟨te, pe_one h1, h2⟩
theorem de_or (ha : DE T X a ta) (hb : DE T X (.BoolOp .Or (b :: rest) pos) tb) : DE T X (.BoolOp .Or (a :: b :: rest) pos) (tdOrE ta tb) := by
  obtain ⟨t1, h1, h2⟩ := ha
  obtain ⟨t2, h3, h4⟩ := hb
  refine ⟨_, pe_orT h1 h3, fun σ H Γ ex P Q h p q => h2 σ H Γ ex _ _ h p fun v H' r Γ' he og p1 => ?_⟩
  obtain ⟨k, e, p1⟩ := p1
  refine ⟨k, he.hs.front.truth e, ?_⟩
  cases k with
  | true => rw [if_pos rfl] at p1 ⊢; exact q v H' r Γ' he og p1
  | false => rw [if_neg Bool.false_ne_true] at p1 ⊢; exact h4 σ H' _ ex _ _ (he.back1 og) p1 q
theorem de_and (ha : DE T X a ta) (hb : DE T X (.BoolOp .And (b :: rest) pos) tb) : DE T X (.BoolOp .And (a :: b :: rest) pos) (tdAndE ta tb) := by
  obtain ⟨t1, h1, h2⟩ := ha
  obtain ⟨t2, h3, h4⟩ := hb
  refine ⟨_, pe_andT h1 h3, fun σ H Γ ex P Q h p q => h2 σ H Γ ex _ _ h p fun v H' r Γ' he og p1 => ?_⟩
  obtain ⟨k, e, p1⟩ := p1
  refine ⟨k, he.hs.front.truth e, ?_⟩
  cases k with
  | true => rw [if_pos rfl] at p1 ⊢; exact h4 σ H' _ ex _ _ (he.back1 og) p1 q
  | false => rw [if_neg Bool.false_ne_true] at p1 ⊢; exact q v H' r Γ' he og p1
def tdNotE (ta : TD) : TD := fun Γ P => ta Γ fun r Γ1 => ∃ k, truthS r.1 = some k ∧ P (.d (.bool (!k)), none) (back [r] [r.1] Γ1)
theorem de_not (ha : DE T X a ta) : DE T X (.UnaryOp .Not a pos) (tdNotE ta) := by
  obtain ⟨t1, h1, h2⟩ := ha
  refine ⟨_, pe_notT h1, fun σ H Γ ex P Q h p q => h2 σ H Γ ex _ _ h p fun v H' r Γ' he og p1 => ?_⟩
  obtain ⟨k, e, p1⟩ := p1
  exact ⟨k, he.hs.front.truth e, q _ H' (.d (.bool (!k)), none) _ ((he.back1 og).addd (.bl _)) Og.none p1⟩

/-! ## statements -/
theorem HE.setv {K : KF} {H : Hp} {σ : St} {Γ : G} {ex : List Sl} {v : V} {s : SV} {i : Nat} (h : HE K H σ Γ ((some v, s) :: ex)) : HE K H (σ.set i (some v)) (Γ.set i s) ex := by
  refine ⟨by rw [List.length_set, List.length_set]; exact h.len, ?_⟩
  by_cases hi : i < Γ.length
  · obtain ⟨o, h1, h2⟩ := zip_at h.len (List.getElem?_eq_getElem hi)
    rw [zip_set]
    refine Hs.into h2 ?_
    have h3 : Hs K H (((some v, s) :: (σ.zip Γ)) ++ ex) := h.hs.front
    have h6 : Hs K H ((o, Γ[i]) :: (((some v, s) :: (σ.zip Γ)).eraseIdx (i + 1) ++ ex)) := Hs.out (i := i + 1) h3 (by simpa using h2)
    exact h6.tail
  · have e1 : Γ.set i s = Γ := List.set_eq_of_length_le (by omega)
    have e2 : σ.set i (some v) = σ := List.set_eq_of_length_le (by rw [h.len]; omega)
    rw [e1, e2]
    exact h.hs.front.tail
theorem HS.setv {K : KF} {ρ : Nat → V} {H : Hp} {σ : St} {Γ : G} {ex : List Sl} {v : V} {s : SV} {i : Nat} (h : HS K fx ρ H σ Γ ((some v, s) :: ex)) (ni : i ∉ fx) : HS K fx ρ H (σ.set i (some v)) (Γ.set i s) ex :=
  ⟨h.he.setv, fun j hj => by rw [List.getElem?_set_ne (fun (z : i = j) => ni (by rw [z]; exact hj))]; exact h.fix j hj⟩
def tdSet (i : Nat) (t : TD) : TDS := fun E Γ => t Γ fun r Γ1 => E.nx (Γ1.set i r.1)
theorem ds_set {i : Nat} {st : Stmt} (hp : ∀ te, PE X e te → PS X st (tAsg te (gName i))) (he : DE T X e t) (ni : i ∉ fx := by decide) : DS T X fx st (tdSet i t) := by
  obtain ⟨te, h1, h2⟩ := he
  refine ⟨_, hp te h1, fun ρ σ H Γ ex E D h p c => ?_⟩
  refine h2 σ H Γ ex _ _ h.he p fun v H' r Γ' he og p1 => ?_
  exact c.nx _ _ _ (HS.setv ⟨he, h.fix⟩ ni) p1
def tdSeq (t u : TDS) : TDS := fun E Γ => t { E with nx := u E } Γ
theorem dss_nil : DSs T X fx [] (fun E Γ => E.nx Γ) := ⟨_, pss_nil, fun ρ σ H Γ ex E D h p c => c.nx _ _ _ h p⟩
theorem dss_cons {st : Stmt} {sts : List Stmt} {t u : TDS} (h1 : DS T X fx st t) (h2 : DSs T X fx sts u) : DSs T X fx (st :: sts) (tdSeq t u) := by
  obtain ⟨t1, h1, h2'⟩ := h1
  obtain ⟨t2, h3, h4⟩ := h2
  refine ⟨_, pss_cons h1 h3, fun ρ σ H Γ ex E D h p c => ?_⟩
  exact h2' ρ σ H Γ ex _ _ h p ⟨fun σ' H' Γ' h' p' => h4 ρ σ' H' Γ' ex E D h' p' c, c.rt, c.bk, c.ct⟩
theorem dss_one {st : Stmt} {t : TDS} (h1 : DS T X fx st t) : DSs T X fx [st] t := by
  obtain ⟨t1, h1, h2'⟩ := h1
  exact ⟨_, pss_one h1, h2'⟩
def tdIf (c : TDT) (t u : TDS) : TDS := fun E Γ => c Γ fun b Γ1 => if b = true then t E Γ1 else u E Γ1
theorem ds_if {c : Expr} {p q : List Stmt} {t v : TDS} (hc : DT T X c u) (ha : DSs T X fx p t) (hb : DSs T X fx q v) : DS T X fx (.If c p q pos) (tdIf u t v) := by
  obtain ⟨tt, h1, h2⟩ := hc
  obtain ⟨t1, h3, h4⟩ := ha
  obtain ⟨t2, h5, h6⟩ := hb
  refine ⟨_, ps_if h1 h3 h5, fun ρ σ H Γ ex E D h p cm => h2 σ H Γ ex _ _ h.he p fun b H' Γ' he p1 => ?_⟩
  cases b with
  | true => rw [if_pos rfl] at p1 ⊢; exact h4 ρ σ H' Γ' ex E D ⟨he, h.fix⟩ p1 cm
  | false => rw [if_neg Bool.false_ne_true] at p1 ⊢; exact h6 ρ σ H' Γ' ex E D ⟨he, h.fix⟩ p1 cm
def tdDrop (t : TD) : TDS := fun E Γ => t Γ fun _ Γ1 => E.nx Γ1
theorem ds_expr (he : DE T X e t) (hs : swapsWith e none pos.line X.env = pure false := by rfl) : DS T X fx (.Expr e pos) (tdDrop t) := by
  obtain ⟨te, h1, h2⟩ := he
  refine ⟨_, ps_expr h1 hs, fun ρ σ H Γ ex E D h p c => ?_⟩
  exact h2 σ H Γ ex _ _ h.he p fun v H' r Γ' he og p1 => c.nx _ _ _ ⟨he.dropx, h.fix⟩ p1
def tdRet (t : TD) : TDS := fun E Γ => t Γ fun r Γ1 => E.rt r.1 Γ1
theorem ds_ret (he : DE T X e t) : DS T X fx (.Return (some e) pos) (tdRet t) := by
  obtain ⟨te, h1, h2⟩ := he
  refine ⟨_, ps_ret h1, fun ρ σ H Γ ex E D h p c => ?_⟩
  exact h2 σ H Γ ex _ _ h.he p fun v H' r Γ' he og p1 => c.rt _ _ _ _ _ ⟨he, h.fix⟩ p1
theorem ds_pass : DS T X fx (.Pass pos) (fun E Γ => E.nx Γ) := ⟨_, ps_pass, fun ρ σ H Γ ex E D h p c => c.nx _ _ _ h p⟩
theorem ds_break : DS T X fx (.Break pos) (fun E Γ => E.bk Γ) := ⟨_, ps_break, fun ρ σ H Γ ex E D h p c => c.bk _ _ _ h p⟩
theorem ds_continue : DS T X fx (.Continue pos) (fun E Γ => E.ct Γ) := ⟨_, ps_continue, fun ρ σ H Γ ex E D h p c => c.ct _ _ _ h p⟩
/-- a, b = x, y: two own names -/
def tdPar (i j : Nat) (ta tb : TD) : TDS := fun E Γ => ta Γ fun r Γ1 => tb Γ1 fun r' Γ2 => E.nx ((Γ2.set i r.1).set j r'.1)
theorem ds_par {i j : Nat} {st : Stmt} (hp : ∀ ta tb, PE X a ta → PE X b tb → PS X st (tPar i j (tCons ta (tCons tb tNil)))) (ha : DE T X a ta) (hb : DE T X b tb) (ni : i ∉ fx := by decide) (nj : j ∉ fx := by decide) : DS T X fx st (tdPar i j ta tb) := by
  obtain ⟨t1, h1, h2⟩ := ha
  obtain ⟨t2, h3, h4⟩ := hb
  refine ⟨_, hp _ _ h1 h3, fun ρ σ H Γ ex E D h p c => ?_⟩
  refine h2 σ H Γ ex _ _ h.he p fun v H1 r Γ1 he og p1 => ?_
  refine h4 σ H1 Γ1 _ _ _ he p1 fun w H2 r' Γ2 he2 og2 p2 => ?_
  refine ⟨v, w, rfl, c.nx _ _ _ ?_ p2⟩
  have q1 : HS (X.K, T) fx ρ H2 σ Γ2 ((some v, r.1) :: (some w, r'.1) :: ex) := ⟨he2.perm (List.Perm.swap _ _ _), h.fix⟩
  exact (q1.setv ni).setv nj

/-! ## while -/
def tdWhile (c : TDT) (tb : TDS) : TDS := fun E Γ => ∃ W : Nat → G → Prop, (∃ m, W m Γ) ∧ ∀ m Γ, W m Γ → c Γ fun b Γ1 =>
  if b = true then tb { E with nx := fun Γ' => ∃ m', m' < m ∧ W m' Γ', ct := fun Γ' => ∃ m', m' < m ∧ W m' Γ', bk := E.nx } Γ1 else E.nx Γ1
theorem ds_while {c : Expr} {body : List Stmt} {tb : TDS} (hp : PassesOwn (model X.prog X.w) X.A X.env X.xe) (hc : DT T X c u) (hb : DSs T X fx body tb) : DS T X fx (.While c body [] pos) (tdWhile u tb) := by
  obtain ⟨tt, h1, h2⟩ := hc
  obtain ⟨t1, h3, h4⟩ := hb
  refine ⟨_, ps_while hp h1 h3, fun ρ σ H Γ ex E D h p cm => ?_⟩
  obtain ⟨W, ⟨m0, w0⟩, turn⟩ := p
  refine ⟨fun m σ H => ∃ Γ, HS (X.K, T) fx ρ H σ Γ ex ∧ W m Γ, ⟨m0, Γ, h, w0⟩, ?_⟩
  rintro m σ1 H1 ⟨Γ1, hs1, w1⟩
  refine h2 σ1 H1 Γ1 ex _ _ hs1.he (turn m Γ1 w1) fun b H2 Γ2 he2 p2 => ?_
  cases b with
  | false => rw [if_neg Bool.false_ne_true] at p2 ⊢; exact cm.nx _ _ _ ⟨he2, hs1.fix⟩ p2
  | true =>
    rw [if_pos rfl] at p2 ⊢
    refine ⟨fun σ' H' => ∃ Γ', HS (X.K, T) fx ρ H' σ' Γ' ex ∧ ∃ m', m' < m ∧ W m' Γ', fun σ' H' ⟨Γ', a, m', b, c⟩ => ⟨m', b, Γ', a, c⟩, ?_⟩
    exact h4 ρ σ1 H2 Γ2 ex _ _ ⟨he2, hs1.fix⟩ p2 ⟨fun σ' H' Γ' h' p' => ⟨Γ', h', p'⟩, cm.rt, fun σ' H' Γ' h' p' => cm.nx _ _ _ h' p', fun σ' H' Γ' h' p' => ⟨Γ', h', p'⟩⟩

/-! ## what is walked -/
/-- from now on no one changes it -/
def frz : SV → SV
  | .m xs => .d (.list xs)
  | .d x => .d x
  | _ => .no
/-- the iterator J gives its, one after another, while held stands -/
def Walks (K : KF) (J : It) (held : List Sl) (its : List PyData) : Prop := ∀ i H rest, Hs K H (held ++ rest) →
  (∀ y, its[i]? = some y → J.go i H ∧ ∀ x H', J.yld i H x H' → Hs K H' ((some x, .d y) :: (held ++ rest))) ∧ (its.length ≤ i → J.stop i H)
abbrev TDI := G → (List PyData → List R → G → Prop) → Prop
def DI (T : Tbs) (X : Cx) (tg iter : Expr) (t : TDI) : Prop := ∃ wi, PI X tg iter wi ∧ ∀ σ H Γ ex (P : List PyData → List R → G → Prop) (Q : It → Hp → Prop), HE (X.K, T) H σ Γ ex → t Γ P →
  (∀ J H' vs rs its Γ', HE (X.K, T) H' σ Γ' (tmp vs rs ++ ex) → Ogs σ vs rs → Walks (X.K, T) J (tmpS vs (rs.map fun r => frz r.1)) its → P its rs Γ' → Q J H') → wi σ H Q
/-- targets -/
abbrev TDG := PyData → G → (G → Prop) → Prop
def Stores (ws : List Nat) (σ σ' : St) : Prop := σ'.length = σ.length ∧ ∀ j, j ∉ ws → σ'[j]? = σ[j]?
def DG (T : Tbs) (X : Cx) (fx : List Nat) (tg : Expr) (ws : List Nat) (t : TDG) : Prop := ∃ g, PG X tg g ∧ ∀ ρ x v σ H Γ ex (P : G → Prop) (Q : St → Hp → Prop), HS (X.K, T) fx ρ H σ Γ ((some v, .d x) :: ex) → t x Γ P →
  (∀ σ' H' Γ', HS (X.K, T) fx ρ H' σ' Γ' ex → Stores ws σ σ' → P Γ' → Q σ' H') → g v σ H Q
def tgName (i : Nat) : TDG := fun x Γ P => P (Γ.set i (.d x))
theorem dg_name {i : Nat} {x : Str} {pos : Pos} (h : PG X (.Name x pos) (gName i)) (ni : i ∉ fx := by decide) : DG T X fx (.Name x pos) [i] (tgName i) :=
  ⟨_, h, fun ρ x v σ H Γ ex P Q h p q => q _ _ _ (h.setv ni) ⟨List.length_set, fun j hj => List.getElem?_set_ne (fun z => hj (by rw [z]; exact List.mem_cons_self))⟩ p⟩
/-- several targets -/
abbrev TDGs := List PyData → G → (G → Prop) → Prop
def DGs (T : Tbs) (X : Cx) (fx : List Nat) (tgs : List Expr) (ws : List Nat) (t : TDGs) : Prop := ∃ g, PGs X tgs g ∧ ∀ ρ xs vs σ H Γ ex (P : G → Prop) (Q : St → Hp → Prop), HS (X.K, T) fx ρ H σ Γ ex → DtAll X.K (hid (ads (σ.zip Γ ++ ex)) H) vs xs → t xs Γ P →
  (∀ σ' H' Γ', HS (X.K, T) fx ρ H' σ' Γ' ex → Stores ws σ σ' → P Γ' → Q σ' H') → g vs σ H Q
def tgNil : TDGs := fun xs Γ P => xs = [] ∧ P Γ
def tgCons (t : TDG) (u : TDGs) : TDGs := fun xs Γ P => ∃ x r, xs = x :: r ∧ t x Γ fun Γ1 => u r Γ1 P
theorem dgs_nil : DGs T X fx [] [] tgNil := ⟨_, pgs_nil, fun ρ xs vs σ H Γ ex P Q h d p q => by
  obtain ⟨rfl, p⟩ := p
  cases d
  exact ⟨rfl, q σ H Γ h ⟨rfl, fun _ _ => rfl⟩ p⟩⟩
theorem ads_tmpd (ps : List Sl) : ∀ (vs : List V) (xs : List PyData), ads (tmpS vs (xs.map SV.d) ++ ps) = ads ps := by
  intro vs
  induction vs with
  | nil => intro xs; rfl
  | cons v vs ih =>
    intro xs
    cases xs with
    | nil => rfl
    | cons x xs =>
      show ads ((some v, SV.d x) :: (tmpS vs (xs.map SV.d) ++ ps)) = ads ps
      cases v <;> exact ih xs
theorem slots_d : ∀ {vs : List V} {xs : List PyData} {K : KF} {H : Hp} {ps : List Sl}, Hs K H ps → DtAll K.1 (hid (ads ps) H) vs xs → Hs K H (tmpS vs (xs.map SV.d) ++ ps)
  | _, _, _, _, _, h, .nil => h
  | _, _, K, H, ps, h, .cons (vs := vs) (ds := ds) q r => by
    have ih := slots_d h r
    refine Hs.cons_d ih (q.le ?_)
    have := ads_tmpd ps vs ds
    show Le (hid (ads ps) H) (hid (ads (tmpS vs (ds.map SV.d) ++ ps)) H)
    rw [this]
    exact Le.refl _
theorem dgs_cons {tg : Expr} {tgs : List Expr} {g : TDG} {gs : TDGs} {ws ws' : List Nat} (h1 : DG T X fx tg ws g) (h2 : DGs T X fx tgs ws' gs)
    (hs : (assignEach (tg :: tgs) X.env).map (·.2) = assign tg X.env :: (assignEach tgs X.env).map (·.2) := by rfl) : DGs T X fx (tg :: tgs) (ws ++ ws') (tgCons g gs) := by
  obtain ⟨g1, p1, q1⟩ := h1
  obtain ⟨g2, p2, q2⟩ := h2
  refine ⟨_, pgs_cons p1 p2 hs, fun ρ xs vs σ H Γ ex P Q h d p q => ?_⟩
  obtain ⟨x, r, rfl, p⟩ := p
  cases d with
  | cons dx dr =>
    rename_i v vs
    refine ⟨v, vs, rfl, ?_⟩
    have e := slots_d h.he.hs (.cons dx dr)
    have hh : HS (X.K, T) fx ρ H σ Γ ((some v, .d x) :: (tmpS vs (r.map SV.d) ++ ex)) := by
      refine ⟨⟨h.he.len, ?_⟩, h.fix⟩
      have e' : Hs (X.K, T) H ((some v, SV.d x) :: (tmpS vs (r.map SV.d) ++ (σ.zip Γ ++ ex))) := e
      refine e'.perm ?_
      have pp : List.Perm (tmpS vs (r.map SV.d) ++ (σ.zip Γ ++ ex)) (σ.zip Γ ++ (tmpS vs (r.map SV.d) ++ ex)) := by
        repeat rw [← List.append_assoc]
        exact (List.perm_append_comm).append_right _
      exact (pp.cons _).trans List.perm_middle.symm
    refine q1 ρ x v σ H Γ _ _ _ hh p fun σ1 H1 Γ1 h1 st1 p1' => ?_
    -- the rest is still held
    have hx : ∀ (ws : List V) (ys : List PyData) (ps : List Sl), DtAll X.K H ws ys ∨ True → Hs (X.K, T) H1 (tmpS ws (ys.map SV.d) ++ ps) → ws.length = ys.length → DtAll X.K (hid (ads ps) H1) ws ys := by
      intro ws
      induction ws with
      | nil =>
        intro ys ps _ _ hl
        cases ys with
        | nil => exact .nil
        | cons _ _ => cases hl
      | cons w ws ih =>
        intro ys ps o hh hl
        cases ys with
        | nil => cases hl
        | cons y ys =>
          have hh' : Hs (X.K, T) H1 ((some w, SV.d y) :: (tmpS ws (ys.map SV.d) ++ ps)) := hh
          have hd := hh'.get_d
          have tl := ih ys ps (.inr True.intro) hh'.tail (by simpa using hl)
          refine .cons (hd.le (hid_le fun b hb => ?_)) tl
          obtain ⟨p, hp, e⟩ := mem_ads.mp hb
          exact mem_ads.mpr ⟨p, List.mem_append_right _ hp, e⟩
    have h1' : Hs (X.K, T) H1 (tmpS vs (r.map SV.d) ++ (σ1.zip Γ1 ++ ex)) := by
      have := h1.he.hs
      rw [← List.append_assoc] at this ⊢
      exact this.perm (List.Perm.append_right _ List.perm_append_comm)
    have dr' := hx vs r _ (.inr True.intro) h1' dr.length
    refine q2 ρ r vs σ1 H1 Γ1 ex P Q ⟨⟨h1.he.len, h1'.drops⟩, h1.fix⟩ dr' p1' fun σ2 H2 Γ2 h2 st2 p2 => q σ2 H2 Γ2 h2 ⟨st2.1.trans st1.1, fun j hj => (st2.2 j fun z => hj (List.mem_append_right _ z)).trans (st1.2 j fun z => hj (List.mem_append_left _ z))⟩ p2
def tgTup (n : Nat) (t : TDGs) : TDG := fun x Γ P => ∃ xs, x = .tuple xs ∧ xs.length = n ∧ t xs Γ P
/-- (a, b, ..): a tuple taken apart -/
theorem dg_tup {es : List Expr} {k : Nat} {g : TDGs} {n : Nat} {ws : List Nat} (hc : X.calm = true) (h : DGs T X fx es ws g)
    (hn : (assignEach es X.env).length = n := by rfl) (hst : (assignEach es X.env).findIdx? (·.1) = none := by rfl) : DG T X fx (.Tuple es k pos) ws (tgTup n g) := by
  obtain ⟨g1, p1, q1⟩ := h
  refine ⟨_, pg_tup hc p1 hn hst, fun ρ x v σ H Γ ex P Q h p q => ?_⟩
  obtain ⟨xs, rfl, hl, p⟩ := p
  have d := h.he.hs.front.get_d
  cases d with
  | tup h1 h2 => exact ⟨_, _, rfl, h1.imp (fun z => by
      rcases z with z | ⟨o, z⟩
      · exact .inl (hid_sub _ _ z)
      · exact .inr ⟨o, hid_sub _ _ z⟩) id, by rw [h2.length]; exact hl, q1 ρ xs _ σ H Γ ex P Q ⟨h.he.dropx, h.fix⟩ h2 p q⟩
end
end DL

namespace DL
open PySem L2 RZ

section
variable {K : KF} {H : Hp} {σ : St} {Γ : G} {ex a : List Sl} {fx : List Nat} {ρ : Nat → V}
theorem HE.outs (h : HE K H σ Γ (a ++ ex)) : Hs K H (a ++ (σ.zip Γ ++ ex)) := by
  have := h.hs
  rw [← List.append_assoc] at this ⊢
  exact this.perm (List.Perm.append_right _ List.perm_append_comm)
theorem HE.ins (hl : σ.length = Γ.length) (h : Hs K H (a ++ (σ.zip Γ ++ ex))) : HE K H σ Γ (a ++ ex) := ⟨hl, by
  rw [← List.append_assoc] at h ⊢
  exact h.perm (List.Perm.append_right _ List.perm_append_comm)⟩
theorem HE.drops (h : HE K H σ Γ (a ++ ex)) : HE K H σ Γ ex := ⟨h.len, h.outs.drops⟩
theorem Hs.frz {v : V} {s : SV} {ps : List Sl} (h : Hs K H ((some v, s) :: ps)) : Hs K H ((some v, frz s) :: ps) := by
  cases s with
  | m xs => exact h.freeze
  | d x => exact h
  | no => exact h.tail.cons_no
  | t _ => exact h.tail.cons_no
theorem Hs.dup {v : V} {s : SV} {ps : List Sl} (h : Hs K H ((some v, DL.frz s) :: ps)) : Hs K H ((some v, DL.frz s) :: (some v, DL.frz s) :: ps) := by
  cases s with
  | m xs => exact h.copy
  | d x => exact h.copy
  | no => exact h.cons_no
  | t _ => exact h.cons_no
theorem HE.frzAll : ∀ {rs : List R} {vs : List V} {Γ : G} {ex : List Sl}, Ogs σ vs rs → HE K H σ Γ (tmp vs rs ++ ex) → HE K H σ (DL.back rs (rs.map fun r => frz r.1) Γ) (tmpS vs (rs.map fun r => frz r.1) ++ ex)
  | [], vs, Γ, ex, og, h => by cases og; exact h
  | r :: rs, _, Γ, ex, og, h => by
    cases og with
    | cons o og =>
      rename_i v vs
      have h1 : HE K H σ Γ ((some v, r.1) :: (tmp vs rs ++ ex)) := h
      have h2 : HE K H σ Γ ((some v, frz r.1) :: (some v, frz r.1) :: (tmp vs rs ++ ex)) := ⟨h.len, (h1.hs.front.frz.dup.swap2.perm (by
        exact (List.perm_middle (a := ((some v, frz r.1) : Sl)) (l₁ := (some v, frz r.1) :: σ.zip Γ) (l₂ := tmp vs rs ++ ex)).symm.trans (List.perm_middle (a := ((some v, frz r.1) : Sl)) (l₁ := σ.zip Γ) (l₂ := (some v, frz r.1) :: (tmp vs rs ++ ex))).symm))⟩
      show HE K H σ (DL.back rs (rs.map fun r => frz r.1) (match r.2 with | some i => Γ.set i (frz r.1) | none => Γ)) ((some v, frz r.1) :: (tmpS vs (rs.map fun r => frz r.1) ++ ex))
      have h3 : HE K H σ (match r.2 with | some i => Γ.set i (frz r.1) | none => Γ) ((some v, frz r.1) :: (tmp vs rs ++ ex)) := by
        cases e : r.2 with
        | none => exact h2.dropx
        | some i => exact h2.put (o i e)
      have h4 : HE K H σ (match r.2 with | some i => Γ.set i (frz r.1) | none => Γ) (tmp vs rs ++ ((some v, frz r.1) :: ex)) := h3.perm List.perm_middle.symm
      exact (HE.frzAll og h4).perm List.perm_middle
theorem HS.drops (h : HS K fx ρ H σ Γ (a ++ ex)) : HS K fx ρ H σ Γ ex := ⟨h.he.drops, h.fix⟩
end
/-- the loop's word: W, what holds between two turns -/
def ForOk (g : TDG) (tb : TDS) (E : ED) (its : List PyData) (Γ0 : G) : Prop := ∃ W : Nat → G → Prop, W 0 Γ0 ∧
  (∀ i x Γ, its[i]? = some x → W i Γ → g x Γ fun Γ1 => tb { E with nx := W (i + 1), ct := W (i + 1), bk := E.nx } Γ1) ∧ ∀ Γ, W its.length Γ → E.nx Γ
def tdFor (ti : TDI) (g : TDG) (tb : TDS) : TDS := fun E Γ => ti Γ fun its rs Γ0 => ForOk g tb E its (back rs (rs.map fun r => frz r.1) Γ0)
section
variable {T : Tbs} {X : Cx} {tg iter e e2 : Expr} {t t2 : TD} {fx : List Nat} {pos : Pos}
theorem ds_for {body : List Stmt} {ti : TDI} {g : TDG} {tb : TDS} {ws : List Nat} (hp : PassesOwn (model X.prog X.w) X.A X.env X.xe) (hc : X.calm = true) (hi : DI T X tg iter ti) (hg : DG T X fx tg ws g) (hb : DSs T X fx body tb)
    (hs : ∀ x, foldedSetIterable iter X.env x = pure x := by intro _; rfl) : DS T X fx (.For tg iter body [] pos) (tdFor ti g tb) := by
  obtain ⟨wi, h1, h2⟩ := hi
  obtain ⟨gg, h3, h4⟩ := hg
  obtain ⟨tt, h5, h6⟩ := hb
  refine ⟨_, ps_for hp hc h1 h3 h5 hs, fun ρ σ H Γ ex E D h p cm => ?_⟩
  refine h2 σ H Γ ex _ _ h.he p fun J H1 vs rs its Γ1 he og wk p1 => ?_
  obtain ⟨W, w0, turn, fin⟩ := p1
  have he' := HE.frzAll og he
  revert he' wk
  generalize tmpS vs (rs.map fun r => frz r.1) = held
  intro wk he'
  refine ⟨fun i m σ H => m = its.length - i ∧ i ≤ its.length ∧ ∃ Γ, HS (X.K, T) fx ρ H σ Γ (held ++ ex) ∧ W i Γ, ⟨its.length, by simp, Nat.zero_le _, _, ⟨he', h.fix⟩, w0⟩, ?_⟩
  rintro i m σ1 H1' ⟨rfl, hi, Γ2, hs2, w2⟩
  obtain ⟨k1, k2⟩ := wk i H1' (σ1.zip Γ2 ++ ex) hs2.he.outs
  by_cases hlt : i < its.length
  · have ey : its[i]? = some its[i] := List.getElem?_eq_getElem hlt
    obtain ⟨go, yl⟩ := k1 _ ey
    refine .inr ⟨go, fun σ' H' => ∃ Γ', HS (X.K, T) fx ρ H' σ' Γ' (held ++ ex) ∧ W (i + 1) Γ', fun σ' H' ⟨Γ', a, b⟩ => ⟨its.length - (i + 1), by omega, rfl, hlt, Γ', a, b⟩, fun x H' y => ?_⟩
    have q := yl x H' y
    have hx : HS (X.K, T) fx ρ H' σ1 Γ2 ((some x, .d its[i]) :: (held ++ ex)) := ⟨HE.ins (a := (some x, .d its[i]) :: held) hs2.he.len q, hs2.fix⟩
    refine h4 ρ _ x σ1 H' Γ2 _ _ _ hx (turn i _ Γ2 ey w2) fun σ3 H3 Γ3 hs3 _ p3 => ?_
    exact h6 ρ σ3 H3 Γ3 _ _ _ hs3 p3 ⟨fun σ' H' Γ' a b => ⟨Γ', a, b⟩, fun v s σ' H' Γ' a b => cm.rt v s σ' H' Γ' ⟨(a.he.perm (List.perm_middle (a := ((some v, s) : Sl)) (l₁ := held) (l₂ := ex)).symm).drops, a.fix⟩ b,
      fun σ' H' Γ' a b => cm.nx _ _ _ a.drops b, fun σ' H' Γ' a b => ⟨Γ', a, b⟩⟩
  · have e : i = its.length := by omega
    subst e
    exact .inl ⟨k2 (Nat.le_refl _), fin Γ2 w2 |> cm.nx _ _ _ hs2.drops⟩

/-! ## what is walked: lists and tuples, ranges, enumerate, zip -/
def seqS : SV → Option (List PyData)
  | .d (.list xs) => some xs
  | .d (.tuple xs) => some xs
  | .m xs => some xs
  | _ => none
def tdSeqI (t : TD) : TDI := fun Γ P => t Γ fun r Γ1 => ∃ xs, seqS r.1 = some xs ∧ P xs [r] Γ1
theorem held_list {K : KF} {H : Hp} {a : Addr} {xs : List PyData} {ps : List Sl} (h : Hs K H ps) (m : ((some (.ref a), .d (.list xs)) : Sl) ∈ ps) : ∃ vs, H a = some (.lst vs) ∧ DtAll K.1 (hid (ads ps) H) vs xs := by
  have q : Dt K.1 (hid (ads ps) H) (.ref a) (.list xs) := h.ok _ m
  cases q with
  | lst h1 h2 => exact ⟨_, hid_sub _ _ h1, h2⟩
theorem sqT_sub {K : KF} {H : Hp} {ms : List Addr} {a : Addr} {xs : List V} (h : SqT K.1 (hid ms H) a xs) : SqT K.1 H a xs := Le.sqT hid_sub h
theorem held_tup {K : KF} {H : Hp} {a : Addr} {xs : List PyData} {ps : List Sl} (h : Hs K H ps) (m : ((some (.ref a), .d (.tuple xs)) : Sl) ∈ ps) : ∃ vs, SqT K.1 H a vs ∧ DtAll K.1 (hid (ads ps) H) vs xs := by
  have q : Dt K.1 (hid (ads ps) H) (.ref a) (.tuple xs) := h.ok _ m
  cases q with
  | tup h1 h2 => exact ⟨_, sqT_sub h1, h2⟩
theorem walk_list {K : KF} {a : Addr} {xs : List PyData} : Walks K (Itl K.1 a) [(some (.ref a), .d (.list xs))] xs := by
  intro i H rest h
  obtain ⟨vs, h1, h2⟩ := held_list h List.mem_cons_self
  refine ⟨fun y ey => ?_, fun hl => ⟨vs, SqL.of h1, by rw [h2.length]; exact hl⟩⟩
  obtain ⟨v, e, d⟩ := h2.get ey
  refine ⟨⟨vs, v, SqL.of h1, e⟩, fun x H' ⟨e1, e2⟩ => ?_⟩
  subst e1
  have := e2 vs (SqL.of h1)
  rw [e] at this; cases this
  exact h.cons_d d
theorem walk_tup {K : KF} {a : Addr} {xs : List PyData} : Walks K (Itt K.1 a) [(some (.ref a), .d (.tuple xs))] xs := by
  intro i H rest h
  obtain ⟨vs, h1, h2⟩ := held_tup h List.mem_cons_self
  refine ⟨fun y ey => ?_, fun hl => ⟨vs, h1, by rw [h2.length]; exact hl⟩⟩
  obtain ⟨v, e, d⟩ := h2.get ey
  refine ⟨⟨vs, v, h1, e⟩, fun x H' ⟨e1, e2⟩ => ?_⟩
  subst e1
  have := e2 vs h1
  rw [e] at this; cases this
  exact h.cons_d d
/-- a list or a tuple, walked -/
def iSeq (K : PySem.W.Frag) (tl : TE) : TI := fun σ H R => tl σ H fun x H1 => ∃ a, x = .ref a ∧ (((∃ xs, SqL K H1 a xs) ∧ R (Itl K a) H1) ∨ ((∃ xs, SqT K H1 a xs) ∧ R (Itt K a) H1))
theorem pi_seq {l : Expr} {tl : TE} (hl : PE X l tl) : PI X tg l (iSeq X.K tl) := by
  refine ⟨fun pn sh σ H0 Rr J1 hr => ?_⟩
  refine thn (hl.run pn sh σ H0 _ J1 hr) fun vv sh1 ⟨xv, H2, J2, rr1, qq1⟩ => ?_
  obtain ⟨a, en, qq1⟩ := qq1
  subst en
  cases rr1
  rcases qq1 with ⟨⟨xs, kq⟩, q⟩ | ⟨⟨xs, kq⟩, q⟩
  · obtain ⟨us, rw1, pp, kz⟩ := J2.list kq
    refine wpAny_pyIter_list pp.isList ?_
    refine ⟨sh1.heap.objs.size, [sh1.heap.objs.size], _, _, H2, rfl, J2.kept (t' := sh1.toks) fun bb oo en => Heap.get?_push_of_some _ en, turn_list a _, ⟨_, Heap.get?_push_size _ rfl, rfl, rfl⟩, fun bb kb => ?_, q⟩
    have en : bb = sh1.heap.objs.size := by simpa using kb
    subst en
    exact J2.fpOk (Nat.le_refl _) (J2.hok.fresh (Nat.le_refl _))
  · obtain ⟨us, rw1, pp, kz⟩ := J2.tuple kq
    refine wpAny_pyIter_tuple (show sh1.heap.IsTuple a us.toArray from pp) ?_
    refine ⟨sh1.heap.objs.size, [sh1.heap.objs.size], _, _, H2, rfl, J2.kept (t' := sh1.toks) fun bb oo en => Heap.get?_push_of_some _ en, turn_tuple a _, ⟨_, Heap.get?_push_size _ rfl, rfl, rfl⟩, fun bb kb => ?_, q⟩
    have en : bb = sh1.heap.objs.size := by simpa using kb
    subst en
    exact J2.fpOk (Nat.le_refl _) (J2.hok.fresh (Nat.le_refl _))
theorem di_seq (he : DE T X e t) : DI T X tg e (tdSeqI t) := by
  obtain ⟨te, h1, h2⟩ := he
  refine ⟨_, pi_seq h1, fun σ H Γ ex P Q h p q => ?_⟩
  refine h2 σ H Γ ex _ _ h p fun v H' r Γ' he og p1 => ?_
  obtain ⟨xs, es, p1⟩ := p1
  obtain ⟨s, o⟩ := r
  have fin : ∀ J, Walks (X.K, T) J (tmpS [v] [frz s]) xs → Q J H' := fun J w => q J H' [v] [(s, o)] xs Γ' he (.cons og .nil) w p1
  cases s with
  | m ys =>
    cases es
    obtain ⟨a, vs, rfl, h3, h4, _⟩ := he.hs.front.get_m
    exact ⟨a, rfl, .inl ⟨⟨vs, SqL.of h3⟩, fin _ walk_list⟩⟩
  | d x =>
    cases x with
    | list ys =>
      cases es
      have d := he.hs.front.get_d
      cases d with
      | lst h3 h4 => exact ⟨_, rfl, .inl ⟨⟨_, SqL.of (hid_sub _ _ h3)⟩, fin _ walk_list⟩⟩
    | tuple ys =>
      cases es
      have d := he.hs.front.get_d
      cases d with
      | tup h3 h4 => exact ⟨_, rfl, .inr ⟨⟨_, sqT_sub h3⟩, fin _ walk_tup⟩⟩
    | _ => cases es
  | _ => cases es
/-- lo, lo + 1, .. -/
def rgD (lo : Int) (n : Nat) : List PyData := (List.range n).map fun (k : Nat) => .int (lo + (k : Int))
theorem rgD_len (lo : Int) (n : Nat) : (rgD lo n).length = n := by unfold rgD; rw [List.length_map, List.length_range]
theorem rgD_get {lo : Int} {n i : Nat} {y : PyData} (h : (rgD lo n)[i]? = some y) : i < n ∧ y = .int (lo + i) := by
  unfold rgD at h
  rw [List.getElem?_map] at h
  cases e : (List.range n)[i]? with
  | none => (rw [e] at h; cases h)
  | some k =>
    rw [e] at h
    obtain ⟨h1, h2⟩ := List.getElem?_eq_some_iff.mp e
    rw [List.getElem_range] at h2
    rw [List.length_range] at h1
    cases h
    subst h2
    exact ⟨h1, rfl⟩
theorem walk_range {K : KF} {held : List Sl} {lo : Int} {n : Nat} : Walks K (Itr lo n) held (rgD lo n) := by
  intro i H rest h
  refine ⟨fun y ey => ?_, fun hl => by rw [rgD_len] at hl; exact hl⟩
  obtain ⟨hi, rfl⟩ := rgD_get ey
  refine ⟨hi, fun x H' ⟨e1, e2⟩ => ?_⟩
  subst e1 e2
  exact h.cons_d (.int _)
def BigOk (i : Int) : Prop := -(2 ^ 62) ≤ i ∧ i < 2 ^ 62
def tdRange1 (t : TD) : TDI := fun Γ P => t Γ fun r Γ1 => ∃ j, r.1 = .d (.int j) ∧ BigOk j ∧ P (rgD 0 j.toNat) [(.no, none)] Γ1
theorem di_range1 {p : Pos} {a : Expr} (hg : Gl X "range") (hm : X.mg "range" = none) (ha : DE T X a t) (hs : starEach (a :: []) X.env = (false, eval a X.env) :: starEach [] X.env := by rfl) (hs2 : starEach [a] X.env = [(false, eval a X.env)] := by rfl) : DI T X tg (.Call (.Name "range" p) [a] [] pos) (tdRange1 t) := by
  obtain ⟨te, h1, h2⟩ := ha
  refine ⟨_, pi_range1 hg hm (pa_cons h1 pa_nil hs) hs2, fun σ H Γ ex P Q h p q => ?_⟩
  refine h2 σ H Γ ex _ _ h p fun v H' r Γ' he og p1 => ?_
  obtain ⟨j, e, ⟨b1, b2⟩, p1⟩ := p1
  obtain ⟨s, o⟩ := r
  cases e
  have d := he.hs.front.get_d
  cases d
  exact ⟨j, rfl, b1, b2, q _ H' [.non] [(.no, none)] _ Γ' (⟨he.len, he.dropx.hs |> fun z => (Hs.cons_no z).mid⟩) (.cons Og.none .nil) walk_range p1⟩
def tdRange2 (t u : TD) : TDI := fun Γ P => t Γ fun r Γ1 => u Γ1 fun r' Γ2 => ∃ i j, r.1 = .d (.int i) ∧ r'.1 = .d (.int j) ∧ BigOk i ∧ BigOk j ∧ P (rgD i (j - i).toNat) [(.no, none)] Γ2
theorem di_range2 {p : Pos} {a b : Expr} (hg : Gl X "range") (hm : X.mg "range" = none) (ha : DE T X a t) (hb : DE T X b t2) (hs : starEach (a :: [b]) X.env = (false, eval a X.env) :: starEach [b] X.env := by rfl) (hs1 : starEach (b :: []) X.env = (false, eval b X.env) :: starEach [] X.env := by rfl)
    (hs2 : starEach [a, b] X.env = [(false, eval a X.env), (false, eval b X.env)] := by rfl) (hs3 : starEach [b] X.env = [(false, eval b X.env)] := by rfl) : DI T X tg (.Call (.Name "range" p) [a, b] [] pos) (tdRange2 t t2) := by
  obtain ⟨te, h1, h2⟩ := ha
  obtain ⟨tu, h3, h4⟩ := hb
  refine ⟨_, pi_range2 hg hm (pa_cons h1 (pa_cons h3 pa_nil hs1) hs) hs2 hs3, fun σ H Γ ex P Q h p q => ?_⟩
  refine h2 σ H Γ ex _ _ h p fun v H' r Γ' he og p1 => ?_
  refine h4 σ H' Γ' _ _ _ he p1 fun w H2 r' Γ2 he2 og2 p2 => ?_
  obtain ⟨i, j, e, e', ⟨b1, b2⟩, ⟨b3, b4⟩, p2⟩ := p2
  obtain ⟨s, o⟩ := r
  obtain ⟨s', o'⟩ := r'
  cases e
  cases e'
  have d2 := he2.hs.front.get_d
  have d1 := he2.dropx.hs.front.get_d
  cases d1
  cases d2
  exact ⟨i, j, rfl, ⟨b1, b2, b3, b4⟩, q _ H2 [.non] [(.no, none)] _ Γ2 (⟨he2.len, he2.dropx.dropx.hs |> fun z => (Hs.cons_no z).mid⟩) (.cons Og.none .nil) walk_range p2⟩
/-- reversed(range(n)) -/
def tdRevRange1 (t : TD) : TDI := fun Γ P => t Γ fun r Γ1 => ∃ j, r.1 = .d (.int j) ∧ BigOk j ∧ P (rgD 0 j.toNat).reverse [(.no, none)] Γ1
theorem walk_rev {K : KF} {held : List Sl} {n : Nat} : Walks K (Itc (0 + (n : Int) - 1) (-1) n) held (rgD 0 n).reverse := by
  intro i H rest h
  refine ⟨fun y ey => ?_, fun hl => by rw [List.length_reverse, rgD_len] at hl; exact hl⟩
  have hi : i < n := by
    obtain ⟨h1, _⟩ := List.getElem?_eq_some_iff.mp ey
    rw [List.length_reverse, rgD_len] at h1; exact h1
  rw [List.getElem?_reverse (by rw [rgD_len]; exact hi), rgD_len] at ey
  obtain ⟨_, rfl⟩ := rgD_get ey
  refine ⟨hi, fun x H' ⟨e1, e2⟩ => ?_⟩
  subst e1 e2
  have e : (0 + (n : Int) - 1) + (i : Nat) * (-1) = 0 + ((n - 1 - i : Nat) : Int) := by omega
  rw [e]
  exact h.cons_d (.int _)
theorem di_revrange1 {p p2 pos2 : Pos} {a : Expr} (hgr : Gl X "reversed") (hmr : X.mg "reversed" = none) (hg : Gl X "range") (hm : X.mg "range" = none) (ha : DE T X a t) (hs1 : starEach [a] X.env = (false, eval a X.env) :: starEach [] X.env := by rfl)
    (hs : starEach [.Call (.Name "range" p) [a] [] pos] X.env = (false, eval (.Call (.Name "range" p) [a] [] pos) X.env) :: starEach [] X.env := by rfl) : DI T X tg (.Call (.Name "reversed" p2) [.Call (.Name "range" p) [a] [] pos] [] pos2) (tdRevRange1 t) := by
  obtain ⟨te, h1, h2⟩ := ha
  refine ⟨_, pi_revR hgr hmr (prg_1 hg hm h1 hs1) hs, fun σ H Γ ex P Q h p q => ?_⟩
  refine h2 σ H Γ ex _ _ h p fun v H' r Γ' he og p1 => ?_
  obtain ⟨j, e, ⟨b1, b2⟩, p1⟩ := p1
  obtain ⟨s, o⟩ := r
  cases e
  have d := he.hs.front.get_d
  cases d
  refine ⟨j, rfl, by omega, by omega, b1, b2, q _ H' [.non] [(.no, none)] _ Γ' (⟨he.len, he.dropx.hs |> fun z => (Hs.cons_no z).mid⟩) (.cons Og.none .nil) ?_ p1⟩
  have ej : (j - 0).toNat = j.toNat := by omega
  rw [ej]
  exact walk_rev
/-- zip of two lists, of two tuples -/
def zipD : List PyData → List PyData → List PyData
  | x :: xs, y :: ys => .tuple [x, y] :: zipD xs ys
  | _, _ => []
theorem zipD_get : ∀ {xs ys : List PyData} {i : Nat} {z : PyData}, (zipD xs ys)[i]? = some z → ∃ x y, xs[i]? = some x ∧ ys[i]? = some y ∧ z = .tuple [x, y]
  | [], ys, i, z, h => by cases ys <;> simp [zipD] at h
  | x :: xs, [], i, z, h => by simp [zipD] at h
  | x :: xs, y :: ys, 0, z, h => by
    have : z = .tuple [x, y] := by simpa [zipD] using h.symm
    exact ⟨x, y, rfl, rfl, this⟩
  | x :: xs, y :: ys, i + 1, z, h => by
    obtain ⟨a, b, h1, h2, h3⟩ := zipD_get (xs := xs) (ys := ys) (i := i) (z := z) (by simpa [zipD] using h)
    exact ⟨a, b, by simpa using h1, by simpa using h2, h3⟩
theorem zipD_len : ∀ (xs ys : List PyData), (zipD xs ys).length = min xs.length ys.length
  | [], ys => by cases ys <;> simp [zipD]
  | x :: xs, [] => by simp [zipD]
  | x :: xs, y :: ys => by
    show (zipD xs ys).length + 1 = _
    rw [zipD_len xs ys, List.length_cons, List.length_cons]; omega
theorem pair_new {K : KF} {H : Hp} {ps : List Sl} {T : Addr} {x y : V} {a b : PyData} (h : Hs K H ps) (n : H T = none) (hx : Dt K.1 (hid (ads ps) H) x a) (hy : Dt K.1 (hid (ads ps) H) y b) :
    Hs K (upd H T (.tup [x, y])) ((some (.ref T), .d (.tuple [a, b])) :: ps) := h.new_tup n (.cons hx (.cons hy .nil))
theorem walk_zipL {K : KF} {a b : Addr} {xs ys : List PyData} : Walks K (Itz K.1 a b) [(some (.ref a), .d (.list xs)), (some (.ref b), .d (.list ys))] (zipD xs ys) := by
  intro i H rest h
  obtain ⟨vs, h1, h2⟩ := held_list h List.mem_cons_self
  obtain ⟨ws, h3, h4⟩ := held_list h (List.mem_cons_of_mem _ List.mem_cons_self)
  refine ⟨fun z ez => ?_, fun hl => ⟨vs, ws, SqL.of h1, SqL.of h3, by rw [zipD_len] at hl; rw [h2.length, h4.length]; omega⟩⟩
  obtain ⟨x, y, ex, ey, rfl⟩ := zipD_get ez
  obtain ⟨v, e1, d1⟩ := h2.get ex
  obtain ⟨w, e2, d2⟩ := h4.get ey
  refine ⟨⟨vs, ws, v, w, SqL.of h1, SqL.of h3, e1, e2⟩, fun x' H' ⟨T, x1, y1, q1, q2, q3, q4, q5⟩ => ?_⟩
  subst q1 q3
  have z1 := q4 vs (SqL.of h1)
  have z2 := q5 ws (SqL.of h3)
  rw [e1] at z1; rw [e2] at z2; cases z1; cases z2
  exact pair_new h q2 d1 d2
theorem walk_zipT {K : KF} {a b : Addr} {xs ys : List PyData} : Walks K (ItzT K.1 a b) [(some (.ref a), .d (.tuple xs)), (some (.ref b), .d (.tuple ys))] (zipD xs ys) := by
  intro i H rest h
  obtain ⟨vs, h1, h2⟩ := held_tup h List.mem_cons_self
  obtain ⟨ws, h3, h4⟩ := held_tup h (List.mem_cons_of_mem _ List.mem_cons_self)
  refine ⟨fun z ez => ?_, fun hl => ⟨vs, ws, h1, h3, by rw [zipD_len] at hl; rw [h2.length, h4.length]; omega⟩⟩
  obtain ⟨x, y, ex, ey, rfl⟩ := zipD_get ez
  obtain ⟨v, e1, d1⟩ := h2.get ex
  obtain ⟨w, e2, d2⟩ := h4.get ey
  refine ⟨⟨vs, ws, v, w, h1, h3, e1, e2⟩, fun x' H' ⟨T, x1, y1, q1, q2, q3, q4, q5⟩ => ?_⟩
  subst q1 q3
  have z1 := q4 vs h1
  have z2 := q5 ws h3
  rw [e1] at z1; rw [e2] at z2; cases z1; cases z2
  exact pair_new h q2 d1 d2
/-- two lists (own ones among them), or two tuples -/
def zipS : SV → SV → Option (List PyData)
  | .d (.tuple xs), .d (.tuple ys) => some (zipD xs ys)
  | .d (.list xs), .d (.list ys) => some (zipD xs ys)
  | .m xs, .m ys => some (zipD xs ys)
  | .m xs, .d (.list ys) => some (zipD xs ys)
  | .d (.list xs), .m ys => some (zipD xs ys)
  | _, _ => none
def tdZip (t u : TD) : TDI := fun Γ P => t Γ fun r Γ1 => u Γ1 fun r' Γ2 => ∃ its, zipS r.1 r'.1 = some its ∧ P its [r, r'] Γ2
theorem Hs.asList {K : KF} {H : Hp} {v : V} {s : SV} {xs : List PyData} {ps : List Sl} (h : Hs K H ((some v, s) :: ps)) (e : DL.frz s = .d (.list xs)) : ∃ a vs, v = .ref a ∧ H a = some (.lst vs) ∧ DtAll K.1 (hid (ads ((some v, s) :: ps)) H) vs xs := by
  cases s with
  | m ys =>
    cases e
    obtain ⟨a, vs, rfl, h1, h2, _⟩ := h.get_m
    exact ⟨a, vs, rfl, h1, h2⟩
  | d x =>
    cases e
    have q : Dt K.1 (hid (ads ((some v, SV.d (.list xs)) :: ps)) H) v (.list xs) := h.ok _ List.mem_cons_self
    cases q with
    | lst h1 h2 => exact ⟨_, _, rfl, hid_sub _ _ h1, h2⟩
  | no => cases e
  | t _ => cases e
theorem Hs.asTup {K : KF} {H : Hp} {v : V} {xs : List PyData} {ps : List Sl} (h : Hs K H ((some v, .d (.tuple xs)) :: ps)) : ∃ a vs, v = .ref a ∧ SqT K.1 H a vs ∧ DtAll K.1 (hid (ads ((some v, SV.d (.tuple xs)) :: ps)) H) vs xs := by
  have q : Dt K.1 (hid (ads ((some v, SV.d (.tuple xs)) :: ps)) H) v (.tuple xs) := h.ok _ List.mem_cons_self
  cases q with
  | tup h1 h2 => exact ⟨_, _, rfl, sqT_sub h1, h2⟩
theorem zipS_cases {s s' : SV} {its : List PyData} (h : zipS s s' = some its) : (∃ xs ys, s = .d (.tuple xs) ∧ s' = .d (.tuple ys) ∧ its = zipD xs ys) ∨ (∃ xs ys, frz s = .d (.list xs) ∧ frz s' = .d (.list ys) ∧ its = zipD xs ys) := by
  unfold zipS at h
  split at h <;> first | (cases h; exact .inl ⟨_, _, rfl, rfl, rfl⟩) | (cases h; exact .inr ⟨_, _, rfl, rfl, rfl⟩) | cases h
theorem di_zip {p tpos : Pos} {a b : Expr} {elts : List Expr} {kk : Nat} (hg : Gl X "zip") (hm : X.mg "zip" = none) (ha : DE T X a t) (hb : DE T X b t2) (hs1 : starEach (b :: []) X.env = (false, eval b X.env) :: starEach [] X.env := by rfl)
    (hs : starEach (a :: [b]) X.env = (false, eval a X.env) :: starEach [b] X.env := by rfl) (hpl : (backTo pos (starEach [b] X.env)).any (·.1) = false := by rfl) : DI T X (.Tuple elts kk tpos) (.Call (.Name "zip" p) [a, b] [] pos) (tdZip t t2) := by
  obtain ⟨te, h1, h2⟩ := ha
  obtain ⟨tu, h3, h4⟩ := hb
  refine ⟨_, pi_zipA hg hm (pa_cons h1 (pa_cons h3 pa_nil hs1) hs) hs hpl, fun σ H Γ ex P Q h p q => ?_⟩
  refine h2 σ H Γ ex _ _ h p fun v H' r Γ' he og p1 => ?_
  refine h4 σ H' Γ' _ _ _ he p1 fun w H2 r' Γ2 he2 og2 p2 => ?_
  obtain ⟨its, e, p2⟩ := p2
  have he3 : HE (X.K, T) H2 σ Γ2 (tmp [v, w] [r, r'] ++ ex) := he2.perm (List.Perm.swap _ _ _)
  have fin : ∀ J, Walks (X.K, T) J (tmpS [v, w] [frz r.1, frz r'.1]) its → Q J H2 := fun J wk => q J H2 [v, w] [r, r'] its Γ2 he3 (.cons og (.cons og2 .nil)) wk p2
  rcases zipS_cases e with ⟨xs, ys, e1, e2, rfl⟩ | ⟨xs, ys, e1, e2, rfl⟩
  · rw [e1, e2] at fin
    have hx := he3.hs
    have hv : Hs (X.K, T) H2 ((some v, .d (.tuple xs)) :: (some w, .d (.tuple ys)) :: (σ.zip Γ2 ++ ex)) := by
      have := he3.outs
      have e3 : tmp [v, w] [r, r'] = [(some v, r.1), (some w, r'.1)] := rfl
      rw [e3, e1, e2] at this
      exact this
    obtain ⟨a, vs, rfl, k1, _⟩ := hv.asTup
    obtain ⟨b, ws, rfl, k2, _⟩ := hv.swap2.asTup
    exact ⟨a, b, vs, ws, rfl, .inr ⟨k1, k2, fin _ walk_zipT⟩⟩
  · rw [e1, e2] at fin
    have hv : Hs (X.K, T) H2 ((some v, r.1) :: (some w, r'.1) :: (σ.zip Γ2 ++ ex)) := he3.outs
    obtain ⟨a, vs, rfl, k1, _⟩ := hv.asList e1
    obtain ⟨b, ws, rfl, k2, _⟩ := hv.swap2.asList e2
    exact ⟨a, b, vs, ws, rfl, .inl ⟨SqL.of k1, SqL.of k2, fin _ walk_zipL⟩⟩
end
end DL

namespace DL
open PySem L2 RZ

/-! ## views -/
/-- as a value that no one changes -/
def dat : SV → Option PyData
  | .d x => some x
  | .m xs => some (.list xs)
  | _ => none
/-- as a list -/
def lis : SV → Option (List PyData)
  | .m xs => some xs
  | .d (.list xs) => some xs
  | _ => none
section
variable {K : KF} {H H' : Hp} {v x y z : V} {s s1 s2 : SV} {ps ex : List Sl} {d : PyData} {xs : List PyData}
theorem Hs.dt (h : Hs K H ps) (m : ((some v, s) : Sl) ∈ ps) (e : dat s = some d) : Dt K.1 H v d := by
  have q := h.ok _ m
  cases s with
  | d x => cases e; exact Dt.le hid_sub q
  | m xs =>
    cases e
    cases v with
    | ref a =>
      obtain ⟨vs, h1, h2⟩ := q
      exact .lst h1 (h2.le hid_sub)
    | _ => exact q.elim
  | no => cases e
  | t _ => cases e
theorem Hs.li (h : Hs K H ps) (m : ((some v, s) : Sl) ∈ ps) (e : lis s = some xs) : ∃ a vs, v = .ref a ∧ H a = some (.lst vs) ∧ DtAll K.1 (hid (ads ps) H) vs xs := by
  have q := h.ok _ m
  cases s with
  | d x =>
    cases x with
    | list ys =>
      cases e
      cases q with
      | lst h1 h2 => exact ⟨_, _, rfl, hid_sub _ _ h1, h2⟩
    | _ => cases e
  | m xs =>
    cases e
    cases v with
    | ref a =>
      obtain ⟨vs, h1, h2⟩ := q
      exact ⟨a, vs, rfl, h1, h2⟩
    | _ => exact q.elim
  | no => cases e
  | t _ => cases e
theorem Hs.tu (h : Hs K H ps) (m : ((some v, .d (.tuple xs)) : Sl) ∈ ps) : ∃ a vs, v = .ref a ∧ SqT K.1 H a vs ∧ DtAll K.1 (hid (ads ps) H) vs xs := by
  have q : Dt K.1 (hid (ads ps) H) v (.tuple xs) := h.ok _ m
  cases q with
  | tup h1 h2 => exact ⟨_, _, rfl, sqT_sub h1, h2⟩
theorem Hs.seq (h : Hs K H ps) (m : ((some v, s) : Sl) ∈ ps) (e : seqS s = some xs) : ∃ a vs, v = .ref a ∧ (H a = some (.lst vs) ∨ SqT K.1 H a vs) ∧ DtAll K.1 (hid (ads ps) H) vs xs := by
  cases s with
  | d x =>
    cases x with
    | list ys =>
      cases e
      obtain ⟨a, vs, h1, h2, h3⟩ := h.li m rfl
      exact ⟨a, vs, h1, .inl h2, h3⟩
    | tuple ys =>
      cases e
      obtain ⟨a, vs, h1, h2, h3⟩ := h.tu m
      exact ⟨a, vs, h1, .inr h2, h3⟩
    | _ => cases e
  | m ys =>
    cases e
    obtain ⟨a, vs, h1, h2, h3⟩ := h.li m rfl
    exact ⟨a, vs, h1, .inl h2, h3⟩
  | no => cases e
  | t _ => cases e
end
theorem OpR.or {X : Cx} {f : Value → Value → Sem Value} {r r' : R2} (h : OpR X f r) (h' : OpR X f r') : OpR X f (fun x y H Q => r x y H Q ∨ r' x y H Q) := by
  intro pins st σ H x y v u Q I rx ry q
  rcases q with q | q
  · exact h pins st σ H x y v u Q I rx ry q
  · exact h' pins st σ H x y v u Q I rx ry q
theorem CallR.or {X : Cx} {f : Value} {r r' : List V → Hp → VK → Prop} (h : CallR X f r) (h' : CallR X f r') : CallR X f (fun xs H Q => r xs H Q ∨ r' xs H Q) := by
  intro pins s σ H xs us Q I rx q
  rcases q with q | q
  · exact h pins s σ H xs us Q I rx q
  · exact h' pins s σ H xs us Q I rx q

/-! ## operators -/
/-- + of ints, tuples, lists -/
def cAdd : CT := fun ss P => match ss with
  | [.d (.int i), .d (.int j)] => P (.d (.int (i + j))) ss
  | [.d (.tuple xs), .d (.tuple ys)] => xs.length + ys.length ≤ sizeLine ∧ P (.d (.tuple (xs ++ ys))) ss
  | [a, b] => ∃ xs ys, lis a = some xs ∧ lis b = some ys ∧ xs.length + ys.length ≤ sizeLine ∧ P (.m (xs ++ ys)) ss
  | _ => False
def rAdd (K : PySem.W.Frag) : R2 := fun x y H Q => rI0 (fun i j => .int (i + j)) x y H Q ∨ (rCatA K x y H Q ∨ rCat x y H Q)
theorem op_addA {X : Cx} : OpR X (binaryOp .Add) (rAdd X.K) := OpR.or op_add (OpR.or op_catA op_cat)
section
variable {K : KF}
theorem DtAll.nil_iff {H : Hp} {vs : List V} {ds : List PyData} (h : DtAll K.1 H vs ds) : vs = [] ↔ ds = [] := by cases h <;> simp
theorem snd_add : Snd2 K (rAdd K.1) cAdd := by
  intro x y H s1 s2 ex P Q h c q
  have m1 : ((some x, s1) : Sl) ∈ (some x, s1) :: (some y, s2) :: ex := List.mem_cons_self
  have m2 : ((some y, s2) : Sl) ∈ (some x, s1) :: (some y, s2) :: ex := List.mem_cons_of_mem _ List.mem_cons_self
  have lists : (∃ xs ys, lis s1 = some xs ∧ lis s2 = some ys ∧ xs.length + ys.length ≤ sizeLine ∧ P (.m (xs ++ ys)) [s1, s2]) → rAdd K.1 x y H Q := fun ⟨xs, ys, e1, e2, hz, p⟩ => by
    obtain ⟨a, vs, rfl, h1, d1⟩ := h.li m1 e1
    obtain ⟨b, ws, rfl, h2, d2⟩ := h.li m2 e2
    exact .inr (.inr ⟨a, b, vs, ws, rfl, rfl, h1, h2, by rw [d1.length, d2.length]; exact hz, fun l hl => q _ _ _ _ _ p (h.new_m hl (d1.append d2))⟩)
  cases s1 with
  | d a =>
    cases s2 with
    | d b =>
      cases a with
      | int i =>
        cases b with
        | int j =>
          have d1 := h.dt m1 rfl
          have d2 := h.dt m2 rfl
          cases d1
          cases d2
          exact .inl ⟨i, j, rfl, rfl, q _ _ _ _ _ c (h.cons_d (.int _))⟩
        | _ => exact lists c
      | tuple xs =>
        cases b with
        | tuple ys =>
          obtain ⟨hz, p⟩ := c
          obtain ⟨a, vs, rfl, h1, d1⟩ := h.tu m1
          obtain ⟨b, ws, rfl, h2, d2⟩ := h.tu m2
          refine .inr (.inl ⟨a, b, vs, ws, rfl, rfl, h1, h2, by rw [d1.length, d2.length]; exact hz, fun e => ?_, fun n e => ?_, fun n1 n2 l hl => q _ _ _ _ _ p (h.new_tup hl (d1.append d2))⟩)
          · have e' := d1.nil_iff.mp e
            subst e'
            exact q _ _ _ _ _ p (h.cons_d (h.ok _ m2))
          · have e' := d2.nil_iff.mp e
            subst e'
            rw [List.append_nil] at p
            exact q _ _ _ _ _ p (h.cons_d (h.ok _ m1))
        | _ => exact lists c
      | _ => exact lists c
    | _ => exact lists (by cases a <;> exact c)
  | _ => exact lists (by cases s2 <;> first | exact c | (rename_i b; cases b <;> exact c))
/-- two ints in -/
def cII (C : Int → Int → Prop) (g : Int → Int → PyData) : CT := fun ss P => match ss with
  | [.d (.int i), .d (.int j)] => C i j ∧ P (.d (g i j)) ss
  | _ => False
theorem snd_II {C : Int → Int → Prop} {g : Int → Int → PyData} {gv : Int → Int → V} (hg : ∀ H i j, Dt K.1 H (gv i j) (g i j)) : Snd2 K (rI C gv) (cII C g) := by
  intro x y H s1 s2 ex P Q h c q
  have m1 : ((some x, s1) : Sl) ∈ (some x, s1) :: (some y, s2) :: ex := List.mem_cons_self
  have m2 : ((some y, s2) : Sl) ∈ (some x, s1) :: (some y, s2) :: ex := List.mem_cons_of_mem _ List.mem_cons_self
  unfold cII at c
  split at c
  · rename_i i j e
    cases e
    have d1 := h.dt m1 rfl
    have d2 := h.dt m2 rfl
    cases d1
    cases d2
    exact ⟨i, j, rfl, rfl, c.1, q _ _ _ _ _ c.2 (h.cons_d (hg _ _ _))⟩
  · exact c.elim
def rI0' (g : Int → Int → V) : R2 := rI (fun _ _ => True) g
theorem op_I0 {X : Cx} {f : Value → Value → Sem Value} {g : Int → Int → V} (h : OpR X f (rI0 g)) : OpR X f (rI0' g) := by
  intro pins s σ H x y v u Q I rx ry ⟨i, j, e1, e2, _, q⟩
  exact h pins s σ H x y v u Q I rx ry ⟨i, j, e1, e2, q⟩
def cI2 (g : Int → Int → PyData) : CT := cII (fun _ _ => True) g
/-- == and != -/
def cEq : CT := fun ss P => match ss with
  | [a, b] => ∃ x y, dat a = some x ∧ dat b = some y ∧ SeqAt.shaped x = true ∧ SeqAt.shaped y = true ∧ P (.d (.bool (PyData.eqv x y))) ss
  | _ => False
def cNe : CT := fun ss P => match ss with
  | [a, b] => ∃ x y, dat a = some x ∧ dat b = some y ∧ SeqAt.shaped x = true ∧ SeqAt.shaped y = true ∧ P (.d (.bool (!PyData.eqv x y))) ss
  | _ => False
theorem snd_eq : Snd2 K (rEqD K.1) cEq := by
  intro x y H s1 s2 ex P Q h ⟨a, b, e1, e2, h1, h2, p⟩ q
  have m1 : ((some x, s1) : Sl) ∈ (some x, s1) :: (some y, s2) :: ex := List.mem_cons_self
  have m2 : ((some y, s2) : Sl) ∈ (some x, s1) :: (some y, s2) :: ex := List.mem_cons_of_mem _ List.mem_cons_self
  exact ⟨a, b, (h.dt m1 e1).dp (noD_lay _ (SeqAt.canLay_of_shaped h1)), (h.dt m2 e2).dp (noD_lay _ (SeqAt.canLay_of_shaped h2)), h1, h2, q _ _ _ _ _ p (h.cons_d (.bl _))⟩
theorem snd_ne : Snd2 K (rNeD K.1) cNe := by
  intro x y H s1 s2 ex P Q h ⟨a, b, e1, e2, h1, h2, p⟩ q
  have m1 : ((some x, s1) : Sl) ∈ (some x, s1) :: (some y, s2) :: ex := List.mem_cons_self
  have m2 : ((some y, s2) : Sl) ∈ (some x, s1) :: (some y, s2) :: ex := List.mem_cons_of_mem _ List.mem_cons_self
  exact ⟨a, b, (h.dt m1 e1).dp (noD_lay _ (SeqAt.canLay_of_shaped h1)), (h.dt m2 e2).dp (noD_lay _ (SeqAt.canLay_of_shaped h2)), h1, h2, q _ _ _ _ _ p (h.cons_d (.bl _))⟩
/-- is None, is not None -/
def isN : SV → Option Bool
  | .d .none => some true
  | .d _ => some false
  | .m _ => some false
  | .t _ => some false
  | .no => none
theorem Hs.isN (h : Hs K H ps) (m : ((some v, s) : Sl) ∈ ps) (e : DL.isN s = some b) : decide (v = V.non) = b := by
  have q := h.ok _ m
  cases s with
  | d x =>
    have q' : Dt K.1 _ v x := q
    cases q' <;> (cases e; rfl)
  | m xs => cases v <;> first | (cases e; rfl) | exact q.elim
  | t xs => cases v <;> first | (cases e; rfl) | exact q.elim
  | no => cases e
def cIsN : CT := fun ss P => match ss with
  | [a, .d .none] => ∃ b, isN a = some b ∧ P (.d (.bool b)) ss
  | _ => False
def cNotN : CT := fun ss P => match ss with
  | [a, .d .none] => ∃ b, isN a = some b ∧ P (.d (.bool (!b))) ss
  | _ => False
theorem snd_isN : Snd2 K (fun x y H Q => y = .non ∧ Q (.bl (decide (x = .non))) H) cIsN := by
  intro x y H s1 s2 ex P Q h c q
  have m1 : ((some x, s1) : Sl) ∈ (some x, s1) :: (some y, s2) :: ex := List.mem_cons_self
  have m2 : ((some y, s2) : Sl) ∈ (some x, s1) :: (some y, s2) :: ex := List.mem_cons_of_mem _ List.mem_cons_self
  unfold cIsN at c
  split at c
  · rename_i a e
    cases e
    obtain ⟨b, e, p⟩ := c
    have d2 := h.dt m2 rfl
    cases d2
    refine ⟨rfl, q _ _ _ _ _ p ?_⟩
    rw [h.isN m1 e]
    exact h.cons_d (.bl _)
  · exact c.elim
theorem snd_notN : Snd2 K (fun x y H Q => y = .non ∧ Q (.bl (!decide (x = .non))) H) cNotN := by
  intro x y H s1 s2 ex P Q h c q
  have m1 : ((some x, s1) : Sl) ∈ (some x, s1) :: (some y, s2) :: ex := List.mem_cons_self
  have m2 : ((some y, s2) : Sl) ∈ (some x, s1) :: (some y, s2) :: ex := List.mem_cons_of_mem _ List.mem_cons_self
  unfold cNotN at c
  split at c
  · rename_i a e
    cases e
    obtain ⟨b, e, p⟩ := c
    have d2 := h.dt m2 rfl
    cases d2
    refine ⟨rfl, q _ _ _ _ _ p ?_⟩
    rw [h.isN m1 e]
    exact h.cons_d (.bl _)
  · exact c.elim
/-- xs[i] -/
def cIx : CT := fun ss P => match ss with
  | [a, .d (.int i)] => ∃ xs v, seqS a = some xs ∧ atI xs i = some v ∧ P (.d v) ss
  | _ => False
def rIxA (K : PySem.W.Frag) : R2 := fun x y H Q => rIxL K x y H Q ∨ rIxT K x y H Q
theorem ix_A {X : Cx} : IxR X (rIxA X.K) := ix_list.or ix_tup
theorem atI_dt {H : Hp} {vs : List V} {xs : List PyData} {i : Int} {d : PyData} (h : DtAll K.1 H vs xs) (e : atI xs i = some d) : ∃ v, atI vs i = some v ∧ Dt K.1 H v d := by
  unfold atI at e ⊢
  rw [h.length]
  cases q : ixN xs.length i with
  | none => (rw [q] at e; cases e)
  | some j =>
    rw [q] at e
    obtain ⟨v, h1, h2⟩ := h.get (i := j) e
    exact ⟨v, h1, h2⟩
theorem snd_ix : Snd2 K (rIxA K.1) cIx := by
  intro x y H s1 s2 ex P Q h c q
  have m1 : ((some x, s1) : Sl) ∈ (some x, s1) :: (some y, s2) :: ex := List.mem_cons_self
  have m2 : ((some y, s2) : Sl) ∈ (some x, s1) :: (some y, s2) :: ex := List.mem_cons_of_mem _ List.mem_cons_self
  unfold cIx at c
  split at c
  · rename_i a i e
    cases e
    obtain ⟨xs, d, e, ea, p⟩ := c
    have d2 := h.dt m2 rfl
    cases d2
    obtain ⟨b, vs, rfl, hh, ds⟩ := h.seq m1 e
    obtain ⟨v, ev, dv⟩ := atI_dt ds ea
    have fin := q _ _ _ _ _ p (h.cons_d dv)
    rcases hh with hh | hh
    · exact .inl ⟨b, vs, i, v, rfl, rfl, SqL.of hh, ev, fin⟩
    · exact .inr ⟨b, vs, i, v, rfl, rfl, hh, ev, fin⟩
  · exact c.elim
/-- x in xs of a list at any depth -/
def cIn : CT := fun ss P => match ss with
  | [a, b] => ∃ x xs, dat a = some x ∧ lis b = some xs ∧ SeqAt.shaped x = true ∧ SeqAt.shaped (.list xs) = true ∧ P (.d (.bool (xs.any fun z => PyData.eqv z x))) ss
  | _ => False
def cNotIn : CT := fun ss P => match ss with
  | [a, b] => ∃ x xs, dat a = some x ∧ lis b = some xs ∧ SeqAt.shaped x = true ∧ SeqAt.shaped (.list xs) = true ∧ P (.d (.bool (!xs.any fun z => PyData.eqv z x))) ss
  | _ => False
theorem lis_dat {s : SV} {xs : List PyData} (e : lis s = some xs) : dat s = some (.list xs) := by
  cases s with
  | d x => cases x <;> first | (cases e; rfl) | cases e
  | m ys => cases e; rfl
  | no => cases e
  | t _ => cases e

/-! ## displays -/
def dats : List SV → Option (List PyData)
  | [] => some []
  | s :: r => match dat s, dats r with
    | some x, some xs => some (x :: xs)
    | _, _ => none
theorem Hs.frzs : ∀ {vs : List V} {ss : List SV} {ex : List Sl} {H : Hp}, Hs K H (tmpS vs ss ++ ex) → vs.length = ss.length → Hs K H (tmpS vs (ss.map DL.frz) ++ ex)
  | [], [], _, _, h, _ => h
  | v :: vs, s :: ss, ex, H, h, hl => by
    have h1 : Hs K H ((some v, s) :: (tmpS vs ss ++ ex)) := h
    have h2 : Hs K H (tmpS vs ss ++ ((some v, DL.frz s) :: ex)) := h1.frz.mid
    have h3 := Hs.frzs h2 (by simpa using hl)
    exact h3.front
  | [], _ :: _, _, _, _, hl => by cases hl
  | _ :: _, [], _, _, _, hl => by cases hl
theorem dats_all : ∀ {vs : List V} {ss : List SV} {xs : List PyData} {Hd : Hp} {ps : List Sl}, (∀ p ∈ ps, Ok K.1 H Hd p) → (∀ v s, ((some v, s) : Sl) ∈ tmpS vs ss → ((some v, DL.frz s) : Sl) ∈ ps) → vs.length = ss.length → dats ss = some xs → DtAll K.1 Hd vs xs
  | [], [], xs, _, _, _, _, _, e => by cases e; exact .nil
  | v :: vs, s :: ss, xs, Hd, ps, h, m, hl, e => by
    unfold dats at e
    cases e1 : dat s with
    | none => rw [e1] at e; cases e
    | some x =>
      cases e2 : dats ss with
      | none => rw [e1, e2] at e; cases e
      | some ys =>
        rw [e1, e2] at e
        cases e
        have q := h _ (m v s List.mem_cons_self)
        have q' : Dt K.1 Hd v x := by
          cases s with
          | d z => cases e1; exact q
          | m zs => cases e1; exact q
          | no => cases e1
          | t _ => cases e1
        exact .cons q' (dats_all h (fun v' s' mm => m v' s' (List.mem_cons_of_mem _ mm)) (by simpa using hl) e2)
  | [], _ :: _, _, _, _, _, _, hl, _ => by cases hl
  | _ :: _, [], _, _, _, _, _, hl, _ => by cases hl
theorem Hs.dats {vs : List V} {ss : List SV} {xs : List PyData} (h : Hs K H (tmpS vs (ss.map DL.frz) ++ ex)) (hl : vs.length = ss.length) (e : DL.dats ss = some xs) : DtAll K.1 (hid (ads (tmpS vs (ss.map DL.frz) ++ ex)) H) vs xs := by
  refine dats_all (ss := ss) h.ok (fun v s m => List.mem_append_left _ ?_) hl e
  clear h e
  induction vs generalizing ss with
  | nil => cases m
  | cons w vs ih =>
    cases ss with
    | nil => cases hl
    | cons t ss =>
      rcases List.mem_cons.mp m with z | z
      · cases z; exact List.mem_cons_self
      · exact List.mem_cons_of_mem _ (ih (by simpa using hl) z)
def cTup : CT := fun ss P => ∃ xs, dats ss = some xs ∧ ss.length ≤ sizeLine ∧ P (.d (.tuple xs)) (ss.map frz)
def cLst : CT := fun ss P => ∃ xs, dats ss = some xs ∧ ss.length ≤ sizeLine ∧ P (.m xs) (ss.map frz)
def rTup : List V → Hp → VK → Prop := fun vs H Q => vs.length ≤ sizeLine ∧ ∀ p, H p = none → Q (.ref p) (upd H p (.tup vs))
def rLst : List V → Hp → VK → Prop := fun vs H Q => vs.length ≤ sizeLine ∧ ∀ p, H p = none → Q (.ref p) (upd H p (.lst vs))
theorem snd_tup : Snd K rTup cTup := by
  intro vs H ss ex P Q hl h ⟨xs, e, hz, p⟩ q
  have h' := h.frzs hl
  exact ⟨by rw [hl]; exact hz, fun l hn => q _ _ _ _ p (by rw [List.length_map]) (h'.new_tup hn (h'.dats hl e))⟩
theorem snd_lst : Snd K rLst cLst := by
  intro vs H ss ex P Q hl h ⟨xs, e, hz, p⟩ q
  have h' := h.frzs hl
  exact ⟨by rw [hl]; exact hz, fun l hn => q _ _ _ _ p (by rw [List.length_map]) (h'.new_m hn (h'.dats hl e))⟩
end
section
variable {T : Tbs} {X : Cx} {es : List Expr} {u : TDA} {pos : Pos} {a b e : Expr} {t ta tb : TD}
theorem de_tup {x1} (ha : DA T X es u) : DE T X (.Tuple es x1 pos) (tAp u cTup) := de_ap (fun ta h => ⟨_, pe_tup h, fun σ H Q z => z⟩) snd_tup ha
theorem de_lst (ha : DA T X es u) : DE T X (.List es pos) (tAp u cLst) := de_ap (fun ta h => ⟨_, pe_lst h, fun σ H Q z => z⟩) snd_lst ha
theorem de_add (ha : DE T X a ta) (hb : DE T X b tb) : DE T X (.BinOp a .Add b pos) (tAp2 ta tb cAdd) := de_bin op_addA snd_add ha hb
theorem de_sub (ha : DE T X a ta) (hb : DE T X b tb) : DE T X (.BinOp a .Sub b pos) (tAp2 ta tb (cI2 fun i j => .int (i - j))) := de_bin (op_I0 op_sub) (snd_II fun _ _ _ => .int _) ha hb
theorem de_mul (ha : DE T X a ta) (hb : DE T X b tb) : DE T X (.BinOp a .Mult b pos) (tAp2 ta tb (cII CMul fun i j => .int (i * j))) := de_bin op_mul (snd_II fun _ _ _ => .int _) ha hb
theorem de_fdiv (ha : DE T X a ta) (hb : DE T X b tb) : DE T X (.BinOp a .FloorDiv b pos) (tAp2 ta tb (cII CDiv fun i j => .int (i / j))) := de_bin op_fdiv (snd_II fun _ _ _ => .int _) ha hb
theorem de_mod (ha : DE T X a ta) (hb : DE T X b tb) : DE T X (.BinOp a .Mod b pos) (tAp2 ta tb (cII (fun _ j => 0 < j) fun i j => .int (i % j))) := de_bin op_mod (snd_II fun _ _ _ => .int _) ha hb
theorem de_pow (ha : DE T X a ta) (hb : DE T X b tb) : DE T X (.BinOp a .Pow b pos) (tAp2 ta tb (cII CPow fun i j => .int (i ^ j.toNat))) := de_bin op_pow (snd_II fun _ _ _ => .int _) ha hb
theorem de_lt (ha : DE T X a ta) (hb : DE T X b tb) : DE T X (.Compare a [.Lt] [b] pos) (tAp2 ta tb (cI2 fun i j => .bool (decide (i < j)))) := de_cmp (op_I0 op_lt) (snd_II fun _ _ _ => .bl _) ha hb (nobehind _ (by decide) (by decide))
theorem de_le (ha : DE T X a ta) (hb : DE T X b tb) : DE T X (.Compare a [.LtE] [b] pos) (tAp2 ta tb (cI2 fun i j => .bool (decide (i ≤ j)))) := de_cmp (op_I0 op_le) (snd_II fun _ _ _ => .bl _) ha hb (nobehind _ (by decide) (by decide))
theorem de_gt (ha : DE T X a ta) (hb : DE T X b tb) : DE T X (.Compare a [.Gt] [b] pos) (tAp2 ta tb (cI2 fun i j => .bool (decide (j < i)))) := de_cmp (op_I0 op_gt) (snd_II fun _ _ _ => .bl _) ha hb (nobehind _ (by decide) (by decide))
theorem de_ge (ha : DE T X a ta) (hb : DE T X b tb) : DE T X (.Compare a [.GtE] [b] pos) (tAp2 ta tb (cI2 fun i j => .bool (decide (j ≤ i)))) := de_cmp (op_I0 op_ge) (snd_II fun _ _ _ => .bl _) ha hb (nobehind _ (by decide) (by decide))
theorem de_eq (hu : X.A.units + 64 < cLine) (ha : DE T X a ta) (hb : DE T X b tb) : DE T X (.Compare a [.Eq] [b] pos) (tAp2 ta tb cEq) := de_cmp (op_eqD hu) snd_eq ha hb (nobehind _ (by decide) (by decide))
theorem de_ne (hu : X.A.units + 64 < cLine) (ha : DE T X a ta) (hb : DE T X b tb) : DE T X (.Compare a [.NotEq] [b] pos) (tAp2 ta tb cNe) := de_cmp (op_neD hu) snd_ne ha hb (nobehind _ (by decide) (by decide))
theorem de_isN (ha : DE T X a ta) (hb : DE T X b tb) : DE T X (.Compare a [.Is] [b] pos) (tAp2 ta tb cIsN) := de_cmp op_isN snd_isN ha hb (nobehind _ (by decide) (by decide))
theorem de_notN (ha : DE T X a ta) (hb : DE T X b tb) : DE T X (.Compare a [.IsNot] [b] pos) (tAp2 ta tb cNotN) := de_cmp op_notN snd_notN ha hb (nobehind _ (by decide) (by decide))
theorem dt_lt (ha : DE T X a ta) (hb : DE T X b tb) : DT T X (.Compare a [.Lt] [b] pos) (tdTest (tAp2 ta tb (cI2 fun i j => .bool (decide (i < j))))) := dt_cmp (op_I0 op_lt) (snd_II fun _ _ _ => .bl _) ha hb (nobehind _ (by decide) (by decide))
theorem dt_le (ha : DE T X a ta) (hb : DE T X b tb) : DT T X (.Compare a [.LtE] [b] pos) (tdTest (tAp2 ta tb (cI2 fun i j => .bool (decide (i ≤ j))))) := dt_cmp (op_I0 op_le) (snd_II fun _ _ _ => .bl _) ha hb (nobehind _ (by decide) (by decide))
theorem dt_gt (ha : DE T X a ta) (hb : DE T X b tb) : DT T X (.Compare a [.Gt] [b] pos) (tdTest (tAp2 ta tb (cI2 fun i j => .bool (decide (j < i))))) := dt_cmp (op_I0 op_gt) (snd_II fun _ _ _ => .bl _) ha hb (nobehind _ (by decide) (by decide))
theorem dt_ge (ha : DE T X a ta) (hb : DE T X b tb) : DT T X (.Compare a [.GtE] [b] pos) (tdTest (tAp2 ta tb (cI2 fun i j => .bool (decide (j ≤ i))))) := dt_cmp (op_I0 op_ge) (snd_II fun _ _ _ => .bl _) ha hb (nobehind _ (by decide) (by decide))
theorem dt_eq (hu : X.A.units + 64 < cLine) (ha : DE T X a ta) (hb : DE T X b tb) : DT T X (.Compare a [.Eq] [b] pos) (tdTest (tAp2 ta tb cEq)) := dt_cmp (op_eqD hu) snd_eq ha hb (nobehind _ (by decide) (by decide))
theorem dt_ne (hu : X.A.units + 64 < cLine) (ha : DE T X a ta) (hb : DE T X b tb) : DT T X (.Compare a [.NotEq] [b] pos) (tdTest (tAp2 ta tb cNe)) := dt_cmp (op_neD hu) snd_ne ha hb (nobehind _ (by decide) (by decide))
theorem dt_isN (ha : DE T X a ta) (hb : DE T X b tb) : DT T X (.Compare a [.Is] [b] pos) (tdTest (tAp2 ta tb cIsN)) := dt_cmp op_isN snd_isN ha hb (nobehind _ (by decide) (by decide))
theorem dt_notN (ha : DE T X a ta) (hb : DE T X b tb) : DT T X (.Compare a [.IsNot] [b] pos) (tdTest (tAp2 ta tb cNotN)) := dt_cmp op_notN snd_notN ha hb (nobehind _ (by decide) (by decide))
theorem de_item (ha : DE T X a ta) (hb : DE T X b tb) (hp : PlainIx b := by exact fun _ _ => rfl) : DE T X (.Subscript a b pos) (tAp2 ta tb cIx) := de_ix ix_A snd_ix ha hb hp
end
end DL

namespace DL
open PySem PySem.Spec PyProof.Rows L2 RZ

/-! ## defs -/
def spOf (K : KF) (n : Nat) (c : CT) : Sp := fun vs H Q _ => vs.length = n ∧ ∃ ss ex P, vs.length = ss.length ∧ Hs K H (tmpS vs ss ++ ex) ∧ c ss P ∧
  ∀ s ss' v H', P s ss' → ss'.length = ss.length → Hs K H' ((some v, s) :: (tmpS vs ss' ++ ex)) → Q v H'
def cN (n : Nat) (c : CT) : CT := fun ss P => ss.length = n ∧ c ss P
/-- the def that stands at the name x keeps c, with k calls at most one in another -/
def Fnd (P : Program) (w : World) (K : PySem.W.Frag) (T : Tbs) (mg : Str → Option Value) (base : Heap) (k : Nat) (x : Str) (ps : List Str) (c : CT) : Prop :=
  ∃ f fd, FnOk P w K mg base CX0 k f fd ps (spOf (K, T) ps.length c) ∧ Binds K fd ps [] ∧ PySem.W.keepIn K (.ref f) = true ∧ mg x = some (.ref f) ∧ ∃ oc od osl, K.lookup f = some ⟨oc, od, .func fd, osl⟩
theorem Fnd.mono {P : Program} {w : World} {K : PySem.W.Frag} {T : Tbs} {mg : Str → Option Value} {base : Heap} {j k : Nat} {x : Str} {ps : List Str} {c : CT} (h : Fnd P w K T mg base j x ps c) (l : j ≤ k) : Fnd P w K T mg base k x ps c := by
  obtain ⟨f, fd, h1, h2⟩ := h
  exact ⟨f, fd, h1.mono l, h2⟩
theorem Fnd.imp {P : Program} {w : World} {K : PySem.W.Frag} {T : Tbs} {mg : Str → Option Value} {base : Heap} {k : Nat} {x : Str} {ps : List Str} {c c' : CT} (h : Fnd P w K T mg base k x ps c) (l : ∀ ss Q, c' ss Q → c ss Q) : Fnd P w K T mg base k x ps c' := by
  obtain ⟨f, fd, h1, h2⟩ := h
  exact ⟨f, fd, h1.imp fun vs H Q E ⟨hl, ss, ex, P, a, b, c, d⟩ => ⟨hl, ss, ex, P, a, b, l _ _ c, d⟩, h2⟩
section
variable {T : Tbs} {X : Cx} {e a b : Expr} {es : List Expr} {u : TDA} {t ta tb : TD} {k : Nat} {x : Str} {ps : List Str} {c : CT} {p pos : Pos} {fx : List Nat}
theorem de_ap0 {r : List V → Hp → VK → Prop} {mk : Expr} (hp : ∃ te, PE X mk te ∧ ∀ σ H Q, r [] H Q → te σ H Q) (hs : Snd (X.K, T) r c) : DE T X mk (tAp tdNil c) := by
  obtain ⟨te, h3, h4⟩ := hp
  refine ⟨te, h3, fun σ H Γ ex P Q h p q => h4 σ H Q ?_⟩
  refine hs [] H [] _ _ _ rfl h.hs p fun s ss v H2 p2 l2 h5 => ?_
  cases ss with
  | cons _ _ => cases l2
  | nil =>
    have h6 : Hs (X.K, T) H2 ((some v, s) :: (σ.zip Γ ++ ex)) := h5
    exact q v H2 (s, none) _ ⟨h.len, h6.mid⟩ Og.none p2
theorem snd_fn {K : KF} {n : Nat} {E : XK} : Snd K (fun vs H Q => spOf K n c (vs ++ []) H Q E) (cN n c) := by
  intro vs H ss ex P Q hl h ⟨hn, hc⟩ q
  rw [List.append_nil]
  exact ⟨hl.trans hn, ss, ex, P, hl, h, hc, q⟩
theorem de_call (F : Fnd X.prog X.w X.K T X.mg X.base k x ps c) (hr : Room k X.A) (ha : DA T X (e :: es) u) (hg : Gl X x := by rfl) (hdb : (x == ("__debug__" : Str)) = false := by decide) (he : starEach (e :: es) X.env = (false, eval e X.env) :: starEach es X.env := by rfl)
    (hpl : (backTo pos (starEach es X.env)).any (·.1) = false := by rfl) : DE T X (.Call (.Name x p) (e :: es) [] pos) (tAp u (cN ps.length c)) := by
  obtain ⟨f, fd, h1, h2, h3, h4, _⟩ := F
  exact de_ap (r := fun vs H Q => spOf (X.K, T) ps.length c (vs ++ []) H Q E0) (fun ta h => ⟨_, pe_call h1 hr hg h4 h3 h2 .nil pass0 h hdb he hpl, fun σ H Q z => z⟩) snd_fn ha
theorem de_call0 (F : Fnd X.prog X.w X.K T X.mg X.base k x ps c) (hr : Room k X.A) (hg : Gl X x := by rfl) (hdb : (x == ("__debug__" : Str)) = false := by decide) : DE T X (.Call (.Name x p) [] [] pos) (tAp tdNil (cN ps.length c)) := by
  obtain ⟨f, fd, h1, h2, h3, h4, _⟩ := F
  exact de_ap0 (r := fun vs H Q => spOf (X.K, T) ps.length c (vs ++ []) H Q E0) ⟨_, pe_call0 h1 hr hg h4 h3 h2 .nil pass0 hdb, fun σ H Q z => z⟩ snd_fn
end
/-- what is left of the arguments: those at fx, whose names the body never binds anew -/
def fin (fx : List Nat) (n : Nat) (Γ : G) : List SV := (List.range n).map fun i => if fx.contains i then Γ.getD i .no else .no
theorem Hs.sub {K : KF} {H : Hp} : ∀ {m l r : List Sl}, Hs K H (l ++ r) → (∀ (i : Nat) (p : Sl), m[i]? = some p → p.2 = SV.no ∨ l[i]? = some p) → Hs K H (m ++ r)
  | [], l, r, h, _ => h.drops
  | a :: m, [], r, h, q => by
    have ih := Hs.sub (m := m) (l := []) h fun i p e => (q (i + 1) p (by simpa using e)).imp id fun z => by simp at z
    obtain ⟨o, s⟩ := a
    rcases q 0 (o, s) rfl with z | z
    · have z' : s = .no := z
      subst z'
      exact ih.cons_no
    · simp at z
  | a :: m, b :: l, r, h, q => by
    have h1 : Hs K H (l ++ b :: r) := Hs.mid (p := b) (a := l) (b := r) h
    have ih := Hs.sub (m := m) (l := l) h1 fun i p e => (q (i + 1) p (by simpa using e)).imp id fun z => by simpa using z
    have h2 := ih.front
    obtain ⟨o, s⟩ := a
    rcases q 0 (o, s) rfl with z | z
    · have z' : s = .no := z
      subst z'
      exact h2.tail.cons_no
    · have : b = (o, s) := by simpa using z
      subst this
      exact h2
theorem start_zip {N : List Str} {vs : List V} {ss : List SV} {n : Nat} (hl : vs.length = ss.length) : (vs.map some ++ List.replicate n none).zip (ss ++ List.replicate n SV.no) = tmpS vs ss ++ (List.replicate n ((none : Option V), SV.no)) := by
  unfold tmpS
  rw [List.zip_append (by rw [List.length_map]; exact hl), List.zip_replicate']
theorem Hs.nos {K : KF} {H : Hp} {ps : List Sl} (h : Hs K H ps) : ∀ n : Nat, Hs K H (List.replicate n ((none : Option V), SV.no) ++ ps)
  | 0 => h
  | n + 1 => (Hs.nos h n).cons_no
section
variable {P : Program} {w : World} {K : PySem.W.Frag} {T : Tbs} {mg : Str → Option Value} {base : Heap} {x qual : Str} {st : Stmt} {f : Addr} {fd : FuncData} {N ps : List Str} {k : Nat} {c : CT}
def edOf (fx : List Nat) (n : Nat) (P : SV → List SV → Prop) : ED := ⟨fun Γ => P (.d .none) (fin fx n Γ), fun s Γ => P s (fin fx n Γ), fun _ => False, fun _ => False⟩
theorem fn_ok (F : Fun K x qual st f fd) (S : FnScope N ps (defScope st)) (fx : List Nat) (hfx : ∀ i ∈ fx, i < ps.length)
    (body : ∀ (cdv : Value) (A : Around) (outer : List Env) (s : Shared) (H : Hp) (E : XK), Room k (A.deeper (envOfC qual (defScope st) s.heap.objs.size f cdv)) →
      ∃ t, DSs T (cxOf CX0 P w K mg base N qual (defScope st) f cdv A outer s H E).nox fx (defBody st) t ∧ ∀ ss Q, ss.length = ps.length → c ss Q → t (edOf fx ps.length Q) (ss ++ List.replicate (N.length - ps.length) .no)) :
    FnOk P w K mg base CX0 (k + 1) f fd ps (spOf (K, T) ps.length c) := by
  refine F.ok S (fun vs H Q E h => h.1) (fun cdv A outer s H vs Q E hr h => ?_)
  obtain ⟨t, h1, h2⟩ := body cdv A outer s H E hr
  obtain ⟨ts, h3, h4⟩ := h1
  obtain ⟨hn, ss, ex, P', hl, hs, hc, q⟩ := h
  refine ⟨ts, h3, ?_⟩
  have hq := h2 ss P' (hl.symm.trans hn) hc
  have ez : (L2.start N vs).zip (ss ++ List.replicate (N.length - ps.length) SV.no) = tmpS vs ss ++ List.replicate (N.length - ps.length) ((none : Option V), SV.no) := by
    unfold L2.start; rw [hn]; exact start_zip (N := N) hl
  have hh : HS (K, T) fx (fun i => vs.getD i .non) H (L2.start N vs) (ss ++ List.replicate (N.length - ps.length) .no) ex := by
    refine ⟨⟨?_, ?_⟩, fun i hi => ?_⟩
    · unfold L2.start; rw [List.length_append, List.length_append, List.length_map, List.length_replicate, List.length_replicate, hl, ← hn, hl]
    · rw [ez, List.append_assoc]
      have := Hs.nos hs (N.length - ps.length)
      refine this.perm ?_
      repeat rw [← List.append_assoc]
      exact (List.perm_append_comm).append_right _
    · have hi' := hfx i hi
      rw [← hn] at hi'
      unfold L2.start
      rw [List.getElem?_append_left (by rw [List.length_map]; exact hi'), List.getElem?_map, List.getElem?_eq_getElem hi']
      simp [List.getD, List.getElem?_eq_getElem hi']
  have ret : ∀ (v : V) (s : SV) (σ' : L2.St) (H' : Hp) (Γ' : G), HS (K, T) fx (fun i => vs.getD i .non) H' σ' Γ' ((some v, s) :: ex) → P' s (fin fx ps.length Γ') → Q v H' := fun v s σ' H' Γ' h' p' => by
    refine q s _ v H' p' (by unfold fin; rw [List.length_map, List.length_range, ← hn, hl]) ?_
    have hx := h'.he.hs
    have hsub : Hs (K, T) H' (tmpS vs (fin fx ps.length Γ') ++ ((some v, s) :: ex)) := Hs.sub hx fun i p e => by
      unfold tmpS at e
      rw [List.getElem?_zip_eq_some] at e
      obtain ⟨e1, e2⟩ := e
      unfold fin at e2
      rw [List.getElem?_map] at e2
      cases er : (List.range ps.length)[i]? with
      | none => rw [er] at e2; cases e2
      | some j =>
        rw [er] at e2
        obtain ⟨hj1, hj2⟩ := List.getElem?_eq_some_iff.mp er
        rw [List.getElem_range] at hj2
        subst hj2
        have e3 : (if fx.contains i = true then Γ'.getD i .no else .no) = p.2 := by simpa using e2
        by_cases hc : fx.contains i = true
        · rw [if_pos hc] at e3
          have hi : i ∈ fx := by simpa using hc
          have hfix := h'.fix i hi
          obtain ⟨hi1, _⟩ := List.getElem?_eq_some_iff.mp hfix
          have hi2 : i < Γ'.length := by rw [← h'.he.len]; exact hi1
          right
          rw [List.getElem?_zip_eq_some]
          have e4 : vs.getD i .non = vs[i]'(by have := hfx i hi; omega) := by
            have := hfx i hi
            simp [List.getD, List.getElem?_eq_getElem (show i < vs.length by omega)]
          have e5 : p.1 = some (vs.getD i .non) := by
            rw [List.getElem?_map, List.getElem?_eq_getElem (show i < vs.length by have := hfx i hi; omega)] at e1
            rw [e4]
            simpa using e1.symm
          have e6 : Γ'[i]? = some p.2 := by
            rw [List.getElem?_eq_getElem hi2, ← e3]
            simp [List.getD, List.getElem?_eq_getElem hi2]
          exact ⟨by rw [hfix, e5], e6⟩
        · rw [if_neg hc] at e3
          exact .inl e3.symm
    exact hsub.front
  exact h4 _ _ _ _ ex (edOf fx ps.length P') _ hh hq ⟨fun σ' H' Γ' h' p' => ret .non (.d .none) σ' H' Γ' ⟨⟨h'.he.len, (h'.he.hs.cons_d .non).mid⟩, h'.fix⟩ p', ret, fun _ _ _ _ z => z.elim, fun _ _ _ _ z => z.elim⟩
theorem fun_at (F : Fun K x qual st f fd) : ∃ oc od osl, K.lookup f = some ⟨oc, od, .func fd, osl⟩ := by
  obtain ⟨oc, od, _, _, _, _, _, _, osl, _, lk, _⟩ := F.ex
  exact ⟨oc, od, osl, lk⟩
theorem fn_d (F : Fun K x qual st f fd) (S : FnScope N ps (defScope st)) (hb : Binds K fd ps []) (hm : mg x = some (.ref f)) (fx : List Nat) (hfx : ∀ i ∈ fx, i < ps.length)
    (body : ∀ (cdv : Value) (A : Around) (outer : List Env) (s : Shared) (H : Hp) (E : XK), Room k (A.deeper (envOfC qual (defScope st) s.heap.objs.size f cdv)) →
      ∃ t, DSs T (cxOf CX0 P w K mg base N qual (defScope st) f cdv A outer s H E).nox fx (defBody st) t ∧ ∀ ss Q, ss.length = ps.length → c ss Q → t (edOf fx ps.length Q) (ss ++ List.replicate (N.length - ps.length) .no)) :
    Fnd P w K T mg base (k + 1) x ps c := ⟨f, fd, fn_ok F S fx hfx body, hb, F.kp, hm, fun_at F⟩
end

/-! ## built-ins -/
section
variable {T : Tbs} {X : Cx} {e a b o : Expr} {es : List Expr} {u : TDA} {t ta tb to : TD} {x : Str} {c : CT} {p pos apos : Pos} {fx : List Nat} {K : KF}
theorem de_callB {id : String} {r : List V → Hp → VK → Prop} (hc : CallR X (.builtin id) r) (hs : Snd (X.K, T) r c) (hm : X.mg x = none) (hv : bootBuiltins x = some (.builtin id)) (ha : DA T X (e :: es) u) (hg : Gl X x := by rfl) (hn : x ≠ "__name__" := by decide) (hdb : (x == ("__debug__" : Str)) = false := by decide)
    (he : starEach (e :: es) X.env = (false, eval e X.env) :: starEach es X.env := by rfl) (hpl : (backTo pos (starEach es X.env)).any (·.1) = false := by rfl) : DE T X (.Call (.Name x p) (e :: es) [] pos) (tAp u c) :=
  de_ap (fun ta h => ⟨_, pe_callB hc hg hm hv h hn hdb he hpl, fun σ H Q z => z⟩) hs ha
theorem de_callTy {Ty : String} {r : List V → Hp → VK → Prop} (hc : CallR X (.type Ty) r) (hs : Snd (X.K, T) r c) (hm : X.mg x = none) (hv : bootBuiltins x = some (.type Ty)) (ha : DA T X (e :: es) u) (hg : Gl X x := by rfl) (hn : x ≠ "__name__" := by decide) (hdb : (x == ("__debug__" : Str)) = false := by decide)
    (he : starEach (e :: es) X.env = (false, eval e X.env) :: starEach es X.env := by rfl) (hpl : (backTo pos (starEach es X.env)).any (·.1) = false := by rfl) : DE T X (.Call (.Name x p) (e :: es) [] pos) (tAp u c) :=
  de_ap (fun ta h => ⟨_, pe_callTy hc hg hm hv h hn hdb he hpl, fun σ H Q z => z⟩) hs ha
theorem one_slot {vs : List V} {s : SV} (hl : vs.length = [s].length) : ∃ v, vs = [v] := by
  cases vs with
  | nil => cases hl
  | cons v r => cases r with
    | nil => exact ⟨v, rfl⟩
    | cons _ _ => simp at hl
theorem two_slots {vs : List V} {s s' : SV} (hl : vs.length = [s, s'].length) : ∃ v w, vs = [v, w] := by
  cases vs with
  | nil => cases hl
  | cons v r => cases r with
    | nil => cases hl
    | cons w r => cases r with
      | nil => exact ⟨v, w, rfl⟩
      | cons _ _ => simp at hl
def cLen : CT := fun ss P => match ss with
  | [a] => ∃ xs, seqS a = some xs ∧ P (.d (.int xs.length)) ss
  | _ => False
theorem snd_len : Snd K (fun xs H Q => ∃ p ys, xs = [.ref p] ∧ (SqL K.1 H p ys ∨ SqT K.1 H p ys) ∧ Q (.int ys.length) H) cLen := by
  intro vs H ss ex P Q hl h hc q
  unfold cLen at hc
  split at hc
  · rename_i a
    obtain ⟨v, rfl⟩ := one_slot hl
    obtain ⟨xs, e, p⟩ := hc
    obtain ⟨b, ws, rfl, hh, d⟩ := h.seq (List.mem_cons_self) e
    refine ⟨b, ws, rfl, hh.imp SqL.of id, ?_⟩
    rw [d.length]
    exact q _ _ _ _ p rfl (h.cons_d (.int _))
  · exact hc.elim
theorem de_len (hm : X.mg "len" = none) (ha : DA T X (e :: es) u) (hg : Gl X "len" := by rfl)
    (he : starEach (e :: es) X.env = (false, eval e X.env) :: starEach es X.env := by rfl) (hpl : (backTo pos (starEach es X.env)).any (·.1) = false := by rfl) : DE T X (.Call (.Name "len" p) (e :: es) [] pos) (tAp u cLen) :=
  de_callB call_len_seq snd_len hm PySem.boot_len ha hg (by decide) (by decide) he hpl
def cInt : CT := fun ss P => match ss with
  | [.d (.int i)] => P (.d (.int i)) ss
  | [.d (.bool b)] => P (.d (.int (if b then 1 else 0))) ss
  | _ => False
theorem snd_int : Snd K (fun xs H Q => (∃ i, xs = [.int i] ∧ Q (.int i) H) ∨ ∃ k, xs = [.bl k] ∧ Q (.int (if k then 1 else 0)) H) cInt := by
  intro vs H ss ex P Q hl h hc q
  unfold cInt at hc
  split at hc
  · obtain ⟨v, rfl⟩ := one_slot hl
    have d := h.dt List.mem_cons_self rfl
    cases d
    exact .inl ⟨_, rfl, q _ _ _ _ hc rfl (h.cons_d (.int _))⟩
  · obtain ⟨v, rfl⟩ := one_slot hl
    have d := h.dt List.mem_cons_self rfl
    cases d
    exact .inr ⟨_, rfl, q _ _ _ _ hc rfl (h.cons_d (.int _))⟩
  · exact hc.elim
theorem de_intOf (hm : X.mg "int" = none) (ha : DA T X (e :: es) u) (hg : Gl X "int" := by rfl)
    (he : starEach (e :: es) X.env = (false, eval e X.env) :: starEach es X.env := by rfl) (hpl : (backTo pos (starEach es X.env)).any (·.1) = false := by rfl) : DE T X (.Call (.Name "int" p) (e :: es) [] pos) (tAp u cInt) :=
  de_callTy call_int1 snd_int hm (by decide +kernel) ha hg (by decide) (by decide) he hpl
def cAbs : CT := fun ss P => match ss with
  | [.d (.int i)] => P (.d (.int (if i < 0 then -i else i))) ss
  | _ => False
theorem snd_abs : Snd K (fun xs H Q => ∃ i, xs = [.int i] ∧ Q (.int (if i < 0 then -i else i)) H) cAbs := by
  intro vs H ss ex P Q hl h hc q
  unfold cAbs at hc
  split at hc
  · obtain ⟨v, rfl⟩ := one_slot hl
    have d := h.dt List.mem_cons_self rfl
    cases d
    exact ⟨_, rfl, q _ _ _ _ hc rfl (h.cons_d (.int _))⟩
  · exact hc.elim
theorem de_abs (hm : X.mg "abs" = none) (ha : DA T X (e :: es) u) (hg : Gl X "abs" := by rfl)
    (he : starEach (e :: es) X.env = (false, eval e X.env) :: starEach es X.env := by rfl) (hpl : (backTo pos (starEach es X.env)).any (·.1) = false := by rfl) : DE T X (.Call (.Name "abs" p) (e :: es) [] pos) (tAp u cAbs) :=
  de_callB call_abs snd_abs hm (by decide +kernel) ha hg (by decide) (by decide) he hpl
def cMin2 : CT := fun ss P => match ss with
  | [.d (.int i), .d (.int j)] => P (.d (.int (if j < i then j else i))) ss
  | _ => False
def cMax2 : CT := fun ss P => match ss with
  | [.d (.int i), .d (.int j)] => P (.d (.int (if j > i then j else i))) ss
  | _ => False
theorem snd_min2 : Snd K (fun xs H Q => ∃ i j, xs = [.int i, .int j] ∧ Q (.int (if j < i then j else i)) H) cMin2 := by
  intro vs H ss ex P Q hl h hc q
  unfold cMin2 at hc
  split at hc
  · obtain ⟨v, w, rfl⟩ := two_slots hl
    have d := h.dt List.mem_cons_self rfl
    have d2 := h.dt (List.mem_cons_of_mem _ List.mem_cons_self) rfl
    cases d
    cases d2
    exact ⟨_, _, rfl, q _ _ _ _ hc rfl (h.cons_d (.int _))⟩
  · exact hc.elim
theorem snd_max2 : Snd K (fun xs H Q => ∃ i j, xs = [.int i, .int j] ∧ Q (.int (if j > i then j else i)) H) cMax2 := by
  intro vs H ss ex P Q hl h hc q
  unfold cMax2 at hc
  split at hc
  · obtain ⟨v, w, rfl⟩ := two_slots hl
    have d := h.dt List.mem_cons_self rfl
    have d2 := h.dt (List.mem_cons_of_mem _ List.mem_cons_self) rfl
    cases d
    cases d2
    exact ⟨_, _, rfl, q _ _ _ _ hc rfl (h.cons_d (.int _))⟩
  · exact hc.elim
theorem de_min2 (hm : X.mg "min" = none) (hc : X.calm = true) (ha : DA T X (e :: es) u) (hg : Gl X "min" := by rfl)
    (he : starEach (e :: es) X.env = (false, eval e X.env) :: starEach es X.env := by rfl) (hpl : (backTo pos (starEach es X.env)).any (·.1) = false := by rfl) : DE T X (.Call (.Name "min" p) (e :: es) [] pos) (tAp u cMin2) :=
  de_callB (call_min2 hc) snd_min2 hm (by decide +kernel) ha hg (by decide) (by decide) he hpl
theorem de_max2 (hm : X.mg "max" = none) (hc : X.calm = true) (ha : DA T X (e :: es) u) (hg : Gl X "max" := by rfl)
    (he : starEach (e :: es) X.env = (false, eval e X.env) :: starEach es X.env := by rfl) (hpl : (backTo pos (starEach es X.env)).any (·.1) = false := by rfl) : DE T X (.Call (.Name "max" p) (e :: es) [] pos) (tAp u cMax2) :=
  de_callB (call_max2 hc) snd_max2 hm (by decide +kernel) ha hg (by decide) (by decide) he hpl
/-- tuple(..), list(..) of a list or a tuple -/
def cTupOf : CT := fun ss P => match ss with
  | [a] => ∃ xs, seqS a = some xs ∧ P (.d (.tuple xs)) ss
  | _ => False
def cLstOf : CT := fun ss P => match ss with
  | [a] => ∃ xs, seqS a = some xs ∧ P (.m xs) ss
  | _ => False
theorem snd_tupOf : Snd K (fun xs H Q => ∃ p ys, xs = [.ref p] ∧ ((SqL K.1 H p ys ∧ ∀ l, H l = none → Q (.ref l) (upd H l (.tup ys))) ∨ (SqT K.1 H p ys ∧ Q (.ref p) H))) cTupOf := by
  intro vs H ss ex P Q hl h hc q
  unfold cTupOf at hc
  split at hc
  · rename_i a
    obtain ⟨v, rfl⟩ := one_slot hl
    obtain ⟨xs, e, p⟩ := hc
    cases a with
    | d y =>
      cases y with
      | tuple ys =>
        cases e
        obtain ⟨b, ws, rfl, hh, d⟩ := h.tu (List.mem_cons_self)
        exact ⟨b, ws, rfl, .inr ⟨hh, q _ _ _ _ p rfl (h.cons_d (h.ok _ List.mem_cons_self))⟩⟩
      | list ys =>
        cases e
        obtain ⟨b, ws, rfl, hh, d⟩ := h.li (s := .d (.list xs)) (List.mem_cons_self) rfl
        exact ⟨b, ws, rfl, .inl ⟨SqL.of hh, fun l hn => q _ _ _ _ p rfl (h.new_tup hn d)⟩⟩
      | _ => cases e
    | m ys =>
      cases e
      obtain ⟨b, ws, rfl, hh, d⟩ := h.li (s := .m xs) (List.mem_cons_self) rfl
      exact ⟨b, ws, rfl, .inl ⟨SqL.of hh, fun l hn => q _ _ _ _ p rfl (h.new_tup hn d)⟩⟩
    | no => cases e
    | t _ => cases e
  · exact hc.elim
theorem snd_lstOf : Snd K (fun xs H Q => ∃ p ys, xs = [.ref p] ∧ (SqL K.1 H p ys ∨ SqT K.1 H p ys) ∧ ∀ l, H l = none → Q (.ref l) (upd H l (.lst ys))) cLstOf := by
  intro vs H ss ex P Q hl h hc q
  unfold cLstOf at hc
  split at hc
  · obtain ⟨v, rfl⟩ := one_slot hl
    obtain ⟨xs, e, p⟩ := hc
    obtain ⟨b, ws, rfl, hh, d⟩ := h.seq (List.mem_cons_self) e
    exact ⟨b, ws, rfl, hh.imp SqL.of id, fun l hn => q _ _ _ _ p rfl (h.new_m hn d)⟩
  · exact hc.elim
theorem de_tupOf (hm : X.mg "tuple" = none) (ha : DA T X (e :: es) u) (hg : Gl X "tuple" := by rfl)
    (he : starEach (e :: es) X.env = (false, eval e X.env) :: starEach es X.env := by rfl) (hpl : (backTo pos (starEach es X.env)).any (·.1) = false := by rfl) : DE T X (.Call (.Name "tuple" p) (e :: es) [] pos) (tAp u cTupOf) :=
  de_callTy call_tuple_of snd_tupOf hm (by decide +kernel) ha hg (by decide) (by decide) he hpl
theorem de_lstOf (hm : X.mg "list" = none) (ha : DA T X (e :: es) u) (hg : Gl X "list" := by rfl)
    (he : starEach (e :: es) X.env = (false, eval e X.env) :: starEach es X.env := by rfl) (hpl : (backTo pos (starEach es X.env)).any (·.1) = false := by rfl) : DE T X (.Call (.Name "list" p) (e :: es) [] pos) (tAp u cLstOf) :=
  de_callTy call_list_of snd_lstOf hm (by decide +kernel) ha hg (by decide) (by decide) he hpl

/-! ## methods of lists -/
def tMp (to : TD) (u : TDA) (c : CT) : TD := fun Γ P => to Γ fun r0 Γ1 => (∃ xs, lis r0.1 = some xs) ∧ u Γ1 fun rs Γ2 => c (r0.1 :: rs.map (·.1)) fun s ss => ss.length = rs.length + 1 ∧ P (s, none) (back (r0 :: rs) ss Γ2)
theorem de_meth {r : V → List V → Hp → VK → Prop} {mk : Expr} (hp : ∀ to ta, PE X o to → PA X es ta → ∃ te, PE X mk te ∧ ∀ σ H Q, to σ H (fun x H1 => tyV X.K "list" x H1 ∧ ta σ H1 fun vs H2 => r x vs H2 Q) → te σ H Q)
    (hs : SndM (X.K, T) r c) (ho : DE T X o to) (ha : DA T X es u) : DE T X mk (tMp to u c) := by
  obtain ⟨t0, h1, h2⟩ := ho
  obtain ⟨ta, h3, h4⟩ := ha
  obtain ⟨te, h5, h6⟩ := hp t0 ta h1 h3
  refine ⟨te, h5, fun σ H Γ ex P Q h p q => h6 σ H Q ?_⟩
  refine h2 σ H Γ ex _ _ h p fun v H1 r0 Γ1 he og p1 => ?_
  obtain ⟨⟨xs, el⟩, p1⟩ := p1
  refine ⟨?_, ?_⟩
  · obtain ⟨a, vs, rfl, hh, _⟩ := he.hs.li (List.mem_append_right _ List.mem_cons_self) el
    exact .inl ⟨rfl, vs, SqL.of hh⟩
  refine h4 σ H1 Γ1 _ _ _ he p1 fun vs H2 rs Γ2 he2 og2 p2 => ?_
  have hx : Hs (X.K, T) H2 ((some v, r0.1) :: (tmpS vs (rs.map (·.1)) ++ (σ.zip Γ2 ++ ex))) := by
    have := he2.outs
    refine this.perm ?_
    refine (List.Perm.append_left _ (List.perm_middle (a := ((some v, r0.1) : Sl)) (l₁ := σ.zip Γ2) (l₂ := ex))).trans ?_
    exact List.perm_middle
  refine hs v vs H2 r0.1 (rs.map (·.1)) _ _ _ (by rw [List.length_map]; exact vals_len og2) hx p2 fun z s' ss' y H3 p3 l3 h7 => ?_
  have h8 : HE (X.K, T) H3 σ Γ2 (tmpS (v :: vs) (s' :: ss') ++ ((some y, z) :: ex)) := by
    refine HE.ins he2.len ?_
    show Hs (X.K, T) H3 ((some v, s') :: (tmpS vs ss' ++ (σ.zip Γ2 ++ (some y, z) :: ex)))
    refine h7.perm ?_
    refine (List.Perm.swap _ _ _).trans (List.Perm.cons _ ?_)
    refine (List.perm_middle (a := ((some y, z) : Sl)) (l₁ := tmpS vs ss') (l₂ := σ.zip Γ2 ++ ex)).symm.trans (List.Perm.append_left _ ?_)
    exact (List.perm_middle (a := ((some y, z) : Sl)) (l₁ := σ.zip Γ2) (l₂ := ex)).symm
  exact q y H3 (z, none) _ (HE.back (rs := r0 :: rs) (vs := v :: vs) p3.1 (.cons og og2) h8) Og.none p3.2
def cAppend : CT := fun ss P => match ss with
  | [.m xs, a] => ∃ y, dat a = some y ∧ xs.length < sizeLine ∧ P (.d .none) [.m (xs ++ [y]), frz a]
  | _ => False
theorem frz_dat {s : SV} {y : PyData} (e : dat s = some y) : frz s = .d y := by
  cases s with
  | d x => cases e; rfl
  | m xs => cases e; rfl
  | no => cases e
  | t _ => cases e
theorem snd_append : SndM K rAppend cAppend := by
  intro x vs H s ss ex P Q hl h hc q
  unfold cAppend at hc
  split at hc
  · rename_i xs a e
    cases e
    obtain ⟨v, rfl⟩ := one_slot hl
    obtain ⟨y, ey, hz, p⟩ := hc
    have h1 : Hs K H ((some v, frz a) :: (some x, .m xs) :: ex) := (Hs.swap2 h).frz
    have h2 := h1.swap2
    obtain ⟨l, ws, rfl, hh, d, _⟩ := h2.get_m
    have e3 := frz_dat ey
    rw [e3] at h1 h2
    have dv : Dt K.1 (hid (l :: ads ((some v, SV.d y) :: ex)) H) v y := h2.ok _ (List.mem_cons_of_mem _ List.mem_cons_self)
    rw [e3] at d
    refine ⟨l, ws, v, rfl, rfl, hh, by rw [d.length]; exact hz, q _ _ _ _ _ p rfl ?_⟩
    rw [e3]
    exact (h2.write (v := .ref l) (d.append (.cons dv .nil))).cons_d .non
  · exact hc.elim
theorem de_append (ho : DE T X o to) (ha : DA T X (e :: es) u) (hbase : attributeBase o "append" X.env (eval o X.env) = eval o X.env := by rfl)
    (hfew : ((backTo pos (starEach (e :: es) X.env)).all (fun x => !x.1) && (backToKw pos (keywordEach [] X.env)).all (fun x => x.1.isSome) && decide ((e :: es).length + ([] : List Keyword).length + (if ([] : List Keyword).isEmpty then 0 else 1) < 30)) = true := by rfl)
    (hline : (apos.endLine == pos.line) = true := by rfl) (hs : starEach (e :: es) X.env = (false, eval e X.env) :: starEach es X.env := by rfl) (hplain : (backTo pos (starEach es X.env)).any (·.1) = false := by rfl) :
    DE T X (.Call (.Attribute o "append" apos) (e :: es) [] pos) (tMp to u cAppend) :=
  de_meth (fun to ta h1 h2 => ⟨_, pe_bm PySem.F.plainAttrs_list PySem.F.slot_list_append PySem.F.type_list_append mt_append h1 h2 hbase hfew hline hs hplain, fun σ H Q z => z⟩) snd_append ho ha
def cPop : CT := fun ss P => match ss with
  | [.m xs] => ∃ y, xs[xs.length - 1]? = some y ∧ P (.d y) [.m xs.dropLast]
  | _ => False
theorem snd_pop : SndM K rPop cPop := by
  intro x vs H s ss ex P Q hl h hc q
  unfold cPop at hc
  split at hc
  · rename_i xs e
    cases e
    cases vs with
    | cons _ _ => cases hl
    | nil =>
      obtain ⟨y, ey, p⟩ := hc
      have h2 : Hs K H ((some x, .m xs) :: ex) := h
      obtain ⟨l, ws, rfl, hh, d, _⟩ := h2.get_m
      obtain ⟨v, ev, dv⟩ := d.get ey
      have h3 := h2.write (v := .ref l) (d.dropLast)
      refine ⟨l, ws, v, rfl, rfl, hh, by rw [d.length]; exact ev, q _ _ [] _ _ p rfl ?_⟩
      refine h3.cons_d (dv.le ?_)
      exact hid_mono fun b o nb e => by
        rw [upd_ne (fun (z : b = l) => nb (by rw [z]; exact List.mem_cons_self))]; exact e
  · exact hc.elim
theorem de_meth0 {r : V → List V → Hp → VK → Prop} {mk : Expr} (hp : ∀ to, PE X o to → ∃ te, PE X mk te ∧ ∀ σ H Q, to σ H (fun x H1 => tyV X.K "list" x H1 ∧ r x [] H1 Q) → te σ H Q)
    (hs : SndM (X.K, T) r c) (ho : DE T X o to) : DE T X mk (tMp to tdNil c) := by
  obtain ⟨t0, h1, h2⟩ := ho
  obtain ⟨te, h5, h6⟩ := hp t0 h1
  refine ⟨te, h5, fun σ H Γ ex P Q h p q => h6 σ H Q ?_⟩
  refine h2 σ H Γ ex _ _ h p fun v H1 r0 Γ1 he og p1 => ?_
  obtain ⟨⟨xs, el⟩, p1⟩ := p1
  refine ⟨?_, ?_⟩
  · obtain ⟨a, vs, rfl, hh, _⟩ := he.hs.li (List.mem_append_right _ List.mem_cons_self) el
    exact .inl ⟨rfl, vs, SqL.of hh⟩
  refine hs v [] H1 r0.1 [] _ _ _ rfl he.hs.front p1 fun z s' ss' y H3 p3 l3 h7 => ?_
  cases ss' with
  | cons _ _ => cases l3
  | nil =>
    have h8 : HE (X.K, T) H3 σ Γ1 (tmpS [v] [s'] ++ ((some y, z) :: ex)) := HE.ins he.len (by
      show Hs (X.K, T) H3 ((some v, s') :: (σ.zip Γ1 ++ (some y, z) :: ex))
      have h9 : Hs (X.K, T) H3 ((some y, z) :: (some v, s') :: (σ.zip Γ1 ++ ex)) := h7
      exact h9.swap2.perm (List.Perm.cons _ List.perm_middle.symm))
    exact q y H3 (z, none) _ (HE.back (rs := [r0]) (vs := [v]) rfl (.cons og .nil) h8) Og.none p3.2
theorem de_pop (ho : DE T X o to) (hbase : attributeBase o "pop" X.env (eval o X.env) = eval o X.env := by rfl) (hline : (apos.endLine == pos.line) = true := by rfl) :
    DE T X (.Call (.Attribute o "pop" apos) [] [] pos) (tMp to tdNil cPop) :=
  de_meth0 (fun to h1 => ⟨_, pe_bm0 PySem.F.plainAttrs_list PySem.F.slot_list_pop PySem.F.type_list_pop mt_pop h1 hbase hline, fun σ H Q z => z⟩) snd_pop ho
end
end DL

namespace DL
open PySem PySem.Spec PyProof.Rows L2 RZ

/-! ## a family of contexts: one reading for all -/
theorem DE.uni {ι : Type} {X : ι → Cx} {K : PySem.W.Frag} {T : Tbs} {e : Expr} {t : TD} (hK : ∀ i, (X i).K = K) (h : ∀ i, DE T (X i) e t) : ∃ te, (∀ i, PE (X i) e te) ∧ ∀ σ H Γ ex (P : R → G → Prop) (Q : VK), HE (K, T) H σ Γ ex → t Γ P →
    (∀ v H' r Γ', HE (K, T) H' σ Γ' ((some v, r.1) :: ex) → Og σ v r → P r Γ' → Q v H') → te σ H Q := by
  have h' : ∀ i, ∃ te, PE (X i) e te ∧ ∀ σ H Γ ex (P : R → G → Prop) (Q : VK), HE (K, T) H σ Γ ex → t Γ P → (∀ v H' r Γ', HE (K, T) H' σ Γ' ((some v, r.1) :: ex) → Og σ v r → P r Γ' → Q v H') → te σ H Q := fun i => by
    have := h i
    unfold DE at this
    rw [hK i] at this
    exact this
  exact ⟨fun σ H Q => ∀ i, (h' i).choose σ H Q, fun i => ⟨fun pins s σ H Q I q => (h' i).choose_spec.1.run pins s σ H Q I (q i)⟩, fun σ H Γ ex P Q he p q i => (h' i).choose_spec.2 σ H Γ ex P Q he p q⟩
def DTs (T : Tbs) (X : Cx) (es : List Expr) (t : TDT) : Prop := ∃ tt, PTs X es tt ∧ ∀ σ H Γ ex (P : Bool → G → Prop) (Q : Bool → Hp → Prop), HE (X.K, T) H σ Γ ex → t Γ P →
  (∀ b H' Γ', HE (X.K, T) H' σ Γ' ex → P b Γ' → Q b H') → tt σ H Q
def tdYes : TDT := fun Γ P => P true Γ
theorem dts_nil {T : Tbs} {X : Cx} : DTs T X [] tdYes := ⟨_, pts_nil, fun σ H Γ ex P Q h p q => q true H Γ h p⟩
theorem dts_one {T : Tbs} {X : Cx} {e : Expr} {u : TDT} (h : DT T X e u) : DTs T X [e] u := by
  obtain ⟨tt, h1, h2⟩ := h
  exact ⟨_, pts_one h1, h2⟩
theorem DTs.uni {ι : Type} {X : ι → Cx} {K : PySem.W.Frag} {T : Tbs} {es : List Expr} {t : TDT} (hK : ∀ i, (X i).K = K) (h : ∀ i, DTs T (X i) es t) : ∃ tt, (∀ i, PTs (X i) es tt) ∧ ∀ σ H Γ ex (P : Bool → G → Prop) (Q : Bool → Hp → Prop), HE (K, T) H σ Γ ex → t Γ P →
    (∀ b H' Γ', HE (K, T) H' σ Γ' ex → P b Γ' → Q b H') → tt σ H Q := by
  have h' : ∀ i, ∃ tt, PTs (X i) es tt ∧ ∀ σ H Γ ex (P : Bool → G → Prop) (Q : Bool → Hp → Prop), HE (K, T) H σ Γ ex → t Γ P → (∀ b H' Γ', HE (K, T) H' σ Γ' ex → P b Γ' → Q b H') → tt σ H Q := fun i => by
    have := h i
    unfold DTs at this
    rw [hK i] at this
    exact this
  exact ⟨fun σ H Q => ∀ i, (h' i).choose σ H Q, fun i => ⟨fun pins s σ H Q I q => (h' i).choose_spec.1.run pins s σ H Q I (q i)⟩, fun σ H Γ ex P Q he p q i => (h' i).choose_spec.2 σ H Γ ex P Q he p q⟩
theorem DG.uni {ι : Type} {X : ι → Cx} {K : PySem.W.Frag} {T : Tbs} {tg : Expr} {fx ws : List Nat} {t : TDG} (hK : ∀ i, (X i).K = K) (h : ∀ i, DG T (X i) fx tg ws t) : ∃ g, (∀ i, PG (X i) tg g) ∧ ∀ ρ x v σ H Γ ex (P : G → Prop) (Q : L2.St → Hp → Prop), HS (K, T) fx ρ H σ Γ ((some v, .d x) :: ex) → t x Γ P →
    (∀ σ' H' Γ', HS (K, T) fx ρ H' σ' Γ' ex → Stores ws σ σ' → P Γ' → Q σ' H') → g v σ H Q := by
  have h' : ∀ i, ∃ g, PG (X i) tg g ∧ ∀ ρ x v σ H Γ ex (P : G → Prop) (Q : L2.St → Hp → Prop), HS (K, T) fx ρ H σ Γ ((some v, .d x) :: ex) → t x Γ P → (∀ σ' H' Γ', HS (K, T) fx ρ H' σ' Γ' ex → Stores ws σ σ' → P Γ' → Q σ' H') → g v σ H Q := fun i => by
    have := h i
    unfold DG at this
    rw [hK i] at this
    exact this
  exact ⟨fun v σ H Q => ∀ i, (h' i).choose v σ H Q, fun i => ⟨fun pins s σ H v u Q I r q => (h' i).choose_spec.1.run pins s σ H v u Q I r (q i)⟩, fun ρ x v σ H Γ ex P Q he p q i => (h' i).choose_spec.2 ρ x v σ H Γ ex P Q he p q⟩
/-! ## a comprehension's own names -/
def wipeG (Γ : G) : List Nat → G
  | [] => Γ
  | v :: vs => (wipeG Γ vs).set v .no
theorem wipeG_len (Γ : G) : ∀ vs, (wipeG Γ vs).length = Γ.length
  | [] => rfl
  | v :: vs => by unfold wipeG; rw [List.length_set, wipeG_len Γ vs]
theorem wipe_get (σ : L2.St) : ∀ (vs : List Nat) (j : Nat), (wipe σ vs)[j]? = if j ∈ vs ∧ j < σ.length then some none else σ[j]?
  | [], j => by simp [wipe]
  | v :: vs, j => by
    unfold wipe
    by_cases e : v = j
    · subst e
      by_cases hl : v < σ.length
      · rw [List.getElem?_set_self (by rw [wipe_length]; exact hl), if_pos ⟨List.mem_cons_self, hl⟩]
      · rw [List.getElem?_eq_none (by rw [List.length_set, wipe_length]; omega), if_neg (fun z => hl z.2), List.getElem?_eq_none (by omega)]
    · rw [List.getElem?_set_ne e, wipe_get σ vs j]
      have e' : j ≠ v := fun z => e z.symm
      simp [List.mem_cons, e']
theorem wipeG_get (Γ : G) : ∀ (vs : List Nat) (j : Nat), (wipeG Γ vs)[j]? = if j ∈ vs ∧ j < Γ.length then some .no else Γ[j]?
  | [], j => by simp [wipeG]
  | v :: vs, j => by
    unfold wipeG
    by_cases e : v = j
    · subst e
      by_cases hl : v < Γ.length
      · rw [List.getElem?_set_self (by rw [wipeG_len]; exact hl), if_pos ⟨List.mem_cons_self, hl⟩]
      · rw [List.getElem?_eq_none (by rw [List.length_set, wipeG_len]; omega), if_neg (fun z => hl z.2), List.getElem?_eq_none (by omega)]
    · rw [List.getElem?_set_ne e, wipeG_get Γ vs j]
      have e' : j ≠ v := fun z => e z.symm
      simp [List.mem_cons, e']
theorem wipe_stores {σ σ' : L2.St} {ws vs : List Nat} (h : Stores ws (wipe σ vs) σ') (hw : ∀ i ∈ ws, i ∈ vs) : wipe σ' vs = wipe σ vs := by
  have hl : σ'.length = σ.length := by rw [h.1, wipe_length]
  refine List.ext_getElem? (fun j => ?_)
  rw [wipe_get, wipe_get, hl]
  by_cases hj : j ∈ vs ∧ j < σ.length
  · rw [if_pos hj, if_pos hj]
  · rw [if_neg hj, if_neg hj]
    by_cases hm : j ∈ vs
    · have : ¬ j < σ.length := fun z => hj ⟨hm, z⟩
      rw [List.getElem?_eq_none (by omega), List.getElem?_eq_none (by omega)]
    · rw [h.2 j fun z => hm (hw j z), wipe_get, if_neg (fun z => hm z.1)]
section
variable {K : KF} {H : Hp} {σ : L2.St} {Γ : G} {ex : List Sl} {vs : List Nat}
theorem HE.wipe (h : HE K H σ Γ ex) : HE K H (L2.wipe σ vs) (wipeG Γ vs) ex := by
  refine ⟨by rw [wipe_length, wipeG_len]; exact h.len, Hs.sub h.hs fun i p e => ?_⟩
  rw [List.getElem?_zip_eq_some] at e
  obtain ⟨e1, e2⟩ := e
  rw [wipe_get] at e1
  rw [wipeG_get] at e2
  by_cases hm : i ∈ vs ∧ i < Γ.length
  · rw [if_pos hm] at e2
    exact .inl (Option.some.inj e2).symm
  · rw [if_neg hm] at e2
    rw [if_neg (by rw [h.len]; exact hm)] at e1
    exact .inr (by rw [List.getElem?_zip_eq_some]; exact ⟨e1, e2⟩)
theorem HE.unwipe (h : HE K H (L2.wipe σ vs) Γ ex) : HE K H σ Γ ex := by
  have hl : σ.length = Γ.length := by have := h.len; rw [wipe_length] at this; exact this
  refine ⟨hl, Hs.sub h.hs fun i p e => ?_⟩
  rw [List.getElem?_zip_eq_some] at e
  obtain ⟨e1, e2⟩ := e
  have hi : i < Γ.length := (List.getElem?_eq_some_iff.mp e2).1
  by_cases hm : i ∈ vs
  · left
    have e3 : (L2.wipe σ vs)[i]? = some none := by rw [wipe_get, if_pos ⟨hm, by omega⟩]
    have e4 : ((L2.wipe σ vs).zip Γ)[i]? = some (none, p.2) := by rw [List.getElem?_zip_eq_some]; exact ⟨e3, e2⟩
    have ok := h.hs.ok _ (List.mem_append_left _ (List.mem_of_getElem? e4))
    cases q : p.2 with
    | no => rfl
    | _ => rw [q] at ok; exact ok.elim
  · right
    rw [List.getElem?_zip_eq_some]
    exact ⟨by rw [wipe_get, if_neg (fun z => hm z.1)]; exact e1, e2⟩
end
/-- a comprehension's word -/
def LcOk (g : TDG) (tt : TDT) (te : TD) (vs : List Nat) (its : List PyData) (Γ0 : G) (P : R → G → Prop) : Prop := ∃ W : Nat → List PyData → G → Prop, W 0 [] (wipeG Γ0 vs) ∧
  (∀ i x acc Γ, its[i]? = some x → W i acc Γ → g x Γ fun Γ1 => tt Γ1 fun b Γ2 => if b = true then te Γ2 fun r Γ3 => ∃ y, dat r.1 = some y ∧ acc.length < sizeLine ∧ W (i + 1) (acc ++ [y]) (wipeG (back [r] [frz r.1] Γ3) vs) else W (i + 1) acc (wipeG Γ2 vs)) ∧
  ∀ acc Γ, W its.length acc Γ → P (.m acc, none) Γ
def tdLc (ti : TDI) (g : TDG) (tt : TDT) (te : TD) (vs : List Nat) : TD := fun Γ P => ti Γ fun its rs Γ0 => LcOk g tt te vs its (back rs (rs.map fun r => frz r.1) Γ0) P
section
variable {T : Tbs} {X : Cx} {elt tg iter : Expr} {ifs : List Expr} {scope : Scope} {own : List (Str × Nat)} {pos : Pos} {ti : TDI} {g : TDG} {tt : TDT} {te : TD} {ws : List Nat}
abbrev Bk : Type := Shared × Hp × Addr × List (Str × Addr) × List Addr
abbrev bkX (X : Cx) (scope : Scope) (i : Bk) : Cx := X.blk i.1 i.2.1 scope (compEnvC scope i.2.2.2.1 i.2.2.1 X.env) i.2.2.2.2
/-- what a comprehension's element, target and tests make of a turn -/
theorem lc_all (hN : X.N.Nodup) (hi : DI T X tg iter ti) (hw : ∀ i ∈ ws, i ∈ own.map (·.2))
    (hg : ∀ i : Bk, DG T (bkX X scope i) [] tg ws g) (ht : ∀ i : Bk, DTs T (bkX X scope i) ifs tt) (he : ∀ i : Bk, DE T (bkX X scope i) elt te) :
    ∃ wi gg t1 t2, PI X tg iter wi ∧ (∀ i : Bk, PG (bkX X scope i) tg gg) ∧ (∀ i : Bk, PTs (bkX X scope i) ifs t1) ∧ (∀ i : Bk, PE (bkX X scope i) elt t2) ∧
      ∀ σ H Γ ex (P : R → G → Prop) (Q : VK), HE (X.K, T) H σ Γ ex → tdLc ti g tt te (own.map (·.2)) Γ P → (∀ v H' r Γ', HE (X.K, T) H' σ Γ' ((some v, r.1) :: ex) → Og σ v r → P r Γ' → Q v H') → tLc wi gg t1 t2 (own.map (·.2)) σ H Q := by
  obtain ⟨wi, h1, h2⟩ := hi
  obtain ⟨gg, g1, g2⟩ := DG.uni (X := bkX X scope) (K := X.K) (fun _ => rfl) hg
  obtain ⟨t1, k1, k2⟩ := DTs.uni (X := bkX X scope) (K := X.K) (fun _ => rfl) ht
  obtain ⟨t2, e1, e2⟩ := DE.uni (X := bkX X scope) (K := X.K) (fun _ => rfl) he
  refine ⟨wi, gg, t1, t2, h1, g1, k1, e1, fun σ H Γ ex P Q h p q => ?_⟩
  generalize hvs : own.map (·.2) = vs at *
  refine h2 σ H Γ ex _ _ h p fun J H1 us rs its Γ1 he og wk p1 => ?_
  obtain ⟨W, w0, turn, fin⟩ := p1
  have he' := HE.frzAll og he
  revert he' wk
  generalize tmpS us (rs.map fun r => frz r.1) = held
  intro wk he' D hD
  have st0 : HE (X.K, T) (upd H1 D (.lst [])) (wipe σ vs) (wipeG (DL.back rs (rs.map fun r => frz r.1) Γ1) vs) ((some (.ref D), .m []) :: (held ++ ex)) :=
    HE.wipe ⟨he'.len, (he'.hs.new_m hD .nil).mid⟩
  refine ⟨fun i m H => m = its.length - i ∧ i ≤ its.length ∧ ∃ acc Γ, HE (X.K, T) H (wipe σ vs) Γ ((some (.ref D), .m acc) :: (held ++ ex)) ∧ W i acc Γ, ⟨its.length, by simp, Nat.zero_le _, _, _, st0, w0⟩, ?_⟩
  rintro i m H2 ⟨rfl, hi', acc, Γ2, he2, w2⟩
  have hw2 : Hs (X.K, T) H2 (held ++ ((some (.ref D), .m acc) :: ((wipe σ vs).zip Γ2 ++ ex))) := by
    refine he2.hs.perm ?_
    refine (List.perm_middle (a := ((some (.ref D), .m acc) : Sl)) (l₁ := (wipe σ vs).zip Γ2) (l₂ := held ++ ex)).trans ?_
    refine List.Perm.trans (List.Perm.cons _ ?_) List.perm_middle.symm
    repeat rw [← List.append_assoc]
    exact (List.perm_append_comm).append_right _
  obtain ⟨q1, q2⟩ := wk i H2 _ hw2
  by_cases hlt : i < its.length
  · have ey : its[i]? = some its[i] := List.getElem?_eq_getElem hlt
    obtain ⟨go, yl⟩ := q1 _ ey
    refine .inr ⟨go, fun H' => ∃ acc Γ', HE (X.K, T) H' (wipe σ vs) Γ' ((some (.ref D), .m acc) :: (held ++ ex)) ∧ W (i + 1) acc Γ', fun H' ⟨acc, Γ', a, b⟩ => ⟨its.length - (i + 1), by omega, rfl, hlt, acc, Γ', a, b⟩, fun x H' y => ?_⟩
    have qq := yl x H' y
    have hx : HS (X.K, T) [] (fun _ => .non) H' (wipe σ vs) Γ2 ((some x, .d its[i]) :: (some (.ref D), .m acc) :: (held ++ ex)) := by
      refine ⟨⟨he2.len, qq.perm ?_⟩, fun j hj => by cases hj⟩
      refine List.Perm.trans (List.Perm.cons _ ?_) List.perm_middle.symm
      refine List.Perm.trans List.perm_middle ?_
      refine List.Perm.trans (List.Perm.cons _ ?_) List.perm_middle.symm
      repeat rw [← List.append_assoc]
      exact (List.perm_append_comm).append_right _
    refine g2 _ _ x (wipe σ vs) H' Γ2 _ _ _ hx (turn i _ acc Γ2 ey w2) fun σ3 H3 Γ3 hs3 st3 p3 => ?_
    have hwp : wipe σ3 vs = wipe σ vs := wipe_stores st3 hw
    refine ⟨hwp, ?_⟩
    refine k2 σ3 H3 Γ3 _ _ _ hs3.he p3 fun b H4 Γ4 he4 p4 => ?_
    cases b with
    | false =>
      rw [if_neg Bool.false_ne_true] at p4 ⊢
      refine ⟨acc, _, ?_, p4⟩
      have := he4.wipe (vs := vs)
      rw [hwp] at this
      exact this
    | true =>
      rw [if_pos rfl] at p4 ⊢
      refine e2 σ3 H4 Γ4 _ _ _ he4 p4 fun v H5 r Γ5 he5 og5 p5 => ?_
      obtain ⟨y, ey', hz, p5⟩ := p5
      have hf : HE (X.K, T) H5 σ3 (DL.back [r] [frz r.1] Γ5) ((some v, frz r.1) :: (some (.ref D), .m acc) :: (held ++ ex)) := HE.frzAll (rs := [r]) (vs := [v]) (.cons og5 .nil) he5
      rw [frz_dat ey'] at hf
      have h6 : Hs (X.K, T) H5 ((some (.ref D), .m acc) :: (some v, .d y) :: (σ3.zip (DL.back [r] [frz r.1] Γ5) ++ (held ++ ex))) := by
        rw [frz_dat ey']
        refine hf.hs.perm ?_
        refine (List.perm_middle.trans (List.Perm.cons _ List.perm_middle)).trans (List.Perm.swap _ _ _)
      obtain ⟨l, ws', el, hh, dd, _⟩ := h6.get_m
      cases el
      have dv : Dt X.K (hid (D :: ads ((some v, .d y) :: (σ3.zip (DL.back [r] [frz r.1] Γ5) ++ (held ++ ex)))) H5) v y := h6.ok _ (List.mem_cons_of_mem _ List.mem_cons_self)
      refine ⟨ws', hh, by rw [dd.length]; exact hz, acc ++ [y], _, ?_, p5⟩
      have h7 := (h6.write (v := .ref D) (dd.append (.cons dv .nil))).swap2.tail
      have h8 : HE (X.K, T) (upd H5 D (.lst (ws' ++ [v]))) σ3 (DL.back [r] [frz r.1] Γ5) ((some (.ref D), .m (acc ++ [y])) :: (held ++ ex)) := ⟨hf.len |> fun z => by rw [frz_dat ey']; exact z, h7.mid⟩
      have h9 := h8.wipe (vs := vs)
      rw [hwp] at h9
      exact h9
  · have e : i = its.length := by omega
    subst e
    refine .inl ⟨q2 (Nat.le_refl _), q (.ref D) H2 (.m acc, none) Γ2 ?_ Og.none (fin acc Γ2 w2)⟩
    have h3 := he2.unwipe
    exact (h3.perm (List.perm_middle (a := ((some (.ref D), .m acc) : Sl)) (l₁ := held) (l₂ := ex)).symm).drops
theorem de_lc (hc : X.calm = true) (hN : X.N.Nodup) (hi : DI T X tg iter ti) (ok : BlkOk X.N X.env.scope scope own) (hw : ∀ i ∈ ws, i ∈ own.map (·.2))
    (hg : ∀ i : Bk, DG T (bkX X scope i) [] tg ws g) (ht : ∀ i : Bk, DTs T (bkX X scope i) ifs tt) (he : ∀ i : Bk, DE T (bkX X scope i) elt te) (hs : ∀ x, foldedSetIterable iter X.env x = pure x := by intro _; rfl) :
    DE T X (.ListComp elt [⟨tg, iter, ifs, 0⟩] scope pos) (tdLc ti g tt te (own.map (·.2))) := by
  obtain ⟨wi, gg, t1, t2, h1, h2, h3, h4, h5⟩ := lc_all (own := own) hN hi hw hg ht he
  exact ⟨_, pe_lc hc hN h1 ok (fun s H C cl fp => h2 (s, H, C, cl, fp)) (fun s H C cl fp => h3 (s, H, C, cl, fp)) (fun s H C cl fp => h4 (s, H, C, cl, fp)) hs, h5⟩
theorem ds_setLc {i : Nat} {y : Str} {py spos : Pos} {fx : List Nat} (hc : X.calm = true) (hN : X.N.Nodup) (hy : X.N[i]? = some y) (hyl : X.env.scope.names.lookup y = some .local)
    (hsw : swapsWith (.ListComp elt [⟨tg, iter, ifs, 0⟩] scope pos) (some (.Name y py)) spos.line X.env = pure true) (hi : DI T X tg iter ti) (ok : BlkOk X.N X.env.scope scope own) (hw : ∀ i ∈ ws, i ∈ own.map (·.2))
    (hg : ∀ i : Bk, DG T (bkX X scope i) [] tg ws g) (ht : ∀ i : Bk, DTs T (bkX X scope i) ifs tt) (he : ∀ i : Bk, DE T (bkX X scope i) elt te) (hs : ∀ x, foldedSetIterable iter X.env x = pure x := by intro _; rfl) (ni : i ∉ fx := by decide) :
    DS T X fx (.Assign [.Name y py] (.ListComp elt [⟨tg, iter, ifs, 0⟩] scope pos) spos) (tdSet i (tdLc ti g tt te (own.map (·.2)))) := by
  obtain ⟨wi, gg, t1, t2, h1, h2, h3, h4, h5⟩ := lc_all (own := own) hN hi hw hg ht he
  refine ⟨_, ps_setLc hc hN hy hyl hsw h1 ok (fun s H C cl fp => h2 (s, H, C, cl, fp)) (fun s H C cl fp => h3 (s, H, C, cl, fp)) (fun s H C cl fp => h4 (s, H, C, cl, fp)) hs, fun ρ σ H Γ ex E D h p c => ?_⟩
  refine h5 σ H Γ ex _ _ h.he p fun v H' r Γ' he og p1 => ?_
  exact c.nx _ _ _ (HS.setv ⟨he, h.fix⟩ ni) p1
end
end DL

namespace DL
open PySem PySem.Spec PyProof.Rows L2 RZ
section
variable {T : Tbs} {X : Cx} {e a b o i : Expr} {es : List Expr} {u : TDA} {t ta tb to ti te : TD} {x : Str} {c : CT} {p pos apos p2 : Pos} {fx : List Nat} {K : KF}

/-! ## more methods -/
def cExtend : CT := fun ss P => match ss with
  | [.m xs, a] => ∃ ys, lis a = some ys ∧ xs.length + ys.length ≤ sizeLine ∧ P (.d .none) [.m (xs ++ ys), a]
  | _ => False
theorem snd_extend : SndM K rExtend cExtend := by
  intro x vs H s ss ex P Q hl h hc q
  unfold cExtend at hc
  split at hc
  · rename_i xs a e
    cases e
    obtain ⟨v, rfl⟩ := one_slot hl
    obtain ⟨ys, ey, hz, p⟩ := hc
    have h1 : Hs K H ((some x, .m xs) :: (some v, a) :: ex) := h
    obtain ⟨b, zs, rfl, hh2, d2⟩ := h1.li (List.mem_cons_of_mem _ List.mem_cons_self) ey
    obtain ⟨l, ws, rfl, hh, d, _⟩ := h1.get_m
    exact ⟨l, b, ws, zs, rfl, rfl, hh, hh2, by rw [d.length, d2.length]; exact hz, q _ _ _ _ _ p rfl ((h1.write (v := .ref l) (d.append d2)).cons_d .non)⟩
  · exact hc.elim
theorem de_extend (ho : DE T X o to) (ha : DA T X (e :: es) u) (hbase : attributeBase o "extend" X.env (eval o X.env) = eval o X.env := by rfl)
    (hfew : ((backTo pos (starEach (e :: es) X.env)).all (fun x => !x.1) && (backToKw pos (keywordEach [] X.env)).all (fun x => x.1.isSome) && decide ((e :: es).length + ([] : List Keyword).length + (if ([] : List Keyword).isEmpty then 0 else 1) < 30)) = true := by rfl)
    (hline : (apos.endLine == pos.line) = true := by rfl) (hs : starEach (e :: es) X.env = (false, eval e X.env) :: starEach es X.env := by rfl) (hplain : (backTo pos (starEach es X.env)).any (·.1) = false := by rfl) :
    DE T X (.Call (.Attribute o "extend" apos) (e :: es) [] pos) (tMp to u cExtend) :=
  de_meth (fun to ta h1 h2 => ⟨_, pe_bm PySem.F.plainAttrs_list PySem.F.slot_list_extend PySem.F.type_list_extend mt_extend h1 h2 hbase hfew hline hs hplain, fun σ H Q z => z⟩) snd_extend ho ha
def cPopAt : CT := fun ss P => match ss with
  | [.m xs, .d (.int i)] => ∃ k y, -(2 ^ 63) ≤ i ∧ i < 2 ^ 63 ∧ seqIndex? i xs.length = some k ∧ xs[k]? = some y ∧ P (.d y) [.m (xs.eraseIdx k), .no]
  | _ => False
theorem snd_popAt : SndM K rPopAt cPopAt := by
  intro x vs H s ss ex P Q hl h hc q
  unfold cPopAt at hc
  split at hc
  · rename_i xs i e
    cases e
    obtain ⟨v, rfl⟩ := one_slot hl
    obtain ⟨k, y, b1, b2, ek, ey, p⟩ := hc
    have h1 : Hs K H ((some x, .m xs) :: (some v, .d (.int i)) :: ex) := h
    have d2 := h1.dt (s := .d (.int i)) (List.mem_cons_of_mem _ List.mem_cons_self) rfl
    cases d2
    have h2 : Hs K H ((some x, .m xs) :: (some (.int i), .no) :: ex) := (h1.swap2.tail.cons_no (o := some (.int i))).swap2
    obtain ⟨l, ws, rfl, hh, d, _⟩ := h2.get_m
    obtain ⟨w, ew, dw⟩ := d.get ey
    refine ⟨l, ws, i, k, w, rfl, rfl, hh, b1, b2, by rw [d.length]; exact ek, ew, q _ _ _ _ _ p rfl ?_⟩
    refine (h2.write (v := .ref l) (d.eraseIdx k)).cons_d (dw.le ?_)
    exact hid_mono fun b o nb e => by
      rw [upd_ne (fun (z : b = l) => nb (by rw [z]; exact List.mem_cons_self))]; exact e
  · exact hc.elim
theorem de_popAt (ho : DE T X o to) (ha : DA T X (e :: es) u) (hbase : attributeBase o "pop" X.env (eval o X.env) = eval o X.env := by rfl)
    (hfew : ((backTo pos (starEach (e :: es) X.env)).all (fun x => !x.1) && (backToKw pos (keywordEach [] X.env)).all (fun x => x.1.isSome) && decide ((e :: es).length + ([] : List Keyword).length + (if ([] : List Keyword).isEmpty then 0 else 1) < 30)) = true := by rfl)
    (hline : (apos.endLine == pos.line) = true := by rfl) (hs : starEach (e :: es) X.env = (false, eval e X.env) :: starEach es X.env := by rfl) (hplain : (backTo pos (starEach es X.env)).any (·.1) = false := by rfl) :
    DE T X (.Call (.Attribute o "pop" apos) (e :: es) [] pos) (tMp to u cPopAt) :=
  de_meth (fun to ta h1 h2 => ⟨_, pe_bm PySem.F.plainAttrs_list PySem.F.slot_list_pop PySem.F.type_list_pop mt_popAt h1 h2 hbase hfew hline hs hplain, fun σ H Q z => z⟩) snd_popAt ho ha

/-! ## xs[i] = e -/
def tdStore (te to ti : TD) : TDS := fun E Γ => te Γ fun r Γ1 => to Γ1 fun ro Γ2 => ti Γ2 fun ri Γ3 => ∃ y xs i j, dat r.1 = some y ∧ ro.1 = .m xs ∧ ri.1 = .d (.int i) ∧ ixN xs.length i = some j ∧
  E.nx (back [ro] [.m (xs.set j y)] (back [r] [frz r.1] Γ3))
theorem ds_store {st : Stmt} (hp : ∀ te to ti, PE X e te → PE X o to → PE X i ti → PS X st (tAsg te (gSub to ti rSetL))) (he : DE T X e te) (ho : DE T X o to) (hi : DE T X i ti) : DS T X fx st (tdStore te to ti) := by
  obtain ⟨t1, h1, h2⟩ := he
  obtain ⟨t2, h3, h4⟩ := ho
  obtain ⟨t3, h5, h6⟩ := hi
  refine ⟨_, hp _ _ _ h1 h3 h5, fun ρ σ H Γ ex E D h p c => ?_⟩
  refine h2 σ H Γ ex _ _ h.he p fun v H1 r Γ1 he og p1 => ?_
  refine h4 σ H1 Γ1 _ _ _ he p1 fun w H2 ro Γ2 he2 og2 p2 => ?_
  refine h6 σ H2 Γ2 _ _ _ he2 p2 fun z H3 ri Γ3 he3 og3 p3 => ?_
  obtain ⟨y, xs, k, j, e1, e2, e3, e4, p3⟩ := p3
  obtain ⟨so, oo⟩ := ro
  obtain ⟨si, oi⟩ := ri
  cases e2
  cases e3
  have d3 := he3.hs.front.get_d
  cases d3
  have hk : HE (X.K, T) H3 σ Γ3 ((some v, r.1) :: (some w, .m xs) :: ex) := he3.dropx.perm (List.Perm.swap _ _ _)
  have hk2 : HE (X.K, T) H3 σ (DL.back [r] [frz r.1] Γ3) ((some v, frz r.1) :: (some w, .m xs) :: ex) := HE.frzAll (rs := [r]) (vs := [v]) (ex := (some w, .m xs) :: ex) (.cons og .nil) hk
  rw [frz_dat e1] at hk2 p3
  have hk3 : Hs (X.K, T) H3 ((some w, .m xs) :: (some v, .d y) :: (σ.zip (DL.back [r] [.d y] Γ3) ++ ex)) := hk2.hs.perm ((List.perm_middle.trans (List.Perm.cons _ List.perm_middle)).trans (List.Perm.swap _ _ _))
  obtain ⟨l, ws, rfl, hh, dd, _⟩ := hk3.get_m
  have dv : Dt X.K (hid (l :: ads ((some v, SV.d y) :: (σ.zip (DL.back [r] [.d y] Γ3) ++ ex))) H3) v y := hk3.ok _ (List.mem_cons_of_mem _ List.mem_cons_self)
  refine ⟨l, ws, k, j, rfl, rfl, hh, by rw [dd.length]; exact e4, c.nx _ _ _ ⟨?_, h.fix⟩ p3⟩
  have h7 := (hk3.write (v := .ref l) (dd.set j dv)).swap2.tail
  have h8 : HE (X.K, T) (upd H3 l (.lst (ws.set j v))) σ (DL.back [r] [.d y] Γ3) ((some (.ref l), .m (xs.set j y)) :: ex) := ⟨hk2.len, h7.mid⟩
  exact HE.back (rs := [(.m xs, oo)]) (vs := [.ref l]) rfl (.cons og2 .nil) h8

/-! ## slices -/
abbrev TDO := G → (Option Int → G → Prop) → Prop
def DO (T : Tbs) (X : Cx) (e : Option Expr) (t : TDO) : Prop := ∃ to, PO X e to ∧ ∀ σ H Γ ex (P : Option Int → G → Prop) (Q : Option Int → Hp → Prop), HE (X.K, T) H σ Γ ex → t Γ P →
  (∀ o H' Γ', HE (X.K, T) H' σ Γ' ex → P o Γ' → Q o H') → to σ H Q
def tdNo : TDO := fun Γ P => P none Γ
def tdSome (t : TD) : TDO := fun Γ P => t Γ fun r Γ1 => ∃ i, r.1 = .d (.int i) ∧ P (some i) Γ1
theorem do_none : DO T X none tdNo := ⟨_, po_none, fun σ H Γ ex P Q h p q => q none H Γ h p⟩
theorem do_some (h : DE T X e t) : DO T X (some e) (tdSome t) := by
  obtain ⟨te, h1, h2⟩ := h
  refine ⟨_, po_some h1, fun σ H Γ ex P Q h p q => ?_⟩
  refine h2 σ H Γ ex _ _ h p fun v H' r Γ' he og p1 => ?_
  obtain ⟨i, e, p1⟩ := p1
  obtain ⟨s, o⟩ := r
  cases e
  have d := he.hs.front.get_d
  cases d
  exact ⟨i, rfl, q _ _ _ he.dropx p1⟩
def cutD (xs : List PyData) (lo hi : Option Int) : List PyData := (xs.drop (HT.sIx xs.length 0 lo)).take (HT.sIx xs.length xs.length hi - HT.sIx xs.length 0 lo)
theorem cut_dt {H : Hp} {vs : List V} {xs : List PyData} (d : DtAll K.1 H vs xs) (lo hi : Option Int) : DtAll K.1 H (cutV vs lo hi) (cutD xs lo hi) := by
  unfold cutV cutD
  rw [d.length]
  exact (d.drop _).take _
theorem cut_whole {xs : List PyData} {lo hi : Option Int} (h : HT.sIx xs.length 0 lo = 0 ∧ HT.sIx xs.length xs.length hi = xs.length) : cutD xs lo hi = xs := by
  unfold cutD
  rw [h.1, h.2, List.drop_zero, Nat.sub_zero, List.take_length]
def tdSl (t : TD) (tl th : TDO) : TD := fun Γ P => t Γ fun r Γ1 => tl Γ1 fun lo Γ2 => th Γ2 fun hi Γ3 => match r.1 with
  | .d (.tuple xs) => P (.d (.tuple (cutD xs lo hi)), none) Γ3
  | s => ∃ xs, lis s = some xs ∧ P (.m (cutD xs lo hi), none) (back [r] [r.1] Γ3)
theorem de_slice {lo hi : Option Expr} {tl th : TDO} (he : DE T X e t) (hl : DO T X lo tl) (hu : DO T X hi th) : DE T X (.Subscript e (.Slice lo hi none p2) pos) (tdSl t tl th) := by
  obtain ⟨te, h1, h2⟩ := he
  obtain ⟨t2, h3, h4⟩ := hl
  obtain ⟨t3, h5, h6⟩ := hu
  refine ⟨_, pe_slice (SlR.or sl_tupA sl_list) h1 h3 h5, fun σ H Γ ex P Q h p q => ?_⟩
  refine h2 σ H Γ ex _ _ h p fun v H1 r Γ1 he og p1 => ?_
  refine h4 σ H1 Γ1 _ _ _ he p1 fun lo' H2 Γ2 he2 p2 => ?_
  refine h6 σ H2 Γ2 _ _ _ he2 p2 fun hi' H3 Γ3 he3 p3 => ?_
  obtain ⟨s, o⟩ := r
  have lists : (∃ xs, lis s = some xs ∧ P (.m (cutD xs lo' hi'), none) (DL.back [(s, o)] [s] Γ3)) → rSlA X.K v lo' hi' H3 Q ∨ rSlL X.K v lo' hi' H3 Q := fun ⟨xs, ex', p⟩ => by
    obtain ⟨a, vs, rfl, hh, d⟩ := he3.hs.front.li List.mem_cons_self ex'
    refine .inr ⟨a, vs, rfl, SqL.of hh, fun l hn => q _ _ _ _ ?_ Og.none p⟩
    have h7 := he3.hs.front.new_m hn (cut_dt d lo' hi')
    have h8 : HE (X.K, T) (upd H3 l (.lst (cutV vs lo' hi'))) σ Γ3 ((some (.ref a), s) :: (some (.ref l), .m (cutD xs lo' hi')) :: ex) := ⟨he3.len, by
      refine h7.perm ?_
      exact (List.Perm.swap _ _ _).trans ((List.Perm.cons _ List.perm_middle.symm).trans List.perm_middle.symm)⟩
    exact HE.back (rs := [(s, o)]) (vs := [.ref a]) rfl (.cons og .nil) h8
  cases s with
  | d y =>
    cases y with
    | tuple xs =>
      obtain ⟨a, vs, rfl, hh, d⟩ := he3.hs.front.tu List.mem_cons_self
      have d' := he3.hs.front.get_d
      refine .inl ⟨a, vs, rfl, hh, fun hw => ?_, fun _ l hn => q _ _ _ _ ?_ Og.none p3⟩
      · have e1 : cutD xs lo' hi' = xs := cut_whole (by rw [← d.length]; exact hw)
        have p4 : P (.d (.tuple (cutD xs lo' hi')), none) Γ3 := p3
        rw [e1] at p4
        exact q (.ref a) H3 (.d (.tuple xs), none) Γ3 he3 Og.none p4
      · exact ⟨he3.len, (he3.hs.front.new_tup hn (cut_dt d lo' hi')).swap2.tail.mid⟩
    | _ => exact lists p3
  | _ => exact lists p3
/-- .. of the script -/
def scD (xs : List PyData) : PyData := .dict [(.list xs, .none)]
def tdSlF (t : TD) (tl th : TDO) : TD := fun Γ P => t Γ fun r Γ1 => tl Γ1 fun lo Γ2 => th Γ2 fun hi Γ3 => ∃ xs, r = (.d (scD xs), none) ∧ P (.m (cutD xs lo hi), none) Γ3
theorem de_sliceF {lo hi : Option Expr} {tl th : TDO} (he : DE T X e t) (hl : DO T X lo tl) (hu : DO T X hi th) : DE T X (.Subscript e (.Slice lo hi none p2) pos) (tdSlF t tl th) := by
  obtain ⟨te, h1, h2⟩ := he
  obtain ⟨t2, h3, h4⟩ := hl
  obtain ⟨t3, h5, h6⟩ := hu
  refine ⟨_, pe_slice (SlR.or sl_tupA sl_list) h1 h3 h5, fun σ H Γ ex P Q h p q => ?_⟩
  refine h2 σ H Γ ex _ _ h p fun v H1 r Γ1 he og p1 => ?_
  refine h4 σ H1 Γ1 _ _ _ he p1 fun lo' H2 Γ2 he2 p2 => ?_
  refine h6 σ H2 Γ2 _ _ _ he2 p2 fun hi' H3 Γ3 he3 p3 => ?_
  obtain ⟨xs, rfl, p⟩ := p3
  have d := he3.hs.front.get_d
  cases d with
  | scr h7 d =>
    refine .inr ⟨_, _, rfl, Le.sqL hid_sub h7, fun l hn => q _ _ _ _ ?_ Og.none p⟩
    exact ⟨he3.len, ((he3.hs.front.tail).new_m hn (cut_dt d lo' hi')).mid⟩
/-- xs[::-1] of a list -/
def tdRev (t : TD) : TD := fun Γ P => t Γ fun r Γ1 => ∃ xs, lis r.1 = some xs ∧ P (.m xs.reverse, none) (back [r] [r.1] Γ1)
theorem de_rev {k : Nat} {q1 q2 q3 q4 : Pos} (he : DE T X e t) : DE T X (.Subscript e (.Slice none none (some (.UnaryOp .USub (.Constant (.int 1) k q1) q2)) q3) q4) (tdRev t) := by
  obtain ⟨te, h1, h2⟩ := he
  refine ⟨_, pe_revL h1, fun σ H Γ ex P Q h p q => ?_⟩
  refine h2 σ H Γ ex _ _ h p fun v H1 r Γ1 he og p1 => ?_
  obtain ⟨xs, ex', p⟩ := p1
  obtain ⟨a, vs, rfl, hh, d⟩ := he.hs.front.li List.mem_cons_self ex'
  refine ⟨a, vs, rfl, SqL.of hh, fun l hn => q _ _ _ _ ?_ Og.none p⟩
  have h7 := he.hs.front.new_m hn d.reverse
  have h8 : HE (X.K, T) (upd H1 l (.lst vs.reverse)) σ Γ1 ((some (.ref a), r.1) :: (some (.ref l), .m xs.reverse) :: ex) := ⟨he.len, by
    refine h7.perm ?_
    exact (List.Perm.swap _ _ _).trans ((List.Perm.cons _ List.perm_middle.symm).trans List.perm_middle.symm)⟩
  exact HE.back (rs := [r]) (vs := [.ref a]) rfl (.cons og .nil) h8

/-! ## isinstance -/
/-- the built-in class of a value -/
def tyS : SV → Option String
  | .d .none => some "NoneType"
  | .d (.bool _) => some "bool"
  | .d (.int _) => some "int"
  | .d (.str _) => some "str"
  | .d (.list _) => some "list"
  | .d (.tuple _) => some "tuple"
  | .m _ => some "list"
  | _ => none
theorem tyX_tup {H : Hp} {a : Addr} {vs : List V} (h : SqT K.1 H a vs) : TyX K.1 H (.ref a) (.type "tuple") := by
  rcases h with (h | ⟨o, h⟩) | ⟨o, its, n, hk, hc, _⟩
  · exact .base (.tup h)
  · exact .fTuple h
  · exact .kTuple hk hc
theorem Hs.tyX {H : Hp} {ps : List Sl} {v : V} {s : SV} {Ty : String} (h : Hs K H ps) (m : ((some v, s) : Sl) ∈ ps) (e : tyS s = some Ty) : TyX K.1 H v (.type Ty) := by
  cases s with
  | d x =>
    have q := h.dt m rfl
    cases q with
    | non => cases e; exact .base .non
    | bl b => cases e; exact .base (.bl b)
    | int i => cases e; exact .base (.int i)
    | str z => cases e; exact .base (.str z)
    | lst h1 _ => cases e; exact .base (.lst h1)
    | tup h1 _ => cases e; exact tyX_tup h1
    | scr h1 _ => cases e
    | exc0 _ => cases e
    | exc1 _ _ _ => cases e
  | m xs =>
    cases e
    obtain ⟨a, vs, rfl, hh, _⟩ := h.li m rfl
    exact .base (.lst hh)
  | no => cases e
  | t _ => cases e
def tdIsi (t : TD) (ans : String → Option Bool) : TD := fun Γ P => t Γ fun r Γ1 => ∃ Ty b, tyS r.1 = some Ty ∧ ans Ty = some b ∧ P (.d (.bool b), none) (back [r] [r.1] Γ1)
theorem de_isi {Ty : String} {y : Str} {q : Pos} (hm : X.mg "isinstance" = none) (hmy : X.mg y = none) (hy : bootBuiltins y = some (.type Ty)) (ha : DE T X a t) {ans : String → Option Bool}
    (hans : ∀ S b, ans S = some b → PySem.W.kitOne X.K (.type S) (.type Ty) = some b) (hg : Gl X "isinstance" := by rfl) (hgy : Gl X y := by rfl) (hyn : y ≠ "__name__" := by decide) (hyd : (y == ("__debug__" : Str)) = false := by decide)
    (hs1 : starEach (.Name y q :: []) X.env = (false, eval (.Name y q) X.env) :: starEach [] X.env := by rfl)
    (hs : starEach (a :: [.Name y q]) X.env = (false, eval a X.env) :: starEach [.Name y q] X.env := by rfl) (hpl : (backTo pos (starEach [.Name y q] X.env)).any (·.1) = false := by rfl) :
    DE T X (.Call (.Name "isinstance" p) [a, .Name y q] [] pos) (tdIsi t ans) := by
  obtain ⟨te, h1, h2⟩ := ha
  refine ⟨_, pe_callB call_isi hg hm (by decide +kernel) (pa_cons h1 (pa_cons (pe_bltn (v := .ty Ty) hgy hmy hy rfl hyn hyd) pa_nil hs1) hs) (by decide) (by decide) hs hpl, fun σ H Γ ex P Q h p q => ?_⟩
  refine h2 σ H Γ ex _ _ h p fun v H1 r Γ1 he og p1 => ?_
  obtain ⟨S, b, e1, e2, p1⟩ := p1
  exact ⟨v, .ty Ty, .type S, .type Ty, b, rfl, .ty Ty, he.hs.tyX (List.mem_append_right _ List.mem_cons_self) e1, hans S b e2, q _ _ _ _ ((he.back1 og).addd (.bl b)) Og.none p1⟩
theorem de_isi2 {Ty Ty' : String} {y y' : Str} {q q' pt : Pos} {kk : Nat} (hm : X.mg "isinstance" = none) (hmy : X.mg y = none) (hmy' : X.mg y' = none) (hy : bootBuiltins y = some (.type Ty)) (hy' : bootBuiltins y' = some (.type Ty')) (ha : DE T X a t) {ans : String → Option Bool}
    (hans : ∀ S b, ans S = some b → PySem.W.kitAny X.K (.type S) [.type Ty, .type Ty'] = some b) (hg : Gl X "isinstance" := by rfl) (hgy : Gl X y := by rfl) (hgy' : Gl X y' := by rfl) (hyn : y ≠ "__name__" := by decide) (hyd : (y == ("__debug__" : Str)) = false := by decide) (hyn' : y' ≠ "__name__" := by decide) (hyd' : (y' == ("__debug__" : Str)) = false := by decide)
    (hs0 : starEach (.Name y' q' :: []) X.env = (false, eval (.Name y' q') X.env) :: starEach [] X.env := by rfl)
    (hs1 : starEach (.Name y q :: [.Name y' q']) X.env = (false, eval (.Name y q) X.env) :: starEach [.Name y' q'] X.env := by rfl)
    (hs2 : starEach (.Tuple [.Name y q, .Name y' q'] kk pt :: []) X.env = (false, eval (.Tuple [.Name y q, .Name y' q'] kk pt) X.env) :: starEach [] X.env := by rfl)
    (hs : starEach (a :: [.Tuple [.Name y q, .Name y' q'] kk pt]) X.env = (false, eval a X.env) :: starEach [.Tuple [.Name y q, .Name y' q'] kk pt] X.env := by rfl) (hpl : (backTo pos (starEach [.Tuple [.Name y q, .Name y' q'] kk pt] X.env)).any (·.1) = false := by rfl) :
    DE T X (.Call (.Name "isinstance" p) [a, .Tuple [.Name y q, .Name y' q'] kk pt] [] pos) (tdIsi t ans) := by
  obtain ⟨te, h1, h2⟩ := ha
  refine ⟨_, pe_callB call_isiT hg hm (by decide +kernel) (pa_cons h1 (pa_cons (pe_tup (pa_cons (pe_bltn (v := .ty Ty) hgy hmy hy rfl hyn hyd) (pa_cons (pe_bltn (v := .ty Ty') hgy' hmy' hy' rfl hyn' hyd') pa_nil hs0) hs1)) pa_nil hs2) hs) (by decide) (by decide) hs hpl, fun σ H Γ ex P Q h p q => ?_⟩
  refine h2 σ H Γ ex _ _ h p fun v H1 r Γ1 he og p1 => ?_
  obtain ⟨S, b, e1, e2, p1⟩ := p1
  refine ⟨(by show 2 ≤ sizeLine; decide), fun l hl => ?_⟩
  have he2 : HE (X.K, T) (upd H1 l (.tup [.ty Ty, .ty Ty'])) σ Γ1 ((some v, r.1) :: ex) := ⟨he.len, he.hs.grow (le_upd hl)⟩
  exact ⟨v, l, [.ty Ty, .ty Ty'], .type S, [.type Ty, .type Ty'], b, rfl, upd_same, .cons (.ty Ty) (.cons (.ty Ty') .nil), he2.hs.tyX (List.mem_append_right _ List.mem_cons_self) e1, hans S b e2, q _ _ _ _ ((he2.back1 og).addd (.bl b)) Og.none p1⟩

/-! ## names of the module -/
theorem de_glob {y : Str} {d : PyData} {v : V} {uv : Value} (hm : X.mg y = some uv) (r : RelV v uv) (hd : ∀ H, Dt X.K H v d) (hg : Gl X y := by rfl) (hdb : (y == ("__debug__" : Str)) = false := by decide) : DE T X (.Name y pos) (tdC d) := de_c (pe_glob hg hm r hdb) hd
theorem dt_empty {H : Hp} {a : Addr} {ob : Obj} {n : Nat} (hk : K.1.lookup a = some ob) (hc : ob.cls = .type "tuple") (hd : ob.data = .seq #[] n) : Dt K.1 H (.ref a) (.tuple []) :=
  .tup (.inr ⟨ob, #[], n, hk, hc, hd, by decide, .nil⟩) .nil
end
end DL

namespace DL
open PySem PySem.Spec PyProof.Rows L2 RZ
/-! ## del xs[a:] -/
theorem zipIdx_take {α : Type} (a n : Nat) (f : α × Nat → Option α) (hf : ∀ x k, f (x, k) = if a ≤ k ∧ k < n then none else some x) : ∀ (xs : List α) (o : Nat), o + xs.length ≤ n → (xs.zipIdx o).filterMap f = xs.take (a - o)
  | [], o, _ => by simp
  | x :: xs, o, h => by
    rw [List.zipIdx_cons, List.filterMap_cons, hf]
    have ih := zipIdx_take a n f hf xs (o + 1) (by simp at h; omega)
    simp only [List.length_cons] at h
    by_cases c : a ≤ o
    · rw [if_pos ⟨c, by omega⟩]
      show (xs.zipIdx (o + 1)).filterMap f = _
      rw [ih]
      have e1 : a - o = 0 := by omega
      have e2 : a - (o + 1) = 0 := by omega
      rw [e1, e2]; rfl
    · rw [if_neg (fun z => c z.1)]
      show x :: (xs.zipIdx (o + 1)).filterMap f = _
      rw [ih]
      have e1 : a - o = (a - (o + 1)) + 1 := by omega
      rw [e1]; rfl
theorem bounds_tail {a n : Nat} (ha : a ≤ n) : sliceBounds (some (a : Int)) none none n = ((a : Int), (n : Int), 1) := by
  unfold sliceBounds; simp only [Option.getD_none]
  have hneg : ¬ ((a : Int) < 0) := by omega
  simp only [hneg, if_false, show (1 : Int) > 0 by decide, if_true]
  congr 1
  omega
section
variable {pg : Program} {w : World} {Ar : Around} {Er : Value → Shared → Prop} {s : Shared}
theorem delItem_tail {l sli : Addr} {its0 : Array Value} {nn : Nat} {vl : Value} {a : Nat} {Q : Unit → Shared → Prop}
    (en : s.heap.get? l = some { cls := .type "list", data := .seq its0 nn }) (ks : s.heap.IsSliceOf sli vl .none .none) (plp : IsPart vl (some (a : Int))) (ha : a ≤ its0.size)
    (hsz : its0.size ≤ sizeLine) (h : ∀ f : Array Value → Array Value, f its0 = (its0.toList.take a).toArray → Q () { s with heap := s.heap.update l (Obj.mapSeq f) }) :
    wpAny (model pg w) Ar (delItem (.ref l) (.ref sli)) Q Er s := by
  have kl : s.heap.IsList l its0 := PySem.IsL.isList en
  obtain ⟨ot, kot, kcs, kds⟩ := id ks
  have kTs : s.TypeIs (.ref sli) "slice" := ⟨ot, kot, kcs⟩
  have kstep : ¬ ((rawPart none == rawInt 0) = true) := Bool.false_ne_true
  refine wpAny_delItem_slot kl.typeIs (by decide) PySem.F.slot_list_delitem ?_
  refine wpAny_call_entry PySem.F.slot_list_delitem kl.typeIs PySem.F.entry_list_delitem ?_ (PySem.F.args_list_delitem_2 _ _)
  show wpAny _ _ (Builtin.List.listSubscript? (.ref sli) >>= _) _ _ s
  refine wpAny_bind ?_
  delta Builtin.List.listSubscript?
  refine wpAny_bind (wpAny_specialOf kTs slice_no_index ?_)
  rw [Option.isNone_none, if_pos rfl]
  refine wpAny_pure ?_
  show wpAny _ _ (typeOf (.ref sli) >>= _) _ _ s
  refine wpAny_bind (wpAny_typeOf kTs ?_)
  first
    | rw [if_neg (by decide)]
    | exact PySem.W.KFB.if_not (by decide) (by skip; rfl)
  rw [listSliceParts_eq]
  refine wpAny_bind (wpAny_bind (wpAny_field kot kds (x := .none) rfl (wpAny_bind (wpAny_listPart .none ?_))))
  rw [if_neg kstep]
  refine wpAny_bind (wpAny_field kot kds (x := vl) rfl (wpAny_bind (wpAny_listPart plp ?_)))
  refine wpAny_bind (wpAny_field kot kds (x := .none) rfl (wpAny_bind (wpAny_listPart .none (wpAny_pure ?_))))
  refine wpAny_bind ?_
  unfold Builtin.List.listItems
  refine wpAny_bind (wpAny_seqItems en rfl (wpAny_pure ?_))
  refine wpAny_bind (wpAny_of_eq ((sliceIndices_raw (some (a : Int)) none none its0.size (by simp)).trans (congrArg (pure : Int × Int × Int → Sem (Int × Int × Int)) (bounds_tail ha))) ?_)
  apply wpAny_bind; apply wpAny_rule
  have go : ∀ (f : Value × Nat → Option Value) (gon : List Value), (∀ x k, f (x, k) = if a ≤ k ∧ k < its0.size then none else some x) →
      wpAny (model pg w) Ar.in1 (do Builtin.List.listUpdate (.ref l) fun xs => (List.filterMap f xs.toList.zipIdx).toArray; letGo gon; PySem.ret Value.none) (fun fin s' => ∃ v, fin = Fin.done (Flow.ret v) ∧ Q () s') Er s := by
    intro f gon kf
    have hfi : (List.filterMap f its0.toList.zipIdx).toArray = (its0.toList.take a).toArray := by
      rw [zipIdx_take a its0.size f kf its0.toList 0 (by simp)]
      rfl
    have hz' : ((fun xs : Array Value => (List.filterMap f xs.toList.zipIdx).toArray) its0).size ≤ sizeLine + 1 := by
      show (List.filterMap f its0.toList.zipIdx).toArray.size ≤ _
      rw [hfi, List.size_toArray, List.length_take]
      have : its0.toList.length = its0.size := by simp
      omega
    refine wpAny_bind (m := Builtin.List.listUpdate (.ref l) _) ?_
    unfold Builtin.List.listUpdate
    refine wpAny_updateSeq (hz := hsz) (_hz' := hz') en rfl ?_
    apply wpAny_bind; apply wpAny_letGo
    exact wpAny_pure ⟨.none, rfl, h _ hfi⟩
  refine go _ _ fun x k => ?_
  show (if (if (1 : Int) > 0 then (decide ((a : Int) ≤ (k : Int)) && decide ((k : Int) < (its0.size : Int)) && (((k : Int) - (a : Int)) % 1 == 0)) else (decide ((its0.size : Int) < (k : Int)) && decide ((k : Int) ≤ (a : Int)) && (((a : Int) - (k : Int)) % (-1) == 0))) = true then none else some x) = _
  rw [if_pos (by decide : (1 : Int) > 0)]
  by_cases c : a ≤ k ∧ k < its0.size
  · rw [if_pos c, if_pos]
    simp only [Bool.and_eq_true, decide_eq_true_eq, beq_iff_eq]
    omega
  · rw [if_neg c, if_neg]
    simp only [Bool.and_eq_true, decide_eq_true_eq, beq_iff_eq]
    omega
end
section
variable {T : Tbs} {X : Cx} {o a : Expr} {to ta : TE} {pos tpos p2 : Pos} {fx : List Nat} {t t2 : TD}
/-- del xs[a:] -/
def tDelT (to ta : TE) : TS := fun Dd σ H => to σ H fun x H1 => ta σ H1 fun y H2 => ∃ (l : Addr) (xs : List V) (i : Int), x = .ref l ∧ y = .int i ∧ H2 l = some (.lst xs) ∧ 0 ≤ i ∧ i ≤ xs.length ∧ Dd.nx σ (upd H2 l (.lst (xs.take i.toNat)))
theorem ps_delT (ho : PE X o to) (ha : PE X a ta) : PS X (.Delete [.Subscript o (.Slice (some a) none none p2) tpos] pos) (tDelT to ta) := by
  refine ⟨fun pins s σ H Dd J1 h => ?_⟩
  refine wpAny_Delete (wpAny_deleteEach_cons (wpAny_delete_Subscript (thn (ho.run pins s σ H _ J1 h) fun u s1 ⟨x, H1, J2, rxx, q1⟩ => ?_)))
  refine wpAny_Slice ?_
  rw [evalPart_some]
  refine thn (ha.run pins s1 σ H1 _ J2 q1) fun iv s2 ⟨y, H2, J3, ry, q2⟩ => ?_
  rw [evalPart_none]
  refine wpAny_pure ?_
  refine wpAny_pure ?_
  obtain ⟨l, xs, i, ex, ey, kH, h1, h2, q2⟩ := q2
  subst ex
  subst ey
  cases (show u = Value.ref l from rxx)
  obtain ⟨t, rfl⟩ := (show ∃ t, iv = Value.int i t from ry)
  have J4 : Inv X pins σ H2 { s2 with heap := s2.heap.push { cls := .type "slice", data := .fields #[.int i t, .none, .none] } } := J3.kept (t' := s2.toks) fun b ob q => Heap.get?_push_of_some _ q
  obtain ⟨z, its, nn, r, kl, en⟩ := J4.lstM kH
  have ei : i = ((i.toNat : Nat) : Int) := by omega
  refine delItem_tail (a := i.toNat) en (Heap.IsSliceOf.new ..) (by rw [← ei]; exact .int i t) (by rw [List.size_toArray]; omega) (by rw [List.size_toArray]; omega) fun f kf => ?_
  refine wpAny_deleteEach_nil ⟨σ, _, J4.lset (its' := its.take i.toNat) (t' := s2.toks) kH en ?_ (r.take _) ?_, q2⟩
  · exact kf
  · rw [List.length_take]; omega
def tdDelT (to ta : TD) : TDS := fun Er Γ => to Γ fun r Γ1 => ta Γ1 fun r' Γ2 => ∃ xs i, r.1 = .m xs ∧ r'.1 = .d (.int i) ∧ 0 ≤ i ∧ i ≤ xs.length ∧ Er.nx (back [r] [.m (xs.take i.toNat)] Γ2)
theorem ds_delT (ho : DE T X o t) (ha : DE T X a t2) : DS T X fx (.Delete [.Subscript o (.Slice (some a) none none p2) tpos] pos) (tdDelT t t2) := by
  obtain ⟨t1, h1, h2⟩ := ho
  obtain ⟨t2, h3, h4⟩ := ha
  refine ⟨_, ps_delT h1 h3, fun ρ σ H Γ ex Er Dd h p c => ?_⟩
  refine h2 σ H Γ ex _ _ h.he p fun v H1 r Γ1 he og p1 => ?_
  refine h4 σ H1 Γ1 _ _ _ he p1 fun w H2 r' Γ2 he2 og2 p2 => ?_
  obtain ⟨xs, i, e1, e2, b1, b2, p2⟩ := p2
  obtain ⟨s, oo⟩ := r
  obtain ⟨s', oo'⟩ := r'
  cases e1
  cases e2
  have d2 := he2.hs.front.get_d
  cases d2
  obtain ⟨l, ws, rfl, hh, dd, _⟩ := he2.dropx.hs.front.get_m
  refine ⟨l, ws, i, rfl, rfl, hh, b1, by rw [dd.length]; exact b2, c.nx _ _ _ ⟨?_, h.fix⟩ p2⟩
  have h8 : HE (X.K, T) (upd H2 l (.lst (ws.take i.toNat))) σ Γ2 ((some (.ref l), .m (xs.take i.toNat)) :: ex) := ⟨he2.len, (he2.dropx.hs.front.write (v := .ref l) (dd.take _)).mid⟩
  exact HE.back (rs := [(.m xs, oo)]) (vs := [.ref l]) rfl (.cons og .nil) h8
end
end DL

namespace DL
open PySem PySem.Spec PyProof.Rows L2 RZ
open AutoSeq1 (idx_int wpAny_loadPart')
/-! ## xs.extend(t), t a tuple -/
theorem list_extend_tup (la : Addr) (items : Array Value) (n : Nat) (b : Addr) (items2 : Array Value) (n2 : Nat) (dct : Option Addr) (sl : Array (Option Value)) (hs0 : ¬(!items.isEmpty && Builtin.List.listTooLong (items.size + items2.size)) = true) (hs1 : items.size ≤ sizeLine) (hs2 : items.size + items2.size ≤ sizeLine + 1) :
    Meets (Builtin.«list.extend» ⟨[.ref la, .ref b], []⟩) (fun _ Rr sh => sh.heap.get? la = some { cls := .type "list", dict := none, data := .seq items n, slots := #[] } ∧ sh.heap.get? b = some { cls := .type "tuple", dict := dct, data := .seq items2 n2, slots := sl } ∧ Rr (.ok (.ret Value.none)) { sh with heap := sh.heap.update la (Obj.mapSeq fun xv => xv ++ items2), toks := sh.toks }) :=
  .of_wp fun pg w Ar Rr sh h => by
    obtain ⟨hp, g, dd1, tq, oz⟩ := sh; obtain ⟨kl, kb, h⟩ := h; have f1 := idx_int; have f2 := AutoSeq1.sub_tuple_tuple; have f3 := AutoSeq1.sub_list_list; have f4 := AutoSeq1.sub_tuple_list; have f5 := AutoSeq1.sub_list_tuple;
    have kz' : (items ++ items2).size ≤ sizeLine + 1 := by rw [Array.size_append]; exact hs2
    wp_walk using (wpAny_updateSeq kl rfl (hz := hs1) (_hz' := kz')), wpAny_loadPart' kl, wpAny_loadPart' kb; exact ⟨_, rfl, h⟩
def rExtendT (K : PySem.W.Frag) : V → List V → Hp → VK → Prop := fun xv vs H Q => ∃ la b xs zs, xv = .ref la ∧ vs = [.ref b] ∧ H la = some (.lst xs) ∧ SqT K H b zs ∧ xs.length + zs.length ≤ sizeLine ∧ Q .non (upd H la (.lst (xs ++ zs)))
theorem mt_extendT {X : Cx} : MtM X "list.extend" (rExtendT X.K) := by
  intro pins sh σ H xv vs v us Q J1 rx rw1 h
  obtain ⟨la, b, xs, zs, rfl, rfl, kH, kB, kz, qq⟩ := h
  cases rx
  obtain ⟨u, rfl, ru1⟩ := rw1.one
  cases ru1
  obtain ⟨zz, us1, n, rr1, kl, en⟩ := J1.lstM kH
  obtain ⟨us2, r2, ⟨obb, e2, hc2, n2, hd2⟩, z2⟩ := J1.tuple kB
  have hl2 := r2.length
  have ksz : us1.toArray.size + us2.toArray.size ≤ sizeLine := by rw [List.size_toArray, List.size_toArray]; omega
  have klong : ¬ (!us1.toArray.isEmpty && Builtin.List.listTooLong (us1.toArray.size + us2.toArray.size)) = true := by
    rw [notLongL ksz, Bool.and_false]
    exact Bool.false_ne_true
  obtain ⟨c2, d2, dt2, sl2⟩ := obb
  cases (show c2 = _ from hc2)
  cases (show dt2 = _ from hd2)
  refine call_meets F.slot_list_extend ⟨_, en, rfl⟩ F.entry_list_extend (F.args_list_extend_2 _ _)
    (list_extend_tup la us1.toArray n b us2.toArray n2 d2 sl2 klong (by rw [List.size_toArray]; omega) (by omega)) ⟨en, e2, ?_⟩
  refine ⟨.non, _, J1.lset (its' := us1 ++ us2) kH en (by simp) (rr1.append r2) ?_, rfl, qq⟩
  rw [List.length_append]
  omega
/-- a list or a tuple behind -/
def cExtA : CT := fun ss P => match ss with
  | [.m xs, a] => ∃ ys, seqS a = some ys ∧ xs.length + ys.length ≤ sizeLine ∧ P (.d .none) [.m (xs ++ ys), a]
  | _ => False
def rExtA (K : PySem.W.Frag) : V → List V → Hp → VK → Prop := fun xv vs H Q => rExtend xv vs H Q ∨ rExtendT K xv vs H Q
theorem mt_extA {X : Cx} : MtM X "list.extend" (rExtA X.K) := by
  intro pins sh σ H xv vs v us Q J1 rx rw1 h
  rcases h with h | h
  · exact mt_extend pins sh σ H xv vs v us Q J1 rx rw1 h
  · exact mt_extendT pins sh σ H xv vs v us Q J1 rx rw1 h
theorem snd_extA {K : KF} : SndM K (rExtA K.1) cExtA := by
  intro xv vs H sh ss ex P Q kl h kc qq
  unfold cExtA at kc
  split at kc
  · rename_i xs a en
    cases en
    obtain ⟨v, rfl⟩ := one_slot kl
    obtain ⟨ys, ey, kz, pp⟩ := kc
    have h1 : Hs K H ((some xv, .m xs) :: (some v, a) :: ex) := h
    obtain ⟨b, zs, rfl, hh2, d2⟩ := h1.seq (List.mem_cons_of_mem _ List.mem_cons_self) ey
    obtain ⟨la, ws, rfl, hh, dd1, _⟩ := h1.get_m
    have fin := qq _ _ _ _ _ pp rfl ((h1.write (v := .ref la) (dd1.append d2)).cons_d .non)
    rcases hh2 with hh2 | hh2
    · exact .inl ⟨la, b, ws, zs, rfl, rfl, hh, hh2, by rw [dd1.length, d2.length]; exact kz, fin⟩
    · exact .inr ⟨la, b, ws, zs, rfl, rfl, hh, hh2, by rw [dd1.length, d2.length]; exact kz, fin⟩
  · exact kc.elim
section
variable {T : Tbs} {X : Cx} {en o : Expr} {es : List Expr} {u : TDA} {t to : TD} {pos apos pp tpos : Pos}
theorem de_extA (ko : DE T X o to) (ha : DA T X (en :: es) u) (hbase : attributeBase o "extend" X.env (eval o X.env) = eval o X.env := by rfl)
    (hfew : ((backTo pos (starEach (en :: es) X.env)).all (fun xv => !xv.1) && (backToKw pos (keywordEach [] X.env)).all (fun xv => xv.1.isSome) && decide ((en :: es).length + ([] : List Keyword).length + (if ([] : List Keyword).isEmpty then 0 else 1) < 30)) = true := by rfl)
    (hline : (apos.endLine == pos.line) = true := by rfl) (ks : starEach (en :: es) X.env = (false, eval en X.env) :: starEach es X.env := by rfl) (hplain : (backTo pos (starEach es X.env)).any (·.1) = false := by rfl) :
    DE T X (.Call (.Attribute o "extend" apos) (en :: es) [] pos) (tMp to u cExtA) :=
  de_meth (fun to ta h1 h2 => ⟨_, pe_bm PySem.F.plainAttrs_list PySem.F.slot_list_extend PySem.F.type_list_extend mt_extA h1 h2 hbase hfew hline ks hplain, fun σ H Q zz => zz⟩) snd_extA ko ha

/-! ## enumerate(t), t a tuple or a list -/
def IteT (K : PySem.W.Frag) (a : Addr) : It :=
  ⟨fun ix H => ∃ (xs : List V) (xv : V), SqT K H a xs ∧ xs[ix]? = some xv, fun ix H v H' => ∃ T xv, v = .ref T ∧ H T = none ∧ H' = upd H T (.tup [.int (ix : Nat), xv]) ∧ ∀ xs, SqT K H a xs → xs[ix]? = some xv, fun ix H => ∃ xs : List V, SqT K H a xs ∧ xs.length ≤ ix⟩
end
theorem meets_enumerate_newT (la : Addr) (items : Array Value) (n : Nat) (dct : Option Addr) (sl : Array (Option Value)) :
    Meets (Builtin.«enumerate.__new__» ⟨[.type "enumerate", .ref la], []⟩) (fun _ Rr sh => sh.heap.get? la = some { cls := .type "tuple", dict := dct, data := .seq items n, slots := sl } ∧
      Rr (.ok (.ret (.ref (sh.heap.push { cls := .type "tuple_iterator", data := .fields #[.ref la, .int 0 0] }).objs.size)))
        { sh with heap := (sh.heap.push { cls := .type "tuple_iterator", data := .fields #[.ref la, .int 0 0] }).push { cls := .type "enumerate", data := .fields #[.none, .bool false, .ref sh.heap.objs.size, rawInt 0, .none, .none] } }) :=
  .of_wp fun pg w Ar Rr sh h => by
    obtain ⟨hp, g, dd1, tq, oz⟩ := sh; obtain ⟨kl, h⟩ := h
    have hsub := sub_enumerate
    have hL : Heap.IsTuple (Shared.heap ⟨hp, g, dd1, tq, oz⟩) la items := ⟨_, kl, rfl, n, rfl⟩
    wp_walk using wpAny_loadPart' kl
    refine wpAny_stack_any fun sa => wpAny_pure ?_
    split
    · rename_i c _ _ _ _ _
      cases hcls : (c == Value.type "enumerate")
      · wp_walk using wpAny_loadPart' kl, wpAny_pyIter_tuple hL
        exact ⟨_, rfl, h⟩
      · wp_walk using wpAny_loadPart' kl, wpAny_pyIter_tuple hL
        exact ⟨_, rfl, h⟩
    · wp_walk using wpAny_loadPart' kl, wpAny_pyIter_tuple hL
      exact ⟨_, rfl, h⟩
section
variable {pg : Program} {w : World} {Ar : Around} {Er : Value → Shared → Prop} {sh : Shared}
theorem call_enumerate_tup {la : Addr} {items : Array Value} {Q : Value → Shared → Prop} (hL : sh.heap.IsTuple la items)
    (h : ∀ h', IsEnum h' (sh.heap.objs.size + 1) sh.heap.objs.size 0 .none → h'.IsTupleIter sh.heap.objs.size la 0 → h'.objs.size = sh.heap.objs.size + 2 →
      (∀ b o, sh.heap.get? b = some o → h'.get? b = some o) → Q (.ref (sh.heap.objs.size + 1)) { sh with heap := h' }) :
    wpAny (model pg w) Ar (call (.type "enumerate") [.ref la]) Q Er sh := by
  obtain ⟨⟨c, dct, dt, sl⟩, kl, kc, n, kd⟩ := hL
  replace kc : c = .type "tuple" := kc
  replace kd : dt = .seq items n := kd
  subst kc kd
  have made := F.newCall_enumerate_1 (.ref la)
  refine callType_new F.called_enumerate (by decide) (F.typeCall_enumerate_1 (.ref la)) made (fun ob => F.args_object_init_2 ob (.ref la)) F.entry_enumerate_new
    (meets_enumerate_newT la items n dct sl) ⟨kl, ?_⟩
  have kz : (sh.heap.push { cls := .type "tuple_iterator", data := .fields #[.ref la, .int 0 0] }).objs.size = sh.heap.objs.size + 1 := Heap.size_push ..
  show _ ∧ _
  rw [kz]
  have ke : IsEnum ((sh.heap.push { cls := .type "tuple_iterator", data := .fields #[.ref la, .int 0 0] }).push
      { cls := .type "enumerate", data := .fields #[.none, .bool false, .ref sh.heap.objs.size, rawInt 0, .none, .none] }) (sh.heap.objs.size + 1) sh.heap.objs.size 0 .none := by
    have := Heap.get?_push_size (sh.heap.push { cls := .type "tuple_iterator", data := .fields #[.ref la, .int 0 0] })
      (o := { cls := .type "enumerate", data := .fields #[.none, .bool false, .ref sh.heap.objs.size, rawInt 0, .none, .none] }) rfl
    rw [kz] at this; exact this
  refine ⟨⟨_, ke, rfl⟩, h _ ke ⟨_, Heap.get?_push_of_some _ (Heap.get?_push_size _ rfl), rfl, rfl⟩ (by rw [Heap.size_push, kz]) fun b o xv => Heap.get?_push_of_some _ (Heap.get?_push_of_some _ xv)⟩
end
theorem in1_hd {Ar : Around} (h : Ar.handled = none) : Ar.in1.handled = none := h
theorem turn_enumT {P : Program} {w : World} {K : PySem.W.Frag} {elts : List Expr} {kk : Nat} {tpos : Pos} (a en it : Addr) :
    Turn P w K (.Tuple elts kk tpos) (IteT K a) [en, it] en (fun ix h => (∃ od, IsEnum h en it ((ix : Nat) : Int) od) ∧ h.IsTupleIter it a ix ∧ en ≠ it ∧ en ≠ a ∧ a ≠ it) where
  mem := by simp
  obj := fun ix h sa b kb => by
    obtain ⟨⟨od, ke⟩, ⟨o, ko, kc, kd⟩, _⟩ := sa
    have f' : b = en ∨ b = it := by simpa using kb
    rcases f' with zz | zz
    · rw [zz]; exact ⟨_, ke, fun v qq => nomatch qq⟩
    · rw [zz]; exact ⟨o, ko, fun v qq => by rw [kd] at qq; cases qq⟩
  keep := fun ix h h' sa k => let ⟨⟨od, ke⟩, hi, kne⟩ := sa; ⟨⟨od, k en (by simp) _ ke⟩, hi.at fun o qq => k it (by simp) o qq, kne⟩
  item := by
    intro X kP kw kK kc ix pins sh σ H Er J1 kf sa kg
    subst kP kw kK
    obtain ⟨⟨od, ke⟩, kit, kne, kea, kai⟩ := sa
    obtain ⟨xs, xv, kq, kx⟩ := kg
    obtain ⟨us1, rw1, pp, kz⟩ := J1.tuple kq
    obtain ⟨u, ku, ru1⟩ := rw1.get kx
    have kel : en < sh.heap.objs.size := Heap.lt_size ke
    have kil : it < sh.heap.objs.size := by obtain ⟨_, qq, _⟩ := kit; exact Heap.lt_size qq
    have ku' : us1.toArray[ix]? = some u := by simpa using ku
    have hlt : ix < us1.toArray.size := (Array.getElem?_eq_some_iff.mp ku').1
    have hef : en ∉ [it, a] := by
      intro zz
      rcases List.mem_cons.mp zz with zz | zz
      · exact kne zz
      · rcases List.mem_cons.mp zz with zz | zz
        · exact kea zz
        · cases zz
    refine wpAny_pyNext_enum_itemD (Draws.tuple (in1_hd (J1.ok.hd kc)) it a kai us1.toArray) ke ⟨kit, (show sh.heap.IsTuple a us1.toArray from pp)⟩ hlt kne hef fun y h' tq hy ko kit' kT ksz kk => ?_
    have ey : y = u := by rw [ku'] at hy; exact (Option.some.inj hy).symm
    subst ey
    refine ⟨_, rfl, wpAny_letOwnedTupleGo_enum (s := { sh with heap := h', toks := tq + 1 }) ko fun h'' ke' sbb => ?_⟩
    have kT2 : h''.get? sh.heap.objs.size = some { cls := .type "tuple", data := .seq #[.int ix tq, y] } := (sbb.2 _ (Nat.ne_of_gt kel)).trans kT
    have new : ObjOk X.prog X.w (upd H sh.heap.objs.size (.tup [.int (ix : Nat), xv])) h'' sh.heap.objs.size (.tup [.int (ix : Nat), xv]) :=
      ⟨by show 2 ≤ sizeLine; decide, [.int ix tq, y], .cons ⟨_, rfl⟩ (.cons ru1 .nil), ⟨_, kT2, rfl, _, rfl⟩⟩
    have J2 : Inv X pins σ (upd H sh.heap.objs.size (.tup [.int (ix : Nat), xv])) { sh with heap := h'', toks := tq + 1 } :=
      J1.turnedNew (ch := [en, it]) (fun b obb kb qq => (sbb.2 b (fun zz => kb (by simp [zz]))).trans (kk b obb (fun zz => kb (by simp [zz])) (fun zz => kb (by simp [zz])) qq)) kf (Nat.le_refl _) new
    refine ⟨.ref sh.heap.objs.size, _, J2, rfl, ⟨_, xv, rfl, J1.hok.fresh (Nat.le_refl _), rfl, fun ys hy => by rw [J1.tuple_inj hy kq]; exact kx⟩, ⟨⟨y, ?_⟩, kit'.1.at fun o qq => (sbb.2 it (Ne.symm kne)).trans qq, kne, kea, kai⟩, fun b kb => ?_⟩
    · have e1 : ((ix + 1 : Nat) : Int) = (ix : Int) + 1 := by omega
      rw [e1]; exact ke'
    · have kb' : b < sh.heap.objs.size := by
        have f' : b = en ∨ b = it := by simpa using kb
        rcases f' with zz | zz
        · rw [zz]; exact kel
        · rw [zz]; exact kil
      rw [upd_ne (Nat.ne_of_lt kb')]
      exact (kf b kb).1
  done := by
    intro X kP kw kK kc ix pins sh σ H Er J1 kf sa kg
    subst kP kw kK
    obtain ⟨⟨od, ke⟩, kit, kne, kea, kai⟩ := sa
    obtain ⟨xs, kq, kx⟩ := kg
    obtain ⟨us1, rw1, pp, kz⟩ := J1.tuple kq
    obtain ⟨g0, f1, f2, f3, f4, f5⟩ := kf it (by simp)
    have kl := rw1.length
    unfold pyNext
    have kT : sh.TypeIs (.ref en) "enumerate" := ⟨_, ke, rfl⟩
    refine wpAny_bind (wpAny_attempt (wpAny_callSpecial?_slot (name := Str.ofString "__next__") kT F.slot_enumerate_next
      (wpAny_call_entry F.slot_enumerate_next kT F.entry_enumerate_next ?_ (F.args_enumerate_next_1 _))))
    show wpAny _ _ (field (.ref en) 2 >>= _) _ _ _
    refine wpAny_bind (wpAny_field ke rfl (x := .ref it) rfl ?_)
    refine wpAny_bind (wpAny_nextOf_tuple_end (in1_hd (J1.ok.hd kc)) kit (show sh.heap.IsTuple a us1.toArray from pp) (by simp; omega) fun h' xv ke' kx' => ?_)
    obtain ⟨o, ko, kcc⟩ := kx'
    refine wpAny_bind (wpAny_isInstance (T := "StopIteration") (b := true) ⟨o, ko, kcc⟩ isSubtype_stop ?_)
    exact wpAny_pure ⟨rfl, J1.turned (t' := sh.toks) (fun b o kb qq => ke' b o kb qq) g0 f1 f3 f4 f5⟩
  self := fun Ar ix sh Q Er sa h => let ⟨⟨_, ke⟩, _⟩ := sa; wpAny_pyIter_enum ke h
def iEnumA (K : PySem.W.Frag) (ta : TA) : TI := fun σ H Rr => ta σ H fun vs H1 => ∃ a xs, vs = [.ref a] ∧ ((SqL K H1 a xs ∧ Rr (Ite K a) H1) ∨ (SqT K H1 a xs ∧ Rr (IteT K a) H1))
section
variable {T : Tbs} {X : Cx} {en o : Expr} {es : List Expr} {u : TDA} {t to : TD} {pos apos pp tpos : Pos}
theorem pi_enumA {elts : List Expr} {kk : Nat} {ta : TA} (kg : Gl X "enumerate") (hm : X.mg "enumerate" = none) (ha : PA X [en] ta) (ks : starEach [en] X.env = [(false, eval en X.env)] := by rfl) :
    PI X (.Tuple elts kk tpos) (.Call (.Name "enumerate" pp) [en] [] pos) (iEnumA X.K ta) := by
  refine ⟨fun pins s σ H R J1 h => ?_⟩
  refine Call_ (ld_blt J1 kg hm boot_enumerate (PyProof.Rows.callWith_type1 (thn (ha.run pos pins s σ H _ J1 h) fun us s1 ⟨vs, H1, J2, r1, q1⟩ => ?_) ks rfl))
  obtain ⟨a, xs, ex, q1⟩ := q1
  subst ex
  cases r1 with
  | cons rr1 rr =>
    cases rr
    cases rr1
    have fresh2 : ∀ b ∈ [s1.heap.objs.size + 1, s1.heap.objs.size], FpOk X pins H1 b := fun b kb => by
      have f' : b = s1.heap.objs.size + 1 ∨ b = s1.heap.objs.size := by simpa using kb
      have kle : s1.heap.objs.size ≤ b := by
        rcases f' with zz | zz
        · rw [zz]; exact Nat.le_add_right _ _
        · rw [zz]; exact Nat.le_refl _
      exact J2.fpOk kle (J2.hok.fresh kle)
    rcases q1 with ⟨kq, qq⟩ | ⟨kq, qq⟩
    · obtain ⟨us1, rw1, pp', kz⟩ := J2.list kq
      refine call_enumerate_list pp'.isList fun h' ke kit ksz kk => wpAny_pyIter_enum ke ?_
      have J3 : Inv X pins σ H1 { s1 with heap := h' } := J2.kept (t' := s1.toks) kk
      exact ⟨s1.heap.objs.size + 1, [s1.heap.objs.size + 1, s1.heap.objs.size], _, _, H1, rfl, J3, turn_enum a (s1.heap.objs.size + 1) s1.heap.objs.size, ⟨⟨.none, ke⟩, kit, Nat.succ_ne_self _⟩, fresh2, qq⟩
    · obtain ⟨us1, rw1, pp', kz⟩ := J2.tuple kq
      have al : a < s1.heap.objs.size := by obtain ⟨o1, ho1, _⟩ := id pp'; exact Heap.lt_size ho1
      refine call_enumerate_tup (show s1.heap.IsTuple a us1.toArray from pp') fun h' ke kit ksz kk => wpAny_pyIter_enum ke ?_
      have J3 : Inv X pins σ H1 { s1 with heap := h' } := J2.kept (t' := s1.toks) kk
      exact ⟨s1.heap.objs.size + 1, [s1.heap.objs.size + 1, s1.heap.objs.size], _, _, H1, rfl, J3, turn_enumT a (s1.heap.objs.size + 1) s1.heap.objs.size, ⟨⟨.none, ke⟩, kit, Nat.succ_ne_self _, Nat.ne_of_gt (Nat.lt_succ_of_lt al), Nat.ne_of_lt al⟩, fresh2, qq⟩
/-- (0, x), (1, y), .. -/
def enumD (k : Nat) : List PyData → List PyData
  | [] => []
  | x :: xs => .tuple [.int (k : Int), x] :: enumD (k + 1) xs
theorem enumD_get : ∀ {xs : List PyData} {k i : Nat} {zz : PyData}, (enumD k xs)[i]? = some zz → ∃ x, xs[i]? = some x ∧ zz = .tuple [.int ((k + i : Nat) : Int), x]
  | [], k, i, zz, h => by simp [enumD] at h
  | x :: xs, k, 0, zz, h => by
    have : zz = .tuple [.int (k : Int), x] := by simpa [enumD] using h.symm
    exact ⟨x, rfl, this⟩
  | x :: xs, k, i + 1, zz, h => by
    obtain ⟨a, h1, h2⟩ := enumD_get (xs := xs) (k := k + 1) (i := i) (zz := zz) (by simpa [enumD] using h)
    refine ⟨a, by simpa using h1, ?_⟩
    have e : k + 1 + i = k + (i + 1) := by omega
    rw [h2, e]
theorem enumD_len : ∀ (k : Nat) (xs : List PyData), (enumD k xs).length = xs.length
  | _, [] => rfl
  | k, x :: xs => by
    show (enumD (k + 1) xs).length + 1 = xs.length + 1
    rw [enumD_len (k + 1) xs]
theorem walk_enumL {K : KF} {a : Addr} {xs : List PyData} : Walks K (Ite K.1 a) [(some (.ref a), .d (.list xs))] (enumD 0 xs) := by
  intro i H rest h
  obtain ⟨vs, h1, h2⟩ := held_list h List.mem_cons_self
  refine ⟨fun zz ez => ?_, fun kl => ⟨vs, SqL.of h1, by rw [enumD_len] at kl; rw [h2.length]; exact kl⟩⟩
  obtain ⟨x, ex, rfl⟩ := enumD_get ez
  obtain ⟨v, e1, d1⟩ := h2.get ex
  refine ⟨⟨vs, v, SqL.of h1, e1⟩, fun x' H' ⟨T, x1, q1, q2, q3, q4⟩ => ?_⟩
  subst q1 q3
  have z1 := q4 vs (SqL.of h1)
  rw [e1] at z1; cases z1
  rw [Nat.zero_add]
  exact pair_new h q2 (.int _) d1
theorem walk_enumT {K : KF} {a : Addr} {xs : List PyData} : Walks K (IteT K.1 a) [(some (.ref a), .d (.tuple xs))] (enumD 0 xs) := by
  intro i H rest h
  obtain ⟨vs, h1, h2⟩ := held_tup h List.mem_cons_self
  refine ⟨fun zz ez => ?_, fun kl => ⟨vs, h1, by rw [enumD_len] at kl; rw [h2.length]; exact kl⟩⟩
  obtain ⟨x, ex, rfl⟩ := enumD_get ez
  obtain ⟨v, e1, d1⟩ := h2.get ex
  refine ⟨⟨vs, v, h1, e1⟩, fun x' H' ⟨T, x1, q1, q2, q3, q4⟩ => ?_⟩
  subst q1 q3
  have z1 := q4 vs h1
  rw [e1] at z1; cases z1
  rw [Nat.zero_add]
  exact pair_new h q2 (.int _) d1
def tdEnum (t : TD) : TDI := fun Γ P => t Γ fun rr1 Γ1 => ∃ xs, seqS rr1.1 = some xs ∧ P (enumD 0 xs) [rr1] Γ1
theorem di_enum {elts : List Expr} {kk : Nat} (kg : Gl X "enumerate") (hm : X.mg "enumerate" = none) (ha : DE T X e t) (hs1 : starEach (e :: []) X.env = (false, eval e X.env) :: starEach [] X.env := by rfl) (ks : starEach [e] X.env = [(false, eval e X.env)] := by rfl) :
    DI T X (.Tuple elts kk tpos) (.Call (.Name "enumerate" pp) [e] [] pos) (tdEnum t) := by
  obtain ⟨te, h1, h2⟩ := ha
  refine ⟨_, pi_enumA kg hm (pa_cons h1 pa_nil hs1) ks, fun σ H Γ ex P Q h pp qq => ?_⟩
  refine h2 σ H Γ ex _ _ h pp fun v H' rr1 Γ' ke og p1 => ?_
  obtain ⟨xs, es, p1⟩ := p1
  obtain ⟨s, o⟩ := rr1
  have fin : ∀ J, Walks (X.K, T) J (tmpS [v] [frz s]) (enumD 0 xs) → Q J H' := fun J w => qq J H' [v] [(s, o)] (enumD 0 xs) Γ' ke (.cons og .nil) w p1
  cases s with
  | m ys =>
    cases es
    obtain ⟨a, vs, rfl, h3, h4, _⟩ := ke.hs.front.get_m
    exact ⟨a, vs, rfl, .inl ⟨SqL.of h3, fin _ walk_enumL⟩⟩
  | d x =>
    cases x with
    | list ys =>
      cases es
      have d := ke.hs.front.get_d
      cases d with
      | lst h3 h4 => exact ⟨_, _, rfl, .inl ⟨SqL.of (hid_sub _ _ h3), fin _ walk_enumL⟩⟩
    | tuple ys =>
      cases es
      have d := ke.hs.front.get_d
      cases d with
      | tup h3 h4 => exact ⟨_, _, rfl, .inr ⟨sqT_sub h3, fin _ walk_enumT⟩⟩
    | _ => cases es
  | _ => cases es
end
end DL

namespace DL
open PySem PySem.Spec PyProof.Rows L2 RZ
/-- the built-ins' names stand for the built-ins -/
structure BI (mg : Str → Option Value) : Prop where
  len : mg "len" = none
  int : mg "int" = none
  abs : mg "abs" = none
  min : mg "min" = none
  max : mg "max" = none
  tuple : mg "tuple" = none
  list : mg "list" = none
  bool : mg "bool" = none
  str : mg "str" = none
  range : mg "range" = none
  enumerate : mg "enumerate" = none
  zip : mg "zip" = none
  reversed : mg "reversed" = none
  isinstance : mg "isinstance" = none
  all : mg "all" = none
  any : mg "any" = none
  sorted : mg "sorted" = none
  set : mg "set" = none
  dict : mg "dict" = none
/-- a constant of the module -/
def ConstAt (K : PySem.W.Frag) (mg : Str → Option Value) (y : Str) (d : PyData) : Prop := ∃ v uv, mg y = some uv ∧ RelV v uv ∧ ∀ H, Dt K H v d
section
variable {T : Tbs} {X : Cx} {a b c e o : Expr} {es : List Expr} {u : TDA} {t ta tb tc : TD} {p pos q : Pos} {fx : List Nat} {y : Str} {d : PyData}
theorem de_const (h : ConstAt X.K X.mg y d) (hg : Gl X y := by rfl) (hdb : (y == ("__debug__" : Str)) = false := by decide) : DE T X (.Name y pos) (tdC d) := by
  obtain ⟨v, uv, h1, h2, h3⟩ := h
  exact de_glob h1 h2 h3 hg hdb
def tdNeg (t : TD) : TD := fun Γ P => t Γ fun r Γ1 => ∃ i, r.1 = .d (.int i) ∧ P (.d (.int (-i)), none) Γ1
theorem de_neg (ha : DE T X a t) : DE T X (.UnaryOp .USub a pos) (tdNeg t) := by
  obtain ⟨te, h1, h2⟩ := ha
  refine ⟨_, pe_un un_neg h1, fun σ H Γ ex P Q h p q => ?_⟩
  refine h2 σ H Γ ex _ _ h p fun v H' r Γ' he og p1 => ?_
  obtain ⟨i, e, p1⟩ := p1
  obtain ⟨s, o⟩ := r
  cases e
  have d := he.hs.front.get_d
  cases d
  exact ⟨i, rfl, q _ _ _ _ (he.dropx.addd (.int _)) Og.none p1⟩
theorem ds_retN : DS T X fx (.Return none pos) (fun E Γ => E.rt (.d .none) Γ) := ⟨_, ps_retN, fun ρ σ H Γ ex E D h p c => c.rt _ _ _ _ _ ⟨h.he.addd .non, h.fix⟩ p⟩
def tdAsg (t : TD) (g : TDG) : TDS := fun E Γ => t Γ fun r Γ1 => ∃ x, r.1 = .d x ∧ g x Γ1 E.nx
theorem ds_asg {st : Stmt} {tg : Expr} {g : TDG} {ws : List Nat} (hp : ∀ te g, PE X e te → PG X tg g → PS X st (tAsg te g)) (he : DE T X e t) (hg : DG T X fx tg ws g) : DS T X fx st (tdAsg t g) := by
  obtain ⟨te, h1, h2⟩ := he
  obtain ⟨gg, h3, h4⟩ := hg
  refine ⟨_, hp _ _ h1 h3, fun ρ σ H Γ ex E D h p c => ?_⟩
  refine h2 σ H Γ ex _ _ h.he p fun v H' r Γ' he og p1 => ?_
  obtain ⟨x, e, p1⟩ := p1
  obtain ⟨s, o⟩ := r
  cases e
  exact h4 ρ x v σ H' Γ' ex _ _ ⟨he, h.fix⟩ p1 fun σ2 H2 Γ2 h2' _ p2 => c.nx _ _ _ h2' p2
/-- a < b < c and its kin, of ints -/
def tdChain (f g : Int → Int → Bool) (ta tb tc : TD) : TD := fun Γ P => ta Γ fun r1 Γ1 => tb Γ1 fun r2 Γ2 => ∃ i j, r1.1 = .d (.int i) ∧ r2.1 = .d (.int j) ∧
  if f i j = true then tc Γ2 fun r3 Γ3 => ∃ k, r3.1 = .d (.int k) ∧ P (.d (.bool (g j k)), none) Γ3 else P (.d (.bool false), none) Γ2
theorem chain_sound {K : KF} {f g : Int → Int → Bool} {t1 t2 t3 : TE} (k2 : Sound K t1 ta) (k4 : Sound K t2 tb) (k6 : Sound K t3 tc) : Sound K (tChain (rI0 fun i j => .bl (f i j)) (rI0 fun i j => .bl (g i j)) t1 t2 t3) (tdChain f g ta tb tc) := by
  intro σ H Γ ex P Q h p q
  refine k2 σ H Γ ex _ _ h p fun v H1 r1 Γ1 he og p1 => ?_
  refine k4 σ H1 Γ1 _ _ _ he p1 fun w H2 r2 Γ2 he2 og2 p2 => ?_
  obtain ⟨i, j, e1, e2, p2⟩ := p2
  obtain ⟨s1, o1⟩ := r1
  obtain ⟨s2, o2⟩ := r2
  cases e1
  cases e2
  have d2 := he2.hs.front.get_d
  have d1 := he2.dropx.hs.front.get_d
  cases d1
  cases d2
  refine ⟨i, j, rfl, rfl, f i j, rfl, ?_⟩
  by_cases cc : f i j = true
  · rw [if_pos cc] at p2 ⊢
    refine k6 σ H2 Γ2 _ _ _ he2.dropx.dropx p2 fun x H3 r3 Γ3 he3 og3 p3 => ?_
    obtain ⟨k, e3, p3⟩ := p3
    obtain ⟨s3, o3⟩ := r3
    cases e3
    have d3 := he3.hs.front.get_d
    cases d3
    exact ⟨j, k, rfl, rfl, q _ _ _ _ (he3.dropx.addd (.bl _)) Og.none p3⟩
  · rw [if_neg cc] at p2 ⊢
    exact q _ _ _ _ (he2.dropx.dropx.addd (.bl _)) Og.none p2
theorem de_chain {op op' : CmpOp} {f g : Int → Int → Bool} (h1 : OpR X (compareOp op) (rI0 fun i j => .bl (f i j))) (h2 : OpR X (compareOp op') (rI0 fun i j => .bl (g i j))) (ha : DE T X a ta) (hb : DE T X b tb) (hc : DE T X c tc)
    (hm : lastMarks [op, op'] [b, c] = false := by with_unfolding_all rfl) : DE T X (.Compare a [op, op'] [b, c] pos) (tdChain f g ta tb tc) := by
  obtain ⟨t1, k1, k2⟩ := ha
  obtain ⟨t2, k3, k4⟩ := hb
  obtain ⟨t3, k5, k6⟩ := hc
  exact ⟨_, pe_chain h1 h2 k1 k3 k5 hm, chain_sound k2 k4 k6⟩
theorem dt_chain {op op' : CmpOp} {f g : Int → Int → Bool} (h1 : OpR X (compareOp op) (rI0 fun i j => .bl (f i j))) (h2 : OpR X (compareOp op') (rI0 fun i j => .bl (g i j))) (ha : DE T X a ta) (hb : DE T X b tb) (hc : DE T X c tc)
    (hm : lastMarks [op, op'] [b, c] = false := by with_unfolding_all rfl) : DT T X (.Compare a [op, op'] [b, c] pos) (tdTest (tdChain f g ta tb tc)) := by
  obtain ⟨t1, k1, k2⟩ := ha
  obtain ⟨t2, k3, k4⟩ := hb
  obtain ⟨t3, k5, k6⟩ := hc
  exact ⟨_, pt_chain h1 h2 k1 k3 k5 hm, (chain_sound k2 k4 k6).test⟩
theorem dt_chainEL (ha : DE T X a ta) (hb : DE T X b tb) (hc : DE T X c tc) (hm : lastMarks [.LtE, .Lt] [b, c] = false := by with_unfolding_all rfl) : DT T X (.Compare a [.LtE, .Lt] [b, c] pos) (tdTest (tdChain (fun i j => decide (i ≤ j)) (fun i j => decide (i < j)) ta tb tc)) := dt_chain op_le op_lt ha hb hc hm
theorem dt_chainEE (ha : DE T X a ta) (hb : DE T X b tb) (hc : DE T X c tc) (hm : lastMarks [.LtE, .LtE] [b, c] = false := by with_unfolding_all rfl) : DT T X (.Compare a [.LtE, .LtE] [b, c] pos) (tdTest (tdChain (fun i j => decide (i ≤ j)) (fun i j => decide (i ≤ j)) ta tb tc)) := dt_chain op_le op_le ha hb hc hm
theorem dt_chainLL (ha : DE T X a ta) (hb : DE T X b tb) (hc : DE T X c tc) (hm : lastMarks [.Lt, .Lt] [b, c] = false := by with_unfolding_all rfl) : DT T X (.Compare a [.Lt, .Lt] [b, c] pos) (tdTest (tdChain (fun i j => decide (i < j)) (fun i j => decide (i < j)) ta tb tc)) := dt_chain op_lt op_lt ha hb hc hm
theorem de_chainEL (ha : DE T X a ta) (hb : DE T X b tb) (hc : DE T X c tc) (hm : lastMarks [.LtE, .Lt] [b, c] = false := by with_unfolding_all rfl) : DE T X (.Compare a [.LtE, .Lt] [b, c] pos) (tdChain (fun i j => decide (i ≤ j)) (fun i j => decide (i < j)) ta tb tc) := de_chain op_le op_lt ha hb hc hm
theorem de_chainEE (ha : DE T X a ta) (hb : DE T X b tb) (hc : DE T X c tc) (hm : lastMarks [.LtE, .LtE] [b, c] = false := by with_unfolding_all rfl) : DE T X (.Compare a [.LtE, .LtE] [b, c] pos) (tdChain (fun i j => decide (i ≤ j)) (fun i j => decide (i ≤ j)) ta tb tc) := de_chain op_le op_le ha hb hc hm
theorem de_chainLL (ha : DE T X a ta) (hb : DE T X b tb) (hc : DE T X c tc) (hm : lastMarks [.Lt, .Lt] [b, c] = false := by with_unfolding_all rfl) : DE T X (.Compare a [.Lt, .Lt] [b, c] pos) (tdChain (fun i j => decide (i < j)) (fun i j => decide (i < j)) ta tb tc) := de_chain op_lt op_lt ha hb hc hm
/-- isinstance against the written classes -/
def ansOf (Ty : String) : String → Option Bool := fun S =>
  if S = "NoneType" ∨ S = "bool" ∨ S = "int" ∨ S = "str" ∨ S = "list" ∨ S = "tuple" then some (S == Ty || (S == "bool" && Ty == "int")) else none
def ansOf2 (Ty Ty' : String) : String → Option Bool := fun S =>
  if S = "NoneType" ∨ S = "bool" ∨ S = "int" ∨ S = "str" ∨ S = "list" ∨ S = "tuple" then some (S == Ty || S == Ty' || (S == "bool" && (Ty == "int" || Ty' == "int"))) else none
theorem ans_one {K : PySem.W.Frag} {Ty : String} (h : ∀ S ∈ ["NoneType", "bool", "int", "str", "list", "tuple"], PySem.W.kitOne K (.type S) (.type Ty) = ansOf Ty S) : ∀ S b, ansOf Ty S = some b → PySem.W.kitOne K (.type S) (.type Ty) = some b := fun S b e => by
  have hm : S ∈ ["NoneType", "bool", "int", "str", "list", "tuple"] := by
    unfold ansOf at e
    split at e
    · rename_i z
      rcases z with z | z | z | z | z | z <;> (subst z; decide)
    · cases e
  rw [h S hm]; exact e
theorem ans_two {K : PySem.W.Frag} {Ty Ty' : String} (h : ∀ S ∈ ["NoneType", "bool", "int", "str", "list", "tuple"], PySem.W.kitAny K (.type S) [.type Ty, .type Ty'] = ansOf2 Ty Ty' S) : ∀ S b, ansOf2 Ty Ty' S = some b → PySem.W.kitAny K (.type S) [.type Ty, .type Ty'] = some b := fun S b e => by
  have hm : S ∈ ["NoneType", "bool", "int", "str", "list", "tuple"] := by
    unfold ansOf2 at e
    split at e
    · rename_i z
      rcases z with z | z | z | z | z | z <;> (subst z; decide)
    · cases e
  rw [h S hm]; exact e
theorem kits_int {K : PySem.W.Frag} : ∀ S ∈ ["NoneType", "bool", "int", "str", "list", "tuple"], PySem.W.kitOne K (.type S) (.type "int") = ansOf "int" S := fun S hm => by
  simp only [List.mem_cons, List.mem_nil_iff, or_false] at hm
  rcases hm with z | z | z | z | z | z <;> subst z
  · rw [show ansOf "int" "NoneType" = some false by decide +kernel]; exact kit_ty (by decide +kernel)
  · rw [show ansOf "int" "bool" = some true by decide +kernel]; exact kit_ty (by decide +kernel)
  · rw [show ansOf "int" "int" = some true by decide +kernel]; exact kit_ty (by decide +kernel)
  · rw [show ansOf "int" "str" = some false by decide +kernel]; exact kit_ty (by decide +kernel)
  · rw [show ansOf "int" "list" = some false by decide +kernel]; exact kit_ty (by decide +kernel)
  · rw [show ansOf "int" "tuple" = some false by decide +kernel]; exact kit_ty (by decide +kernel)
theorem kits_bool {K : PySem.W.Frag} : ∀ S ∈ ["NoneType", "bool", "int", "str", "list", "tuple"], PySem.W.kitOne K (.type S) (.type "bool") = ansOf "bool" S := fun S hm => by
  simp only [List.mem_cons, List.mem_nil_iff, or_false] at hm
  rcases hm with z | z | z | z | z | z <;> subst z
  · rw [show ansOf "bool" "NoneType" = some false by decide +kernel]; exact kit_ty (by decide +kernel)
  · rw [show ansOf "bool" "bool" = some true by decide +kernel]; exact kit_ty (by decide +kernel)
  · rw [show ansOf "bool" "int" = some false by decide +kernel]; exact kit_ty (by decide +kernel)
  · rw [show ansOf "bool" "str" = some false by decide +kernel]; exact kit_ty (by decide +kernel)
  · rw [show ansOf "bool" "list" = some false by decide +kernel]; exact kit_ty (by decide +kernel)
  · rw [show ansOf "bool" "tuple" = some false by decide +kernel]; exact kit_ty (by decide +kernel)
theorem kits_tuple {K : PySem.W.Frag} : ∀ S ∈ ["NoneType", "bool", "int", "str", "list", "tuple"], PySem.W.kitOne K (.type S) (.type "tuple") = ansOf "tuple" S := fun S hm => by
  simp only [List.mem_cons, List.mem_nil_iff, or_false] at hm
  rcases hm with z | z | z | z | z | z <;> subst z
  · rw [show ansOf "tuple" "NoneType" = some false by decide +kernel]; exact kit_ty (by decide +kernel)
  · rw [show ansOf "tuple" "bool" = some false by decide +kernel]; exact kit_ty (by decide +kernel)
  · rw [show ansOf "tuple" "int" = some false by decide +kernel]; exact kit_ty (by decide +kernel)
  · rw [show ansOf "tuple" "str" = some false by decide +kernel]; exact kit_ty (by decide +kernel)
  · rw [show ansOf "tuple" "list" = some false by decide +kernel]; exact kit_ty (by decide +kernel)
  · rw [show ansOf "tuple" "tuple" = some true by decide +kernel]; exact kit_ty (by decide +kernel)
theorem kits_list {K : PySem.W.Frag} : ∀ S ∈ ["NoneType", "bool", "int", "str", "list", "tuple"], PySem.W.kitOne K (.type S) (.type "list") = ansOf "list" S := fun S hm => by
  simp only [List.mem_cons, List.mem_nil_iff, or_false] at hm
  rcases hm with z | z | z | z | z | z <;> subst z
  · rw [show ansOf "list" "NoneType" = some false by decide +kernel]; exact kit_ty (by decide +kernel)
  · rw [show ansOf "list" "bool" = some false by decide +kernel]; exact kit_ty (by decide +kernel)
  · rw [show ansOf "list" "int" = some false by decide +kernel]; exact kit_ty (by decide +kernel)
  · rw [show ansOf "list" "str" = some false by decide +kernel]; exact kit_ty (by decide +kernel)
  · rw [show ansOf "list" "list" = some true by decide +kernel]; exact kit_ty (by decide +kernel)
  · rw [show ansOf "list" "tuple" = some false by decide +kernel]; exact kit_ty (by decide +kernel)
theorem kits_str {K : PySem.W.Frag} : ∀ S ∈ ["NoneType", "bool", "int", "str", "list", "tuple"], PySem.W.kitOne K (.type S) (.type "str") = ansOf "str" S := fun S hm => by
  simp only [List.mem_cons, List.mem_nil_iff, or_false] at hm
  rcases hm with z | z | z | z | z | z <;> subst z
  · rw [show ansOf "str" "NoneType" = some false by decide +kernel]; exact kit_ty (by decide +kernel)
  · rw [show ansOf "str" "bool" = some false by decide +kernel]; exact kit_ty (by decide +kernel)
  · rw [show ansOf "str" "int" = some false by decide +kernel]; exact kit_ty (by decide +kernel)
  · rw [show ansOf "str" "str" = some true by decide +kernel]; exact kit_ty (by decide +kernel)
  · rw [show ansOf "str" "list" = some false by decide +kernel]; exact kit_ty (by decide +kernel)
  · rw [show ansOf "str" "tuple" = some false by decide +kernel]; exact kit_ty (by decide +kernel)
theorem kits_list_tuple {K : PySem.W.Frag} : ∀ S ∈ ["NoneType", "bool", "int", "str", "list", "tuple"], PySem.W.kitAny K (.type S) [.type "list", .type "tuple"] = ansOf2 "list" "tuple" S := fun S hm => by
  simp only [List.mem_cons, List.mem_nil_iff, or_false] at hm
  rcases hm with z | z | z | z | z | z <;> subst z
  · rw [show ansOf2 "list" "tuple" "NoneType" = some false by decide +kernel]; unfold PySem.W.kitAny; rw [kit_ty (r := false) (by decide +kernel)]; unfold PySem.W.kitAny; rw [kit_ty (r := false) (by decide +kernel)]; rfl
  · rw [show ansOf2 "list" "tuple" "bool" = some false by decide +kernel]; unfold PySem.W.kitAny; rw [kit_ty (r := false) (by decide +kernel)]; unfold PySem.W.kitAny; rw [kit_ty (r := false) (by decide +kernel)]; rfl
  · rw [show ansOf2 "list" "tuple" "int" = some false by decide +kernel]; unfold PySem.W.kitAny; rw [kit_ty (r := false) (by decide +kernel)]; unfold PySem.W.kitAny; rw [kit_ty (r := false) (by decide +kernel)]; rfl
  · rw [show ansOf2 "list" "tuple" "str" = some false by decide +kernel]; unfold PySem.W.kitAny; rw [kit_ty (r := false) (by decide +kernel)]; unfold PySem.W.kitAny; rw [kit_ty (r := false) (by decide +kernel)]; rfl
  · rw [show ansOf2 "list" "tuple" "list" = some true by decide +kernel]; unfold PySem.W.kitAny; rw [kit_ty (r := true) (by decide +kernel)]
  · rw [show ansOf2 "list" "tuple" "tuple" = some true by decide +kernel]; unfold PySem.W.kitAny; rw [kit_ty (r := false) (by decide +kernel)]; unfold PySem.W.kitAny; rw [kit_ty (r := true) (by decide +kernel)]
theorem kits_bool_str {K : PySem.W.Frag} : ∀ S ∈ ["NoneType", "bool", "int", "str", "list", "tuple"], PySem.W.kitAny K (.type S) [.type "bool", .type "str"] = ansOf2 "bool" "str" S := fun S hm => by
  simp only [List.mem_cons, List.mem_nil_iff, or_false] at hm
  rcases hm with z | z | z | z | z | z <;> subst z
  · rw [show ansOf2 "bool" "str" "NoneType" = some false by decide +kernel]; unfold PySem.W.kitAny; rw [kit_ty (r := false) (by decide +kernel)]; unfold PySem.W.kitAny; rw [kit_ty (r := false) (by decide +kernel)]; rfl
  · rw [show ansOf2 "bool" "str" "bool" = some true by decide +kernel]; unfold PySem.W.kitAny; rw [kit_ty (r := true) (by decide +kernel)]
  · rw [show ansOf2 "bool" "str" "int" = some false by decide +kernel]; unfold PySem.W.kitAny; rw [kit_ty (r := false) (by decide +kernel)]; unfold PySem.W.kitAny; rw [kit_ty (r := false) (by decide +kernel)]; rfl
  · rw [show ansOf2 "bool" "str" "str" = some true by decide +kernel]; unfold PySem.W.kitAny; rw [kit_ty (r := false) (by decide +kernel)]; unfold PySem.W.kitAny; rw [kit_ty (r := true) (by decide +kernel)]
  · rw [show ansOf2 "bool" "str" "list" = some false by decide +kernel]; unfold PySem.W.kitAny; rw [kit_ty (r := false) (by decide +kernel)]; unfold PySem.W.kitAny; rw [kit_ty (r := false) (by decide +kernel)]; rfl
  · rw [show ansOf2 "bool" "str" "tuple" = some false by decide +kernel]; unfold PySem.W.kitAny; rw [kit_ty (r := false) (by decide +kernel)]; unfold PySem.W.kitAny; rw [kit_ty (r := false) (by decide +kernel)]; rfl
theorem isi_int (B : BI X.mg) (ha : DE T X a t) (hg : Gl X "isinstance" := by rfl) (hgy : Gl X "int" := by rfl)
    (hs1 : starEach (.Name "int" q :: []) X.env = (false, eval (.Name "int" q) X.env) :: starEach [] X.env := by rfl)
    (hs : starEach (a :: [.Name "int" q]) X.env = (false, eval a X.env) :: starEach [.Name "int" q] X.env := by rfl) (hpl : (backTo pos (starEach [.Name "int" q] X.env)).any (·.1) = false := by rfl) :
    DE T X (.Call (.Name "isinstance" p) [a, .Name "int" q] [] pos) (tdIsi t (ansOf "int")) := de_isi (Ty := "int") B.isinstance B.int (by decide +kernel) ha (ans_one kits_int) hg hgy (by decide) (by decide) hs1 hs hpl
theorem isi_bool (B : BI X.mg) (ha : DE T X a t) (hg : Gl X "isinstance" := by rfl) (hgy : Gl X "bool" := by rfl)
    (hs1 : starEach (.Name "bool" q :: []) X.env = (false, eval (.Name "bool" q) X.env) :: starEach [] X.env := by rfl)
    (hs : starEach (a :: [.Name "bool" q]) X.env = (false, eval a X.env) :: starEach [.Name "bool" q] X.env := by rfl) (hpl : (backTo pos (starEach [.Name "bool" q] X.env)).any (·.1) = false := by rfl) :
    DE T X (.Call (.Name "isinstance" p) [a, .Name "bool" q] [] pos) (tdIsi t (ansOf "bool")) := de_isi (Ty := "bool") B.isinstance B.bool (by decide +kernel) ha (ans_one kits_bool) hg hgy (by decide) (by decide) hs1 hs hpl
theorem isi_tuple (B : BI X.mg) (ha : DE T X a t) (hg : Gl X "isinstance" := by rfl) (hgy : Gl X "tuple" := by rfl)
    (hs1 : starEach (.Name "tuple" q :: []) X.env = (false, eval (.Name "tuple" q) X.env) :: starEach [] X.env := by rfl)
    (hs : starEach (a :: [.Name "tuple" q]) X.env = (false, eval a X.env) :: starEach [.Name "tuple" q] X.env := by rfl) (hpl : (backTo pos (starEach [.Name "tuple" q] X.env)).any (·.1) = false := by rfl) :
    DE T X (.Call (.Name "isinstance" p) [a, .Name "tuple" q] [] pos) (tdIsi t (ansOf "tuple")) := de_isi (Ty := "tuple") B.isinstance B.tuple (by decide +kernel) ha (ans_one kits_tuple) hg hgy (by decide) (by decide) hs1 hs hpl
theorem isi_list (B : BI X.mg) (ha : DE T X a t) (hg : Gl X "isinstance" := by rfl) (hgy : Gl X "list" := by rfl)
    (hs1 : starEach (.Name "list" q :: []) X.env = (false, eval (.Name "list" q) X.env) :: starEach [] X.env := by rfl)
    (hs : starEach (a :: [.Name "list" q]) X.env = (false, eval a X.env) :: starEach [.Name "list" q] X.env := by rfl) (hpl : (backTo pos (starEach [.Name "list" q] X.env)).any (·.1) = false := by rfl) :
    DE T X (.Call (.Name "isinstance" p) [a, .Name "list" q] [] pos) (tdIsi t (ansOf "list")) := de_isi (Ty := "list") B.isinstance B.list (by decide +kernel) ha (ans_one kits_list) hg hgy (by decide) (by decide) hs1 hs hpl
theorem isi_str (B : BI X.mg) (ha : DE T X a t) (hg : Gl X "isinstance" := by rfl) (hgy : Gl X "str" := by rfl)
    (hs1 : starEach (.Name "str" q :: []) X.env = (false, eval (.Name "str" q) X.env) :: starEach [] X.env := by rfl)
    (hs : starEach (a :: [.Name "str" q]) X.env = (false, eval a X.env) :: starEach [.Name "str" q] X.env := by rfl) (hpl : (backTo pos (starEach [.Name "str" q] X.env)).any (·.1) = false := by rfl) :
    DE T X (.Call (.Name "isinstance" p) [a, .Name "str" q] [] pos) (tdIsi t (ansOf "str")) := de_isi (Ty := "str") B.isinstance B.str (by decide +kernel) ha (ans_one kits_str) hg hgy (by decide) (by decide) hs1 hs hpl
theorem isi_list_tuple {q' pt : Pos} {kk : Nat} (B : BI X.mg) (ha : DE T X a t) (hg : Gl X "isinstance" := by rfl) (hgy : Gl X "list" := by rfl) (hgy' : Gl X "tuple" := by rfl)
    (hs0 : starEach (.Name "tuple" q' :: []) X.env = (false, eval (.Name "tuple" q') X.env) :: starEach [] X.env := by rfl)
    (hs1 : starEach (.Name "list" q :: [.Name "tuple" q']) X.env = (false, eval (.Name "list" q) X.env) :: starEach [.Name "tuple" q'] X.env := by rfl)
    (hs2 : starEach (.Tuple [.Name "list" q, .Name "tuple" q'] kk pt :: []) X.env = (false, eval (.Tuple [.Name "list" q, .Name "tuple" q'] kk pt) X.env) :: starEach [] X.env := by rfl)
    (hs : starEach (a :: [.Tuple [.Name "list" q, .Name "tuple" q'] kk pt]) X.env = (false, eval a X.env) :: starEach [.Tuple [.Name "list" q, .Name "tuple" q'] kk pt] X.env := by rfl) (hpl : (backTo pos (starEach [.Tuple [.Name "list" q, .Name "tuple" q'] kk pt] X.env)).any (·.1) = false := by rfl) :
    DE T X (.Call (.Name "isinstance" p) [a, .Tuple [.Name "list" q, .Name "tuple" q'] kk pt] [] pos) (tdIsi t (ansOf2 "list" "tuple")) := de_isi2 (Ty := "list") (Ty' := "tuple") B.isinstance B.list B.tuple (by decide +kernel) (by decide +kernel) ha (ans_two kits_list_tuple) hg hgy hgy' (by decide) (by decide) (by decide) (by decide) hs0 hs1 hs2 hs hpl
theorem isi_bool_str {q' pt : Pos} {kk : Nat} (B : BI X.mg) (ha : DE T X a t) (hg : Gl X "isinstance" := by rfl) (hgy : Gl X "bool" := by rfl) (hgy' : Gl X "str" := by rfl)
    (hs0 : starEach (.Name "str" q' :: []) X.env = (false, eval (.Name "str" q') X.env) :: starEach [] X.env := by rfl)
    (hs1 : starEach (.Name "bool" q :: [.Name "str" q']) X.env = (false, eval (.Name "bool" q) X.env) :: starEach [.Name "str" q'] X.env := by rfl)
    (hs2 : starEach (.Tuple [.Name "bool" q, .Name "str" q'] kk pt :: []) X.env = (false, eval (.Tuple [.Name "bool" q, .Name "str" q'] kk pt) X.env) :: starEach [] X.env := by rfl)
    (hs : starEach (a :: [.Tuple [.Name "bool" q, .Name "str" q'] kk pt]) X.env = (false, eval a X.env) :: starEach [.Tuple [.Name "bool" q, .Name "str" q'] kk pt] X.env := by rfl) (hpl : (backTo pos (starEach [.Tuple [.Name "bool" q, .Name "str" q'] kk pt] X.env)).any (·.1) = false := by rfl) :
    DE T X (.Call (.Name "isinstance" p) [a, .Tuple [.Name "bool" q, .Name "str" q'] kk pt] [] pos) (tdIsi t (ansOf2 "bool" "str")) := de_isi2 (Ty := "bool") (Ty' := "str") B.isinstance B.bool B.str (by decide +kernel) (by decide +kernel) ha (ans_two kits_bool_str) hg hgy hgy' (by decide) (by decide) (by decide) (by decide) hs0 hs1 hs2 hs hpl
end
end DL

namespace DL
open PySem PySem.Spec PyProof.Rows L2 RZ
/-! ## list(zip(a, b)), a and b lists or tuples: the pairs are kept, so each is new -/
section
variable {pg : Program} {wd : World} {Ar : Around} {Er : Value → Shared → Prop} {sh : Shared} {z TI TO i1 i2 S : Addr} {f1 f2 : List Addr} {n1 n2 k : Nat} {U1 U2 : Nat → Value → Prop} {C1 C2 : Nat → Heap → Prop}
/-- the zip's own tuple: not given out yet, or still held by someone -/
def ZSt (z TI TO : Addr) (ch : List Addr) (h : Heap) : Prop :=
  (IsZip h z TI TO .none ∧ ∃ a b, IsTupOf2 h TO a b) ∨ ∃ G fl ob, IsZipHeld h z TI TO G fl ∧ h.get? G = some ob ∧ G ∉ ch
theorem zs_body {Q : Value → Shared → Prop} {G : Addr} {fl : Bool} {ob : Obj} (D : ZipSep2 z TI TO i1 i2 f1 f2) (D1 : Draws pg wd Ar i1 f1 n1 U1 C1) (D2 : Draws pg wd Ar i2 f2 n2 U2 C2)
    (zz : IsZipHeld sh.heap z TI TO G fl) (al : sh.heap.get? G = some ob) (ti : IsTupOf2 sh.heap TI (.ref i1) (.ref i2)) (c1 : C1 k sh.heap) (c2 : C2 k sh.heap) (l1 : k < n1) (l2 : k < n2)
    (fin : ∀ x y h' tq, U1 k x → U2 k y → IsZipHeld h' z TI TO G true → C1 (k + 1) h' → C2 (k + 1) h' → IsTupOf2 h' sh.heap.objs.size x y → (∀ c o, c ∉ [z, TO, i1, i2] → sh.heap.get? c = some o → h'.get? c = some o) → Q (.ref sh.heap.objs.size) { sh with heap := h', toks := tq }) :
    wpAny (model pg wd) Ar (Builtin.«zip.__next__» ⟨[.ref z], []⟩) (fun r s' => ∃ v, r = .done (.ret v) ∧ Q v s') Er sh := by
  obtain ⟨hp, gn, dr, tk, oz⟩ := sh
  show wpAny _ _ (field (.ref z) 2 >>= _) _ _ _; refine wpAny_bind (wpAny_field zz rfl (x := .bool false) rfl ?_)
  show wpAny _ _ (field (.ref z) 3 >>= _) _ _ _; refine wpAny_bind (wpAny_field zz rfl (x := .ref TI) rfl ?_)
  refine wpAny_bind (wpAny_seqItems ti rfl ?_); show wpAny _ _ (Builtin.SmallTypes.ownedTupleIsFree (.ref z) >>= _) _ _ _
  refine wpAny_bind (wpAny_tupleHeld_zip zz al fun g1 zz1 sb1 => ?_)
  replace sb1 : Heap.SameBut z hp g1 := sb1
  rw [if_neg Bool.false_ne_true]; refine wpAny_bind ?_; rw [← Array.forIn_toList]; rw [List.forIn_cons]
  refine wpAny_bind (wpAny_bind (wpAny_holding ?_)); show wpAny _ _ (Builtin.SmallTypes.nextOf (.ref i1) >>= _) _ _ ⟨g1, gn, dr, tk, oz⟩
  refine wpAny_bind (D1.item k _ _ _ l1 (D1.over c1 sb1 D.zf1) fun x g2 tk2 ux cx sb2 => wpAny_pure ?_)
  replace sb2 : Heap.SameBut i1 g1 g2 := sb2
  refine wpAny_pure ?_
  simp only [List.forIn_cons, List.forIn_nil]; refine wpAny_bind (wpAny_bind (wpAny_holding ?_)); show wpAny _ _ (Builtin.SmallTypes.nextOf (.ref i2) >>= _) _ _ ⟨g2, gn, dr, tk2, oz⟩
  refine wpAny_bind (D2.item k _ _ _ l2 (D2.over (D2.over c2 sb1 D.zf2) sb2 D.sep1_2) fun y g3 tk3 uy cy sb3 => wpAny_pure ?_)
  replace sb3 : Heap.SameBut i2 g2 g3 := sb3
  refine wpAny_pure (wpAny_pure ?_); show wpAny _ _ (newTuple [x, y] >>= _) _ _ ⟨g3, gn, dr, tk3, oz⟩
  refine wpAny_bind (wpAny_newTuple ?_); have sz3 : g3.objs.size = hp.objs.size := by rw [sb3.1, sb2.1, sb1.1]
  have up : ∀ c o, c ≠ z → c ≠ i1 → c ≠ i2 → hp.get? c = some o → g3.get? c = some o := fun c o a1 a2 a3 e => sb3.extBut _ _ a3 (sb2.extBut _ _ a2 (sb1.extBut _ _ a1 e))
  have zz3 : IsZipHeld g3 z TI TO G true := sb3.extBut _ _ D.zi2 (sb2.extBut _ _ D.zi1 zz1)
  refine wpAny_pure ⟨_, rfl, ?_⟩; show Q (.ref g3.objs.size) ⟨g3.push _, gn, dr, tk3, oz⟩
  have pr : IsTupOf2 (g3.push { cls := .type "tuple", data := .seq #[x, y] }) g3.objs.size x y := Heap.get?_push_size _ rfl
  rw [sz3] at pr ⊢
  have psh : ∀ c o, g3.get? c = some o → (g3.push { cls := .type "tuple", data := .seq #[x, y] }).get? c = some o := fun c o e => Heap.get?_push_of_some _ e
  refine fin x y _ tk3 ux uy (psh _ _ zz3) (D1.frame _ _ _ (D1.over cx sb3 D.sep2_1) fun b _ o e => psh b o e) (D2.frame _ _ _ cy fun b _ o e => psh b o e) pr fun c o nc e => psh c o (up c o ?_ ?_ ?_ e)
  · exact fun q => nc (by simp [q])
  · exact fun q => nc (by simp [q])
  · exact fun q => nc (by simp [q])
theorem zs_over {Q : Fin → Shared → Prop} {G : Addr} {fl : Bool} {ob : Obj} (D : ZipSep2 z TI TO i1 i2 f1 f2) (D1 : Draws pg wd Ar i1 f1 n1 U1 C1) (D2 : Draws pg wd Ar i2 f2 n2 U2 C2)
    (zz : IsZipHeld sh.heap z TI TO G fl) (al : sh.heap.get? G = some ob) (ti : IsTupOf2 sh.heap TI (.ref i1) (.ref i2)) (c1 : C1 k sh.heap) (c2 : C2 k sh.heap) (l1 : k ≤ n1) (l2 : k ≤ n2) (le : k = n1 ∨ k = n2)
    (fin : ∀ h' tq e, (∀ c o, c ∉ [z, TO, i1, i2] → sh.heap.get? c = some o → h'.get? c = some o) → (∃ o, h'.get? e = some o ∧ o.cls = .type "StopIteration") → Er (.ref e) { sh with heap := h', toks := tq }) :
    wpAny (model pg wd) Ar (Builtin.«zip.__next__» ⟨[.ref z], []⟩) Q Er sh := by
  obtain ⟨hp, gn, dr, tk, oz⟩ := sh
  show wpAny _ _ (field (.ref z) 2 >>= _) _ _ _; refine wpAny_bind (wpAny_field zz rfl (x := .bool false) rfl ?_)
  show wpAny _ _ (field (.ref z) 3 >>= _) _ _ _; refine wpAny_bind (wpAny_field zz rfl (x := .ref TI) rfl ?_)
  refine wpAny_bind (wpAny_seqItems ti rfl ?_); show wpAny _ _ (Builtin.SmallTypes.ownedTupleIsFree (.ref z) >>= _) _ _ _
  refine wpAny_bind (wpAny_tupleHeld_zip zz al fun g1 zz1 sb1 => ?_)
  replace sb1 : Heap.SameBut z hp g1 := sb1
  rw [if_neg Bool.false_ne_true]; refine wpAny_bind ?_; rw [← Array.forIn_toList]; rw [List.forIn_cons]
  refine wpAny_bind (wpAny_bind (wpAny_holding ?_)); show wpAny _ _ (Builtin.SmallTypes.nextOf (.ref i1) >>= _) _ _ ⟨g1, gn, dr, tk, oz⟩
  by_cases ek : k = n1
  · subst ek
    refine wpAny_bind (D1.done _ _ _ (D1.over c1 sb1 D.zf1) fun g2 e xb ex => ?_)
    exact fin g2 tk e (fun c o nc ec => xb c o (fun q => nc (by simp [q])) (sb1.extBut c o (fun q => nc (by simp [q])) ec)) ex
  · have ek2 : k = n2 := by omega
    subst ek2
    refine wpAny_bind (D1.item k _ _ _ (by omega) (D1.over c1 sb1 D.zf1) fun x g2 tk2 ux cx sb2 => wpAny_pure ?_)
    replace sb2 : Heap.SameBut i1 g1 g2 := sb2
    refine wpAny_pure ?_
    simp only [List.forIn_cons, List.forIn_nil]; refine wpAny_bind (wpAny_bind (wpAny_holding ?_)); show wpAny _ _ (Builtin.SmallTypes.nextOf (.ref i2) >>= _) _ _ ⟨g2, gn, dr, tk2, oz⟩
    refine wpAny_bind (D2.done _ _ _ (D2.over (D2.over c2 sb1 D.zf2) sb2 D.sep1_2) fun g3 e xb ex => ?_)
    exact fin g3 tk2 e (fun c o nc ec => xb c o (fun q => nc (by simp [q])) (sb2.extBut c o (fun q => nc (by simp [q])) (sb1.extBut c o (fun q => nc (by simp [q])) ec))) ex
end
section
variable {pg : Program} {wd : World} {Ar : Around} {Er : Value → Shared → Prop} {sh : Shared} {z TI TO i1 i2 S : Addr} {f1 f2 : List Addr} {n1 n2 k : Nat} {U1 U2 : Nat → Value → Prop} {C1 C2 : Nat → Heap → Prop} {ch : List Addr}
/-- a turn, whoever holds the zip's tuple -/
theorem zst_item {Q : Option Value → Shared → Prop} (D : ZipSep2 z TI TO i1 i2 f1 f2) (D1 : Draws pg wd Ar.in1 i1 f1 n1 U1 C1) (D2 : Draws pg wd Ar.in1 i2 f2 n2 U2 C2)
    (zs : ZSt z TI TO ch sh.heap) (lt : ∀ c ∈ ch, c < sh.heap.objs.size) (ti : IsTupOf2 sh.heap TI (.ref i1) (.ref i2)) (c1 : C1 k sh.heap) (c2 : C2 k sh.heap) (l1 : k < n1) (l2 : k < n2)
    (fin : ∀ x y h' tq, U1 k x → U2 k y → ZSt z TI TO ch h' → C1 (k + 1) h' → C2 (k + 1) h' → IsTupOf2 h' sh.heap.objs.size x y → (∀ c o, c ∉ [z, TO, i1, i2] → sh.heap.get? c = some o → h'.get? c = some o) → Q (some (.ref sh.heap.objs.size)) { sh with heap := h', toks := tq })
    (sub : ∀ c ∈ [z, TO, i1, i2], c ∈ ch) : wpAny (model pg wd) Ar (pyNext (.ref z)) Q Er sh := by
  have nch : sh.heap.objs.size ∉ ch := fun q => Nat.lt_irrefl _ (lt _ q)
  rcases zs with ⟨zz, a, b, to⟩ | ⟨G, fl, ob, zz, al, ng⟩
  · refine wpAny_pyNext_zipD2_item D D1 D2 zz ti to c1 c2 l1 l2 fun x y h' tq ux uy zz' _ d1 d2 pr _ up => ?_
    refine fin x y h' tq ux uy (.inr ⟨_, false, _, zz', pr, nch⟩) d1 d2 pr fun c o nc e => up c o (fun q => nc (by simp [q])) (fun q => nc (by simp [q])) (fun q => nc (by simp [q])) (fun q => nc (by simp [q])) e
  · have ty : sh.TypeIs (.ref z) "zip" := ⟨_, zz, rfl⟩
    unfold pyNext
    refine wpAny_bind (wpAny_attempt (wpAny_callSpecial?_slot (name := Str.ofString "__next__") ty F.slot_zip_next (wpAny_call_entry F.slot_zip_next ty F.entry_zip_next (zs_body D D1 D2 zz al ti c1 c2 l1 l2 fun x y h' tq ux uy zz' d1 d2 pr up => ?_) (F.args_zip_next_1 _))))
    exact wpAny_pure (fin x y h' tq ux uy (.inr ⟨G, true, ob, zz', up G ob (fun q => ng (sub _ q)) al, ng⟩) d1 d2 pr up)
theorem zst_end {Q : Option Value → Shared → Prop} (D : ZipSep2 z TI TO i1 i2 f1 f2) (D1 : Draws pg wd Ar.in1 i1 f1 n1 U1 C1) (D2 : Draws pg wd Ar.in1 i2 f2 n2 U2 C2)
    (zs : ZSt z TI TO ch sh.heap) (ti : IsTupOf2 sh.heap TI (.ref i1) (.ref i2)) (c1 : C1 k sh.heap) (c2 : C2 k sh.heap) (l1 : k ≤ n1) (l2 : k ≤ n2) (le : k = n1 ∨ k = n2)
    (fin : ∀ h' tq, (∀ c o, c ∉ [z, TO, i1, i2] → sh.heap.get? c = some o → h'.get? c = some o) → Q none { sh with heap := h', toks := tq }) : wpAny (model pg wd) Ar (pyNext (.ref z)) Q Er sh := by
  rcases zs with ⟨zz, a, b, to⟩ | ⟨G, fl, ob, zz, al, ng⟩
  · refine wpAny_pyNext_zipD2_end D D1 D2 zz ti to c1 c2 l1 l2 le fun h' tq up => ?_
    exact fin h' tq fun c o nc e => up c o (fun q => nc (by simp [q])) (fun q => nc (by simp [q])) (fun q => nc (by simp [q])) (fun q => nc (by simp [q])) e
  · have ty : sh.TypeIs (.ref z) "zip" := ⟨_, zz, rfl⟩
    unfold pyNext
    refine wpAny_bind (wpAny_attempt (wpAny_callSpecial?_slot (name := Str.ofString "__next__") ty F.slot_zip_next (wpAny_call_entry F.slot_zip_next ty F.entry_zip_next (zs_over D D1 D2 zz al ti c1 c2 l1 l2 le fun h' tq e up ex => ?_) (F.args_zip_next_1 _))))
    obtain ⟨o, eo, co⟩ := ex
    exact wpAny_bind (wpAny_isInstance (T := "StopIteration") (b := true) ⟨o, eo, co⟩ isSubtype_stop (wpAny_pure (fin h' tq up)))
end
/-- new pairs, one after another -/
inductive Grows : Hp → List Addr → List (V × V) → Hp → Prop
  | nil (H : Hp) : Grows H [] [] H
  | snoc {H H' : Hp} {ts : List Addr} {ps : List (V × V)} {G : Addr} {x y : V} : Grows H ts ps H' → H' G = none → Grows H (ts ++ [G]) (ps ++ [(x, y)]) (upd H' G (.tup [x, y]))
theorem fpOk_upd {X : Cx} {pins : List (Addr × Obj)} {H : Hp} {b G : Addr} {o : HO} (h : FpOk X pins H b) (n : b ≠ G) : FpOk X pins (upd H G o) b := ⟨by rw [upd_ne n]; exact h.1, h.2⟩
theorem zst_keep {z TI TO S : Addr} {ch : List Addr} {h h' : Heap} (zs : ZSt z TI TO ch h) (up : ∀ c o, c ≠ S → h.get? c = some o → h'.get? c = some o) (hS : S ∈ ch) (n1 : z ≠ S) (n2 : TO ≠ S) : ZSt z TI TO ch h' := by
  rcases zs with ⟨zz, a, b, to⟩ | ⟨G, fl, ob, zz, al, ng⟩
  · exact .inl ⟨up _ _ n1 zz, a, b, up _ _ n2 to⟩
  · exact .inr ⟨G, fl, ob, up _ _ n1 zz, up _ _ (fun q => ng (by rw [q]; exact hS)) al, ng⟩
section
variable {X : Cx} {pins : List (Addr × Obj)} {σ : L2.St} {Ar : Around} {R : Result → Shared → Prop} {z TI TO i1 i2 S : Addr} {f1 f2 ch : List Addr} {xs ys : List V} {us ws : List Value} {C1 C2 : Nat → Heap → Prop} {H0 : Hp} {res : Value}
theorem zip_loop (D : ZipSep2 z TI TO i1 i2 f1 f2) (D1 : Draws X.prog X.w Ar.in1.in1 i1 f1 xs.length (fun i v => us[i]? = some v) C1) (D2 : Draws X.prog X.w Ar.in1.in1 i2 f2 ys.length (fun i v => ws[i]? = some v) C2)
    (rx : Vals xs us) (ry : Vals ys ws) (big : xs.length ≤ sizeLine) (sub : ∀ c ∈ [z, TO, i1, i2], c ∈ ch) (hTI : TI ∈ ch) (hS : S ∈ ch) (nS : S ∉ [z, TO, i1, i2]) (nI : TI ≠ S) (g1 : S ∉ f1) (g2 : S ∉ f2)
    (fin : ∀ s' H' acc c ts, Inv X pins σ H' s' → s'.heap.get? S = some { cls := .type "list", dict := none, data := .seq acc c, slots := #[] } → Vals (ts.map V.ref) acc.toList → Grows H0 ts (xs.zip ys) H' → (∀ b ∈ ch, FpOk X pins H' b) → R (.ok (.ret res)) s') :
    ∀ (m k : Nat) (s : Shared) (H : Hp) (acc : Array Value) (c : Nat) (ts : List Addr), min xs.length ys.length - k = m → k ≤ xs.length → k ≤ ys.length → Inv X pins σ H s → (∀ b ∈ ch, FpOk X pins H b) → (∀ b ∈ ch, b < s.heap.objs.size) →
      ZSt z TI TO ch s.heap → IsTupOf2 s.heap TI (.ref i1) (.ref i2) → C1 k s.heap → C2 k s.heap → s.heap.get? S = some { cls := .type "list", dict := none, data := .seq acc c, slots := #[] } → Vals (ts.map V.ref) acc.toList → Grows H0 ts ((xs.zip ys).take k) H →
      codeAny (model X.prog X.w) Ar (.builtin "list.extend.loop" ⟨[.ref S, .ref z, res], []⟩) R s := by
  have nz : z ≠ S := fun q => nS (by simp [q])
  have nO : TO ≠ S := fun q => nS (by simp [q])
  intro m
  induction m with
  | zero =>
    intro k s H acc c ts em k1 k2 J hf lt zs ti c1 c2 hl va gr
    have le : k = xs.length ∨ k = ys.length := by omega
    refine codeAny_builtin F.entry_extend_loop ?_; rw [Around.under_plainId F.plain_extend_loop _]; show wpAny _ Ar.in1 (pyNext (.ref z) >>= _) _ _ s
    refine wpAny_bind (zst_end D D1 D2 zs ti c1 c2 k1 k2 le fun h' tq up => wpAny_pure ?_)
    have e : (xs.zip ys).take k = xs.zip ys := List.take_of_length_le (by rw [List.length_zip]; omega)
    rw [e] at gr
    exact fin _ H acc c ts (J.turnedL (t' := tq) (ch := ch) (fun b o nb q => up b o (fun w => nb (sub b w)) q) hf) (up S _ nS hl) va gr hf
  | succ m ih =>
    intro k s H acc c ts em k1 k2 J hf lt zs ti c1 c2 hl va gr
    have q1 : k < xs.length := by omega
    have q2 : k < ys.length := by omega
    refine codeAny_builtin F.entry_extend_loop ?_; rw [Around.under_plainId F.plain_extend_loop _]; show wpAny _ Ar.in1 (pyNext (.ref z) >>= _) _ _ s
    refine wpAny_bind (zst_item D D1 D2 zs lt ti c1 c2 q1 q2 (fun u w h' tq eu ew zs' d1 d2 pr up => ?_) sub)
    obtain ⟨u', eu', ru⟩ := rx.get (List.getElem?_eq_getElem q1)
    obtain ⟨w', ew', rw'⟩ := ry.get (List.getElem?_eq_getElem q2)
    rw [eu] at eu'; rw [ew] at ew'; cases eu'; cases ew'
    have hl' := up S _ nS hl
    have asz : acc.size = ts.length := by have := va.length; rw [List.length_map] at this; rw [this]; simp
    have grl : ∀ {H ts ps H'}, Grows H ts ps H' → ts.length = ps.length := fun g => by induction g with
      | nil => rfl
      | snoc _ _ ih => rw [List.length_append, List.length_append, ih]; rfl
    have tl : ts.length = k := by rw [grl gr, List.length_take, List.length_zip]; omega
    show wpAny _ Ar.in1 (updateSeq S (·.push (.ref s.heap.objs.size)) >>= _) _ _ _
    refine wpAny_bind ?_
    have up2 : ∀ b o, b ≠ S → h'.get? b = some o → (h'.update S (Obj.mapSeq (·.push (Value.ref s.heap.objs.size)))).get? b = some o := fun b o nb q => (Heap.get?_update_other _ _ (Ne.symm nb)).trans q
    have nT : s.heap.objs.size ∉ ch := fun q => Nat.lt_irrefl _ (lt _ q)
    have nTS : s.heap.objs.size ≠ S := fun q => nT (by rw [q]; exact hS)
    have new : ObjOk X.prog X.w (upd H s.heap.objs.size (.tup [xs[k], ys[k]])) (h'.update S (Obj.mapSeq (·.push (Value.ref s.heap.objs.size)))) s.heap.objs.size (.tup [xs[k], ys[k]]) :=
      ⟨by show 2 ≤ sizeLine; decide, [u, w], .cons ru (.cons rw' .nil), ⟨_, up2 _ _ nTS pr, rfl, _, rfl⟩⟩
    have J2 : Inv X pins σ (upd H s.heap.objs.size (.tup [xs[k], ys[k]])) { s with heap := h'.update S (Obj.mapSeq (·.push (Value.ref s.heap.objs.size))), toks := tq } :=
      J.turnedNew (ch := ch) (fun b o nb q => up2 b o (fun v => nb (by rw [v]; exact hS)) (up b o (fun v => nb (sub b v)) q)) hf (Nat.le_refl _) new
    have hf2 : ∀ b ∈ ch, FpOk X pins (upd H s.heap.objs.size (.tup [xs[k], ys[k]])) b := fun b hb => fpOk_upd (hf b hb) (Nat.ne_of_lt (lt b hb))
    have lt2 : ∀ b ∈ ch, b < (h'.update S (Obj.mapSeq (·.push (Value.ref s.heap.objs.size)))).objs.size := fun b hb => by
      rw [Heap.size_update]
      exact Nat.lt_trans (lt b hb) (Heap.lt_size pr)
    refine wpAny_updateSeq hl' rfl (wpAny_pure ⟨plainId_quiet F.plain_extend_loop _, ih (k + 1) _ _ (acc.push (.ref s.heap.objs.size)) _ (ts ++ [s.heap.objs.size]) (by omega) q1 q2 J2 hf2 lt2
      (zst_keep zs' up2 hS nz nO) (up2 _ _ nI (up _ _ ?_ ti)) (D1.frame _ _ _ d1 fun b hb o e => up2 b o (fun v => g1 (by rw [← v]; exact hb)) e) (D2.frame _ _ _ d2 fun b hb o e => up2 b o (fun v => g2 (by rw [← v]; exact hb)) e)
      (Heap.get?_update_self _ hl' rfl) ?_ ?_⟩) (by rw [asz, tl]; omega) (by show (acc.push _).size ≤ sizeLine + 1; rw [Array.size_push, asz, tl]; omega)
    · intro q
      have q' : TI = z ∨ TI = TO ∨ TI = i1 ∨ TI = i2 := by simpa using q
      rcases q' with v | v | v | v
      · exact D.TIz v
      · exact D.TITO v
      · exact D.TIi1 v
      · exact D.TIi2 v
    · rw [List.map_append, Array.toList_push]
      exact va.append (.cons rfl .nil)
    · have e : (xs.zip ys).take (k + 1) = (xs.zip ys).take k ++ [(xs[k], ys[k])] := by
        have e0 : (xs.zip ys)[k]? = some (xs[k], ys[k]) := by
          rw [List.getElem?_zip_eq_some]
          exact ⟨List.getElem?_eq_getElem q1, List.getElem?_eq_getElem q2⟩
        rw [List.take_succ, e0]; rfl
      rw [e]
      exact gr.snoc (J.hok.fresh (Nat.le_refl _))
end
theorem zip_len_none : typeLookup (.type "zip") "__len__" = pure none := am_miss_of_fast (by decide +kernel)
theorem zip_hint_none : typeLookup (.type "zip") "__length_hint__" = pure none := am_miss_of_fast (by decide +kernel)
section
variable {X : Cx} {pins : List (Addr × Obj)} {σ : L2.St} {Ar : Around} {R : Result → Shared → Prop} {z TI TO i1 i2 S : Addr} {f1 f2 ch : List Addr} {xs ys : List V} {us ws : List Value} {C1 C2 : Nat → Heap → Prop} {H0 : Hp}
theorem init_zip {s : Shared} (D : ZipSep2 z TI TO i1 i2 f1 f2) (D1 : Draws X.prog X.w Ar.in1.in1 i1 f1 xs.length (fun i v => us[i]? = some v) C1) (D2 : Draws X.prog X.w Ar.in1.in1 i2 f2 ys.length (fun i v => ws[i]? = some v) C2)
    (rx : Vals xs us) (ry : Vals ys ws) (big : xs.length ≤ sizeLine) (sub : ∀ c ∈ [z, TO, i1, i2], c ∈ ch) (hTI : TI ∈ ch) (hS : S ∈ ch) (nS : S ∉ [z, TO, i1, i2]) (nI : TI ≠ S) (g1 : S ∉ f1) (g2 : S ∉ f2)
    (J : Inv X pins σ H0 s) (hf : ∀ b ∈ ch, FpOk X pins H0 b) (lt : ∀ b ∈ ch, b < s.heap.objs.size) (zz : IsZip s.heap z TI TO .none) {a b : Value} (to : IsTupOf2 s.heap TO a b) (ti : IsTupOf2 s.heap TI (.ref i1) (.ref i2)) (c1 : C1 0 s.heap) (c2 : C2 0 s.heap)
    (hl : s.heap.get? S = some { cls := .type "list", data := .seq #[] })
    (fin : ∀ s' H' acc c ts, Inv X pins σ H' s' → s'.heap.get? S = some { cls := .type "list", dict := none, data := .seq acc c, slots := #[] } → Vals (ts.map V.ref) acc.toList → Grows H0 ts (xs.zip ys) H' → (∀ b ∈ ch, FpOk X pins H' b) → R (.ok (.ret .none)) s') :
    wpAny (model X.prog X.w) Ar.in1 (Builtin.«list.__init__» ⟨[.ref S, .ref z], []⟩)
      (fun r s' => match r with | .done f => R (.ok f) s' | .again c' => c'.quiet = true ∧ codeAny (model X.prog X.w) Ar c' R s') (fun e s' => R (.error e) s') s := by
  have nz : z ≠ S := fun q => nS (by simp [q])
  have nO : TO ≠ S := fun q => nS (by simp [q])
  show wpAny _ _ (do let old ← Builtin.List.listItems (.ref S); Builtin.List.listUpdate (.ref S) (fun _ => #[]); letGo old.toList.reverse; Builtin.List.listExtendWith (.ref S) (.ref z) .none) _ _ s
  refine wpAny_bind ?_; delta Builtin.List.listItems
  refine wpAny_bind (wpAny_seqItems hl rfl (wpAny_pure ?_))
  show wpAny _ _ (updateSeq S (fun _ => #[]) >>= fun _ => letGo _ >>= fun _ => Builtin.List.listExtendWith (.ref S) (.ref z) .none) _ _ s
  refine wpAny_bind (wpAny_updateSeq hl rfl ?_)
  have l2 := Heap.get?_update_self (Obj.mapSeq (fun _ => (#[] : Array Value))) hl rfl
  have t2 : ∀ b o, b ≠ S → s.heap.get? b = some o → (s.heap.update S (Obj.mapSeq (fun _ => (#[] : Array Value)))).get? b = some o := fun b o nb q => (Heap.get?_update_other _ _ (Ne.symm nb)).trans q
  have z2 : (s.heap.update S (Obj.mapSeq (fun _ => (#[] : Array Value)))).objs.size = s.heap.objs.size := Heap.size_update ..
  generalize s.heap.update S (Obj.mapSeq (fun _ => (#[] : Array Value))) = g2' at l2 t2 z2
  refine wpAny_bind (wpAny_letGo ?_); delta Builtin.List.listExtendWith
  refine wpAny_bind (wpAny_typeOf (T := "zip") ⟨_, t2 _ _ nz zz, rfl⟩ ?_)
  have b1 : Builtin.List.listSameRef (.ref S) (.ref z) = false := by simp [Builtin.List.listSameRef, Ne.symm nz]
  have b2 : (Value.type "zip" == Value.type "list") = false := by decide
  have b3 : (Value.type "zip" == Value.type "tuple") = false := by decide
  simp only [b1, b2, b3, Bool.or_false, Bool.false_eq_true, if_false]
  refine wpAny_bind (wpAny_pyIter_zip (t2 _ _ nz zz) ?_)
  refine wpAny_bind (wpAny_holding ?_); delta Builtin.List.listLengthHint
  refine wpAny_bind (wpAny_specialOf (T := "zip") ⟨_, t2 _ _ nz zz, rfl⟩ zip_len_none ?_)
  show wpAny _ _ (specialOf (Value.ref z) (Str.ofString "__length_hint__") >>= _) _ _ _
  refine wpAny_bind (wpAny_specialOf (T := "zip") ⟨_, t2 _ _ nz zz, rfl⟩ zip_hint_none (wpAny_pure ?_))
  show wpAny _ _ (rule "list.extend.makes-room" >>= fun _ => Builtin.List.listTouch (.ref S) >>= fun _ => again (.builtin "list.extend.loop" ⟨[.ref S, .ref z, .none], []⟩)) _ _ _
  refine wpAny_bind (wpAny_rule (wpAny_bind ?_)); show wpAny _ _ (updateSeq S (·.push .none) >>= fun _ => updateSeq S (·.pop)) _ _ _; refine wpAny_bind (wpAny_updateSeq l2 rfl ?_)
  have l3 := Heap.get?_update_self (Obj.mapSeq (·.push Value.none)) l2 rfl
  refine wpAny_updateSeq l3 rfl ?_
  have l4 := Heap.get?_update_self (Obj.mapSeq (·.pop)) l3 rfl
  have t4 : ∀ b o, b ≠ S → s.heap.get? b = some o → ((g2'.update S (Obj.mapSeq (·.push Value.none))).update S (Obj.mapSeq (·.pop))).get? b = some o :=
    fun b o nb q => (Heap.get?_update_other _ _ (Ne.symm nb)).trans ((Heap.get?_update_other _ _ (Ne.symm nb)).trans (t2 b o nb q))
  have z4 : ∀ b ∈ ch, b < ((g2'.update S (Obj.mapSeq (·.push Value.none))).update S (Obj.mapSeq (·.pop))).objs.size := fun b hb => by
    rw [Heap.size_update, Heap.size_update, z2]
    exact lt b hb
  refine wpAny_pure ⟨plainId_quiet F.plain_extend_loop _, ?_⟩; have J2 : Inv X pins σ H0 { s with heap := (g2'.update S (Obj.mapSeq (·.push Value.none))).update S (Obj.mapSeq (·.pop)), toks := s.toks } := J.turnedL (ch := ch) (fun b o nb q => t4 b o (fun v => nb (by rw [v]; exact hS)) q) hf
  refine zip_loop (H0 := H0) D D1 D2 rx ry big sub hTI hS nS nI g1 g2 fin _ 0 _ H0 #[] _ [] rfl (Nat.zero_le _) (Nat.zero_le _) J2 hf z4
    (zst_keep (.inl ⟨zz, a, b, to⟩) t4 hS nz nO) (t4 _ _ nI ti) (D1.frame _ _ _ c1 fun b hb o e => t4 b o (fun v => g1 (by rw [← v]; exact hb)) e) (D2.frame _ _ _ c2 fun b hb o e => t4 b o (fun v => g2 (by rw [← v]; exact hb)) e) l4 .nil (by rw [List.take_zero]; exact .nil H0)
end
end DL

namespace DL
open PySem PySem.Spec PyProof.Rows L2 RZ
section
variable {X : Cx} {pins : List (Addr × Obj)} {σ : L2.St} {H : Hp} {s : Shared} {Ar : Around}
theorem src_of {a : Addr} {xs : List V} (J : Inv X pins σ H s) (hh : Ar.handled = none) (h : SqL X.K H a xs ∨ SqT X.K H a xs) :
    ∃ us, Vals xs us ∧ xs.length ≤ sizeLine ∧ a < s.heap.objs.size ∧ ∃ (o : Obj) (Hh : Heap → Prop) (C : Addr → Nat → Heap → Prop), Begins (.ref a) o Hh ∧ Hh s.heap ∧
      (∀ it, a ≠ it → Draws X.prog X.w Ar it [it, a] xs.length (fun i v => us[i]? = some v) (C it)) ∧ ∀ it h', Hh h' → h'.get? it = some o → C it 0 h' := by
  rcases h with h | h
  · obtain ⟨us, rv, pl, big⟩ := J.list h
    have e1 : us.toArray.size = xs.length := by rw [List.size_toArray, rv.length]
    have e2 : (fun (i : Nat) (v : Value) => us.toArray[i]? = some v) = fun i v => us[i]? = some v := by funext i v; simp
    refine ⟨us, rv, big, pl.lt, _, _, fun it i h => h.IsListIter it a i ∧ h.IsList a us.toArray, begins_list a us.toArray, pl.isList, fun it ne => ?_, fun it h' q e => ⟨⟨_, e, rfl, rfl⟩, q⟩⟩
    have := Draws.list (prog := X.prog) (w := X.w) hh it a ne us.toArray
    rw [e1, e2] at this
    exact this
  · obtain ⟨us, rv, pl, big⟩ := J.tuple h
    have e1 : us.toArray.size = xs.length := by rw [List.size_toArray, rv.length]
    have e2 : (fun (i : Nat) (v : Value) => us.toArray[i]? = some v) = fun i v => us[i]? = some v := by funext i v; simp
    have lt : a < s.heap.objs.size := by obtain ⟨o, ho, _⟩ := id pl; exact Heap.lt_size ho
    refine ⟨us, rv, big, lt, _, _, fun it i h => h.IsTupleIter it a i ∧ h.IsTuple a us.toArray, begins_tuple a us.toArray, pl, fun it ne => ?_, fun it h' q e => ⟨⟨_, e, rfl, rfl⟩, q⟩⟩
    have := Draws.tuple (prog := X.prog) (w := X.w) hh it a ne us.toArray
    rw [e1, e2] at this
    exact this
end
/-- list(zip(a, b)) -/
def tLstZip (K : PySem.W.Frag) (ta : TA) : TE := fun σ H Q => ta σ H fun vs H1 => ∃ a b xs ys, vs = [.ref a, .ref b] ∧ (SqL K H1 a xs ∨ SqT K H1 a xs) ∧ (SqL K H1 b ys ∨ SqT K H1 b ys) ∧
  ∀ ts H2 l, Grows H1 ts (xs.zip ys) H2 → H2 l = none → Q (.ref l) (upd H2 l (.lst (ts.map V.ref)))
theorem pe_lstZip {X : Cx} {a b : Expr} {ta : TA} {p p2 q pos : Pos} (hg : Gl X "list") (hm : X.mg "list" = none) (hg2 : Gl X "zip") (hm2 : X.mg "zip" = none) (ha : PA X [a, b] ta) (hc : X.calm = true := by rfl)
    (na : starEach [.Call (.Name "zip" p2) [a, b] [] q] X.env = (false, eval (.Call (.Name "zip" p2) [a, b] [] q) X.env) :: starEach [] X.env := by rfl)
    (hs : starEach [a, b] X.env = (false, eval a X.env) :: starEach [b] X.env := by rfl) (hpl : (backTo q (starEach [b] X.env)).any (·.1) = false := by rfl) :
    PE X (.Call (.Name "list" p) [.Call (.Name "zip" p2) [a, b] [] q] [] pos) (tLstZip X.K ta) := by
  refine ⟨fun pins s σ H Q I h => ?_⟩; refine Call_ (ld_blt I hg hm PyProof.Rows.boot_list ?_)
  refine PyProof.Rows.callWith_type1 (PyProof.Rows.args_cons ?_ na) na rfl
  refine Call_ (ld_blt I hg2 hm2 PyProof.Rows.boot_zip (PyProof.Rows.callWith_type1 (thn (ha.run q pins s σ H _ I h) fun us s1 ⟨vs, H1, J, r1, q1⟩ => ?_) hs hpl))
  obtain ⟨la, lb, xs, ys, ex, h1, h2, fin⟩ := q1
  subst ex
  cases r1 with
  | cons ra r1 =>
  cases r1 with
  | cons rb r1 =>
  cases r1
  cases ra
  cases rb
  have hh : X.A.in1.in1.in1.handled = none := J.ok.hd hc
  obtain ⟨us, rx, bx, lx, o1, Hh1, C1, B1, k1, D1, z1⟩ := src_of J hh h1
  obtain ⟨ws, ry, by', ly, o2, Hh2, C2, B2, k2, D2, z2⟩ := src_of J hh h2
  refine zip_begins2 B1 B2 k1 k2 fun h' zz ti to g1 g2 sz up => PyProof.Rows.args_nil ?_
  have J2 : Inv X pins σ H1 { s1 with heap := h' } := J.kept (t' := s1.toks) up
  refine callType_codes (Q₁ := fun ob s₁ => ob = .ref h'.objs.size ∧ s₁ = { s1 with heap := h'.push { cls := .type "list", data := .seq #[] } }) F.called_list (F.typeCall_list_1 _) F.entry_list_init (code_list_new _ ⟨rfl, rfl⟩) fun ob s₁ eq => ?_
  obtain ⟨rfl, rfl⟩ := eq
  have hl : (h'.push { cls := .type "list", data := .seq #[] }).get? h'.objs.size = some { cls := .type "list", data := .seq #[] } := Heap.get?_push_size _ rfl
  have psh : ∀ c o, h'.get? c = some o → (h'.push { cls := .type "list", data := .seq #[] }).get? c = some o := fun c o e => Heap.get?_push_of_some _ e
  have J3 : Inv X pins σ H1 { s1 with heap := h'.push { cls := .type "list", data := .seq #[] } } := J2.kept (t' := s1.toks) psh
  refine ⟨⟨_, hl, rfl⟩, F.args_list_init_2 _ _, ?_⟩
  have mem : ∀ c ∈ [s1.heap.objs.size + 4, s1.heap.objs.size + 2, s1.heap.objs.size + 3, s1.heap.objs.size, s1.heap.objs.size + 1, h'.objs.size], s1.heap.objs.size ≤ c ∧ c < s1.heap.objs.size + 6 := fun c hc => by
    simp only [List.mem_cons, List.mem_nil_iff, or_false] at hc
    rcases hc with v | v | v | v | v | v <;> (subst v; omega)
  have sz3 : (h'.push { cls := .type "list", data := .seq #[] }).objs.size = s1.heap.objs.size + 6 := by rw [Heap.size_push, sz]
  refine init_zip (Ar := X.A.in1) (S := h'.objs.size) (H0 := H1) (xs := xs) (ys := ys) (us := us) (ws := ws) (C1 := C1 s1.heap.objs.size) (C2 := C2 (s1.heap.objs.size + 1)) (ch := [s1.heap.objs.size + 4, s1.heap.objs.size + 2, s1.heap.objs.size + 3, s1.heap.objs.size, s1.heap.objs.size + 1, h'.objs.size])
    (zip_sep2 (N := s1.heap.objs.size) (fp1 := [la]) (fp2 := [lb]) (by simpa using lx) (by simpa using ly)) (D1 _ (Nat.ne_of_lt lx)) (D2 _ (Nat.ne_of_lt (Nat.lt_succ_of_lt ly))) rx ry bx (fun c hc => ?_) (by simp) (by simp) ?_ ?_ ?_ ?_ J3
    (fun b hb => J.fpOk (mem b hb).1 (J.hok.fresh (mem b hb).1)) (fun b hb => by show b < _; rw [sz3]; exact (mem b hb).2) (psh _ _ zz) (psh _ _ to) (psh _ _ ti) (z1 _ _ (B1.keeps _ _ k1 fun c o e => psh c o (up c o e)) (psh _ _ g1)) (z2 _ _ (B2.keeps _ _ k2 fun c o e => psh c o (up c o e)) (psh _ _ g2)) hl
    fun s' H' acc c ts J' hl' va gr hf' => ⟨rfl, ?_⟩
  · simp only [List.mem_cons, List.mem_nil_iff, or_false] at hc ⊢
    rcases hc with v | v | v | v <;> simp [v]
  · rw [sz]; simp only [List.mem_cons, List.mem_nil_iff, or_false]
    rintro (q | q | q | q) <;> exact absurd (show (s1.heap.objs.size + 5 : Nat) = _ from q) (by omega)
  · rw [sz]
    exact fun q => absurd (show (s1.heap.objs.size + 2 : Nat) = s1.heap.objs.size + 5 from q) (by omega)
  · rw [sz]; simp only [List.mem_cons, List.mem_nil_iff, or_false]
    rintro (q | q)
    · exact absurd (show (s1.heap.objs.size + 5 : Nat) = s1.heap.objs.size from q) (by omega)
    · rw [← q] at lx
      exact absurd (show (s1.heap.objs.size + 5 : Nat) < s1.heap.objs.size from lx) (by omega)
  · rw [sz]; simp only [List.mem_cons, List.mem_nil_iff, or_false]
    rintro (q | q)
    · exact absurd (show (s1.heap.objs.size + 5 : Nat) = s1.heap.objs.size + 1 from q) (by omega)
    · rw [← q] at ly
      exact absurd (show (s1.heap.objs.size + 5 : Nat) < s1.heap.objs.size from ly) (by omega)
  · have grl : ∀ {H ts ps H'}, Grows H ts ps H' → ts.length = ps.length := fun g => by induction g with
      | nil => rfl
      | snoc _ _ ih => rw [List.length_append, List.length_append, ih]; rfl
    have tl : ts.length ≤ sizeLine := by rw [grl gr, List.length_zip]; omega
    exact ⟨.ref h'.objs.size, upd H' h'.objs.size (.lst (ts.map V.ref)), J'.take (t' := s'.toks) (h' := s'.heap) (fun b ob _ e => e) (hf' _ (by simp)) ⟨by show (ts.map V.ref).length ≤ sizeLine; rw [List.length_map]; exact tl, acc.toList, c, va, by simpa using hl'⟩, rfl, fin ts H' _ gr (hf' _ (by simp)).1⟩
theorem paired_snoc {α β : Type} {Rl : α → β → Prop} : ∀ {ps : List α} {p : α} {ds : List β}, Paired Rl (ps ++ [p]) ds → ∃ ds' d, ds = ds' ++ [d] ∧ Paired Rl ps ds' ∧ Rl p d
  | [], _, _, .cons h .nil => ⟨[], _, rfl, .nil, h⟩
  | _ :: _, _, _, .cons h r => let ⟨ds', d, e, a, b⟩ := paired_snoc r; ⟨_ :: ds', d, by rw [e]; rfl, .cons h a, b⟩
def PD (K : PySem.W.Frag) (Hd : Hp) (p : V × V) (d : PyData) : Prop := ∃ a b, d = .tuple [a, b] ∧ Dt K Hd p.1 a ∧ Dt K Hd p.2 b
section
variable {K : KF} {H H' : Hp} {qs : List Sl} {ts : List Addr} {ps : List (V × V)}
theorem grows_ok (h : Hs K H qs) (g : Grows H ts ps H') : ∀ ds, Paired (PD K.1 (hid (ads qs) H)) ps ds → Hs K H' qs ∧ Le H H' ∧ DtAll K.1 (hid (ads qs) H') (ts.map V.ref) ds := by
  induction g with
  | nil => intro ds pd; cases pd; exact ⟨h, Le.refl _, .nil⟩
  | snoc g n ih =>
    intro ds pd
    obtain ⟨ds', d, rfl, pd', a, b, rfl, da, db⟩ := paired_snoc pd
    obtain ⟨hs, le, dts⟩ := ih ds' pd'
    have mo : Le (hid (ads qs) _) (hid (ads qs) _) := hid_mono fun b o _ e => le b o e
    have hn := pair_new hs n (da.le mo) (db.le mo)
    refine ⟨hn.tail, le.trans (le_upd n), ?_⟩
    rw [List.map_append]
    refine (dts.le ?_).append (.cons hn.get_d .nil)
    exact hid_mono fun b o _ e => le_upd n b o e
theorem zip_pd {K : PySem.W.Frag} {Hd : Hp} : ∀ {vs ws : List V} {xs ys : List PyData}, DtAll K Hd vs xs → DtAll K Hd ws ys → Paired (PD K Hd) (vs.zip ws) (zipD xs ys)
  | _, _, _, _, .nil, _ => by rw [List.zip_nil_left]; unfold zipD; exact .nil
  | _, _, _, _, .cons _ _, .nil => by rw [List.zip_nil_right]; unfold zipD; exact .nil
  | _, _, _, _, .cons a r, .cons b t => .cons ⟨_, _, rfl, a, b⟩ (zip_pd r t)
def rLstZip (K : PySem.W.Frag) : List V → Hp → VK → Prop := fun vs H1 Q => ∃ a b xs ys, vs = [.ref a, .ref b] ∧ (SqL K H1 a xs ∨ SqT K H1 a xs) ∧ (SqL K H1 b ys ∨ SqT K H1 b ys) ∧
  ∀ ts H2 l, Grows H1 ts (xs.zip ys) H2 → H2 l = none → Q (.ref l) (upd H2 l (.lst (ts.map V.ref)))
/-- a list of pairs -/
def cLstZip : CT := fun ss P => match ss with
  | [a, b] => ∃ xs ys, seqS a = some xs ∧ seqS b = some ys ∧ P (.m (zipD xs ys)) ss
  | _ => False
theorem snd_lstZip : Snd K (rLstZip K.1) cLstZip := by
  intro vs H ss ex P Q hl h hc q
  unfold cLstZip at hc
  split at hc
  · rename_i s1 s2
    obtain ⟨v, w, rfl⟩ := two_slots hl
    obtain ⟨xs, ys, e1, e2, p⟩ := hc
    obtain ⟨a, vx, rfl, q1, d1⟩ := h.seq (List.mem_cons_self) e1
    obtain ⟨b, vy, rfl, q2, d2⟩ := h.seq (List.mem_cons_of_mem _ List.mem_cons_self) e2
    refine ⟨a, b, vx, vy, rfl, q1.imp SqL.of id, q2.imp SqL.of id, fun ts H2 l g n => ?_⟩
    obtain ⟨hs, le, dts⟩ := grows_ok h g _ (zip_pd d1 d2)
    exact q _ _ _ _ p rfl (hs.new_m n dts)
  · exact hc.elim
end
theorem de_lstZip {T : Tbs} {X : Cx} {a b : Expr} {u : TDA} {p p2 q pos : Pos} (hm : X.mg "list" = none) (hm2 : X.mg "zip" = none) (ha : DA T X [a, b] u) (hg : Gl X "list" := by rfl) (hg2 : Gl X "zip" := by rfl) (hc : X.calm = true := by rfl)
    (na : starEach [.Call (.Name "zip" p2) [a, b] [] q] X.env = (false, eval (.Call (.Name "zip" p2) [a, b] [] q) X.env) :: starEach [] X.env := by rfl)
    (hs : starEach [a, b] X.env = (false, eval a X.env) :: starEach [b] X.env := by rfl) (hpl : (backTo q (starEach [b] X.env)).any (·.1) = false := by rfl) :
    DE T X (.Call (.Name "list" p) [.Call (.Name "zip" p2) [a, b] [] q] [] pos) (tAp u cLstZip) :=
  de_ap (fun ta h => ⟨_, pe_lstZip hg hm hg2 hm2 h hc na hs hpl, fun σ H Q z => z⟩) snd_lstZip ha
end DL

namespace DL
open PySem PySem.Spec PyProof.Rows L2 RZ
/-! ## own lists that are let go for a call: from then on no one changes them -/
def Soft (ss ss2 : List SV) : Prop := Paired (fun a b => b = a ∨ b = frz a) ss ss2
theorem Hs.soft {K : KF} : ∀ {vs : List V} {ss ss2 : List SV} {ex : List Sl} {H : Hp}, Soft ss ss2 → Hs K H (tmpS vs ss ++ ex) → vs.length = ss.length → Hs K H (tmpS vs ss2 ++ ex)
  | [], _, _, _, _, .nil, h, _ => h
  | v :: vs, s :: ss, s2 :: ss2, ex, H, .cons e r, h, hl => by
    have h1 : Hs K H ((some v, s) :: (tmpS vs ss ++ ex)) := h
    have h2 : Hs K H ((some v, s2) :: (tmpS vs ss ++ ex)) := by
      rcases e with (e | e)
      · rw [e]; exact h1
      · rw [e]; exact h1.frz
    have h3 := Hs.soft r h2.mid (by simpa using hl)
    exact h3.front
  | [], _, _, _, _, .cons _ _, _, hl => by cases hl
theorem soft_len {ss ss2 : List SV} (h : Soft ss ss2) : ss.length = ss2.length := Paired.length h
def softC (c : CT) : CT := fun ss P => ∃ ss2, Soft ss ss2 ∧ c ss2 P
theorem Fnd.soft {P : Program} {w : World} {K : PySem.W.Frag} {T : Tbs} {mg : Str → Option Value} {base : Heap} {k : Nat} {x : Str} {ps : List Str} {c : CT} (h : Fnd P w K T mg base k x ps c) : Fnd P w K T mg base k x ps (softC c) := by
  obtain ⟨f, fd, h1, h2⟩ := h
  refine ⟨f, fd, h1.imp fun vs H Q E ⟨hl, ss, ex, P, a, b, ⟨ss2, pr, c⟩, d⟩ => ?_, h2⟩
  exact ⟨hl, ss2, ex, P, a.trans (soft_len pr), Hs.soft pr b a, c, fun s ss' v H' p hl' hs => d s ss' v H' p (hl'.trans (soft_len pr).symm) hs⟩
/-- what no one may ask for stands at every name of a def -/
theorem Fnd.zero {P : Program} {w : World} {K : PySem.W.Frag} {T : Tbs} {mg : Str → Option Value} {base : Heap} {x qual : Str} {st : Stmt} {f : Addr} {fd : FuncData} {ps : List Str} {c : CT} (F : Fun K x qual st f fd) (hb : Binds K fd ps []) (hm : mg x = some (.ref f)) (h : ∀ ss Q, ¬ c ss Q) : Fnd P w K T mg base 0 x ps c :=
  ⟨f, fd, ⟨fun vs H Q E hs => hs.1, fun A outer s H args us vs Q E hr he hb' hv hs => by obtain ⟨_, ss, ex, P', _, _, hc, _⟩ := hs; exact absurd hc (h ss P')⟩, hb, F.kp, hm, fun_at F⟩
/-- all(bs), bs a list of bools -/
def cAllB : CT := fun ss P => match ss with
  | [a] => ∃ bs : List Bool, lis a = some (bs.map PyData.bool) ∧ P (.d (.bool (bs.all id))) ss
  | _ => False
theorem dt_bools {K : PySem.W.Frag} {H : Hp} : ∀ {vs : List V} {bs : List Bool}, DtAll K H vs (bs.map PyData.bool) → vs = bs.map V.bl
  | [], [], _ => rfl
  | [], _ :: _, h => by cases h
  | _ :: _, [], h => by cases h
  | v :: vs, b :: bs, h => by
    cases h with
    | cons a r =>
      cases a
      rw [dt_bools r]; rfl
theorem snd_allB {K : KF} : Snd K (rAll K.1) cAllB := by
  intro vs H ss ex P Q hl h hc q
  unfold cAllB at hc
  split at hc
  · obtain ⟨v, rfl⟩ := one_slot hl
    obtain ⟨bs, e, p⟩ := hc
    obtain ⟨a, ws, rfl, hh, d⟩ := h.li (List.mem_cons_self) e
    have e2 := dt_bools d
    subst e2
    exact ⟨a, bs, rfl, SqL.of hh, q _ _ _ _ p rfl (h.cons_d (.bl _))⟩
  · exact hc.elim
section
variable {T : Tbs} {X : Cx} {e : Expr} {es : List Expr} {u : TDA} {p pos : Pos}
theorem de_all (hm : X.mg "all" = none) (hc : X.calm = true) (ha : DA T X (e :: es) u) (hg : Gl X "all" := by rfl)
    (he : starEach (e :: es) X.env = (false, eval e X.env) :: starEach es X.env := by rfl) (hpl : (backTo pos (starEach es X.env)).any (·.1) = false := by rfl) : DE T X (.Call (.Name "all" p) (e :: es) [] pos) (tAp u cAllB) :=
  de_callB (cr_all hc) snd_allB hm (by decide +kernel) ha hg (by decide) (by decide) he hpl
end
end DL

namespace DL
open PySem PySem.Spec PyProof.Rows L2 RZ
/-! ## a method of an own list that has a name: the arguments may read the list, too -/
def tMv (i : Nat) (u : TDA) (c : CT) : TD := fun Γ P => (∃ xs0, Γ[i]? = some (SV.m xs0)) ∧ u Γ fun rs Γ2 => ∃ xs, Γ2[i]? = some (SV.m xs) ∧ c (.m xs :: rs.map (·.1)) fun s ss => ss.length = rs.length + 1 ∧ P (s, none) (back ((.m xs, some i) :: rs) ss (Γ2.set i .no))
section
variable {T : Tbs} {X : Cx} {e o : Expr} {es : List Expr} {u : TDA} {pos apos p : Pos}
theorem de_methV {i : Nat} {c : CT} {r : V → List V → Hp → VK → Prop} {mk : Expr} (hp : ∀ ta, PA X es ta → ∃ te, PE X mk te ∧ ∀ σ H Q, tVar i σ H (fun x H1 => tyV X.K "list" x H1 ∧ ta σ H1 fun vs H2 => r x vs H2 Q) → te σ H Q)
    (hs : SndM (X.K, T) r c) (ha : DA T X es u) : DE T X mk (tMv i u c) := by
  obtain ⟨ta, h3, h4⟩ := ha
  obtain ⟨te, h5, h6⟩ := hp ta h3
  refine ⟨te, h5, fun σ H Γ ex P Q h p q => h6 σ H Q ?_⟩
  obtain ⟨⟨xs0, e0⟩, p⟩ := p
  obtain ⟨o1, e1, e2⟩ := zip_at h.len e0
  have ok := h.hs.ok _ (List.mem_append_left _ (List.mem_of_getElem? e2))
  obtain ⟨v, rfl⟩ := ok.some (by intro z; cases z)
  have tl : tyV X.K "list" v H := by
    obtain ⟨a, vs, rfl, hh, _⟩ := h.hs.li (List.mem_append_left _ (List.mem_of_getElem? e2)) rfl
    exact .inl ⟨rfl, vs, SqL.of hh⟩
  refine ⟨v, e1, tl, ?_⟩
  refine h4 σ H Γ _ _ _ h p fun vs H2 rs Γ2 he2 og2 p2 => ?_
  obtain ⟨xs, e3, p2⟩ := p2
  obtain ⟨o2, e4, e5⟩ := zip_at he2.len e3
  rw [e1] at e4
  cases e4
  have he3 := set_no he2 e1 e5
  have hx : Hs (X.K, T) H2 ((some v, .m xs) :: (tmpS vs (rs.map (·.1)) ++ (σ.zip (Γ2.set i .no) ++ ex))) := by
    have h1 : Hs (X.K, T) H2 (((some v, .m xs) :: tmp vs rs) ++ (σ.zip (Γ2.set i .no) ++ ex)) := HE.outs (a := (some v, .m xs) :: tmp vs rs) he3
    exact h1
  refine hs v vs H2 (.m xs) (rs.map (·.1)) _ _ _ (by rw [List.length_map]; exact vals_len og2) hx p2 fun z s' ss' y H3 p3 l3 h7 => ?_
  have h8 : HE (X.K, T) H3 σ (Γ2.set i .no) (tmpS (v :: vs) (s' :: ss') ++ ((some y, z) :: ex)) := by
    refine HE.ins he3.len ?_
    show Hs (X.K, T) H3 ((some v, s') :: (tmpS vs ss' ++ (σ.zip (Γ2.set i .no) ++ (some y, z) :: ex)))
    refine h7.perm ?_
    refine (List.Perm.swap _ _ _).trans (List.Perm.cons _ ?_)
    refine (List.perm_middle (a := ((some y, z) : Sl)) (l₁ := tmpS vs ss') (l₂ := σ.zip (Γ2.set i .no) ++ ex)).symm.trans (List.Perm.append_left _ ?_)
    exact (List.perm_middle (a := ((some y, z) : Sl)) (l₁ := σ.zip (Γ2.set i .no)) (l₂ := ex)).symm
  have og : Og σ v ((SV.m xs, some i) : R) := fun j z => by cases z; exact e1
  exact q y H3 (z, none) _ (HE.back (rs := (.m xs, some i) :: rs) (vs := v :: vs) p3.1 (.cons og og2) h8) Og.none p3.2
theorem de_popV (i : Nat) {x : Str} {xp : Pos} (hv : PE X (.Name x xp) (tVar i)) (ha : DA T X (e :: es) u) (hbase : attributeBase (.Name x xp) "pop" X.env (eval (.Name x xp) X.env) = eval (.Name x xp) X.env := by rfl)
    (hfew : ((backTo pos (starEach (e :: es) X.env)).all (fun x => !x.1) && (backToKw pos (keywordEach [] X.env)).all (fun x => x.1.isSome) && decide ((e :: es).length + ([] : List Keyword).length + (if ([] : List Keyword).isEmpty then 0 else 1) < 30)) = true := by rfl)
    (hline : (apos.endLine == pos.line) = true := by rfl) (hs : starEach (e :: es) X.env = (false, eval e X.env) :: starEach es X.env := by rfl) (hplain : (backTo pos (starEach es X.env)).any (·.1) = false := by rfl) :
    DE T X (.Call (.Attribute (.Name x xp) "pop" apos) (e :: es) [] pos) (tMv i u cPopAt) :=
  de_methV (fun ta h2 => ⟨_, pe_bm PySem.F.plainAttrs_list PySem.F.slot_list_pop PySem.F.type_list_pop mt_popAt hv h2 hbase hfew hline hs hplain, fun σ H Q z => z⟩) snd_popAt ha
end
end DL

namespace DL
open PySem PySem.Spec PyProof.Rows L2 RZ
/-! ## f(k = v, ..): arguments by name alone -/
theorem pe_callK0 {X : Cx} {k : Nat} {f : Addr} {fd : FuncData} {ps ks : List Str} {sp : Sp} {CX : CXT} {E : XK} {x : Str} {p pos : Pos} {kws : List Keyword} {tk : TA} {g : List Value → List Value → List Value} {gV : List V → List V → List V}
    (F : FnOk X.prog X.w X.K X.mg X.base CX k f fd ps sp) (hr : Room k X.A) (hg : Gl X x) (hm : X.mg x = some (.ref f)) (hk : PySem.W.keepIn X.K (.ref f) = true) (hb : KBinds X.K fd ps ks g gV) (hx : Passes CX X E) (hkw : PK X kws tk)
    (hall : (backToKw pos (keywordEach kws X.env)).all (·.1.isSome) = true := by rfl)
    (hks : (backToKw pos (keywordEach kws X.env)).filterMap (·.1) = ks := by rfl)
    (hdb : (x == ("__debug__" : Str)) = false := by decide)
    (hpl : ((backTo pos (starEach [] X.env)).any (·.1) || (backToKw pos (keywordEach kws X.env)).any (·.1.isNone)) = false := by rfl) : PE X (.Call (.Name x p) [] kws pos) (fun σ H Q => tk σ H fun zs H2 => sp (gV [] zs) H2 Q E) := by
  refine ⟨fun pins s σ H Q I h => wpAny_Call_Name_kw (ld_glob I hg hm ?_ hdb)⟩
  refine PySem.W.callWith_KW0 (h₀ := X.base) I.ok.mod.kin hk hall (thn (hkw.run pos pins s σ H _ I h) fun ws s2 ⟨zs, H2, J, rz, q2⟩ => ⟨J.kIn, ?_⟩) hpl
  rw [hks]; exact run_fnk (us := []) (vs := []) F hr hb hx J .nil rz q2
def DK (T : Tbs) (X : Cx) (kws : List Keyword) (t : TDA) : Prop := ∃ ta, PK X kws ta ∧ ∀ σ H Γ ex (P : List R → G → Prop) (Q : List V → Hp → Prop), HE (X.K, T) H σ Γ ex → t Γ P →
  (∀ vs H' rs Γ', HE (X.K, T) H' σ Γ' (tmp vs rs ++ ex) → Ogs σ vs rs → P rs Γ' → Q vs H') → ta σ H Q
theorem dk_nil {T : Tbs} {X : Cx} : DK T X [] tdNil := ⟨_, pk_nil, fun σ H Γ ex P Q h p q => q [] H [] Γ h .nil p⟩
theorem dk_cons {T : Tbs} {X : Cx} {e : Expr} {t : TD} {u : TDA} {nm : Option Str} {kpos : Pos} {kws : List Keyword} (ha : DE T X e t) (hr : DK T X kws u) : DK T X (⟨nm, e, kpos⟩ :: kws) (tdCons t u) := by
  obtain ⟨te, h1, h2⟩ := ha
  obtain ⟨tr, h3, h4⟩ := hr
  refine ⟨_, pk_cons h1 h3, fun σ H Γ ex P Q h p q => ?_⟩
  refine h2 σ H Γ ex _ _ h p fun v H1 r Γ1 he og p1 => ?_
  refine h4 σ H1 Γ1 _ _ _ he p1 fun vs H2 rs Γ2 he2 ogs p2 => ?_
  refine q (v :: vs) H2 (r :: rs) Γ2 (he2.perm ?_) (.cons og ogs) p2
  exact List.perm_middle
/-- two arguments the other way round -/
def sw2 {α : Type} : List α → List α
  | [a, b] => [b, a]
  | l => l
def gSw (us ws : List Value) : List Value := match us with
  | [] => sw2 ws
  | _ => []
def gSwV (vs zs : List V) : List V := match vs with
  | [] => sw2 zs
  | _ => []
def gId (us ws : List Value) : List Value := match us with
  | [] => ws
  | _ => []
def gIdV (vs zs : List V) : List V := match vs with
  | [] => zs
  | _ => []
def swC (c : CT) : CT := fun ss P => match ss with
  | [a, b] => c [b, a] fun s ss' => ∃ x y, ss' = [x, y] ∧ P s [y, x]
  | _ => False
/-- a def with two parameters, called by their names in the other order -/
structure FndS (P : Program) (w : World) (K : PySem.W.Frag) (T : Tbs) (mg : Str → Option Value) (base : Heap) (k : Nat) (x p1 p2 : Str) (c : CT) : Prop where
  ex : ∃ f fd, FnOk P w K mg base CX0 k f fd [p1, p2] (spOf (K, T) 2 c) ∧ KBinds K fd [p1, p2] [p2, p1] gSw gSwV ∧ KBinds K fd [p1, p2] [p1, p2] gId gIdV ∧ PySem.W.keepIn K (.ref f) = true ∧ mg x = some (.ref f) ∧ ∃ oc od osl, K.lookup f = some ⟨oc, od, .func fd, osl⟩
theorem FndS.mono {P : Program} {w : World} {K : PySem.W.Frag} {T : Tbs} {mg : Str → Option Value} {base : Heap} {j k : Nat} {x p1 p2 : Str} {c : CT} (h : FndS P w K T mg base j x p1 p2 c) (l : j ≤ k) : FndS P w K T mg base k x p1 p2 c := by
  obtain ⟨f, fd, h1, h2⟩ := h.ex
  exact ⟨f, fd, h1.mono l, h2⟩
theorem snd_sw {K : KF} {c : CT} {E : XK} : Snd K (fun zs H Q => spOf K 2 c (gSwV [] zs) H Q E) (swC c) := by
  intro vs H ss ex P Q hl h hc q
  unfold swC at hc
  split at hc
  · rename_i a b
    obtain ⟨v, w, rfl⟩ := two_slots hl
    refine ⟨rfl, [b, a], ex, _, rfl, Hs.swap2 (a := (some v, a)) (b := (some w, b)) h, hc, ?_⟩
    rintro s ss' u H' ⟨x, y, rfl, p⟩ _ hs
    refine q s [y, x] u H' p rfl ?_
    have h1 : Hs K H' ((some u, s) :: (some w, x) :: (some v, y) :: ex) := hs
    exact h1.perm (List.Perm.cons _ (List.Perm.swap _ _ _))
  · exact hc.elim
theorem snd_id {K : KF} {c : CT} {E : XK} : Snd K (fun zs H Q => spOf K 2 c (gIdV [] zs) H Q E) (cN 2 c) := by
  intro vs H ss ex P Q hl h ⟨hn, hc⟩ q
  exact ⟨hl.trans hn, ss, ex, P, hl, h, hc, q⟩
section
variable {P : Program} {w : World} {K : PySem.W.Frag} {T : Tbs} {mg : Str → Option Value} {base : Heap} {x qual : Str} {st : Stmt} {f : Addr} {fd : FuncData} {p1 p2 : Str} {k : Nat} {c : CT}
theorem vals_sw : ∀ {zs : List V} {ws : List Value}, Vals zs ws → Vals (sw2 zs) (sw2 ws)
  | _, _, .nil => .nil
  | _, _, .cons a .nil => .cons a .nil
  | _, _, .cons a (.cons b .nil) => .cons b (.cons a .nil)
  | _, _, .cons a (.cons b (.cons d r)) => .cons a (.cons b (.cons d r))
theorem kb_sw (F : Fun K x qual st f fd) (h : ∀ (kV doc pm : Value) (an : Option Addr) (cdv ct a b : Value), bindArgs (PySem.W.fnOf x qual (defArgs st) (defBody st) (defScope st) .none kV doc pm an cdv ct) ⟨[], [(p2, b), (p1, a)]⟩ = pure [(p1, a), (p2, b)]) : KBinds K fd [p1, p2] [p2, p1] gSw gSwV := by
  obtain ⟨oc, od, kV, doc, pm, an, cdv, ct, osl, rfl, lk, hcd⟩ := F.ex
  refine ⟨fun s us ws hin hl => ?_, fun r rz => ?_⟩
  · match us, ws, hl with
    | [], [b, a], _ => exact .of_eq (h kV doc pm an cdv ct a b)
    | [], [], hl => cases hl
    | [], [_], hl => cases hl
    | [], _ :: _ :: _ :: _, hl => simp [gSw, sw2] at hl
    | _ :: _, _, hl => cases hl
  · cases r with
    | nil => exact vals_sw rz
    | cons _ _ => exact .nil
theorem kb_id (F : Fun K x qual st f fd) (h : ∀ (kV doc pm : Value) (an : Option Addr) (cdv ct a b : Value), bindArgs (PySem.W.fnOf x qual (defArgs st) (defBody st) (defScope st) .none kV doc pm an cdv ct) ⟨[], [(p1, a), (p2, b)]⟩ = pure [(p1, a), (p2, b)]) : KBinds K fd [p1, p2] [p1, p2] gId gIdV := by
  obtain ⟨oc, od, kV, doc, pm, an, cdv, ct, osl, rfl, lk, hcd⟩ := F.ex
  refine ⟨fun s us ws hin hl => ?_, fun r rz => ?_⟩
  · match us, ws, hl with
    | [], [a, b], _ => exact .of_eq (h kV doc pm an cdv ct a b)
    | [], [], hl => cases hl
    | [], [_], hl => cases hl
    | [], _ :: _ :: _ :: _, hl => simp [gId] at hl
    | _ :: _, _, hl => cases hl
  · cases r with
    | nil => exact rz
    | cons _ _ => exact .nil
end
section
variable {T : Tbs} {X : Cx} {u : TDA} {k : Nat} {x p1 p2 : Str} {c : CT} {p pos : Pos} {kws : List Keyword}
theorem de_apK {r : List V → Hp → VK → Prop} {mk : Expr} (hp : ∀ ta, PK X kws ta → ∃ te, PE X mk te ∧ ∀ σ H Q, ta σ H (fun vs H1 => r vs H1 Q) → te σ H Q) (hs : Snd (X.K, T) r c) (ha : DK T X kws u) : DE T X mk (tAp u c) := by
  obtain ⟨ta, h1, h2⟩ := ha
  obtain ⟨te, h3, h4⟩ := hp ta h1
  refine ⟨te, h3, fun σ H Γ ex P Q h p q => h4 σ H Q ?_⟩
  refine h2 σ H Γ ex _ _ h p fun vs H1 rs Γ1 he og p1 => ?_
  have hl := vals_len og
  have hx : Hs (X.K, T) H1 (tmpS vs (rs.map (·.1)) ++ (σ.zip Γ1 ++ ex)) := HE.outs (a := tmp vs rs) he
  refine hs vs H1 (rs.map (·.1)) _ _ _ (by rw [List.length_map]; exact hl) hx p1 fun s ss v H2 p2 l2 h5 => ?_
  have h6 : HE (X.K, T) H2 σ Γ1 (tmpS vs ss ++ ((some v, s) :: ex)) := by
    refine HE.ins he.len (h5.perm ?_)
    refine (List.perm_middle (a := ((some v, s) : Sl)) (l₁ := tmpS vs ss) (l₂ := σ.zip Γ1 ++ ex)).symm.trans (List.Perm.append_left _ ?_)
    exact (List.perm_middle (a := ((some v, s) : Sl)) (l₁ := σ.zip Γ1) (l₂ := ex)).symm
  exact q v H2 (s, none) _ (HE.back (rs := rs) (vs := vs) (by rw [l2, List.length_map]) og h6) Og.none p2
theorem de_callS (F : FndS X.prog X.w X.K T X.mg X.base k x p1 p2 c) (hr : Room k X.A) (ha : DK T X kws u) (hg : Gl X x := by rfl) (hdb : (x == ("__debug__" : Str)) = false := by decide)
    (hall : (backToKw pos (keywordEach kws X.env)).all (·.1.isSome) = true := by rfl) (hks : (backToKw pos (keywordEach kws X.env)).filterMap (·.1) = [p2, p1] := by rfl)
    (hpl : ((backTo pos (starEach [] X.env)).any (·.1) || (backToKw pos (keywordEach kws X.env)).any (·.1.isNone)) = false := by rfl) : DE T X (.Call (.Name x p) [] kws pos) (tAp u (swC c)) := by
  obtain ⟨f, fd, h1, h2, _, h3, h4, _⟩ := F.ex
  exact de_apK (r := fun zs H Q => spOf (X.K, T) 2 c (gSwV [] zs) H Q E0) (fun ta h => ⟨_, pe_callK0 h1 hr hg h4 h3 h2 pass0 h hall hks hdb hpl, fun σ H Q z => z⟩) snd_sw ha
theorem de_callN (F : FndS X.prog X.w X.K T X.mg X.base k x p1 p2 c) (hr : Room k X.A) (ha : DK T X kws u) (hg : Gl X x := by rfl) (hdb : (x == ("__debug__" : Str)) = false := by decide)
    (hall : (backToKw pos (keywordEach kws X.env)).all (·.1.isSome) = true := by rfl) (hks : (backToKw pos (keywordEach kws X.env)).filterMap (·.1) = [p1, p2] := by rfl)
    (hpl : ((backTo pos (starEach [] X.env)).any (·.1) || (backToKw pos (keywordEach kws X.env)).any (·.1.isNone)) = false := by rfl) : DE T X (.Call (.Name x p) [] kws pos) (tAp u (cN 2 c)) := by
  obtain ⟨f, fd, h1, _, h2, h3, h4, _⟩ := F.ex
  exact de_apK (r := fun zs H Q => spOf (X.K, T) 2 c (gIdV [] zs) H Q E0) (fun ta h => ⟨_, pe_callK0 h1 hr hg h4 h3 h2 pass0 h hall hks hdb hpl, fun σ H Q z => z⟩) snd_id ha
end
end DL

/-! sets of keys that stand in the heap, whatever their kind -/
namespace DL
open PySem PySem.Spec PyProof.Rows L2

/-- a kind of keys that a set may hold -/
structure MK (P : Program) (w : World) (κ : Type) [DecidableEq κ] where
  kd : HeapKind P w κ
  grow : ∀ {h h' : Heap} {k : κ} {a : Addr}, kd.is h k a → (∀ c o, h.get? c = some o → h'.get? c = some o) → kd.is h' k a
  aside : ∀ {h h' : Heap} {k : κ} {a S : Addr} {o : Obj} {es ep t}, kd.is h k a → h.get? S = some o → o.data = .set es ep t → Heap.SameBut S h h' → kd.is h' k a
  cls : ∀ {A : Around} {E : Value → Shared → Prop} {s : Shared} {k : κ} {a : Addr} {Q : Bool → Shared → Prop}, kd.is s.heap k a → Q false s → wpAny (model P w) A (ofAClassStatement 8 (.ref a)) Q E s
  byv : ∀ {A : Around} {E : Value → Shared → Prop} {s : Shared} {k : κ} {a : Addr} {Q : Bool → Shared → Prop}, kd.is s.heap k a → (∀ b, Q b s) → wpAny (model P w) A (hashByValue 8 (.ref a)) Q E s

section
variable {P : Program} {w : World} {κ : Type} [DecidableEq κ] {m : MK P w κ} {A : Around} {E : Value → Shared → Prop} {s : Shared}

/-- nothing of a search among such keys can be seen -/
theorem MK.unseen {x : Addr} {k : κ} {Q : Bool → Shared → Prop} (hx : m.kd.is s.heap k x) : ∀ (ys : List Value), (∀ y ∈ ys, ∃ k' c, y = Value.ref c ∧ m.kd.is s.heap k' c) → Q false s →
    wpAny (model P w) A (searchCouldBeSeen (.ref x) ys) Q E s := by
  intro ys hy hq
  unfold searchCouldBeSeen
  refine wpAny_bind (wpAny_forIn_list _ (fun rest r st => st = s ∧ r.1 = none ∧ ∀ y ∈ rest, ∃ k' c, y = Value.ref c ∧ m.kd.is s.heap k' c) _ ?one ?done _ _ ⟨rfl, rfl, hy⟩)
  case done =>
    rintro ⟨u1, u2⟩ st ⟨rfl, e, _⟩
    cases (show u1 = none from e)
    exact wpAny_pure hq
  case one =>
    rintro v rest r st ⟨rfl, e, all⟩
    have tl := fun y (q : y ∈ rest) => all y (List.mem_cons_of_mem _ q)
    obtain ⟨k', c, rfl, hc⟩ := all v List.mem_cons_self
    dsimp only
    by_cases b : (x == c || (carriedByValue (.ref x) && carriedByValue (.ref c))) = true
    · exact wp_if_pos b (wpAny_pure ⟨rfl, rfl, tl⟩)
    · refine wp_if_neg b (wpAny_bind (m.kd.quiet hx ?_))
      simp only [Bool.not_true, Bool.false_eq_true, if_false]
      refine wpAny_bind (m.kd.quiet hc ?_)
      simp only [Bool.not_true, Bool.false_eq_true, if_false]
      refine wpAny_bind (m.cls hx ?_)
      simp only [Bool.false_eq_true, if_false]
      refine wpAny_bind (m.cls hc ?_)
      simp only [Bool.false_eq_true, if_false]
      exact wpAny_pure ⟨rfl, rfl, tl⟩

/-- the rows of a table -/
def rw_ (m : MK P w κ) (M : List (κ × Addr)) : List (Int × Value) := M.map fun q => (m.kd.hash q.1, Value.ref q.2)
def hsh (m : MK P w κ) (M : List (κ × Addr)) : List Int := M.map fun q => m.kd.hash q.1
/-- at S stands a set with the members M -/
structure Tb (m : MK P w κ) (h : Heap) (S : Addr) (M : List (κ × Addr)) (es : Array (Int × Value)) (ep : Nat) (t : SetTable) : Prop where
  at_ : ∃ o, h.get? S = some o ∧ o.ExactSet ∧ o.data = .set es ep t
  es_ : es.toList = rw_ m M
  tab : TabOk t (hsh m M)
  uni : (M.map Prod.fst).Nodup
  mem : ∀ q ∈ M, m.kd.is h q.1 q.2
  ld : w.params.followText "set-order" = true ∨ t.led = true
  wide : M.length * 5 < t.mask * 3
  low : M.length < 64
variable {S : Addr} {M : List (κ × Addr)} {es : Array (Int × Value)} {ep : Nat} {t : SetTable}
theorem len_of_rows (e : es.toList = rw_ m M) : es.size = M.length := by
  have := congrArg List.length e
  simpa [rw_] using this
theorem hsh_len : (hsh m M).length = M.length := List.length_map _
theorem fits_of (e : t.place.size = es.size) (d : t.dummies = #[]) (l : es.size ≤ t.mask) : t.fits es.size = true := by
  unfold SetTable.fits SetTable.fill
  simp only [d, Bool.and_eq_true, beq_iff_eq, decide_eq_true_eq]
  exact ⟨e, by show t.place.size + 0 ≤ t.mask; omega⟩
theorem Tb.fit (R : Tb m s.heap S M es ep t) : t.fits es.size = true := by
  have h1 := R.tab.sz
  have h2 := len_of_rows R.es_
  have h3 := R.wide
  rw [hsh_len] at h1
  exact fits_of (by omega) R.tab.dm (by omega)
theorem Tb.row (R : Tb m s.heap S M es ep t) {i : Nat} {q : κ × Addr} (e : M[i]? = some q) : es[i]? = some (m.kd.hash q.1, Value.ref q.2) := by
  have h1 : es[i]? = es.toList[i]? := Array.getElem?_toList.symm
  rw [h1, R.es_, rw_, List.getElem?_map, e]
  rfl
theorem Tb.there (R : Tb m s.heap S M es ep t) {i j : Nat} (e : t.place.toList[i]? = some j) : ∃ q, M[i]? = some q := by
  have h1 := (List.getElem?_eq_some_iff.mp e).1
  have h2 := R.tab.sz
  rw [hsh_len] at h2
  rw [Array.length_toList, h2] at h1
  exact ⟨_, List.getElem?_eq_getElem h1⟩
theorem dummy_nth (mk : Nat) : ∀ (n : Nat) (p : SetTable.Probe), p.dummy = none → (nth mk p n).dummy = none
  | 0, _, e => e
  | n + 1, p, e => dummy_nth mk n (adv mk p) (by unfold adv; split <;> exact e)

/-- the way's n-th state -/
abbrev stepAt (t : SetTable) (hv : Int) (n : Nat) : SetTable.Probe := nth t.mask (runAt t.mask (SetTable.bits hv % (t.mask + 1)) (SetTable.bits hv)) n
theorem stepAt_add (t : SetTable) (hv : Int) (c q : Nat) : nth t.mask (stepAt t hv c) q = stepAt t hv (c + q) := (nth_add t.mask c _ q).symm
/-- what a search for k finds -/
structure Seek (m : MK P w κ) (t : SetTable) (M : List (κ × Addr)) (k : κ) (K c : Nat) : Prop where
  in_ : c ≤ K
  ahead : ∀ (i : Nat) (q : κ × Addr), M[i]? = some q → q.1 = k → ∃ n, c ≤ n ∧ n < K ∧ t.place.toList[i]? = some (way t.mask (m.kd.hash k) n)

theorem seek_run (R : Tb m s.heap S M es ep t) (hr : m.kd.room A) {x : Addr} {k : κ} (hx : m.kd.is s.heap k x) {K : Nat} (K1 : K < 10 * SetTable.turns t.mask)
    (K2 : way t.mask (m.kd.hash k) K ∉ t.place.toList) (K3 : ∀ n, n < K → way t.mask (m.kd.hash k) n ∈ t.place.toList) {Q : SetFound → Shared → Prop}
    (yes : k ∈ M.map Prod.fst → Q (.there none) s) (no : k ∉ M.map Prod.fst → Q (.free (way t.mask (m.kd.hash k) K) false) s) :
    ∀ (f c : Nat) (st : Option SetTable.Probe), Seek m t M k K c → K < c + f → st.getD (t.probeStart (m.kd.hash k)) = stepAt t (m.kd.hash k) c →
      wpAny (model P w) A (setSearchFrom S (.ref x) (m.kd.hash k) true f st) Q E s := by
  obtain ⟨o, g1, g2, g3⟩ := R.at_
  have gw : ¬ t.gaveWay = true := by unfold SetTable.gaveWay; rw [mask_odd R.tab.mok]; decide
  intro f
  induction f with
  | zero => intro c st sk z _; exact absurd sk.in_ (by omega)
  | succ f ih =>
    intro c st sk z e
    have sp := go_spec t R.tab.ris R.tab.dm (fun i => (es[i]?.map (·.1)).getD 0) (m.kd.hash k) (10 * SetTable.turns t.mask) (K - c) (stepAt t (m.kd.hash k) c) (dummy_nth _ c _ rfl) (by omega)
      (fun q hq => by rw [stepAt_add]; exact K3 (c + q) (by omega)) (by rw [stepAt_add, show c + (K - c) = K from Nat.add_sub_cancel' sk.in_]; exact K2)
    have told : ∀ (i : Nat) q, M[i]? = some q → (es[i]?.map (·.1)).getD 0 = m.kd.hash q.1 := fun i q hq => by rw [R.row hq]; rfl
    rw [setSearchFrom_succ]
    refine wpAny_bind (wpAny_setState_of g1 g3 R.fit ?_)
    dsimp only
    refine wp_if_neg gw ?_
    try refine wpAny_bind (wpAny_pure ?_)
    rcases sp with ⟨n, i, n1, n2, n3, n4, pr⟩ | ⟨n4, pr⟩
    · -- some row has this hash
      have pr2 : t.probe (fun i => (es[i]?.map (·.1)).getD 0) (m.kd.hash k) (st.getD (t.probeStart (m.kd.hash k))) = some (.candidate (way t.mask (m.kd.hash k) (c + n)) i (stepAt t (m.kd.hash k) (c + (n + 1)))) := by
        rw [e, ← stepAt_add t (m.kd.hash k) c (n + 1)]
        have pj : way t.mask (m.kd.hash k) (c + n) = (nth t.mask (stepAt t (m.kd.hash k) c) n).j := by rw [stepAt_add]
        rw [pj]
        exact pr
      rw [pr2]
      dsimp only
      rw [stepAt_add] at n2
      obtain ⟨q, hq⟩ := R.there n2
      have hm : q ∈ M := List.mem_of_getElem? hq
      have live : t.slot (way t.mask (m.kd.hash k) (c + n)) = .live i := slot_live R.tab.ris n2
      have go : wpAny (model P w) A (searchRest S (.ref x) (m.kd.hash k) true f es t (way t.mask (m.kd.hash k) (c + n)) i (stepAt t (m.kd.hash k) (c + (n + 1)))) Q E s := by
        unfold searchRest
        rw [R.row hq]
        dsimp only
        refine wpAny_bind (wpAny_holding (m.kd.eqBool hr (R.mem q hm) hx ?_))
        refine wpAny_bind (wpAny_setState_of g1 g3 R.fit ?_)
        dsimp only
        by_cases same : q.1 = k
        · exact wp_if_pos (by simp [same]) (wpAny_pure (yes (List.mem_map.mpr ⟨q, hm, same⟩)))
        · refine wp_if_neg (by simp [same]) ?_
          try refine wpAny_bind (wpAny_pure ?_)
          rw [sameMem]
          dsimp only
          simp only [if_true, live, R.row hq]
          refine wpAny_bind (wpAny_isSame_ref_self (wpAny_bind (wpAny_pure ?_)))
          simp only [if_true]
          refine wp_if_neg (by simp [same]) (ih (c + (n + 1)) _ ⟨by omega, fun i' q' hq' ek => ?_⟩ (by omega) rfl)
          obtain ⟨n', a1, a2, a3⟩ := sk.ahead i' q' hq' ek
          refine ⟨n', ?_, a2, a3⟩
          by_cases gt : c + n < n'
          · exact gt
          exfalso
          by_cases eq : n' = c + n
          · rw [eq] at a3
            have l2 := slot_live R.tab.ris a3
            rw [live] at l2
            injection l2 with l2
            rw [← l2, hq] at hq'
            cases hq'
            exact same ek
          · refine n4 (n' - c) i' (by omega) ?_ ((told i' q' hq').trans (by rw [ek]))
            rw [stepAt_add, Nat.add_sub_cancel' a1]
            exact a3
      by_cases l : t.led = true
      · refine wp_if_neg (by simp [l]) ?_
        try refine wpAny_bind (wpAny_pure ?_)
        exact go
      · refine wp_if_pos (by simp [l]) (wpAny_bind (MK.unseen hx _ (fun y hy => ?_) ?_))
        · obtain ⟨r, hr1, rfl⟩ := List.mem_map.mp hy
          have hr2 : r ∈ es.toList := by
            have : r ∈ es ∧ r.1 = m.kd.hash k := by simpa using hr1
            simpa using this.1
          rw [R.es_] at hr2
          obtain ⟨q2, m2, rfl⟩ := List.mem_map.mp hr2
          exact ⟨q2.1, q2.2, rfl, R.mem q2 m2⟩
        · refine wp_if_neg (by decide) ?_
          try refine wpAny_bind (wpAny_pure ?_)
          exact go
    · have pr2 : t.probe (fun i => (es[i]?.map (·.1)).getD 0) (m.kd.hash k) (st.getD (t.probeStart (m.kd.hash k))) = some (.empty (way t.mask (m.kd.hash k) K) none) := by
        have pj : way t.mask (m.kd.hash k) K = (nth t.mask (stepAt t (m.kd.hash k) c) (K - c)).j := by rw [stepAt_add, Nat.add_sub_cancel' sk.in_]
        rw [e, pj]
        exact pr
      rw [pr2]
      dsimp only
      refine wpAny_pure (no fun hk => ?_)
      obtain ⟨q, hq, ek⟩ := List.mem_map.mp hk
      obtain ⟨i, hi, eq⟩ := List.getElem_of_mem hq
      have hq' : M[i]? = some q := by rw [List.getElem?_eq_getElem hi, eq]
      obtain ⟨n', a1, a2, a3⟩ := sk.ahead i q hq' ek
      refine n4 (n' - c) i (by omega) ?_ ((told i q hq').trans (by rw [ek]))
      rw [stepAt_add, Nat.add_sub_cancel' a1]
      exact a3

theorem seek_all (R : Tb m s.heap S M es ep t) (hr : m.kd.room A) {x : Addr} {k : κ} (hx : m.kd.is s.heap k x) {Q : SetFound → Shared → Prop} (yes : k ∈ M.map Prod.fst → Q (.there none) s)
    (no : ∀ K, k ∉ M.map Prod.fst → way t.mask (m.kd.hash k) K ∉ t.place.toList → (∀ n, n < K → way t.mask (m.kd.hash k) n ∈ t.place.toList) → Q (.free (way t.mask (m.kd.hash k) K) false) s) :
    wpAny (model P w) A (setSearch S (.ref x) (m.kd.hash k) true) Q E s := by
  have w1 := R.wide
  obtain ⟨K, K1, K2, K3⟩ := R.tab.first (by rw [hsh_len]; omega) (m.kd.hash k)
  have few : SetTable.turns t.mask ≤ 142 := by
    unfold SetTable.turns
    rcases R.tab.mok with e | e | e <;> omega
  unfold setSearch
  refine seek_run R hr hx K1 K2 K3 yes (fun n => no K n K2 K3) 100000 0 none ⟨Nat.zero_le _, fun i q hq ek => ?_⟩ (by omega) rfl
  have hh : (hsh m M)[i]? = some (m.kd.hash k) := by rw [hsh, List.getElem?_map, hq, ← ek]; rfl
  have hl := (List.getElem?_eq_some_iff.mp hq).1
  have sz := R.tab.sz
  rw [hsh_len] at sz
  have hl2 : i < t.place.toList.length := by rw [Array.length_toList, sz]; exact hl
  obtain ⟨n, n1, n2⟩ := R.tab.before K2 hh (List.getElem?_eq_getElem hl2)
  exact ⟨n, Nat.zero_le _, n1, by rw [n2]; exact List.getElem?_eq_getElem hl2⟩
end
end DL

namespace DL
open PySem PySem.Spec PyProof.Rows L2
section
variable {P : Program} {w : World} {κ : Type} [DecidableEq κ] {m : MK P w κ} {A : Around} {E : Value → Shared → Prop} {s : Shared}
variable {S : Addr} {M : List (κ × Addr)} {es : Array (Int × Value)} {ep : Nat} {t : SetTable}

/-- numbers of rows, turned into rows -/
theorem pick_all {α : Type} (l : List α) : (List.range l.length).filterMap (fun i => l[i]?) = l := by
  induction l with
  | nil => rfl
  | cons x r ih =>
    have one : (fun i => (x :: r)[i]?) 0 = some x := rfl
    rw [List.length_cons, List.range_succ_eq_map, List.filterMap_cons_some one, List.filterMap_map]
    exact congrArg (x :: ·) ih
theorem pick_rows (e : es.toList = rw_ m M) : ∀ ns : List Nat, (∀ n ∈ ns, n < M.length) →
    ns.filterMap (fun n => es[n]?) = rw_ m (ns.filterMap fun n => M[n]?) ∧ hsh m (ns.filterMap fun n => M[n]?) = ns.map fun n => (es.map (·.1)).getD n 0
  | [], _ => ⟨rfl, rfl⟩
  | n :: ns, hb => by
    obtain ⟨q, hq⟩ : ∃ q, M[n]? = some q := ⟨_, List.getElem?_eq_getElem (hb n List.mem_cons_self)⟩
    have he : es[n]? = some (m.kd.hash q.1, Value.ref q.2) := by
      rw [← Array.getElem?_toList, e, rw_, List.getElem?_map, hq]; rfl
    obtain ⟨i1, i2⟩ := pick_rows e ns fun x hx => hb x (List.mem_cons_of_mem _ hx)
    rw [List.filterMap_cons_some he, List.filterMap_cons_some hq, i1]
    refine ⟨rfl, ?_⟩
    have hv : (es.map (·.1)).getD n 0 = m.kd.hash q.1 := by
      have : (es.map (·.1))[n]? = some (m.kd.hash q.1) := by rw [Array.getElem?_map, he]; rfl
      simp [Array.getD_eq_getD_getElem?, this]
    rw [List.map_cons, hv, ← i2]
    rfl

/-- laid anew -/
theorem anew {o : Obj} (g1 : s.heap.get? S = some o) (g2 : o.ExactSet) (g3 : o.data = .set es ep t) (er : es.toList = rw_ m M) (ez : t.place.size = es.size) (ed : t.dummies = #[]) (el : es.size ≤ t.mask)
    (uni : (M.map Prod.fst).Nodup) (mem : ∀ q ∈ M, m.kd.is s.heap q.1 q.2) (ld : w.params.followText "set-order" = true ∨ t.led = true) (low : M.length < 64) {wish N : Nat}
    (n1 : SetTable.sizeAbove wish = N + 1) (n2 : MaskOk N) (n3 : M.length * 5 < N * 3) {Q : Unit → Shared → Prop}
    (q : ∀ h' M' es' ep' t', Heap.SameBut S s.heap h' → Tb m h' S M' es' ep' t' → M'.Perm M → Q () { s with heap := h' }) : wpAny (model P w) A (setRelay S wish) Q E s := by
  have lm := len_of_rows er
  have hN : N ≤ 127 := by rcases n2 with e | e | e <;> omega
  obtain ⟨t', order, r0, r1, r2, r3, r4, r5, r6⟩ := relaid_ok t (hs := es.map (·.1)) (wanted := wish) (M := N) (by omega) n2 (by rw [Array.size_map]; omega)
  rw [Array.size_map, lm] at r1
  obtain ⟨p1, p2⟩ := pick_rows er order.toList fun n hn => List.mem_range.mp (r1.mem_iff.mp hn)
  have pm : (order.toList.filterMap fun n => M[n]?).Perm M := (r1.filterMap _).trans (by rw [pick_all])
  generalize (order.toList.filterMap fun n => M[n]?) = M' at p1 p2 pm
  rw [← p2] at r2
  have rows' : (order.filterMap (es[·]?)).toList = rw_ m M' := by
    first | (rw [Array.toList_filterMap]; exact p1) | simpa using p1
  have lm' := len_of_rows rows'
  have ll := pm.length_eq
  rw [setRelay_eq]
  refine wpAny_bind (wpAny_setState_of g1 g3 (fits_of ez ed el) ?_)
  dsimp only
  refine wp_if_neg (by rw [sizeLine_eq]; omega) ?_
  try refine wpAny_bind (wpAny_pure ?_)
  rw [r0]
  dsimp only
  refine wpAny_bind (wp_if_neg (by rw [lm', lm, ll]; simp) ?_)
  try refine wpAny_bind (wpAny_pure ?_)
  refine wpAny_pure ?_
  dsimp only
  refine wpAny_storeSet_of g1 g3 ?_ (by rw [sizeLine_eq]; omega)
  have sb : Heap.SameBut S s.heap (s.heap.update S (Obj.putSet (order.filterMap (es[·]?)) t')) := Heap.SameBut.update ..
  exact q _ M' _ (ep + 1) t' sb { at_ := ⟨_, store_at g1 g3, ⟨g2.1, g2.2.1, g2.2.2⟩, rfl⟩, es_ := rows', tab := r2, uni := (pm.map _).nodup_iff.mpr uni, mem := fun r hr => m.aside (mem r (pm.mem_iff.mp hr)) g1 g3 sb, ld := by rw [r4]; exact ld, wide := by rw [ll, r3]; exact n3, low := by omega } pm

/-- one more key -/
theorem put_in (R : Tb m s.heap S M es ep t) (hr : m.kd.room A) {x : Addr} {k : κ} (hx : m.kd.is s.heap k x) (hl : M.length + 1 < 64) {Q : Bool → Shared → Prop}
    (q : ∀ b h' M' es' ep' t', Heap.SameBut S s.heap h' → Tb m h' S M' es' ep' t' → (k ∈ M.map Prod.fst ∧ M' = M ∨ k ∉ M.map Prod.fst ∧ M'.Perm ((k, x) :: M)) → Q b { s with heap := h' }) :
    wpAny (model P w) A (setAddHashed S (.ref x) (m.kd.hash k)) Q E s := by
  obtain ⟨o, g1, g2, g3⟩ := R.at_
  have wd := R.wide
  have ls := len_of_rows R.es_
  unfold setAddHashed
  refine wpAny_holding ?_
  rw [show (100000 : Nat) = Nat.succ 99999 from rfl]
  rw [setAddHashedIn_succ S (.ref x) (m.kd.hash k) 99999]
  refine wpAny_bind (wpAny_setState_of g1 g3 R.fit ?_)
  dsimp only
  refine wp_if_neg (by unfold byScan Value.scannable; simp) ?_
  try refine wpAny_bind (wpAny_pure ?_)
  refine wpAny_bind (seek_all R hr hx (fun hk => ?_) fun K hk K2 K3 => ?_)
  · exact wpAny_pure (q false s.heap M es ep t (Heap.SameBut.refl S s.heap) R (.inl ⟨hk, rfl⟩))
  · dsimp only
    refine wpAny_bind (wpAny_setState_of g1 g3 R.fit ?_)
    dsimp only
    obtain ⟨u1, u2, u3, u4, u5, u6, _, _, u9⟩ := R.tab.put K2 K3
    rw [hsh_len] at u2 u9
    generalize eb : SetTable.below t.place (way t.mask (m.kd.hash k) K) = b at u1 u2 u3
    generalize ep_ : t.put (way t.mask (m.kd.hash k) K) = pt at u1 u3 u4 u5 u6 u9 ⊢
    obtain ⟨t1, b1⟩ := pt
    dsimp only at u1 u3 u4 u5 u6 u9 ⊢
    subst u1
    -- the rows then
    have e1 : (SetTable.insertAt es b1 (m.kd.hash k, Value.ref x)).toList = rw_ m (M.take b1 ++ (k, x) :: M.drop b1) := by
      rw [SetTable.toList_insertAt, R.es_]
      simp only [rw_, List.map_append, List.map_cons, List.map_take, List.map_drop]
    have e2 : hsh m (M.take b1 ++ (k, x) :: M.drop b1) = (hsh m M).take b1 ++ m.kd.hash k :: (hsh m M).drop b1 := by
      simp only [hsh, List.map_append, List.map_cons, List.map_take, List.map_drop]
    rw [← e2] at u3
    have pm : (M.take b1 ++ (k, x) :: M.drop b1).Perm ((k, x) :: M) := by
      refine List.perm_middle.trans ?_
      rw [List.take_append_drop]
    generalize (M.take b1 ++ (k, x) :: M.drop b1) = M1 at e1 u3 pm
    have l1 : M1.length = M.length + 1 := pm.length_eq
    have z1 := len_of_rows e1
    generalize SetTable.insertAt es b1 (m.kd.hash k, Value.ref x) = es1 at e1 z1 ⊢
    have uni1 : (M1.map Prod.fst).Nodup := by
      refine (pm.map Prod.fst).nodup_iff.mpr ?_
      rw [List.map_cons]
      exact List.nodup_cons.mpr ⟨hk, R.uni⟩
    have fin : ∀ b : Bool, wpAny (model P w) A (do
        storeSet S es1 (if b = true then t1 else { t1 with plain := false })
        if !false && (if b = true then t1 else { t1 with plain := false }).tooFull then setRelay S (SetTable.grown (es.size + 1))
        return true) Q E s := by
      intro b
      obtain ⟨t2, et, v1, v2, v3, v4, v5⟩ : ∃ t2, (if b = true then t1 else { t1 with plain := false }) = t2 ∧ TabOk t2 (hsh m M1) ∧ t2.led = t.led ∧ t2.mask = t.mask ∧ t2.place = t1.place ∧ t2.fill = M.length + 1 := by
        cases b with
        | true => exact ⟨_, rfl, u3, u5, u4, rfl, u9⟩
        | false => exact ⟨_, rfl, { ris := u3.ris, dm := u3.dm, sz := u3.sz, mok := u3.mok, bd := u3.bd, reach := u3.reach }, u5, u4, rfl, u9⟩
      rw [et]
      refine wpAny_bind (wpAny_storeSet_of g1 g3 ?_ (by rw [sizeLine_eq]; omega))
      have sb : Heap.SameBut S s.heap (s.heap.update S (Obj.putSet es1 t2)) := Heap.SameBut.update ..
      have at1 := store_at (es' := es1) (t' := t2) g1 g3
      generalize s.heap.update S (Obj.putSet es1 t2) = h1 at sb at1 ⊢
      have mem1 : ∀ r ∈ M1, m.kd.is h1 r.1 r.2 := fun r hr' => by
        rcases List.mem_cons.mp (pm.mem_iff.mp hr') with e | hr'
        · rw [e]; exact m.aside hx g1 g3 sb
        · exact m.aside (R.mem r hr') g1 g3 sb
      have ld1 : w.params.followText "set-order" = true ∨ t2.led = true := by rw [v2]; exact R.ld
      have full : t2.tooFull = true ↔ (M.length + 1) * 5 ≥ t.mask * 3 := by
        unfold SetTable.tooFull
        rw [decide_eq_true_eq, v5, v3]
      by_cases tf : t2.tooFull = true
      · have big := full.mp tf
        first
          | (refine wpAny_bind ?_; refine wp_if_pos (by simp [tf]) ?_)
          | (refine wp_if_pos (by simp [tf]) ?_; refine wpAny_bind ?_)
        rw [ls]
        have pz : t2.place.size = es1.size := by
          have := v1.sz
          rw [hsh_len] at this
          omega
        obtain ⟨N, n1, n2, n3⟩ : ∃ N, SetTable.sizeAbove (SetTable.grown (M.length + 1)) = N + 1 ∧ MaskOk N ∧ M1.length * 5 < N * 3 := by
          rcases R.tab.mok with e | e | e
          · have e5 : M.length = 4 := by omega
            exact ⟨31, by rw [e5]; exact size_20, .inr (.inl rfl), by omega⟩
          · have e5 : M.length = 18 := by omega
            exact ⟨127, by rw [e5]; exact size_76, .inr (.inr rfl), by omega⟩
          · omega
        refine anew (s := { s with heap := h1 }) at1 ⟨g2.1, g2.2.1, g2.2.2⟩ rfl e1 pz v1.dm (by rw [z1, l1, v3]; omega) uni1 mem1 ld1 (by omega) n1 n2 n3 ?_
        intro h2 M2 es2 ep2 t2 sb2 R2 pm2
        exact wpAny_pure (q true h2 M2 es2 ep2 t2 (sb.trans sb2) R2 (.inr ⟨hk, pm2.trans pm⟩))
      · first
          | refine wp_if_neg (by simp [tf]) ?_
          | (refine wpAny_bind ?_; refine wp_if_neg (by simp [tf]) ?_; refine wpAny_pure ?_)
        have small := fun z => tf (full.mpr z)
        exact wpAny_pure (q true h1 M1 es1 (ep + 1) t2 sb { at_ := ⟨_, at1, ⟨g2.1, g2.2.1, g2.2.2⟩, rfl⟩, es_ := e1, tab := v1, uni := uni1, mem := mem1, ld := ld1, wide := by have u : ¬ (M.length + 1) * 5 ≥ t.mask * 3 := small; rw [l1, v3]; omega, low := by omega } (.inr ⟨hk, pm⟩))
    by_cases pl1 : t1.plain = true
    · first
        | (refine wpAny_bind ?_; refine wp_if_pos pl1 ?_; refine m.byv hx fun b => ?_)
        | refine wp_if_pos pl1 (wpAny_bind (m.byv hx fun b => ?_))
      exact fin b
    · first
        | (refine wpAny_bind ?_; refine wp_if_neg pl1 ?_; refine wpAny_pure ?_)
        | refine wp_if_neg pl1 (wpAny_bind (wpAny_pure ?_))
      exact fin true
end
end DL

namespace DL
open PySem PySem.Spec PyProof.Rows L2
section
variable {P : Program} {w : World} {κ : Type} [DecidableEq κ] {m : MK P w κ} {A : Around} {E : Value → Shared → Prop} {s : Shared}
/-- what the first i keys have made of the set -/
structure Cov (ks : List (κ × Addr)) (i : Nat) (M : List (κ × Addr)) : Prop where
  sub : ∀ q ∈ M, q ∈ ks.take i
  all : ∀ q ∈ ks.take i, q.1 ∈ M.map Prod.fst
  len : M.length ≤ i
theorem take_snoc {α : Type} {l : List α} {i : Nat} {x : α} (e : l[i]? = some x) : l.take (i + 1) = l.take i ++ [x] := by
  rw [List.take_succ, e]; rfl
theorem Cov.next {ks M M' : List (κ × Addr)} {i : Nat} {x : κ × Addr} (c : Cov ks i M) (e : ks[i]? = some x) (h : x.1 ∈ M.map Prod.fst ∧ M' = M ∨ x.1 ∉ M.map Prod.fst ∧ M'.Perm (x :: M)) : Cov ks (i + 1) M' := by
  rcases h with ⟨h1, rfl⟩ | ⟨_, h1⟩
  · refine ⟨fun q hq => ?_, fun q hq => ?_, Nat.le_succ_of_le c.len⟩
    · rw [take_snoc e]; exact List.mem_append_left _ (c.sub q hq)
    · rw [take_snoc e] at hq
      rcases List.mem_append.mp hq with z | z
      · exact c.all q z
      · rw [List.mem_singleton.mp z]; exact h1
  · refine ⟨fun q hq => ?_, fun q hq => ?_, ?_⟩
    · rw [take_snoc e]
      rcases List.mem_cons.mp (h1.mem_iff.mp hq) with z | z
      · rw [z]; simp
      · exact List.mem_append_left _ (c.sub q z)
    · refine (h1.map Prod.fst).mem_iff.mpr ?_
      rw [take_snoc e] at hq
      rcases List.mem_append.mp hq with z | z
      · exact List.mem_cons_of_mem _ (c.all q z)
      · rw [List.mem_singleton.mp z]; exact List.mem_cons_self
    · rw [h1.length_eq]; exact Nat.succ_le_succ c.len
/-- the set, wherever else the heap grows -/
theorem Tb.on {h h' : Heap} {S : Addr} {M : List (κ × Addr)} {es : Array (Int × Value)} {ep : Nat} {t : SetTable} (R : Tb m h S M es ep t) (e : ∀ o, h.get? S = some o → h'.get? S = some o) (u : ∀ q ∈ M, m.kd.is h' q.1 q.2) : Tb m h' S M es ep t := by
  obtain ⟨o, a, r⟩ := R.at_
  exact { R with at_ := ⟨o, e o a, r⟩, mem := u }
/-- a set just made -/
abbrev newSet (w : World) : Obj := { cls := .type "set", dict := none, data := .set #[] 0 (.fresh 0 0 (!w.params.followText "set-order")) }
theorem tb_new {h : Heap} {S : Addr} (e : h.get? S = some (newSet w)) : Tb m h S [] #[] 0 (.fresh 0 0 (!w.params.followText "set-order")) where
  at_ := ⟨_, e, ⟨rfl, rfl, rfl⟩, rfl⟩
  es_ := rfl
  tab := { ris := List.Pairwise.nil, dm := rfl, sz := rfl, mok := .inl rfl, bd := fun x hx => (by cases hx), reach := fun i h j hi => (by simp [hsh] at hi) }
  uni := List.nodup_nil
  mem := fun q hq => (by cases hq)
  ld := by
    show _ ∨ (!w.params.followText "set-order") = true
    cases w.params.followText "set-order" <;> simp
  wide := by show 0 * 5 < 7 * 3; decide
  low := by show 0 < 64; decide

theorem upd_loop {I : Addr} {fp wr : List Addr} {G : Array GenState → Array GenState → Prop} {n : Nat} {Pv : Nat → Value → Prop} {St : Nat → Shared → Prop} {R : Result → Shared → Prop} (W : WalksS P w A.in1 I fp wr G n Pv St)
    {S : Addr} (out : S ∉ fp) {ks : List (κ × Addr)} (en : n = ks.length) (few : ks.length < 64) (what : ∀ i v, Pv i v → ∃ q, ks[i]? = some q ∧ v = .ref q.2) {h0 : Heap} (keys : ∀ q ∈ ks, m.kd.is h0 q.1 q.2)
    (n1 : h0.get? S = none) (n2 : ∀ b ∈ wr, h0.get? b = none) (hr : m.kd.room A.in1) :
    ∀ (d i : Nat) (s : Shared), i + d = n → St i s → (∀ b o, h0.get? b = some o → s.heap.get? b = some o) → (∃ M es ep t, Tb m s.heap S M es ep t ∧ Cov ks i M) →
      (∀ s' M es ep t, Moved (S :: wr) G s s' → Tb m s'.heap S M es ep t → Cov ks n M → (∀ b o, h0.get? b = some o → s'.heap.get? b = some o) → R (.ok (.ret .none)) s') →
      codeAny (model P w) A (.builtin "set.update.loop" ⟨[.ref S, .ref I], []⟩) R s := by
  have Sw : S ∉ wr := fun z => out (W.sub _ z)
  have onto : ∀ {s s' : Shared}, Moved wr G s s' → (∀ b o, h0.get? b = some o → s.heap.get? b = some o) → ∀ b o, h0.get? b = some o → s'.heap.get? b = some o := by
    intro s s' mv k b o e
    refine mv.heap b o (fun z => ?_) (k b o e)
    have := n2 b z
    rw [this] at e
    cases e
  have kept : ∀ {h' : Heap} {M : List (κ × Addr)} {i : Nat}, Cov ks i M → (∀ b o, h0.get? b = some o → h'.get? b = some o) → ∀ q ∈ M, m.kd.is h' q.1 q.2 := fun c k q hq => m.grow (keys q (List.mem_of_mem_take (c.sub q hq))) k
  intro d
  induction d with
  | zero =>
    intro i s ei st k ⟨M, es, ep, t, T, c⟩ q
    rw [Nat.add_zero] at ei
    subst ei
    refine codeAny_builtin F.entry_set_update_loop ?_
    rw [Around.under_plainId F.plain_set_update_loop _]
    refine (show wpAny _ A.in1 (pyNext (.ref I) >>= _) _ _ s from wpAny_bind (W.done s _ _ st fun s' mv => ?_))
    refine (show wpAny _ A.in1 (ret Value.none) _ _ s' from wpAny_pure (q s' M es ep t (mv.mono fun b hb => List.mem_cons_of_mem _ hb) ?_ c (onto mv k)))
    exact T.on (fun o e => mv.heap S o Sw e) (kept c (onto mv k))
  | succ d ih =>
    intro i s ei st k ⟨M, es, ep, t, T, c⟩ q
    refine codeAny_builtin F.entry_set_update_loop ?_
    rw [Around.under_plainId F.plain_set_update_loop _]
    refine (show wpAny _ A.in1 (pyNext (.ref I) >>= _) _ _ s from wpAny_bind (W.item i s _ _ (by omega) st fun v s' hv st' mv => ?_))
    obtain ⟨x, hx, rfl⟩ := what i v hv
    have k' := onto mv k
    have T' := T.on (h' := s'.heap) (fun o e => mv.heap S o Sw e) (kept c k')
    have kx : m.kd.is s'.heap x.1 x.2 := m.grow (keys x (List.mem_of_getElem? hx)) k'
    refine (show wpAny _ A.in1 (holding [Value.ref x.2] (setAdd S (.ref x.2)) >>= _) _ _ s' from wpAny_bind (wpAny_holding ?_))
    unfold setAdd
    refine wpAny_holding (wpAny_bind (m.kd.pyHash hr kx ?_))
    have cl := c.len
    refine put_in (s := { s' with toks := s'.toks + m.kd.draws x.1 }) T' hr kx (by omega) fun b h2 M2 es2 ep2 t2 sb T2 c2 => ?_
    have off : ∀ b, b ≠ S → h2.get? b = s'.heap.get? b := fun b z => sb.2 b z
    have k2 : ∀ b o, h0.get? b = some o → h2.get? b = some o := fun b o e => by
      rw [off b (fun z => by rw [z, n1] at e; cases e)]
      exact k' b o e
    refine wpAny_pure ⟨plainId_quiet F.plain_set_update_loop _, ih (i + 1) _ (by omega) (W.frame _ s' _ _ st' (Nat.le_add_right _ _) fun b hb o e => ?_) k2 ⟨M2, es2, ep2, t2, T2, c.next hx c2⟩ fun s3 M3 es3 ep3 t3 mv3 T3 c3 k3 => ?_⟩
    · rw [off b fun z => out (by rw [← z]; exact hb)]
      exact e
    · refine q s3 M3 es3 ep3 t3 (Moved.trans W.gtrans ((mv.mono fun b hb => List.mem_cons_of_mem _ hb).then_heap (Nat.le_add_right _ _) fun b o hb e => ?_) mv3) T3 c3 k3
      rw [off b fun z => hb (by rw [z]; exact List.mem_cons_self)]
      exact e
end
end DL

namespace DL
open PySem PySem.Spec PyProof.Rows L2
section
variable {P : Program} {w : World} {κ : Type} [DecidableEq κ] {m : MK P w κ} {A : Around} {E : Value → Shared → Prop} {s : Shared}
theorem none_above {h : Heap} {b : Addr} (e : h.objs.size ≤ b) : h.get? b = none := by
  cases q : h.get? b with
  | none => rfl
  | some o => exact absurd (Heap.lt_size q) (Nat.not_lt.mpr e)
/-- set(xs), xs a list of such keys -/
theorem set_of {l : Addr} {ks : List (κ × Addr)} {Q : Value → Shared → Prop} (idle : A.handled = none) (hl : s.heap.IsList l (ks.map fun q => Value.ref q.2).toArray) (keys : ∀ q ∈ ks, m.kd.is s.heap q.1 q.2)
    (few : ks.length < 64) (hu : A.units + 3 < cLine) (hr : ∀ B : Around, B.units ≤ A.units + 3 → m.kd.room B)
    (q : ∀ (h' : Heap) (tk : Nat) M es ep t, Tb m h' s.heap.objs.size M es ep t → Cov ks ks.length M → (∀ b o, s.heap.get? b = some o → h'.get? b = some o) → Q (.ref s.heap.objs.size) { s with heap := h', toks := tk }) :
    wpAny (model P w) A (call (.type "set") [.ref l]) Q E s := by
  obtain ⟨c, tl, hmro⟩ := F.called_set.mro
  have h0 := F.called_set.made
  have h1 := F.called_set.sub
  have h2 := F.called_set.notType
  have h3 := F.called_set.canCreate
  have h4 := F.typeCall_set_1 (.ref l)
  refine wpAny_call (codeAny_of_tree (show wpAny _ _ (callAny (.type "set") _) _ _ _ from wpAny_pure ⟨Code.quiet_builtin _ (by decide +kernel), codeAny_builtin F.entry_type_call ?_⟩))
  rw [Around.under_plain (weight_type_call_type "set" [.ref l] []) rfl]
  repeat (any_goals (first | assumption | wp_step))
  -- the empty set is made
  refine codeAny_mono (code_set_led1 (.ref l) (E := E) (Q₁ := fun ob s1 => s1 = { s with heap := s.heap.push (newSet w) } ∧ ob = .ref s.heap.objs.size) ⟨rfl, rfl⟩) fun r s1 hr1 => ?_
  obtain er | fl := r
  · exact hr1
  cases fl with
  | ret ob =>
    obtain ⟨rfl, rfl⟩ := hr1
    have at0 : (s.heap.push (newSet w)).get? s.heap.objs.size = some (newSet w) := Heap.get?_push_size _ rfl
    have ty : Shared.TypeIs { s with heap := s.heap.push (newSet w) } (.ref s.heap.objs.size) "set" := ⟨_, at0, rfl⟩
    have i1 := F.called_set.init.lookup
    have i2 := F.called_set.init.bind (.ref s.heap.objs.size)
    repeat (any_goals (first | assumption | wp_step))
    refine codeAny_mono (codeAny_call_builtin (R := wants (fun r s2 => r = .none ∧ ∃ h' tk M es ep t, s2 = { s with heap := h', toks := tk } ∧ Tb m h' s.heap.objs.size M es ep t ∧ Cov ks ks.length M ∧ (∀ b o, s.heap.get? b = some o → h'.get? b = some o)) E) F.called_set.init.plain F.entry_set_init (check_set_init_1 ty ?body)) fun r2 s2 hr2 => ?after
    case after =>
      obtain er | fl := r2
      · exact hr2
      cases fl with
      | ret r =>
        obtain ⟨rfl, h', tk, M, es, ep, t, rfl, T, cv, k⟩ := hr2
        repeat (any_goals (first | assumption | wp_step))
        exact q h' tk M es ep t T cv k
      | _ => exact hr2.elim
    case body =>
      have hlt : l < s.heap.objs.size := by
        obtain ⟨o, ho, _⟩ := hl
        exact Heap.lt_size ho
      have hl1 : (s.heap.push (newSet w)).IsList l (ks.map fun q => Value.ref q.2).toArray := hl.push _
      obtain ⟨ol, o1, o2, nl, o3⟩ := hl1
      obtain ⟨oc, od, oda, osl⟩ := ol
      dsimp only at o2 o3
      subst o2 o3
      have hl2 : (s.heap.push (newSet w)).IsList l (ks.map fun q => Value.ref q.2).toArray := ⟨_, o1, rfl, nl, rfl⟩
      have b1 := F.sub_list_set
      have b2 := F.sub_list_frozenset
      have b3 : (Value.type "list" == Value.type "dict") = false := by decide
      unfold Builtin.«set.__init__» noKeywords Builtin.Frozenset.updateFrom
      generalize pe : pyIter = pI
      wp_walk
      subst pe
      refine wpAny_pyIter_list hl2 (wpAny_bind (wpAny_runValue ?_))
      have sz1 : (s.heap.push (newSet w)).objs.size = s.heap.objs.size + 1 := Heap.size_push ..
      have ne1 : l ≠ (s.heap.push (newSet w)).objs.size := by rw [sz1]; exact Nat.ne_of_lt (Nat.lt_succ_of_lt hlt)
      have idle3 : A.in1.in1.in1.handled = none := by simp [idle]
      refine upd_loop (m := m) ((Walks.list idle3 _ l ne1 (ks.map fun q => Value.ref q.2).toArray).toS) (S := s.heap.objs.size) ?out (ks := ks) (by simp) few (fun i v hv => ?what) (h0 := s.heap) keys (none_above (Nat.le_refl _)) (fun b hb => ?wr) (hr _ (by simp)) ks.length 0 _ (by simp) ⟨⟨_, Heap.get?_push_size _ rfl, rfl, rfl⟩, (hl2.push _)⟩ (fun b o e => Heap.get?_push_of_some _ (Heap.get?_push_of_some _ e)) ?start ?fin
      case out =>
        rw [sz1]
        simp only [List.mem_cons, List.not_mem_nil, or_false, not_or]
        exact ⟨Nat.ne_of_lt (Nat.lt_succ_self _), (Nat.ne_of_lt hlt).symm⟩
      case what =>
        have e : (ks.map fun q => Value.ref q.2)[i]? = some v := by simpa using hv
        rw [List.getElem?_map] at e
        obtain ⟨x, h5, h6⟩ := Option.map_eq_some_iff.mp e
        exact ⟨x, h5, h6.symm⟩
      case wr =>
        rw [List.mem_singleton.mp hb]
        exact none_above (by rw [sz1]; exact Nat.le_succ _)
      case start =>
        exact ⟨[], #[], 0, _, tb_new (Heap.get?_push_of_some _ at0), ⟨fun q hq => (by cases hq), fun q hq => (by simp at hq), Nat.le_refl _⟩⟩
      case fin =>
        intro s' M es ep t mv T cv k
        obtain ⟨h', g2, d2, tk, os2⟩ := s'
        obtain rfl : g2 = s.gens := mv.gens
        obtain rfl : d2 = s.drawn := mv.drawn
        obtain rfl : os2 = s.os := mv.os
        refine (show wpAny _ _ _ _ _ _ from wpAny_pure ?_)
        have cv2 : Cov ks ks.length M := by simpa using cv
        exact (show wpAny _ _ (ret Value.none) _ _ _ from wpAny_pure ⟨rfl, h', tk, M, es, ep, t, rfl, T, cv2, k⟩)
  | _ => exact hr1.elim
end
end DL

namespace DL
open PySem PySem.Spec PyProof.Rows L2 PySem.SeqAt
/-! ## nested tuples as keys -/
section
variable {P : Program} {w : World} {E : Value → Shared → Prop}
theorem nk_cls : ∀ (n : Nat) (k : NestedKey) (v : Value) (A : Around) (s : Shared) (Q : Bool → Shared → Prop), NestedIs s.heap k v → k.depth ≤ n → Q false s → wpAny (model P w) A (ofAClassStatement n v) Q E s
  | n, .none, _, A, s, Q, x, _, q => by cases x; cases n <;> exact wpAny_pure q
  | n, .num _, _, A, s, Q, x, _, q => by cases x <;> cases n <;> exact wpAny_pure q
  | n, .text _, _, A, s, Q, x, _, q => by cases x; cases n <;> exact wpAny_pure q
  | 0, .tup ks, _, A, s, Q, _, hn, _ => by simp [NestedKey.depth] at hn
  | n + 1, .tup ks, _, A, s, Q, x, hn, q => by
    cases x with
    | @tup a o vs _ _ h1 h2 h3 h4 =>
      have hk : NestedKey.depthAll ks ≤ n := by simpa [NestedKey.depth] using hn
      unfold ofAClassStatement
      refine wpAny_bind (wpAny_typeOf (⟨o, h1, h2⟩ : s.TypeIs (.ref a) "tuple") ?_)
      dsimp only
      simp only [show (("tuple" : String) == "tuple") = true from by decide, if_true, Bool.not_true, Bool.false_eq_true, if_false]
      try refine wpAny_bind (wpAny_pure ?_)
      try simp only [Bool.not_true, Bool.false_eq_true, if_false]
      refine (show wpAny _ _ (seqItems? (.ref a) >>= _) _ _ s from wpAny_bind (wpAny_seqItems h1 h3 ?_))
      dsimp only
      refine wpAny_bind (show wpAny _ _ (forIn vs _ _) _ _ s from ?_)
      rw [← Array.forIn_toList]
      refine wpAny_forIn_list _ (fun rest r st => st = s ∧ r.1 = none ∧ ∃ ks', NestedAll s.heap ks' rest ∧ NestedKey.depthAll ks' ≤ n) _ ?_ ?_ _ _ ⟨rfl, rfl, ks, h4, hk⟩
      · rintro v rest r st ⟨rfl, hr, ks', h5, h6⟩
        cases h5 with
        | @cons k' _ ks'' _ a1 a2 =>
          simp only [NestedKey.depthAll] at h6
          refine wpAny_bind (nk_cls n k' v A st _ a1 (by omega) ?_)
          simp only [Bool.false_eq_true, if_false]
          exact wpAny_pure ⟨rfl, rfl, ks'', a2, by omega⟩
      · rintro ⟨r1, r2⟩ st ⟨rfl, hr, _⟩
        cases (show r1 = none from hr)
        exact wpAny_pure q
theorem nk_byv : ∀ (n : Nat) (k : NestedKey) (v : Value) (A : Around) (s : Shared) (Q : Bool → Shared → Prop), NestedIs s.heap k v → k.depth ≤ n → (∀ b, Q b s) → wpAny (model P w) A (hashByValue n v) Q E s
  | n, .none, _, A, s, Q, x, _, q => by cases x; cases n <;> exact wpAny_pure (q _)
  | n, .num _, _, A, s, Q, x, _, q => by cases x <;> cases n <;> exact wpAny_pure (q _)
  | n, .text _, _, A, s, Q, x, _, q => by cases x; cases n <;> exact wpAny_pure (q _)
  | 0, .tup ks, _, A, s, Q, _, hn, _ => by simp [NestedKey.depth] at hn
  | n + 1, .tup ks, _, A, s, Q, x, hn, q => by
    cases x with
    | @tup a o vs _ _ h1 h2 h3 h4 =>
      have hk : NestedKey.depthAll ks ≤ n := by simpa [NestedKey.depth] using hn
      unfold hashByValue
      refine wpAny_bind (wpAny_specialOf (⟨o, h1, h2⟩ : s.TypeIs (.ref a) "tuple") F.slot_tuple_hash.lookup ?_)
      refine (show wpAny _ _ (seqItems? (.ref a) >>= _) _ _ s from wpAny_bind (wpAny_seqItems h1 h3 ?_))
      refine wpAny_bind (show wpAny _ _ (forIn vs _ _) _ _ s from ?_)
      rw [← Array.forIn_toList]
      refine wpAny_forIn_list _ (fun rest r st => st = s ∧ r.1 = none ∧ ∃ ks', NestedAll s.heap ks' rest ∧ NestedKey.depthAll ks' ≤ n) _ ?_ ?_ _ _ ⟨rfl, rfl, ks, h4, hk⟩
      · rintro v rest r st ⟨rfl, hr, ks', h5, h6⟩
        cases h5 with
        | @cons k' _ ks'' _ a1 a2 =>
          simp only [NestedKey.depthAll] at h6
          refine wpAny_bind (nk_byv n k' v A st _ a1 (by omega) fun b => ?_)
          cases b with
          | false =>
            simp only [Bool.not_false, if_true]
            exact wpAny_pure (wpAny_pure (q false))
          | true =>
            simp only [Bool.not_true, Bool.false_eq_true, if_false]
            exact wpAny_pure ⟨rfl, rfl, ks'', a2, by omega⟩
      · rintro ⟨r1, r2⟩ st ⟨rfl, hr, _⟩
        cases (show r1 = none from hr)
        exact wpAny_pure (q true)
end
/-- keys: nested tuples -/
def nkM (P : Program) (w : World) : MK P w NestedKey where
  kd := nestedKind P w
  grow := fun x k => ⟨NestedIs.at (fun _ _ _ _ e _ => k _ _ e) _ _ x.1, x.2⟩
  aside := fun {h h' k a S o es ep t} x g1 g2 sb => ⟨NestedIs.at (fun b ob vs n e1 e2 => by
    refine (sb.2 b fun z => ?_).trans e1
    subst z
    rw [g1] at e1
    cases e1
    rw [g2] at e2
    cases e2) _ _ x.1, x.2⟩
  cls := fun x q => nk_cls 8 _ _ _ _ _ x.1 x.2 q
  byv := fun x q => nk_byv 8 _ _ _ _ _ x.1 x.2 q
mutual
theorem nk_reads {h : Heap} : ∀ (k : NestedKey) (v : Value) (as : List Addr), Reads h v k.data as → NestedIs h k v
  | .none, _, _, r => by cases r; exact .none
  | .num i, _, _, r => by cases r; exact .int _ _
  | .text x, _, _, r => by cases r; exact .text _ _
  | .tup ks, _, _, r => by
    cases r with
    | tuple a1 a2 a3 a4 => exact .tup a1 a2 a3 (nk_readsAll ks _ _ a4)
theorem nk_readsAll {h : Heap} : ∀ (ks : List NestedKey) (vs : List Value) (as : List Addr), ReadsAll h vs (NestedKey.datas ks) as → NestedAll h ks vs
  | [], _, _, r => by cases r; exact .nil
  | k :: ks, _, _, r => by
    cases r with
    | cons a1 a2 => exact .cons (nk_reads k _ _ a1) (nk_readsAll ks _ _ a2)
end
/-- keys that can be sorted beside one another -/
structure Sorts (ks : List NestedKey) : Prop where
  flat : ∀ k ∈ ks, k.depth ≤ 8
  tup : ∀ k ∈ ks, ∃ x r, k = .tup (x :: r)
  like : ∀ a ∈ ks, ∀ b ∈ ks, PySem.W.alike a.data b.data = true
  few : ks.length < 64
mutual
theorem nk_depth : ∀ k : NestedKey, k.data.depth = k.depth
  | .none => rfl
  | .num _ => rfl
  | .text _ => rfl
  | .tup ks => by simp only [NestedKey.data, PyData.depth, NestedKey.depth, nk_depths ks]
theorem nk_depths : ∀ ks : List NestedKey, PyData.depthAll (NestedKey.datas ks) = NestedKey.depthAll ks
  | [] => rfl
  | k :: r => by simp only [NestedKey.datas, PyData.depthAll, NestedKey.depthAll, nk_depth k, nk_depths r]
end
end DL


namespace DL
open PySem PySem.Spec PyProof.Rows L2 PySem.SeqAt
section
variable {P : Program} {w : World} {A : Around} {E : Value → Shared → Prop} {s : Shared}
theorem perm_back {α β : Type} (f : α → β) : ∀ {l : List α} {bs : List β}, bs.Perm (l.map f) → ∃ l' : List α, l'.Perm l ∧ l'.map f = bs := by
  intro l bs h
  generalize e : l.map f = cs at h
  induction h generalizing l with
  | nil => exact ⟨l, List.Perm.refl _, e⟩
  | @cons b bs cs _ ih =>
    cases l with
    | nil => cases e
    | cons a r =>
      simp only [List.map_cons, List.cons.injEq] at e
      obtain ⟨l', p, q⟩ := ih e.2
      exact ⟨a :: l', p.cons a, by rw [List.map_cons, q, e.1]⟩
  | swap x y bs =>
    match l, e with
    | [], e => cases e
    | [_], e => simp at e
    | a :: b :: r, e =>
      simp only [List.map_cons, List.cons.injEq] at e
      exact ⟨b :: a :: r, List.Perm.swap .., by simp only [List.map_cons, e.1, e.2.1, e.2.2]⟩
  | trans _ _ ih1 ih2 =>
    obtain ⟨l1, p1, q1⟩ := ih2 e
    obtain ⟨l2, p2, q2⟩ := ih1 q1
    exact ⟨l2, p2.trans p1, q2⟩
theorem each_reads {h : Heap} : ∀ {M : List (NestedKey × Addr)}, (∀ q ∈ M, ∃ as, Reads h (.ref q.2) q.1.data as) → PySem.W.EachIs (fun v d => ∃ as, Reads h v d as) (M.map fun q => Value.ref q.2) (M.map fun q => q.1.data)
  | [], _ => .nil
  | q :: M, r => .cons (r q List.mem_cons_self) (each_reads fun x hx => r x (List.mem_cons_of_mem _ hx))
theorem sort_zip (vs : List Value) (κ : PyProof.Rows.KeyKind) : (PySem.W.sortVals κ false vs vs).Perm vs := by
  unfold PySem.W.sortVals
  have h := (List.mergeSort_perm (vs.zip vs) (PySem.W.sortLe κ.toKeyOrd false fun p : Keyed => PySem.W.keyD κ p.1)).map Prod.snd
  rw [List.map_snd_zip (Nat.le_refl _)] at h
  exact h
/-- sorted(a set of nested tuples) -/
theorem sorted_tb {S : Addr} {M : List (NestedKey × Addr)} {es : Array (Int × Value)} {ep : Nat} {t : SetTable} (R : Tb (nkM P w) s.heap S M es ep t) (idle : A.handled = none) (o : Sorts (M.map Prod.fst)) (hu : A.units + 50 < cLine)
    (rd : ∀ q ∈ M, ∃ as, Reads s.heap (.ref q.2) q.1.data as) {Q : Value → Shared → Prop}
    (q : ∀ s' p c (M' : List (NestedKey × Addr)), (∀ b o, s.heap.get? b = some o → s'.heap.get? b = some o) → s'.gens = s.gens → s'.os = s.os → s.heap.objs.size ≤ p → M'.Perm M → s'.heap.get? p = some (seqObj "list" (M'.map fun q => Value.ref q.2).toArray c) → Q (.ref p) s') :
    wpAny (model P w) A (call (.builtin "sorted") [.ref S]) Q E s := by
  obtain ⟨ob, g1, g2, g3⟩ := R.at_
  have ls := len_of_rows R.es_
  have lw := R.low
  refine Calls.call_function_entry kind_sorted plain_sorted entry_sorted (args_sorted1 _) ?_
  unfold Builtin.«sorted»
  refine wpAny_bind (m := checkCount "sorted" 1 1 _) (wpAny_pure ?_)
  refine wpAny_bind (collect_set (A := A.in1) idle ⟨ob, g1, g2.1, g3⟩ R.fit (by unfold scanBound; omega) R.tab.ris R.ld fun s1 vs k1 z1 e1 e2 pm => ?_)
  have em : es.toList.map (·.2) = M.map fun q => Value.ref q.2 := by
    rw [R.es_, rw_, List.map_map]
    rfl
  rw [em] at pm
  obtain ⟨M1, p1, rfl⟩ := perm_back (fun q : NestedKey × Addr => Value.ref q.2) pm
  have l1 : (M1.map fun q => Value.ref q.2).length < 64 := by rw [List.length_map, p1.length_eq]; exact lw
  refine wpAny_bind (wpAny_newList ?_ (by rw [sizeLine_eq]; omega))
  have at1 : (s1.heap.push (seqObj "list" (M1.map fun q => Value.ref q.2).toArray 0)).get? s1.heap.objs.size = some (seqObj "list" (M1.map fun q => Value.ref q.2).toArray 0) := Heap.get?_push_size _ rfl
  -- they can be sorted
  have can : ∀ B : Around, B.units ≤ A.units + 10 → ∃ κ, PySem.W.SortsAt P w B { s1 with heap := PySem.W.sortingHeap (s1.heap.push (seqObj "list" (M1.map fun q => Value.ref q.2).toArray 0)) s1.heap.objs.size (M1.map fun q => Value.ref q.2) } κ (M1.map fun q => Value.ref q.2) := fun B hB => by
    have inM : ∀ d ∈ M1.map (fun q => q.1.data), ∃ k ∈ M.map Prod.fst, d = k.data := fun d hd => by
      obtain ⟨x, hx, rfl⟩ := List.mem_map.mp hd
      exact ⟨x.1, List.mem_map.mpr ⟨x, p1.mem_iff.mp hx, rfl⟩, rfl⟩
    refine ⟨_, PySem.W.SortsAt.data (each_reads fun x hx => ?_) (fun a ha b hb => ?_) (.inl fun d hd => ?_) fun d hd => ?_⟩
    · obtain ⟨as, r⟩ := rd x (p1.mem_iff.mp hx)
      refine ⟨as, Reads.keeps (fun b u e => ?_) r⟩
      have e' := k1 b u e
      refine PySem.W.sortingHeap_old (fun z => ?_) (Heap.get?_push_of_some _ e')
      have := Heap.lt_size e'
      rw [z] at this
      exact absurd this (Nat.lt_irrefl _)
    · obtain ⟨k, hk, rfl⟩ := inM a ha
      obtain ⟨k', hk', rfl⟩ := inM b hb
      exact o.like k hk k' hk'
    · obtain ⟨k, hk, rfl⟩ := inM d hd
      obtain ⟨x, r, rfl⟩ := o.tup k hk
      exact ⟨x.data, NestedKey.datas r, rfl⟩
    · obtain ⟨k, hk, rfl⟩ := inM d hd
      have := o.flat k hk
      rw [nk_depth]
      omega
  obtain ⟨κ, so⟩ := can A.in1.in1 (by simp)
  refine wpAny_bind (wpAny_holding (wpAny_call_entry slot_list_sort ⟨_, at1, rfl⟩ entry_list_sort (PySem.W.list_sort_vals (s := { s1 with heap := s1.heap.push (seqObj "list" (M1.map fun q => Value.ref q.2).toArray 0) }) at1 so (by rw [sizeLine_eq]; omega) ⟨_, rfl, ?_⟩) (args_list_sort _)))
  obtain ⟨c, hc⟩ := sortedHeap_at (vs := M1.map fun q => Value.ref q.2) (out := (PySem.W.sortVals κ false (M1.map fun q => Value.ref q.2) (M1.map fun q => Value.ref q.2)).toArray) at1
  obtain ⟨M2, p2, e3⟩ := perm_back (fun q : NestedKey × Addr => Value.ref q.2) (sort_zip (M1.map fun q => Value.ref q.2) κ)
  refine wpAny_pure ⟨_, rfl, q _ s1.heap.objs.size c M2 (fun b u e => ?_) e1 e2 z1 (p2.trans p1) (by rw [e3]; exact hc)⟩
  have e' := k1 b u e
  have lt := Heap.lt_size e'
  refine (show (sortedHeap (s1.heap.push (seqObj "list" (M1.map fun q => Value.ref q.2).toArray 0)) s1.heap.objs.size (M1.map fun q => Value.ref q.2) (PySem.W.sortVals κ false (M1.map fun q => Value.ref q.2) (M1.map fun q => Value.ref q.2)).toArray).get? b = some u from ?_)
  rw [sortedHeap_old (Nat.ne_of_lt lt) (by rw [size_push']; exact Nat.lt_succ_of_lt lt)]
  exact Heap.get?_push_of_some _ e'
end
end DL

namespace DL
open PySem PySem.Spec PyProof.Rows L2 PySem.SeqAt
/-! ## sorted(set(xs)) of nested tuples, as an expression -/
def rSS (K : PySem.W.Frag) (x : V) (H : Hp) (Q : VK) : Prop := ∃ (l : Addr) (M : List (NestedKey × Addr)), x = .ref l ∧ SqL K H l (M.map fun q => V.ref q.2) ∧ (∀ q ∈ M, Dp K H (.ref q.2) q.1.data) ∧ Sorts (M.map Prod.fst) ∧
  ∀ (M' : List (NestedKey × Addr)) (p : Addr), (∀ q ∈ M', q ∈ M) → (M'.map Prod.fst).Nodup → (∀ q ∈ M, q.1 ∈ M'.map Prod.fst) → M'.length ≤ M.length → H p = none → Q (.ref p) (upd H p (.lst (M'.map fun q => V.ref q.2)))
mutual
theorem nk_noD : ∀ k : NestedKey, noD k.data = true
  | .none => rfl
  | .num _ => rfl
  | .text _ => rfl
  | .tup ks => by simp only [NestedKey.data, noD]; exact nks_noD ks
theorem nks_noD : ∀ ks : List NestedKey, noDs (NestedKey.datas ks) = true
  | [] => rfl
  | k :: r => by simp only [NestedKey.datas, noDs, nk_noD k, nks_noD r, Bool.and_self]
end
theorem vals_refs : ∀ {M : List (NestedKey × Addr)} {us : List Value}, Vals (M.map fun q => V.ref q.2) us → us = M.map fun q => Value.ref q.2
  | [], _, .nil => rfl
  | q :: M, _, .cons r t => by
    cases r
    rw [vals_refs t]; rfl
theorem refs_vals : ∀ (M : List (NestedKey × Addr)), Vals (M.map fun q => V.ref q.2) (M.map fun q => Value.ref q.2)
  | [] => .nil
  | q :: M => .cons (show RelV (.ref q.2) (.ref q.2) from rfl) (refs_vals M)
section
variable {X : Cx}
theorem pe_sortSet {a : Expr} {ta : TE} {p p2 q pos : Pos} (hc : X.calm = true) (hu : X.A.units + 100 < cLine) (hg : Gl X "sorted") (hm : X.mg "sorted" = none) (hg2 : Gl X "set") (hm2 : X.mg "set" = none) (ha : PE X a ta)
    (na : starEach [a] X.env = (false, eval a X.env) :: starEach [] X.env := by rfl) : PE X (.Call (.Name "sorted" p) [.Call (.Name "set" p2) [a] [] q] [] pos) (fun σ H Q => ta σ H fun x H1 => rSS X.K x H1 Q) := by
  refine ⟨fun pins s σ H Q I h => Call_ (ld_blt I hg hm boot_sorted (PyProof.Rows.callWith_builtin1 (PyProof.Rows.args_cons (Call_ (ld_blt I hg2 hm2 PyProof.Rows.boot_set ?_)) rfl) rfl rfl))⟩
  refine PyProof.Rows.callWith_type1 (PyProof.Rows.args_cons ?one na) na rfl
  refine thn (ha.run pins s σ H _ I h) ?_
  rintro v s1 ⟨x, H1, I1, r1, q1⟩
  refine PyProof.Rows.args_nil ?_
  obtain ⟨l, M0, rfl, hq, hd, hs, q1⟩ := q1
  cases r1
  obtain ⟨its, rv, pl, hz⟩ := I1.list hq
  have ei := vals_refs rv
  subst ei
  have idle := I1.ok.hd hc
  have reads : ∀ q ∈ M0, ∃ as, Reads s1.heap (.ref q.2) q.1.data as := fun q hq => Dp.reads I1 _ _ _ (hd q hq) rfl
  have lw := hs.few
  rw [List.length_map] at lw
  refine set_of (m := nkM X.prog X.w) (ks := M0) idle pl.isList (fun q hq => ?_) lw (by omega) (fun B hB => ?_) fun h' tk M es ep t T cv k => PyProof.Rows.args_nil ?_
  · obtain ⟨as, r⟩ := reads q hq
    exact ⟨nk_reads _ _ _ r, hs.flat _ (List.mem_map.mpr ⟨q, hq, rfl⟩)⟩
  · show B.units + 8 < cLine
    omega
  · have sub : ∀ q ∈ M, q ∈ M0 := fun q hq => List.mem_of_mem_take (cv.sub q hq)
    have sub1 : ∀ k ∈ M.map Prod.fst, k ∈ M0.map Prod.fst := fun k hk => by
      obtain ⟨q, hq, rfl⟩ := List.mem_map.mp hk
      exact List.mem_map.mpr ⟨q, sub q hq, rfl⟩
    refine sorted_tb (s := { s1 with heap := h', toks := tk }) T idle ⟨fun k hk => hs.flat k (sub1 k hk), fun k hk => hs.tup k (sub1 k hk), fun a ha b hb => hs.like a (sub1 a ha) b (sub1 b hb), by rw [List.length_map]; exact T.low⟩ (by omega) (fun q hq => ?_) fun s' pn c M' k2 e1 e2 sz pm at2 => ?_
    · obtain ⟨as, r⟩ := reads q (sub q hq)
      exact ⟨as, Reads.keeps k r⟩
    · obtain ⟨ob, g1, _⟩ := T.at_
      have above : s1.heap.objs.size ≤ pn := Nat.le_trans (Nat.le_of_lt (Heap.lt_size g1)) sz
      have hn : H1 pn = none := I1.hok.fresh above
      have k3 : ∀ b u, s1.heap.get? b = some u → s'.heap.get? b = some u := fun b u e => k2 b u (k b u e)
      have len : (M'.map fun q => V.ref q.2).length ≤ sizeLine := by
        have := T.low
        rw [List.length_map, pm.length_eq, sizeLine_eq]
        omega
      refine ⟨.ref pn, _, I1.call' (ch := []) e2 (Un.laid (o := .lst (M'.map fun q => V.ref q.2)) k3 above hn) (I1.hok.laid (o := .lst (M'.map fun q => V.ref q.2)) k3 above ⟨len, M'.map fun q => Value.ref q.2, c, refs_vals M', at2⟩) (by rw [e1]; exact I1.bare) (fun _ z => nomatch z), rfl, q1 M' pn (fun q hq => sub q (pm.mem_iff.mp hq)) ((pm.map Prod.fst).nodup_iff.mpr T.uni) (fun q hq => ?_) (by rw [pm.length_eq]; exact cv.len) hn⟩
      exact (pm.map Prod.fst).mem_iff.mpr (cv.all q (by rw [List.take_of_length_le (Nat.le_refl _)]; exact hq))
/-- one argument, then something -/
theorem de_ap1 {T : Tbs} {a mk : Expr} {ta : TD} {c : CT} {r : V → Hp → VK → Prop} (hp : ∀ te, PE X a te → PE X mk (fun σ H Q => te σ H fun x H1 => r x H1 Q)) (hs : Snd (X.K, T) (fun vs H Q => ∃ x, vs = [x] ∧ r x H Q) c) (ha : DE T X a ta) :
    DE T X mk (tAp (tdCons ta tdNil) c) := by
  obtain ⟨te, h1, h2⟩ := ha
  refine ⟨_, hp te h1, fun σ H Γ ex P Q h p q => h2 σ H Γ ex _ _ h p fun v H1 r1 Γ1 he og p1 => ?_⟩
  have hx : Hs (X.K, T) H1 (tmpS [v] [r1.1] ++ (σ.zip Γ1 ++ ex)) := he.hs.front
  have p2 : c [r1.1] fun s ss => P (s, none) (back [r1] ss Γ1) := p1
  obtain ⟨x, e, z⟩ := hs [v] H1 [r1.1] _ _ Q rfl hx p2 fun s ss w H2 p3 l3 h5 => by
    have h6 : HE (X.K, T) H2 σ Γ1 (tmpS [v] ss ++ ((some w, s) :: ex)) := by
      refine ⟨he.len, h5.perm ?_⟩
      rw [← List.append_assoc, ← List.append_assoc]
      refine (List.perm_middle (a := ((some w, s) : Sl)) (l₁ := tmpS [v] ss ++ σ.zip Γ1) (l₂ := ex)).symm.trans ?_
      exact List.Perm.append_right _ List.perm_append_comm
    exact q w H2 (s, none) _ (HE.back (rs := [r1]) (vs := [v]) (by rw [l3]; rfl) (.cons og .nil) h6) Og.none p3
  cases e
  exact z
/-- what sorted(set(xs)) is: the keys of xs, each once, in some order -/
def cSortSet : CT := fun ss P => match ss with
  | [a] => ∃ ks : List NestedKey, lis a = some (ks.map NestedKey.data) ∧ Sorts ks ∧ ∀ ks' : List NestedKey, ks'.Nodup → (∀ k, k ∈ ks' ↔ k ∈ ks) → ks'.length ≤ ks.length → P (.m (ks'.map NestedKey.data)) ss
  | _ => False
theorem dt_pairs {K : PySem.W.Frag} {H : Hp} : ∀ {vs : List V} {ks : List NestedKey}, DtAll K H vs (ks.map NestedKey.data) → (∀ k ∈ ks, ∃ x r, k = .tup (x :: r)) → ∃ M : List (NestedKey × Addr), M.map Prod.fst = ks ∧ vs = M.map (fun q => V.ref q.2) ∧ ∀ q ∈ M, Dt K H (.ref q.2) q.1.data
  | [], [], _, _ => ⟨[], rfl, rfl, fun _ h => by cases h⟩
  | [], _ :: _, h, _ => by cases h
  | _ :: _, [], h, _ => by cases h
  | v :: vs, k :: ks, h, t => by
    cases h with
    | cons a r =>
      obtain ⟨M, e1, e2, e3⟩ := dt_pairs r fun k hk => t k (List.mem_cons_of_mem _ hk)
      obtain ⟨x, r', rfl⟩ := t k List.mem_cons_self
      have ⟨ad, ea⟩ : ∃ ad, v = .ref ad := by
        simp only [NestedKey.data] at a
        cases a
        exact ⟨_, rfl⟩
      subst ea
      refine ⟨(.tup (x :: r'), ad) :: M, by rw [List.map_cons, e1], by rw [List.map_cons, e2], fun q hq => ?_⟩
      rcases List.mem_cons.mp hq with z | z
      · rw [z]; exact a
      · exact e3 q z
theorem dt_all_of {K : PySem.W.Frag} {H : Hp} : ∀ {M : List (NestedKey × Addr)}, (∀ q ∈ M, Dt K H (.ref q.2) q.1.data) → DtAll K H (M.map fun q => V.ref q.2) ((M.map Prod.fst).map NestedKey.data)
  | [], _ => .nil
  | q :: M, h => .cons (h q List.mem_cons_self) (dt_all_of fun x hx => h x (List.mem_cons_of_mem _ hx))
theorem snd_sortSet {K : KF} : Snd K (fun vs H Q => ∃ x, vs = [x] ∧ rSS K.1 x H Q) cSortSet := by
  intro vs H ss ex P Q hl h hc q
  unfold cSortSet at hc
  split at hc
  · obtain ⟨v, rfl⟩ := one_slot hl
    obtain ⟨ks, e, hs, p⟩ := hc
    obtain ⟨a, ws, rfl, hh, d⟩ := h.li (List.mem_cons_self) e
    obtain ⟨M, rfl, rfl, e3⟩ := dt_pairs d hs.tup
    refine ⟨_, rfl, a, M, rfl, SqL.of hh, fun q hq => ((e3 q hq).le hid_sub).dp (nk_noD _), hs, fun M' pn sub nd cov ll hn => ?_⟩
    have d' := dt_all_of (M := M') fun q hq => e3 q (sub q hq)
    have same : ∀ k, k ∈ M'.map Prod.fst ↔ k ∈ M.map Prod.fst := fun k => ⟨fun hk => by
      obtain ⟨x, hx, rfl⟩ := List.mem_map.mp hk
      exact List.mem_map.mpr ⟨x, sub x hx, rfl⟩, fun hk => by
      obtain ⟨x, hx, rfl⟩ := List.mem_map.mp hk
      exact cov x hx⟩
    exact q _ _ _ _ (p (M'.map Prod.fst) nd same (by rw [List.length_map, List.length_map]; exact ll)) rfl (h.new_m hn d')
  · exact hc.elim
theorem de_sortSet {T : Tbs} {a : Expr} {ta : TD} {p p2 q pos : Pos} (hm : X.mg "sorted" = none) (hm2 : X.mg "set" = none) (hc : X.calm = true) (hu : X.A.units + 100 < cLine) (ha : DE T X a ta) (hg : Gl X "sorted" := by rfl) (hg2 : Gl X "set" := by rfl)
    (na : starEach [a] X.env = (false, eval a X.env) :: starEach [] X.env := by rfl) : DE T X (.Call (.Name "sorted" p) [.Call (.Name "set" p2) [a] [] q] [] pos) (tAp (tdCons ta tdNil) cSortSet) :=
  de_ap1 (fun te h => pe_sortSet hc hu hg hm hg2 hm2 h na) snd_sortSet ha
end
end DL


namespace DL
open PySem PySem.Spec PyProof.Rows L2 RZ
/-! ## own lists that a call only looks at: they are own behind it, too -/
/-- the objects on which a heap's answer rests stand in another one, too -/
def Holds2 (L : List Addr) (H H' : Hp) : Prop := ∀ a ∈ L, ∀ o, (∀ z, o ≠ .tbl z) → H a = some o → H' a = some o
theorem Holds2.l {L M : List Addr} {H H' : Hp} (h : Holds2 (L ++ M) H H') : Holds2 L H H' := fun a m => h a (List.mem_append_left _ m)
theorem Holds2.r {L M : List Addr} {H H' : Hp} (h : Holds2 (L ++ M) H H') : Holds2 M H H' := fun a m => h a (List.mem_append_right _ m)
theorem Holds2.tl {a : Addr} {L : List Addr} {H H' : Hp} (h : Holds2 (a :: L) H H') : Holds2 L H H' := fun b m => h b (List.mem_cons_of_mem _ m)
theorem Holds2.hid {L : List Addr} {ms : List Addr} {H H' : Hp} (h : Holds2 L H H') : Holds2 L (hid ms H) (hid ms H') := fun a m o n e => by
  have hm : a ∉ ms := fun z => by unfold DL.hid at e; rw [if_pos z] at e; cases e
  exact hid_of (h a m o n (hid_sub a o e)) hm
theorem sqT_holds {K : PySem.W.Frag} {H : Hp} {a : Addr} {xs : List V} (h : SqT K H a xs) {H' : Hp} (k : Holds2 [a] H H') : SqT K H' a xs := by
  rcases h with (h | ⟨ow, h⟩) | h
  · exact .inl (.inl (k a List.mem_cons_self _ (fun z e => by cases e) h))
  · exact .inl (.inr ⟨ow, k a List.mem_cons_self _ (fun z e => by cases e) h⟩)
  · exact .inr h
theorem sqL_holds {K : PySem.W.Frag} {H : Hp} {a : Addr} {xs : List V} (h : SqL K H a xs) {H' : Hp} (k : Holds2 [a] H H') : SqL K H' a xs := by
  rcases h with (h | ⟨ow, h⟩) | h
  · exact .inl (.inl (k a List.mem_cons_self _ (fun z e => by cases e) h))
  · exact .inl (.inr ⟨ow, k a List.mem_cons_self _ (fun z e => by cases e) h⟩)
  · exact .inr h
theorem ext_tbl {φ} (z) : HO.ext φ ≠ HO.tbl z := fun e => by cases e
mutual
theorem Dt.rests {K : PySem.W.Frag} {H : Hp} : ∀ {v : V} {d : PyData}, Dt K H v d → ∃ L : List Addr, ∀ H', Holds2 L H H' → Dt K H' v d
  | _, _, .non => ⟨[], fun _ _ => .non⟩
  | _, _, .bl b => ⟨[], fun _ _ => .bl b⟩
  | _, _, .int i => ⟨[], fun _ _ => .int i⟩
  | _, _, .str x => ⟨[], fun _ _ => .str x⟩
  | _, _, .lst (a := a) h r => (DtAll.rests r).elim fun L q =>
    ⟨a :: L, fun H' k => .lst (k a List.mem_cons_self _ (fun z e => by cases e) h) (q H' k.tl)⟩
  | _, _, .tup (a := a) h r => (DtAll.rests r).elim fun L q =>
    ⟨[a] ++ L, fun H' k => .tup (sqT_holds h k.l) (q H' k.r)⟩
  | _, _, .scr (a := a) h r => (DtAll.rests r).elim fun L q =>
    ⟨[a] ++ L, fun H' k => .scr (sqL_holds h k.l) (q H' k.r)⟩
  | _, _, .exc0 (a := a) h => ⟨[a], fun H' k => .exc0 (k a List.mem_cons_self _ ext_tbl h)⟩
  | _, _, .exc1 (a := a) (dd := dd) h h2 r => (Dt.rests r).elim fun L q =>
    ⟨[a, dd] ++ L, fun H' k => .exc1 (k.l a List.mem_cons_self _ ext_tbl h) (k.l dd (List.mem_cons_of_mem _ List.mem_cons_self) _ ext_tbl h2) (q H' k.r)⟩
theorem DtAll.rests {K : PySem.W.Frag} {H : Hp} : ∀ {vs : List V} {ds : List PyData}, DtAll K H vs ds → ∃ L : List Addr, ∀ H', Holds2 L H H' → DtAll K H' vs ds
  | _, _, .nil => ⟨[], fun _ _ => .nil⟩
  | _, _, .cons h r => (Dt.rests h).elim fun L q => (DtAll.rests r).elim fun M p =>
    ⟨L ++ M, fun H' k => .cons (q H' k.l) (p H' k.r)⟩
end
theorem kvd_rests {K : PySem.W.Frag} {H : Hp} : ∀ {ws : List En} {kvs : List (List Int × PyData)}, KvD K H ws kvs → ∃ L : List Addr, ∀ H', Holds2 L H H' → KvD K H' ws kvs
  | _, _, .nil => ⟨[], fun _ _ => .nil⟩
  | x :: _, _, .cons h r =>
    have ⟨L, q⟩ := Dt.rests h.2.2
    have ⟨M, p⟩ := kvd_rests r
    ⟨([x.2.1] ++ L) ++ M, fun H' k => .cons ⟨h.1, sqT_holds h.2.1 k.l.l, q H' k.l.r⟩ (p H' k.r)⟩
theorem Ok.rests {K : PySem.W.Frag} {H : Hp} {ms : List Addr} {p : Sl} (h : Ok K H (hid ms H) p) : ∃ L : List Addr, ∀ H' Hd', Holds2 L H H' → Holds2 L (hid ms H) Hd' → Ok K H' Hd' p := by
  obtain ⟨o, s⟩ := p
  cases s with
  | no => exact ⟨[], fun _ _ _ _ => True.intro⟩
  | d x => cases o with
    | none => exact h.elim
    | some v =>
      obtain ⟨L, q⟩ := Dt.rests h
      exact ⟨L, fun H' Hd' _ k => q _ k⟩
  | m xs => cases o with
    | none => exact h.elim
    | some v => cases v with
      | ref a =>
        obtain ⟨vs, h1, h2⟩ := h
        obtain ⟨L, q⟩ := DtAll.rests h2
        exact ⟨a :: L, fun H' Hd' k k2 => ⟨vs, k a List.mem_cons_self _ (fun z e => by cases e) h1, q _ k2.tl⟩⟩
      | _ => exact h.elim
  | t kvs => cases o with
    | none => exact h.elim
    | some v => cases v with
      | ref a =>
        obtain ⟨ws, h1, h2⟩ := h
        obtain ⟨L, q⟩ := kvd_rests h2
        exact ⟨a :: L, fun H' Hd' k k2 => ⟨ws, k a List.mem_cons_self _ (fun z e => dto_tbl e) h1, q _ k2.tl⟩⟩
      | _ => exact h.elim
theorem oks_rest {K : PySem.W.Frag} {H : Hp} {ms : List Addr} : ∀ {ps : List Sl}, (∀ p ∈ ps, Ok K H (hid ms H) p) → ∃ L : List Addr, ∀ H' Hd', Holds2 L H H' → Holds2 L (hid ms H) Hd' → ∀ p ∈ ps, Ok K H' Hd' p
  | [], _ => ⟨[], fun _ _ _ _ p h => by cases h⟩
  | p :: ps, h =>
    have ⟨L, q⟩ := Ok.rests (h p List.mem_cons_self)
    have ⟨M, r⟩ := oks_rest (ps := ps) fun x hx => h x (List.mem_cons_of_mem _ hx)
    ⟨L ++ M, fun H' Hd' k k2 x hx => by
      rcases List.mem_cons.mp hx with z | z
      · rw [z]; exact q H' Hd' k.l k2.l
      · exact r H' Hd' k.r k2.r x z⟩
-- data without lists
mutual
def noL : PyData → Bool
  | .list _ => false
  | .dict _ => false
  | .tuple xs => noLs xs
  | _ => true
def noLs : List PyData → Bool
  | [] => true
  | x :: r => noL x && noLs r
end
mutual
theorem noL_dt {K : PySem.W.Frag} {H H' : Hp} (k : ∀ a xs, SqT K H a xs → SqT K H' a xs) : ∀ {v : V} {d : PyData}, Dt K H v d → noL d = true → Dt K H' v d
  | _, _, .non, _ => .non
  | _, _, .bl b, _ => .bl b
  | _, _, .int i, _ => .int i
  | _, _, .str x, _ => .str x
  | _, _, .lst _ _, n => by simp [noL] at n
  | _, _, .tup h r, n => .tup (k _ _ h) (noL_dts k r (by simpa [noL] using n))
  | _, _, .scr _ _, n => by simp [noL] at n
  | _, _, .exc0 _, n => by simp [noL] at n
  | _, _, .exc1 _ _ _, n => by simp [noL] at n
theorem noL_dts {K : PySem.W.Frag} {H H' : Hp} (k : ∀ a xs, SqT K H a xs → SqT K H' a xs) : ∀ {vs : List V} {ds : List PyData}, DtAll K H vs ds → noLs ds = true → DtAll K H' vs ds
  | _, _, .nil, _ => .nil
  | _, _, .cons h r, n => by
    simp only [noLs, Bool.and_eq_true] at n
    exact .cons (noL_dt k h n.1) (noL_dts k r n.2)
end
noncomputable def pinsOf (H : Hp) (L : List Addr) : List (Addr × HO) := L.filterMap fun a => match H a with
  | some (.tbl _) => none
  | some o => some (a, o)
  | none => none
theorem mem_pins {H : Hp} {L : List Addr} {q : Addr × HO} (h : q ∈ pinsOf H L) : H q.1 = some q.2 ∧ ∀ z, q.2 ≠ .tbl z := by
  obtain ⟨a, _, e⟩ := List.mem_filterMap.mp h
  split at e
  · cases e
  · rename_i o ne eo
    cases e
    exact ⟨eo, fun z ez => ne z ez⟩
  · cases e
theorem pins_mem {H : Hp} {L : List Addr} {a : Addr} {o : HO} (m : a ∈ L) (e : H a = some o) (n : ∀ z, o ≠ .tbl z) : (a, o) ∈ pinsOf H L := by
  refine List.mem_filterMap.mpr ⟨a, m, ?_⟩
  rw [e]
  cases o with
  | tbl z => exact absurd rfl (n z)
  | _ => rfl
/-! arguments that are only looked at -/
theorem ads_d : ∀ {vs : List V} {ss : List SV}, (∀ s ∈ ss, ∃ x, s = .d x) → ads (tmpS vs ss) = []
  | [], ss, _ => by simp [tmpS, ads]
  | v :: vs, [], _ => by simp [tmpS, ads]
  | v :: vs, s :: ss, h => by
    obtain ⟨x, rfl⟩ := h s List.mem_cons_self
    have ih := ads_d (vs := vs) (ss := ss) fun y hy => h y (List.mem_cons_of_mem _ hy)
    have e : tmpS (v :: vs) (.d x :: ss) = (some v, .d x) :: tmpS vs ss := rfl
    rw [e]
    cases v <;> exact ih
theorem hid_nil (H : Hp) : hid [] H = H := by funext b; unfold hid; simp
/-- what comes: data without lists, or a list of such -/
def Light (s : SV) : Prop := (∃ d, s = .d d ∧ noL d = true) ∨ ∃ ds, s = .m ds ∧ noLs ds = true
def keepC (c : CT) : CT := fun ss P => ∃ ss2, Soft ss ss2 ∧ (∀ s ∈ ss2, ∃ x, s = .d x) ∧ c ss2 fun s _ => Light s ∧ P s ss
theorem own_kind {K : PySem.W.Frag} {H Hd : Hp} {ps : List Sl} (ok : ∀ p ∈ ps, Ok K H Hd p) {a : Addr} (m : a ∈ ads ps) : ∃ o, H a = some o ∧ (∀ z, o ≠ .tbl z) ∧ (∀ l, o ≠ .tup l) ∧ ((∃ l, o = .lst l) ∨ ∃ b l, o = dto b l) := by
  obtain ⟨pp, hp, e2⟩ := mem_ads.mp m
  have k := ok pp hp
  obtain ⟨u, s⟩ := pp
  cases u with
  | none => cases s <;> cases e2
  | some v => cases v with
    | ref b => cases s with
      | m xs =>
        cases e2
        obtain ⟨ws, h1, _⟩ := k
        exact ⟨_, h1, fun z e => (by cases e), fun z e => (by cases e), .inl ⟨_, rfl⟩⟩
      | t xs =>
        cases e2
        obtain ⟨ws, h1, _⟩ := k
        exact ⟨_, h1, fun z e => dto_tbl e, fun z e => dto_tup e, .inr ⟨_, _, rfl⟩⟩
      | _ => cases e2
    | _ => cases s <;> cases e2
theorem sqT_off {K : PySem.W.Frag} {H : Hp} {ns ms : List Addr} (off : ∀ a ∈ ns, ∃ o, H a = some o ∧ ((∃ l, o = .lst l) ∨ ∃ b l, o = dto b l)) {a : Addr} {xs : List V} (z : SqT K (hid ms H) a xs) : SqT K (hid ns H) a xs := by
  have no : ∀ o, H a = some o → (∀ l, o ≠ .lst l) → (∀ b l, o ≠ dto b l) → a ∉ ns := fun o e n1 n2 m => by
    obtain ⟨o2, e2, (⟨l, el⟩ | ⟨b, l, el⟩)⟩ := off a m
    · rw [e, el] at e2; exact n1 l (Option.some.inj e2)
    · rw [e, el] at e2; exact n2 b l (Option.some.inj e2)
  rcases z with (z | ⟨ow, z⟩) | z
  · exact .inl (.inl (hid_of (hid_sub _ _ z) (no _ (hid_sub _ _ z) (fun l e => by cases e) fun b l e => dto_tup e.symm)))
  · exact .inl (.inr ⟨ow, hid_of (hid_sub _ _ z) (no _ (hid_sub _ _ z) (fun l e => by cases e) fun b l e => dto_frz e.symm)⟩)
  · exact .inr z
theorem sp_keep {K : PySem.W.Frag} {T : Tbs} {n : Nat} {c : CT} {vs : List V} {H : Hp} {Q : VK} {E : XK} (h : spOf (K, T) n (keepC c) vs H Q E) : ∃ T', spOf (K, T') n c vs H Q E := by
  obtain ⟨hn, ss, ex, P, hl, hs, ⟨ss2, so, al, hc⟩, q⟩ := h
  obtain ⟨L, rest⟩ := oks_rest hs.ok
  have soft : Hs (K, T) H (tmpS vs ss2 ++ ex) := Hs.soft so hs hl
  have l2 : ss2.length = ss.length := (soft_len so).symm
  refine ⟨(T.1, T.2 ++ pinsOf H (L ++ ads (tmpS vs ss ++ ex))), hn, ss2, [], fun s _ => Light s ∧ P s ss, hl.trans l2.symm, ?_, hc, ?_⟩
  · rw [List.append_nil]
    have ea := ads_d (vs := vs) al
    refine ⟨by rw [ea]; exact List.nodup_nil, fun p hp => ?_, hs.tb, fun r hr => ?_⟩
    · rw [ea]
      exact (soft.ok p (List.mem_append_left _ hp)).le (hid_le fun b hb => by cases hb) fun _ _ _ e => e
    · rw [ea]
      rcases List.mem_append.mp hr with z | z
      · exact ⟨(hs.pn r z).1, fun h => (by cases h), (hs.pn r z).2.2⟩
      · exact ⟨(mem_pins z).1, fun h => (by cases h), (mem_pins z).2⟩
  · rintro s ss' v H' ⟨li, p⟩ l' hs'
    have pin : ∀ a o, a ∈ L ++ ads (tmpS vs ss ++ ex) → H a = some o → (∀ z, o ≠ .tbl z) → H' a = some o := fun a o m e n => (hs'.pn (a, o) (List.mem_append_right _ (pins_mem m e n))).1
    have far : ∀ a o, a ∈ L ++ ads (tmpS vs ss ++ ex) → H a = some o → (∀ z, o ≠ .tbl z) → a ∉ ads ((some v, s) :: (tmpS vs ss' ++ [])) := fun a o m e n => (hs'.pn (a, o) (List.mem_append_right _ (pins_mem m e n))).2.1
    have h2 : Holds2 L H H' := fun a m o n e => pin a o (List.mem_append_left _ m) e n
    have ok' := rest H' _ h2 h2.hid
    have base : Hs (K, T) H' (tmpS vs ss ++ ex) := ⟨hs.nd, ok', fun P hP => hs'.tb P hP, fun r hr => ⟨(hs'.pn r (List.mem_append_left _ hr)).1, (hs.pn r hr).2⟩⟩
    have off : ∀ a ∈ ads (tmpS vs ss ++ ex), ∃ o, H' a = some o ∧ ((∃ l, o = .lst l) ∨ ∃ b l, o = dto b l) := fun a m => by
      obtain ⟨o, e, _, _, k⟩ := own_kind ok' m
      exact ⟨o, e, k⟩
    refine q s ss v H' p rfl ?_
    rcases li with ⟨d, rfl, nd⟩ | ⟨ds, rfl, nd⟩
    · exact base.cons_d (noL_dt (fun a xs z => sqT_off off z) hs'.get_d nd)
    · obtain ⟨a, ws, rfl, e1, e2, e3⟩ := hs'.get_m
      have ma : a ∈ ads ((some (V.ref a), SV.m ds) :: (tmpS vs ss' ++ [])) := List.mem_cons_self
      have na : a ∉ ads (tmpS vs ss ++ ex) := fun m => by
        obtain ⟨o, e, n, _⟩ := own_kind hs.ok m
        exact far a o (List.mem_append_right _ m) e n ma
      refine base.cons_m e1 (noL_dts (fun b xs z => sqT_off (fun b m => ?_) z) e2 nd) na (rest H' _ h2 fun b m o n e => ?_) fun r hr z => ?_
      · rcases List.mem_cons.mp m with z | z
        · rw [z]; exact ⟨_, e1, .inl ⟨_, rfl⟩⟩
        · exact off b z
      · have hb : b ∉ ads (tmpS vs ss ++ ex) := fun z => by unfold hid at e; rw [if_pos z] at e; cases e
        have eb : H b = some o := hid_sub b o e
        refine hid_of (h2 b m o n eb) fun z => ?_
        rcases List.mem_cons.mp z with z | z
        · exact far b o (List.mem_append_left _ m) eb n (by rw [z]; exact ma)
        · exact hb z
      · exact (hs'.pn r (List.mem_append_left _ hr)).2.1 (by rw [z]; exact ma)
theorem Fnd.keep {P : Program} {w : World} {K : PySem.W.Frag} {mg : Str → Option Value} {base : Heap} {k : Nat} {x : Str} {ps : List Str} {c : CT} (h : ∀ T, Fnd P w K T mg base k x ps c) (T : Tbs) : Fnd P w K T mg base k x ps (keepC c) := by
  obtain ⟨f, fd, _, h2, h3, h4, oc, od, osl, h5⟩ := h T
  refine ⟨f, fd, ⟨fun vs H Q E z => z.1, fun A outer s H args us vs Q E hr he hb hv hz => ?_⟩, h2, h3, h4, oc, od, osl, h5⟩
  obtain ⟨T', z⟩ := sp_keep hz
  obtain ⟨f', fd', g1, _, _, g4, oc', od', osl', g5⟩ := h T'
  have ef : f' = f := by
    rw [g4] at h4
    cases h4; rfl
  subst ef
  have efd : fd' = fd := by
    rw [g5] at h5
    cases h5; rfl
  subst efd
  exact g1.run A outer s H args us vs Q E hr he hb hv z
theorem FndS.keep {P : Program} {w : World} {K : PySem.W.Frag} {mg : Str → Option Value} {base : Heap} {k : Nat} {x p1 p2 : Str} {c : CT} (h : ∀ T, FndS P w K T mg base k x p1 p2 c) (T : Tbs) : FndS P w K T mg base k x p1 p2 (keepC c) := by
  obtain ⟨f, fd, _, h2, h2', h3, h4, oc, od, osl, h5⟩ := (h T).ex
  refine ⟨f, fd, ⟨fun vs H Q E z => z.1, fun A outer s H args us vs Q E hr he hb hv hz => ?_⟩, h2, h2', h3, h4, oc, od, osl, h5⟩
  obtain ⟨T', z⟩ := sp_keep hz
  obtain ⟨f', fd', g1, _, _, _, g4, oc', od', osl', g5⟩ := (h T').ex
  have ef : f' = f := by
    rw [g4] at h4
    cases h4; rfl
  subst ef
  have efd : fd' = fd := by
    rw [g5] at h5
    cases h5; rfl
  subst efd
  exact g1.run A outer s H args us vs Q E hr he hb hv z
end DL

namespace DL
open PySem PySem.Spec PyProof.Rows L2 RZ
theorem un100 {k : Nat} {A : Around} (r : Room k A) : A.units + 100 < cLine := by have := r.un; omega
/-- a list so many times -/
def cRep : CT := fun ss P => match ss with
  | [a, .d (.int k)] => ∃ xs, lis a = some xs ∧ -(2 ^ 63) ≤ k ∧ k < 2 ^ 63 ∧ xs.length * k.toNat ≤ sizeLine ∧ P (.m (List.replicate k.toNat xs).flatten) ss
  | _ => False
theorem dts_rep {K : PySem.W.Frag} {H : Hp} {vs : List V} {ds : List PyData} (h : DtAll K H vs ds) : ∀ n : Nat, DtAll K H (List.replicate n vs).flatten (List.replicate n ds).flatten
  | 0 => .nil
  | n + 1 => by
    rw [List.replicate_succ, List.replicate_succ, List.flatten_cons, List.flatten_cons]
    exact h.append (dts_rep h n)
theorem snd_rep {K : KF} : Snd2 K rRep cRep := by
  intro x y H s1 s2 ex P Q h hc q
  unfold cRep at hc
  split at hc
  · rename_i a k e
    cases e
    obtain ⟨xs, e, k1, k2, k3, p⟩ := hc
    obtain ⟨l, vs, rfl, hh, d⟩ := h.li (List.mem_cons_self) e
    have hy := (h.swap2).get_d
    cases hy
    have dl := d.length
    refine ⟨l, k, vs, rfl, rfl, hh, k1, k2, by rw [dl]; exact k3, fun pn hn => ?_⟩
    exact q _ _ _ _ _ p (h.new_m hn (dts_rep d _))
  · exact hc.elim
theorem snd_in {K : KF} : Snd2 K (rInD K.1) cIn := by
  intro x y H s1 s2 ex P Q h hc q
  obtain ⟨d, ds, e1, e2, h1, h2, p⟩ := hc
  exact ⟨d, ds, (h.dt List.mem_cons_self e1).dp (noD_lay _ (SeqAt.canLay_of_shaped h1)), (h.dt (List.mem_cons_of_mem _ List.mem_cons_self) (lis_dat e2)).dp (noD_lay _ (SeqAt.canLay_of_shaped h2)), h1, h2, q _ _ _ _ _ p (h.cons_d (.bl _))⟩
section
variable {T : Tbs} {X : Cx} {a b : Expr} {ta tb : TD} {pos : Pos}
theorem de_in (hu : X.A.units + 65 < cLine) (ha : DE T X a ta) (hb : DE T X b tb) (hm : behindInMarks .In b = false := by rfl) : DE T X (.Compare a [.In] [b] pos) (tAp2 ta tb cIn) := de_cmp (op_inD hu) snd_in ha hb hm
theorem dt_in (hu : X.A.units + 65 < cLine) (ha : DE T X a ta) (hb : DE T X b tb) (hm : behindInMarks .In b = false := by rfl) : DT T X (.Compare a [.In] [b] pos) (tdTest (tAp2 ta tb cIn)) := dt_cmp (op_inD hu) snd_in ha hb hm
theorem un65 {k : Nat} {A : Around} (r : Room k A) : A.units + 65 < cLine := by have := r.un; omega
theorem de_rep (ha : DE T X a ta) (hb : DE T X b tb) : DE T X (.BinOp a .Mult b pos) (tAp2 ta tb cRep) := de_bin op_rep snd_rep ha hb
end
section
variable {T : Tbs} {X : Cx} {e : Expr} {t : TD} {fx : List Nat}
def tdPar3 (i j l : Nat) (ta tb tc : TD) : TDS := fun E Γ => ta Γ fun r Γ1 => tb Γ1 fun r' Γ2 => tc Γ2 fun r'' Γ3 => E.nx (((Γ3.set i r.1).set j r'.1).set l r''.1)
theorem ds_par3 {i j l : Nat} {st : Stmt} {a b c : Expr} {ta tb tc : TD} (hp : ∀ ta tb tc, PE X a ta → PE X b tb → PE X c tc → PS X st (tPar3 i j l (tCons ta (tCons tb (tCons tc tNil))))) (ha : DE T X a ta) (hb : DE T X b tb) (hc : DE T X c tc)
    (ni : i ∉ fx := by decide) (nj : j ∉ fx := by decide) (nl : l ∉ fx := by decide) : DS T X fx st (tdPar3 i j l ta tb tc) := by
  obtain ⟨t1, h1, h2⟩ := ha
  obtain ⟨t2, h3, h4⟩ := hb
  obtain ⟨t3, h5, h6⟩ := hc
  refine ⟨_, hp _ _ _ h1 h3 h5, fun ρ σ H Γ ex E D h p c => ?_⟩
  refine h2 σ H Γ ex _ _ h.he p fun v H1 r Γ1 he og p1 => ?_
  refine h4 σ H1 Γ1 _ _ _ he p1 fun w H2 r' Γ2 he2 og2 p2 => ?_
  refine h6 σ H2 Γ2 _ _ _ he2 p2 fun u H3 r'' Γ3 he3 og3 p3 => ?_
  refine ⟨v, w, u, rfl, c.nx _ _ _ ?_ p3⟩
  have q1 : HS (X.K, T) fx ρ H3 σ Γ3 ((some v, r.1) :: (some w, r'.1) :: (some u, r''.1) :: ex) := by
    refine ⟨he3.perm ?_, h.fix⟩
    refine (List.Perm.cons _ (List.Perm.swap _ _ _)).trans ?_
    refine (List.Perm.swap _ _ _).trans (List.Perm.cons _ (List.Perm.swap _ _ _))
  exact ((q1.setv ni).setv nj).setv nl
/-- a name ahead of arguments that work on what it names: it is looked at last -/
def tdLate (i : Nat) (u : TDA) : TDA := fun Γ P => (∃ s, Γ[i]? = some s ∧ s ≠ .no) ∧ u Γ fun rs Γ1 => tdVar i Γ1 fun r Γ2 => P (r :: rs) Γ2
theorem da_late (i : Nat) {x : Str} {pos : Pos} {es : List Expr} {u : TDA} (hv : PE X (.Name x pos) (tVar i)) (hr : DA T X es u) (hs : starEach (.Name x pos :: es) X.env = (false, eval (.Name x pos) X.env) :: starEach es X.env := by rfl) : DA T X (.Name x pos :: es) (tdLate i u) := by
  obtain ⟨tr, h3, h4⟩ := hr
  refine ⟨_, pa_cons hv h3 hs, fun σ H Γ ex P Q h p q => ?_⟩
  obtain ⟨⟨s0, e0, n0⟩, p⟩ := p
  obtain ⟨o, e1, e2⟩ := zip_at h.len e0
  have ok := h.hs.ok _ (List.mem_append_left _ (List.mem_of_getElem? e2))
  obtain ⟨v, rfl⟩ := ok.some n0
  refine ⟨v, e1, h4 σ H Γ ex _ _ h p fun vs H2 rs Γ2 he2 ogs p2 => ?_⟩
  unfold tdVar at p2
  cases e : Γ2[i]? with
  | none => rw [e] at p2; exact p2.elim
  | some s =>
    rw [e] at p2
    obtain ⟨o2, e3, e4⟩ := zip_at he2.len e
    rw [e1] at e3
    cases e3
    have ok2 := he2.hs.ok _ (List.mem_append_left _ (List.mem_of_getElem? e4))
    cases s with
    | no => exact p2.elim
    | d d => exact q (v :: vs) H2 ((.d d, none) :: rs) Γ2 ⟨he2.len, (he2.hs.cons_d ok2).mid⟩ (.cons Og.none ogs) p2
    | m xs => exact q (v :: vs) H2 ((.m xs, some i) :: rs) _ (set_no he2 e1 e4) (.cons (fun j z => by cases z; exact e1) ogs) p2
    | t xs => exact q (v :: vs) H2 ((.t xs, some i) :: rs) _ (set_no he2 e1 e4) (.cons (fun j z => by cases z; exact e1) ogs) p2
/-- a statement, and what is known behind it -/
def tdCut (t u : TDS) : TDS := fun E Γ => ∃ W : G → Prop, t { E with nx := W } Γ ∧ ∀ Γ', W Γ' → u E Γ'
theorem dss_cut {st : Stmt} {sts : List Stmt} {t u : TDS} (h1 : DS T X fx st t) (h2 : DSs T X fx sts u) : DSs T X fx (st :: sts) (tdCut t u) := by
  obtain ⟨t1, h1, h2'⟩ := h1
  obtain ⟨t2, h3, h4⟩ := h2
  refine ⟨_, pss_cons h1 h3, fun ρ σ H Γ ex E D h p c => ?_⟩
  obtain ⟨W, p, k⟩ := p
  exact h2' ρ σ H Γ ex _ _ h p ⟨fun σ' H' Γ' h' p' => h4 ρ σ' H' Γ' ex E D h' (k Γ' p') c, c.rt, c.bk, c.ct⟩
/-- an expression, and what is known of its value -/
def tdCutE (t : TD) : TD := fun Γ P => ∃ C : R → G → Prop, t Γ C ∧ ∀ r Γ', C r Γ' → P r Γ'
theorem de_cut (h : DE T X e t) : DE T X e (tdCutE t) := by
  obtain ⟨te, h1, h2⟩ := h
  refine ⟨te, h1, fun σ H Γ ex P Q h p q => ?_⟩
  obtain ⟨C, p, k⟩ := p
  exact h2 σ H Γ ex C Q h p fun v H' r Γ' he og c => q v H' r Γ' he og (k r Γ' c)
end
end DL

/-! own exceptions as data: made, isinstance, a field read -/
namespace L2
open PySem PySem.Spec PyProof.Rows
/-- what an __init__ does that stores one field; that stores none -/
def spX1 (C : Addr) (f : Str) : Sp := fun vs H Q _ => ∃ a y, vs = [.ref a, y] ∧ H a = some (exo a C none) ∧ ∀ dx, H dx = none → dx ≠ a → Q .non (stored1 H a C dx f y)
def spX0 (C : Addr) : Sp := fun vs H Q _ => ∃ a, vs = [.ref a] ∧ H a = some (exo a C none) ∧ Q .non H
end L2
namespace DL
open PySem PySem.Spec PyProof.Rows L2 RZ
abbrev exD0 (C : Addr) : PyData := .dict [(.int C, .none)]
abbrev exD1 (C : Addr) (f : Str) (d : PyData) : PyData := .dict [(.int C, .none), (.str f, d)]
/-- an exception's class -/
def exC : SV → Option Addr
  | .d (.dict ((.int C, .none) :: _)) => some C.toNat
  | _ => none
section
variable {K : KF} {H : Hp} {ps : List Sl} {v : V} {s : SV}
theorem Hs.exAt {C : Addr} (h : Hs K H ps) (m : ((some v, s) : Sl) ∈ ps) (e : exC s = some C) : ∃ a fs, v = .ref a ∧ ExAt H a C fs := by
  unfold exC at e
  split at e
  · rename_i i r
    have q := h.ok _ m
    cases (show Dt K.1 (hid (ads ps) H) v (.dict ((.int i, .none) :: r)) from q) with
    | exc0 h1 =>
      cases e
      exact ⟨_, [], rfl, .inl ⟨rfl, hid_sub _ _ h1⟩⟩
    | exc1 h1 h2 _ =>
      cases e
      exact ⟨_, _, rfl, .inr ⟨_, hid_sub _ _ h1, hid_sub _ _ h2⟩⟩
  · cases e
/-- a new exception without fields -/
theorem Hs.new_x0 {a C : Addr} (h : Hs K H ps) (n : H a = none) : Hs K (upd H a (exo a C none)) ((some (.ref a), .d (exD0 C)) :: ps) :=
  (h.grow (le_upd n)).cons_d (.exc0 (hid_of upd_same (h.free_ads n)))
theorem stored1_a {a C dx : Addr} {f : Str} {y : V} (ne : dx ≠ a) : stored1 H a C dx f y a = some (exo a C (some dx)) := by
  unfold stored1
  rw [upd_ne (Ne.symm ne), upd_same]
theorem stored1_d {a C dx : Addr} {f : Str} {y : V} : stored1 H a C dx f y dx = some (exd dx [(f, y)]) := upd_same
theorem stored1_o {a C dx b : Addr} {f : Str} {y : V} (h1 : b ≠ a) (h2 : b ≠ dx) : stored1 H a C dx f y b = H b := by
  unfold stored1
  rw [upd_ne h2, upd_ne h1, upd_ne h2]
/-- .. with one -/
theorem Hs.new_x1 {a C dx : Addr} {f : Str} {y : V} {d : PyData} (h : Hs K H ((some y, .d d) :: ps)) (n : H a = none) (nd : upd H a (exo a C none) dx = none) (ne : dx ≠ a) :
    Hs K (stored1 (upd H a (exo a C none)) a C dx f y) ((some (.ref a), .d (exD1 C f d)) :: ps) := by
  have nd' : H dx = none := by rw [upd_ne ne] at nd; exact nd
  have le : Le H (stored1 (upd H a (exo a C none)) a C dx f y) := fun b o e => by
    rw [stored1_o (ne_of_none e n) (ne_of_none e nd'), upd_ne (ne_of_none e n)]
    exact e
  have g := h.grow le
  exact g.tail.cons_d (.exc1 (hid_of (stored1_a ne) (h.tail.free_ads n)) (hid_of stored1_d (h.tail.free_ads nd')) g.get_d)
end
section
variable {T : Tbs} {X : Cx} {e : Expr} {t : TD} {k : Nat} {x y : Str} {p q pos : Pos} {C : Addr} {f : Str} {tl : List Value} {B newId initId : String} {CX : CXT} {fI : Addr} {fd : FuncData} {ps : List Str}
/-- C(e) -/
def tdXMk1 (C : Addr) (f : Str) (t : TD) : TD := fun Γ P => t Γ fun r Γ1 => ∃ d, dat r.1 = some d ∧ P (.d (exD1 C f d), none) (back [r] [frz r.1] Γ1)
theorem de_xmk1 (FB : ExcBaseFacts B newId initId tl) (TC : XC X.K tl newId C) (iC : PySem.W.findIn X.K (.ref C) "__init__" = some (some (.ref fI))) (tI : PySem.W.typeIn X.K (.ref fI) = some (.type "function"))
    (F1 : FnOk X.prog X.w X.K X.mg X.base CX0 k fI fd ps (spX1 C f)) (hr : Room (k + 1) X.A) (hb : Binds X.K fd ps []) (hm : X.mg x = some (.ref C)) (ha : DE T X e t) (hg : Gl X x := by rfl)
    (hdb : (x == ("__debug__" : Str)) = false := by decide) (he : starEach [e] X.env = (false, eval e X.env) :: starEach [] X.env := by rfl) (hpl : (backTo pos (starEach [] X.env)).any (·.1) = false := by rfl) :
    DE T X (.Call (.Name x p) [e] [] pos) (tdXMk1 C f t) := by
  obtain ⟨te, h1, h2⟩ := ha
  refine ⟨_, pe_xmk FB TC iC tI F1 hr hb pass0 hg hm (pa_cons h1 pa_nil he) hdb he hpl, fun σ H Γ ex P Q h p q => ?_⟩
  refine h2 σ H Γ ex _ _ h p fun v H1 r Γ1 h3 og p1 => ?_
  obtain ⟨d, ed, p1⟩ := p1
  refine ⟨show 1 ≤ 1000 by decide, fun a n => ⟨a, v, rfl, upd_same, fun dx nd ne => ⟨rfl, ?_⟩⟩⟩
  have h4 : HE (X.K, T) H1 σ (DL.back [r] [frz r.1] Γ1) ((some v, frz r.1) :: ex) := HE.frzAll (rs := [r]) (vs := [v]) (ex := ex) (.cons og .nil) h3
  rw [frz_dat ed] at h4 p1
  exact q _ _ (.d (exD1 C f d), none) _ ⟨h4.len, (h4.hs.front.new_x1 n nd ne).mid⟩ Og.none p1
theorem de_xmk0 (FB : ExcBaseFacts B newId initId tl) (TC : XC X.K tl newId C) (iC : PySem.W.findIn X.K (.ref C) "__init__" = some (some (.ref fI))) (tI : PySem.W.typeIn X.K (.ref fI) = some (.type "function"))
    (F1 : FnOk X.prog X.w X.K X.mg X.base CX0 k fI fd ps (spX0 C)) (hr : Room (k + 1) X.A) (hb : Binds X.K fd ps []) (hm : X.mg x = some (.ref C)) (hg : Gl X x := by rfl) (hdb : (x == ("__debug__" : Str)) = false := by decide) :
    DE T X (.Call (.Name x p) [] [] pos) (fun Γ P => P (.d (exD0 C), none) Γ) := by
  refine ⟨_, pe_xmk0 FB TC iC tI F1 hr hb pass0 hg hm hdb, fun σ H Γ ex P Q h p q => ?_⟩
  exact ⟨by decide, fun a n => ⟨a, rfl, upd_same, rfl, q _ _ (.d (exD0 C), none) Γ ⟨h.len, (h.hs.new_x0 n).mid⟩ Og.none p⟩⟩
/-- e.f of such an exception -/
def tdXGet (f : Str) (ok : Addr → Prop) (t : TD) : TD := fun Γ P => t Γ fun r Γ1 => ∃ C d, r.1 = .d (exD1 C f d) ∧ ok C ∧ P (.d d, none) (back [r] [r.1] Γ1)
theorem de_xget {ok : Addr → Prop} (hk : ∀ C, ok C → XfC X.K C ∧ PySem.W.findIn X.K (.ref C) f = some none) (ha : DE T X e t) (hb : attributeBase e f X.env (eval e X.env) = eval e X.env := by rfl) : DE T X (.Attribute e f pos) (tdXGet f ok t) := by
  obtain ⟨te, h1, h2⟩ := ha
  refine ⟨_, pe_xget h1 hb, fun σ H Γ ex P Q h p q => ?_⟩
  refine h2 σ H Γ ex _ _ h p fun v H1 r Γ1 h3 og p1 => ?_
  obtain ⟨C, d, er, okC, p1⟩ := p1
  obtain ⟨sr, orr⟩ := r
  cases er
  have h4 := h3.hs.front
  have g := h4.get_d
  have g2 := g
  cases g with
  | @exc1 a C' dd f' y d' e1 e2 dy =>
    refine ⟨_, _, _, _, y, rfl, (hk _ okC).1, (hk _ okC).2, hid_sub _ _ e1, hid_sub _ _ e2, by simp [List.lookup], ?_⟩
    have ey : ads ((some y, SV.d d) :: (σ.zip Γ1 ++ ex)) = ads (σ.zip Γ1 ++ ex) := by cases y <;> rfl
    have h5 := (h4.tail.cons_d dy).cons_d (v := .ref a) (x := exD1 C f d) (by rw [ey]; exact g2)
    have h7 : HE (X.K, T) H1 σ Γ1 ((some (.ref a), .d (exD1 C f d)) :: (some y, .d d) :: ex) := ⟨h3.len, h5.perm ((List.Perm.cons _ List.perm_middle.symm).trans List.perm_middle.symm)⟩
    exact q y H1 (.d d, none) _ (h7.back1 og) Og.none p1
/-- isinstance against a built-in class, against one's own -/
def tdIsX (ans : Addr → Option Bool) (t : TD) : TD := fun Γ P => t Γ fun r Γ1 => ∃ C b, exC r.1 = some C ∧ ans C = some b ∧ P (.d (.bool b), none) (back [r] [r.1] Γ1)
theorem de_isX {Ty : String} {ans : Addr → Option Bool} (hm : X.mg "isinstance" = none) (hmy : X.mg y = none) (hy : bootBuiltins y = some (.type Ty)) (ha : DE T X e t)
    (hans : ∀ C b, ans C = some b → XI X.K C ∧ PySem.W.kitOne X.K (.ref C) (.type Ty) = some b) (hg : Gl X "isinstance" := by rfl) (hgy : Gl X y := by rfl) (hyn : y ≠ "__name__" := by decide) (hyd : (y == ("__debug__" : Str)) = false := by decide)
    (hs1 : starEach (.Name y q :: []) X.env = (false, eval (.Name y q) X.env) :: starEach [] X.env := by rfl)
    (hs : starEach (e :: [.Name y q]) X.env = (false, eval e X.env) :: starEach [.Name y q] X.env := by rfl) (hpl : (backTo pos (starEach [.Name y q] X.env)).any (·.1) = false := by rfl) :
    DE T X (.Call (.Name "isinstance" p) [e, .Name y q] [] pos) (tdIsX ans t) := by
  obtain ⟨te, h1, h2⟩ := ha
  refine ⟨_, pe_callB call_isX hg hm (by decide +kernel) (pa_cons h1 (pa_cons (pe_bltn (v := .ty Ty) hgy hmy hy rfl hyn hyd) pa_nil hs1) hs) (by decide) (by decide) hs hpl, fun σ H Γ ex P Q h p q => ?_⟩
  refine h2 σ H Γ ex _ _ h p fun v H1 r Γ1 he og p1 => ?_
  obtain ⟨C, b, e1, e2, p1⟩ := p1
  obtain ⟨a, fs, rfl, ea⟩ := he.hs.exAt (List.mem_append_right _ List.mem_cons_self) e1
  exact ⟨a, C, fs, .ty Ty, .type Ty, b, rfl, .ty Ty, (hans C b e2).1, ea, (hans C b e2).2, q _ _ _ _ ((he.back1 og).addd (.bl b)) Og.none p1⟩
theorem de_isXo {D : Addr} {ans : Addr → Option Bool} (hm : X.mg "isinstance" = none) (hmy : X.mg y = some (.ref D)) (ha : DE T X e t)
    (hans : ∀ C b, ans C = some b → XI X.K C ∧ PySem.W.kitOne X.K (.ref C) (.ref D) = some b) (hg : Gl X "isinstance" := by rfl) (hgy : Gl X y := by rfl) (hyd : (y == ("__debug__" : Str)) = false := by decide)
    (hs1 : starEach (.Name y q :: []) X.env = (false, eval (.Name y q) X.env) :: starEach [] X.env := by rfl)
    (hs : starEach (e :: [.Name y q]) X.env = (false, eval e X.env) :: starEach [.Name y q] X.env := by rfl) (hpl : (backTo pos (starEach [.Name y q] X.env)).any (·.1) = false := by rfl) :
    DE T X (.Call (.Name "isinstance" p) [e, .Name y q] [] pos) (tdIsX ans t) := by
  obtain ⟨te, h1, h2⟩ := ha
  refine ⟨_, pe_callB call_isX hg hm (by decide +kernel) (pa_cons h1 (pa_cons (pe_glob (v := .ref D) hgy hmy rfl hyd) pa_nil hs1) hs) (by decide) (by decide) hs hpl, fun σ H Γ ex P Q h p q => ?_⟩
  refine h2 σ H Γ ex _ _ h p fun v H1 r Γ1 he og p1 => ?_
  obtain ⟨C, b, e1, e2, p1⟩ := p1
  obtain ⟨a, fs, rfl, ea⟩ := he.hs.exAt (List.mem_append_right _ List.mem_cons_self) e1
  exact ⟨a, C, fs, .ref D, .ref D, b, rfl, .own D, (hans C b e2).1, ea, (hans C b e2).2, q _ _ _ _ ((he.back1 og).addd (.bl b)) Og.none p1⟩
end
end DL

/-! the __init__ defs of own exceptions -/
namespace DL
open PySem PySem.Spec PyProof.Rows L2 RZ
section
variable {P : Program} {w : World} {K : PySem.W.Frag} {mg : Str → Option Value} {base : Heap} {k : Nat} {qual : Str} {st : Stmt} {f : Addr} {fd : FuncData} {C : Addr} {g : Str} {tl : List Value} {B newId initId : String} {p1 p2 p3 pos : Pos}
/-- def __init__(self, g): self.g = g -/
theorem init1_ok (SF : StoreFacts B tl "object.__setattr__" "object") (TC : XC K tl newId C) (hno : PySem.W.findIn K (.ref C) g = some none) (F : Fun K "__init__" qual st f fd) (S : FnScope ["self", g] ["self", g] (defScope st))
    (hb : defBody st = [.Assign [.Attribute (.Name "self" p1) g p2] (.Name g p3) pos]) (v0 : Vis (defScope st) "self") (v1 : Vis (defScope st) g) (hd : (g == ("__debug__" : Str)) = false) (hcd : (g == ("__classdict__" : Str)) = false)
    (hs : ∀ env, swapsWith (.Name g p3) (some (.Attribute (.Name "self" p1) g p2)) pos.line env = pure false) : FnOk P w K mg base CX0 (k + 1) f fd ["self", g] (spX1 C g) := by
  refine F.ok S (fun vs H Q E h => by obtain ⟨a, y, rfl, _⟩ := h; rfl) (fun cdv A outer s H vs Q E hr h => ?_)
  obtain ⟨a, y, rfl, e, q⟩ := h
  rw [hb]
  refine ⟨_, pss_one (ps_xst (newId := newId) SF (pe_var (i := 0) rfl v0) (pe_var (i := 1) rfl v1 hd hcd) (hs _)), ?_⟩
  exact ⟨y, rfl, .ref a, rfl, a, C, rfl, TC, hno, e, fun dx n ne => q dx n ne⟩
/-- def __init__(self): Base.__init__(self) -/
theorem init0_ok {bn : Str} {p4 p5 : Pos} (FB : ExcBaseFacts B newId initId tl) (TC : XC K tl newId C) (hbt : bootBuiltins bn = some (.type B)) (hty : typeOf (.type B) = pure (.type "type")) (hst : Manifest.isStub B = false)
    (hhd : PySem.W.handedIn (.builtin initId) = true) (hm : mg bn = none) (vV : PySem.W.findCls K (.type B) (.type "type") "__init__" = some (.val (.builtin initId))) (h1 : bn ≠ "__name__") (h2 : (bn == ("__debug__" : Str)) = false)
    (F : Fun K "__init__" qual st f fd) (S : FnScope ["self"] ["self"] (defScope st)) (hb : defBody st = [.Expr (.Call (.Attribute (.Name bn p1) "__init__" p2) [.Name "self" p3] [] p4) p5]) (v0 : Vis (defScope st) "self") {pl : Env → Sem Bool}
    (hsw : ∀ env, swapsWith (.Call (.Attribute (.Name bn p1) "__init__" p2) [.Name "self" p3] [] p4) none p5.line env = pure false)
    (hc : ∀ env, eval (.Call (.Attribute (.Name bn p1) "__init__" p2) [.Name "self" p3] [] p4) env = (do
      let ov ← eval (.Name bn p1) env
      standAt p2.atName
      let (f, first) ← holding [ov] (getMethod ov "__init__" (pl env))
      callWith p4 f first (backTo p4 (starEach [.Name "self" p3] env)) (backToKw p4 (keywordEach [] env))))
    (hg : ∀ (cdv : Value) (A : Around) (outer : List Env) (s : Shared) (H : Hp) (E : XK), Gl (cxOf CX0 P w K mg base ["self"] qual (defScope st) f cdv A outer s H E).nox bn) : FnOk P w K mg base CX0 (k + 1) f fd ["self"] (spX0 C) := by
  refine F.ok S (fun vs H Q E h => by obtain ⟨a, rfl, _⟩ := h; rfl) (fun cdv A outer s H vs Q E hr h => ?_)
  obtain ⟨a, rfl, e, q⟩ := h
  rw [hb]
  refine ⟨_, pss_one (ps_expr (pe_xinit (newId := newId) FB hbt hty hst hhd (hg _ _ _ _ _ _) hm vV (pa_cons (pe_var (i := 0) rfl v0) pa_nil) h1 h2 (hc _)) (hsw _)), ?_⟩
  exact ⟨.ref a, rfl, a, C, [], rfl, by decide, TC, e, q⟩
end
end DL

/-! C(f=e): an own exception made by a keyword -/
namespace L2
open PySem PySem.Spec PySem.Calls
section
variable {prog : Program} {w : World} {A : Around} {R : Result → Shared → Prop} {h : Heap} {g : Array GenState} {d : Drawn} {t : Nat} {os : OsState} {kw : List (Str × Value)}
variable {nm q : Str} {C N fI : Addr} {bs bm tl : List Value} {hdct : Bool} {sn : List Str} {sub : List Value} {ab : Bool} {col : Option Bool} {dd : Option Addr} {k0 k1 k2 k3 k5 : Option Value} {B newId initId : String}
/-- the heap with the new exception -/
abbrev xh (h : Heap) (C : Addr) : Heap := (h.push (PySem.W.kdv_tup [])).push (PySem.HandSPX.excO C h.objs.size)
theorem xnew_kw (FB : ExcBaseFacts B newId initId tl) (hT : ∀ X : String, bm.contains (.type X) = tl.contains (.type X)) (hC : h.get? C = some (excClassObj nm q C N bs bm hdct sn sub ab col dd k0 k1 k2 k3 k5 newId))
    (hq : R (.ok (.ret (.ref (h.objs.size + 1)))) ⟨xh h C, g, d, t, os⟩) : codeAny (model prog w) A (.builtin newId ⟨[.ref C], kw⟩) R ⟨h, g, d, t, os⟩ := by
  have ends := FB.ends
  have all (X : String) : (Value.ref C :: bm).contains (.type X) = tl.contains (.type X) := by rw [List.contains_cons, hT]; rfl
  have yB := (all B).trans FB.hasB
  have nA := (all "AttributeError").trans FB.noAttr
  have nN := (all "NameError").trans FB.noName
  refine codeAny_builtinAt FB.entry (PySem.wpAt_bind ?_)
  show wpAt _ _ _ (stack >>= _) _ _ _
  refine PySem.wpAt_bind (PySem.wpAt_stack fun p below => PySem.wpAt_of_wpAny ?_)
  wp_walk
  refine PySem.wpAt_of_wpAny ?_
  rw [FB.owner]
  repeat (first | with_reducible refine wpAny_madeHere_exc FB.canon hC ?_ | with_reducible refine wpAny_loadPart_at hC ?_ | (with_reducible refine wpAny_isSubtype_exc hC ?_; first | rw [yB] | rw [nA] | rw [nN]) | wp_step)
  show R _ _
  rw [Heap.size_push]
  exact hq
theorem xcheck_kw {M : Model} {E : Value → Shared → Prop} {Q : Unit → Shared → Prop} {f : Str} {u : Value} (FB : ExcBaseFacts B newId initId tl) (hT : ∀ X : String, bm.contains (.type X) = tl.contains (.type X)) (hC : h.get? C = some (excClassObj nm q C N bs bm hdct sn sub ab col dd k0 k1 k2 k3 k5 newId))
    (hq : Q () ⟨h, g, d, t, os⟩) : wpAny M A (checkBuiltinCall newId ⟨[.ref C], [(f, u)]⟩) Q E ⟨h, g, d, t, os⟩ := by
  have yB : (Value.ref C :: bm).contains (.type B) = true := by rw [List.contains_cons, hT, FB.hasB, Bool.or_true]
  have star := FB.noStar
  simp only [checkBuiltinCall, FB.newKind, FB.newSplit, FB.newRow]
  repeat (first | refine wpAny_loadPart_at hC ?_ | (refine wpAny_isSubtype_exc hC ?_; rw [yB]) | refine wpAny_staticBase_exc hC ?_ | refine wpAny_madeBy_exc hC ?_ | simp only [bne_self_eq_false, Bool.false_eq_true, if_false] | wp_step)
  exact hq
theorem xtype_kw {E : Value → Shared → Prop} {Q : PySem.Fin → Shared → Prop} {f : Str} {u : Value} (FB : ExcBaseFacts B newId initId tl) (hT : ∀ X : String, bm.contains (.type X) = tl.contains (.type X)) (hC : h.get? C = some (excClassObj nm q C N bs bm hdct sn sub ab col dd k0 k1 k2 k3 k5 newId))
    (hi : PySem.W.Looks (model prog w) h (typeLookup (.ref C) "__init__") (some (.ref fI))) (hb : ∀ self, PySem.W.Looks (model prog w) h (bindSpecial (.ref fI) self) (.ref fI, [self]))
    (hq : codeAny (model prog w) A (.call (.ref fI) ⟨[.ref (h.objs.size + 1)], [(f, u)]⟩) (fun r s' => match r with | .ok (.ret v) => v = .none ∧ Q (.done (.ret (.ref (h.objs.size + 1)))) s' | .ok _ => False | .error e => E e s') ⟨xh h C, g, d, t, os⟩) :
    wpAny (model prog w) A (Builtin.«type.__call__» ⟨[.ref C], [(f, u)]⟩) Q E ⟨h, g, d, t, os⟩ := by
  have up : ∀ b o, h.get? b = some o → (xh h C).get? b = some o := fun b o e => Heap.get?_push_of_some _ (Heap.get?_push_of_some _ e)
  have at1 : (xh h C).get? (h.objs.size + 1) = some (PySem.HandSPX.excO C h.objs.size) := by heap_get
  have atC := up _ _ hC
  have own : (Value.ref C :: bm).contains (.ref C) = true := by simp
  have look := hi.keeps up
  have bound := (hb (.ref (h.objs.size + 1))).keeps up
  repeat (first | with_reducible refine wpAny_loadPart_at hC ?_ | with_reducible refine wpAny_madeBy_exc hC ?_ | wp_step)
  refine codeAny_call_builtin_code (Code.quiet_builtin _ FB.quiet) (xcheck_kw FB hT hC (xnew_kw FB hT hC ?_))
  show wpAny _ _ _ _ _ _
  unfold isInstance
  repeat (first | with_reducible refine wpAny_loadPart_at at1 ?_ | (with_reducible refine wpAny_isSubtype_exc atC ?_; rw [own]) | wp_step)
  show wpAny _ _ (typeLookup (.ref C) _) _ _ _
  refine look.at (wpAny_holding (wpAny_bind (bound.at (wpAny_bind (wpAny_call (codeAny_mono hq fun r s' z => ?_))))))
  cases r with
  | error e => exact z
  | ok fl =>
    cases fl with
    | ret v =>
      obtain ⟨rfl, z⟩ := z
      first
        | exact wpAny_pure (wpAny_pure z)
        | (wp_walk; exact z)
    | next => exact z.elim
    | brk => exact z.elim
    | cont => exact z.elim
theorem xcall_kw {f : Str} {u : Value} (FB : ExcBaseFacts B newId initId tl) (hT : ∀ X : String, bm.contains (.type X) = tl.contains (.type X)) (hC : h.get? C = some (excClassObj nm q C N bs bm hdct sn sub ab col dd k0 k1 k2 k3 k5 newId))
    (hi : PySem.W.Looks (model prog w) h (typeLookup (.ref C) "__init__") (some (.ref fI))) (hb : ∀ self, PySem.W.Looks (model prog w) h (bindSpecial (.ref fI) self) (.ref fI, [self]))
    (hq : codeAny (model prog w) (A.under (.builtin "type.__call__" ⟨[.ref C], [(f, u)]⟩)) (.call (.ref fI) ⟨[.ref (h.objs.size + 1)], [(f, u)]⟩) (PySem.W.InitBack (h.objs.size + 1) R) ⟨xh h C, g, d, t, os⟩) :
    codeAny (model prog w) A (.call (.ref C) ⟨[], [(f, u)]⟩) R ⟨h, g, d, t, os⟩ := by
  have l1 := PySem.tc_lookup
  have l2 := PySem.tc_bind (.ref C)
  have ty : (⟨h, g, d, t, os⟩ : Shared).TypeIs (.ref C) "type" := ⟨_, hC, rfl⟩
  refine codeAny_of_tree ?_
  show wpAny _ _ (callAny (.ref C) _) _ _ _
  repeat (any_goals (first | assumption | with_reducible refine wpAny_loadPart_at hC ?_ | wp_step))
  refine ⟨rfl, codeAny_call_builtin_at (Code.quiet_builtin _ (by decide +kernel)) entry_typeCall (PySem.wpAny_check_type_call_sub hC (xtype_kw FB hT hC hi hb ?_))⟩
  exact codeAny_mono hq fun r s' z => by rcases r with e | (v | _ | _ | _) <;> exact z
end
end L2

/-! C(f=e) as an expression -/
namespace L2
open PySem PySem.Spec PyProof.Rows
section
variable {X : Cx} {pins : List (Addr × Obj)} {σ : St} {H : Hp} {s : Shared} {C : Addr} {tl : List Value} {B newId initId : String} {CX : CXT} {fI : Addr} {k : Nat} {fd : FuncData} {p0 fn : Str} {sp : Sp}
theorem xmk_callK {y : V} {u : Value} {Q : VK} (FB : ExcBaseFacts B newId initId tl) (T : XC X.K tl newId C) (iC : PySem.W.findIn X.K (.ref C) "__init__" = some (some (.ref fI))) (tI : PySem.W.typeIn X.K (.ref fI) = some (.type "function"))
    (F1 : FnOk X.prog X.w X.K X.mg X.base CX k fI fd [p0, fn] sp) (hr : Room (k + 1) X.A) (hb : ∀ (s : Shared) (a u : Value), X.K.In s.heap → BindsTo s fd ⟨[a], [(fn, u)]⟩ [(p0, a), (fn, u)]) (hx : Passes CX X (fun _ _ _ => False)) (I : Inv X pins σ H s) (ry : RelV y u)
    (q1 : ∀ a, H a = none → sp [.ref a, y] (upd H a (exo a C none)) (fun v H2 => v = .non ∧ Q (.ref a) H2) fun _ _ _ => False) :
    wpAny (model X.prog X.w) X.A (call (.ref C) [] [(fn, u)]) (EP X pins σ Q) X.xe s := by
  obtain ⟨nm, N, qn, bs, bm, hdct, sn, sub, ab, col, dd, k0, k1, k2, k3, k5, hC, hT⟩ := PySem.W.excInit_of I.kIn T.ini
  obtain ⟨hp, g, dr, tk, os⟩ := s
  have hsz : hp.objs.size ≤ hp.objs.size + 1 := Nat.le_succ _
  have hq := q1 (hp.objs.size + 1) (I.hok.fresh hsz)
  have kk : ∀ b o, hp.get? b = some o → (xh hp C).get? b = some o := fun b o e => Heap.get?_push_of_some _ (Heap.get?_push_of_some _ e)
  have hget : (xh hp C).get? (hp.objs.size + 1) = some (PySem.HandSPX.excO C hp.objs.size) := by heap_get
  have I2 := I.laid (t' := tk) (a := hp.objs.size + 1) (o := exo (hp.objs.size + 1) C none) kk hsz (exo_ok hget)
  have r2 : Vals [V.ref (hp.objs.size + 1), y] [Value.ref (hp.objs.size + 1), u] := .cons rfl (.cons ry .nil)
  refine wpAny_call (xcall_kw FB hT hC (PySem.W.looks_findIn I.kIn iC) (fun self => PySem.W.bind_fn I.kIn self tI) (codeAny_mono (F1.run _ X.stack _ _ ⟨[Value.ref (hp.objs.size + 1)], [(fn, u)]⟩ _ _ _ (fun _ _ _ => False)
    (hr.make C [] [(fn, u)]) (I2.env0.make C [] [(fn, u)]) (hb _ _ _ I2.kIn) r2 hq) fun r s' hq' => ?_))
  cases r with
  | error er => exact hx pins σ _ _ er s' I2 hq'
  | ok fl =>
    cases fl with
    | ret u =>
      obtain ⟨v, H2, os2, bare2, un2, hok2, rv, ev, q2⟩ := hq'
      subst ev
      cases rv
      exact ⟨rfl, .ref (hp.objs.size + 1), H2, I2.call' (ch := []) os2 un2 hok2 bare2 (fun b z => absurd z (by simp)), rfl, q2⟩
    | next => exact hq'.elim
    | brk => exact hq'.elim
    | cont => exact hq'.elim
theorem pe_xmkK {x : Str} {e : Expr} {te : TE} {p pos kpos : Pos} (FB : ExcBaseFacts B newId initId tl) (T : XC X.K tl newId C) (iC : PySem.W.findIn X.K (.ref C) "__init__" = some (some (.ref fI))) (tI : PySem.W.typeIn X.K (.ref fI) = some (.type "function"))
    (F1 : FnOk X.prog X.w X.K X.mg X.base CX k fI fd [p0, fn] sp) (hr : Room (k + 1) X.A) (hb : ∀ (s : Shared) (a u : Value), X.K.In s.heap → BindsTo s fd ⟨[a], [(fn, u)]⟩ [(p0, a), (fn, u)]) (hx : Passes CX X (fun _ _ _ => False)) (hg : Gl X x) (hm : X.mg x = some (.ref C)) (he : PE X e te)
    (hdb : (x == ("__debug__" : Str)) = false := by decide) :
    PE X (.Call (.Name x p) [] [⟨some fn, e, kpos⟩] pos) (fun σ H Q => te σ H fun y H1 => ∀ a, H1 a = none → sp [.ref a, y] (upd H1 a (exo a C none)) (fun v H2 => v = .non ∧ Q (.ref a) H2) fun _ _ _ => False) := by
  refine ⟨fun pins s σ H Q I h => wpAny_Call_Name_kw (ld_glob I hg hm ?_ hdb)⟩
  refine PySem.W.callWith_KW0 (h₀ := X.base) I.ok.mod.kin T.kC rfl (thn ((pk_cons he pk_nil).run pos pins s σ H (fun zs H2 => match zs with | [y] => ∀ a, H2 a = none → sp [.ref a, y] (upd H2 a (exo a C none)) (fun v H2 => v = .non ∧ Q (.ref a) H2) (fun _ _ _ => False) | _ => False) I ?_) fun ws s2 ⟨zs, H2, J, rz, q2⟩ => ⟨J.kIn, ?_⟩) rfl
  · exact h
  · dsimp only at q2
    split at q2
    · rename_i y
      cases rz with
      | cons ry rn =>
        cases rn
        exact xmk_callK FB T iC tI F1 hr hb hx J ry q2
    · exact q2.elim
end
end L2
namespace DL
open PySem PySem.Spec PyProof.Rows L2 RZ
section
variable {T : Tbs} {X : Cx} {e : Expr} {t : TD} {k : Nat} {x p0 f : Str} {p pos kpos : Pos} {C : Addr} {tl : List Value} {B newId initId : String} {fI : Addr} {fd : FuncData}
theorem de_xmkK (FB : ExcBaseFacts B newId initId tl) (TC : XC X.K tl newId C) (iC : PySem.W.findIn X.K (.ref C) "__init__" = some (some (.ref fI))) (tI : PySem.W.typeIn X.K (.ref fI) = some (.type "function"))
    (F1 : FnOk X.prog X.w X.K X.mg X.base CX0 k fI fd [p0, f] (spX1 C f)) (hr : Room (k + 1) X.A) (hb : ∀ (s : Shared) (a u : Value), X.K.In s.heap → BindsTo s fd ⟨[a], [(f, u)]⟩ [(p0, a), (f, u)]) (hm : X.mg x = some (.ref C)) (ha : DE T X e t) (hg : Gl X x := by rfl)
    (hdb : (x == ("__debug__" : Str)) = false := by decide) : DE T X (.Call (.Name x p) [] [⟨some f, e, kpos⟩] pos) (tdXMk1 C f t) := by
  obtain ⟨te, h1, h2⟩ := ha
  refine ⟨_, pe_xmkK FB TC iC tI F1 hr hb pass0 hg hm h1 hdb, fun σ H Γ ex P Q h p q => ?_⟩
  refine h2 σ H Γ ex _ _ h p fun v H1 r Γ1 h3 og p1 => ?_
  obtain ⟨d, ed, p1⟩ := p1
  refine fun a n => ⟨a, v, rfl, upd_same, fun dx nd ne => ⟨rfl, ?_⟩⟩
  have h4 : HE (X.K, T) H1 σ (DL.back [r] [frz r.1] Γ1) ((some v, frz r.1) :: ex) := HE.frzAll (rs := [r]) (vs := [v]) (ex := ex) (.cons og .nil) h3
  rw [frz_dat ed] at h4 p1
  exact q _ _ (.d (exD1 C f d), none) _ ⟨h4.len, (h4.hs.front.new_x1 n nd ne).mid⟩ Og.none p1
end
end DL

/-! an own exception class, all that a text wants of it in one -/
namespace DL
open PySem PySem.Spec PyProof.Rows L2 RZ
/-- the class at x, its address C: its __init__ stores its one argument in the field f -/
structure XM1 (P : Program) (w : World) (K : PySem.W.Frag) (mg : Str → Option Value) (base : Heap) (k : Nat) (x : Str) (C : Addr) (f : Str) : Prop where
  ex : ∃ (B newId initId : String) (tl : List Value) (fI : Addr) (fd : FuncData) (p0 : Str), ExcBaseFacts B newId initId tl ∧ XC K tl newId C ∧ PySem.W.findIn K (.ref C) "__init__" = some (some (.ref fI)) ∧ PySem.W.typeIn K (.ref fI) = some (.type "function") ∧
    FnOk P w K mg base CX0 k fI fd [p0, f] (spX1 C f) ∧ Binds K fd [p0, f] [] ∧ ∀ (s : Shared) (a u : Value), K.In s.heap → BindsTo s fd ⟨[a], [(f, u)]⟩ [(p0, a), (f, u)]
  at_ : mg x = some (.ref C)
  no : PySem.W.findIn K (.ref C) f = some none
  xi : XI K C
/-- .. its __init__ stores nothing -/
structure XM0 (P : Program) (w : World) (K : PySem.W.Frag) (mg : Str → Option Value) (base : Heap) (k : Nat) (x : Str) (C : Addr) : Prop where
  ex : ∃ (B newId initId : String) (tl : List Value) (fI : Addr) (fd : FuncData) (p0 : Str), ExcBaseFacts B newId initId tl ∧ XC K tl newId C ∧ PySem.W.findIn K (.ref C) "__init__" = some (some (.ref fI)) ∧ PySem.W.typeIn K (.ref fI) = some (.type "function") ∧
    FnOk P w K mg base CX0 k fI fd [p0] (spX0 C) ∧ Binds K fd [p0] []
  at_ : mg x = some (.ref C)
  xi : XI K C
section
variable {T : Tbs} {X : Cx} {e : Expr} {t : TD} {k : Nat} {x f : Str} {p pos kpos : Pos} {C : Addr}
theorem XM1.xf (M : XM1 X.prog X.w X.K X.mg X.base k x C f) : XfC X.K C ∧ PySem.W.findIn X.K (.ref C) f = some none := by
  obtain ⟨_, _, _, _, _, _, _, _, T, _⟩ := M.ex
  exact ⟨⟨T.ga, T.gg, T.exC, T.hdC⟩, M.no⟩
theorem de_mk1 (M : XM1 X.prog X.w X.K X.mg X.base k x C f) (hr : Room (k + 1) X.A) (ha : DE T X e t) (hg : Gl X x := by rfl) (hdb : (x == ("__debug__" : Str)) = false := by decide)
    (he : starEach [e] X.env = (false, eval e X.env) :: starEach [] X.env := by rfl) (hpl : (backTo pos (starEach [] X.env)).any (·.1) = false := by rfl) : DE T X (.Call (.Name x p) [e] [] pos) (tdXMk1 C f t) := by
  obtain ⟨B, n1, n2, tl, fI, fd, p0, FB, TC, iC, tI, F1, hb, _⟩ := M.ex
  exact de_xmk1 FB TC iC tI F1 hr hb M.at_ ha hg hdb he hpl
theorem de_mkK (M : XM1 X.prog X.w X.K X.mg X.base k x C f) (hr : Room (k + 1) X.A) (ha : DE T X e t) (hg : Gl X x := by rfl) (hdb : (x == ("__debug__" : Str)) = false := by decide) : DE T X (.Call (.Name x p) [] [⟨some f, e, kpos⟩] pos) (tdXMk1 C f t) := by
  obtain ⟨B, n1, n2, tl, fI, fd, p0, FB, TC, iC, tI, F1, _, hb⟩ := M.ex
  exact de_xmkK FB TC iC tI F1 hr hb M.at_ ha hg hdb
theorem de_mk0 (M : XM0 X.prog X.w X.K X.mg X.base k x C) (hr : Room (k + 1) X.A) (hg : Gl X x := by rfl) (hdb : (x == ("__debug__" : Str)) = false := by decide) : DE T X (.Call (.Name x p) [] [] pos) (fun Γ P => P (.d (exD0 C), none) Γ) := by
  obtain ⟨B, n1, n2, tl, fI, fd, p0, FB, TC, iC, tI, F1, hb⟩ := M.ex
  exact de_xmk0 FB TC iC tI F1 hr hb M.at_ hg hdb
/-- e.f of an exception of this class -/
theorem de_fld (M : XM1 X.prog X.w X.K X.mg X.base k x C f) (ha : DE T X e t) (hb : attributeBase e f X.env (eval e X.env) = eval e X.env := by rfl) : DE T X (.Attribute e f pos) (tdXGet f (· = C) t) :=
  de_xget (fun D h => by rw [h]; exact M.xf) ha hb
end
end DL


namespace DL
open PySem PySem.Spec PyProof.Rows L2 RZ
/-! ## FORMS -/
inductive Fm where
  | op
  | nd (n : Str) (ps : List Fm)
mutual
def Fm.d : Fm → PyData
  | .op => .tuple []
  | .nd n ps => .tuple (.str n :: Fm.ds ps)
def Fm.ds : List Fm → List PyData
  | [] => []
  | f :: r => f.d :: Fm.ds r
end
mutual
/-- how many places -/
def Fm.size : Fm → Nat
  | .op => 1
  | .nd _ ps => 1 + Fm.sizes ps
def Fm.sizes : List Fm → Nat
  | [] => 0
  | f :: r => f.size + Fm.sizes r
end
mutual
def Fm.dep : Fm → Nat
  | .op => 1
  | .nd _ ps => Fm.deps ps + 1
def Fm.deps : List Fm → Nat
  | [] => 0
  | f :: r => max f.dep (Fm.deps r)
end
mutual
def Fm.ok : Fm → Bool
  | .op => true
  | .nd n ps => PyData.strOk n && decide (ps.length ≤ 3) && Fm.oks ps
def Fm.oks : List Fm → Bool
  | [] => true
  | f :: r => f.ok && Fm.oks r
end
theorem Fm.ds_eq : ∀ ps : List Fm, Fm.ds ps = ps.map Fm.d
  | [] => by simp [Fm.ds]
  | f :: r => by rw [Fm.ds, Fm.ds_eq r]; rfl
theorem Fm.ds_len (ps : List Fm) : (Fm.ds ps).length = ps.length := by rw [Fm.ds_eq, List.length_map]
mutual
theorem Fm.lay : ∀ f : Fm, f.ok = true → f.d.canLay0 = true
  | .op, _ => by simp [Fm.d, PyData.canLay0, PyData.canLayAll0]
  | .nd n ps, h => by
    simp only [Fm.ok, Bool.and_eq_true] at h
    simp only [Fm.d, PyData.canLay0, PyData.canLayAll0, Bool.and_eq_true]
    exact ⟨h.1.1, Fm.lays ps h.2⟩
theorem Fm.lays : ∀ ps : List Fm, Fm.oks ps = true → PyData.canLayAll0 (Fm.ds ps) = true
  | [], _ => by simp [Fm.ds, PyData.canLayAll0]
  | f :: r, h => by
    simp only [Fm.oks, Bool.and_eq_true] at h
    simp only [Fm.ds, PyData.canLayAll0, Bool.and_eq_true]
    exact ⟨Fm.lay f h.1, Fm.lays r h.2⟩
end
mutual
theorem Fm.depth_d : ∀ f : Fm, f.d.depth = f.dep
  | .op => by simp [Fm.d, PyData.depth, PyData.depthAll, Fm.dep]
  | .nd n ps => by
    simp only [Fm.d, PyData.depth, PyData.depthAll, Fm.dep, Fm.depth_ds ps]
    omega
theorem Fm.depth_ds : ∀ ps : List Fm, PyData.depthAll (Fm.ds ps) = Fm.deps ps
  | [] => by simp [Fm.ds, PyData.depthAll, Fm.deps]
  | f :: r => by simp only [Fm.ds, PyData.depthAll, Fm.deps, Fm.depth_d f, Fm.depth_ds r]
end
/-- FORMS that may be compared -/
structure Fm.Fit (f : Fm) : Prop where
  ok : f.ok = true
  dep : f.dep ≤ 60
theorem Fm.Fit.shaped {f : Fm} (h : f.Fit) : SeqAt.shaped f.d = true := by
  unfold SeqAt.shaped
  rw [Fm.lay f h.ok, Fm.depth_d, Bool.true_and]
  exact decide_eq_true (Nat.le_trans h.dep (by decide))
theorem shaped_empty : SeqAt.shaped (.tuple []) = true := by decide +kernel
theorem Fm.eqv_op (f : Fm) : PyData.eqv f.d (.tuple []) = (match f with | .op => true | .nd _ _ => false) := by
  cases f with
  | op => simp [Fm.d, PyData.eqv, PyData.eqvAll]
  | nd n ps => simp [Fm.d, PyData.eqv, PyData.eqvAll]
/-- the SIGN -/
def Fm.sg : Fm → PyData
  | .op => .none
  | .nd n ps => .tuple [.str n, .int ps.length]

theorem atI_zero {α : Type} {x : α} {r : List α} : atI (x :: r) 0 = some x := atI_nat (j := 0) rfl
theorem sz (n : Nat) (h : n ≤ 16000000 := by decide) : n ≤ sizeLine := Nat.le_trans h (by decide)
theorem szl {n : Nat} (h : n ≤ 16000000) : n < sizeLine := Nat.lt_of_le_of_lt h (by decide)
theorem ct0_0 : ([0] : List Nat).contains 0 = true := rfl
theorem ct0_1 : ([0] : List Nat).contains 1 = false := rfl
theorem ct0_2 : ([0] : List Nat).contains 2 = false := rfl
theorem ct0_3 : ([0] : List Nat).contains 3 = false := rfl
theorem ct0_4 : ([0] : List Nat).contains 4 = false := rfl
theorem ct0_5 : ([0] : List Nat).contains 5 = false := rfl
theorem ct1_0 : ([1] : List Nat).contains 0 = false := rfl
theorem ct1_1 : ([1] : List Nat).contains 1 = true := rfl
theorem ct1_2 : ([1] : List Nat).contains 2 = false := rfl
theorem ct1_3 : ([1] : List Nat).contains 3 = false := rfl
theorem ct1_4 : ([1] : List Nat).contains 4 = false := rfl
theorem ct1_5 : ([1] : List Nat).contains 5 = false := rfl
theorem ct2_0 : ([2] : List Nat).contains 0 = false := rfl
theorem ct2_1 : ([2] : List Nat).contains 1 = false := rfl
theorem ct2_2 : ([2] : List Nat).contains 2 = true := rfl
theorem ct2_3 : ([2] : List Nat).contains 3 = false := rfl
theorem ct2_4 : ([2] : List Nat).contains 4 = false := rfl
theorem ct2_5 : ([2] : List Nat).contains 5 = false := rfl
theorem ct3_0 : ([3] : List Nat).contains 0 = false := rfl
theorem ct3_1 : ([3] : List Nat).contains 1 = false := rfl
theorem ct3_2 : ([3] : List Nat).contains 2 = false := rfl
theorem ct3_3 : ([3] : List Nat).contains 3 = true := rfl
theorem ct3_4 : ([3] : List Nat).contains 4 = false := rfl
theorem ct3_5 : ([3] : List Nat).contains 5 = false := rfl
/-- the data's words reckoned out -/
local macro_rules | `(tactic| walk_at "dl") => `(tactic| simp (config := { maxSteps := 1000000 }) only [tdSeq, tdIf, tdIfE, tdRet, tdSet, tdDrop, tdTest, tdTruth, tdNot, tdNotE, tdAnd, tdOr, tdOrE, tdAndE, tdPar, tdAsg, tdNeg, tdSl, tdNo, tdSome, tdRev, tdDelT, tdStore, tMp, tgTup, tgCons, tgNil, tgName, tdFor, tdRange1, tdRange2, tdRevRange1, tdSeqI, tdEnum, tdZip, zipS, tdLc, tdChain, tdIsi, tyS, tdYes,
  tAp, tAp2, tdVar, tdC, tdCons, tdNil, cN, cEq, cNe, cIx, cAdd, cII, cI2, cLen, cTup, cLst, cInt, cAbs, cMin2, cMax2, cTupOf, cLstOf, cAppend, cPop, cPopAt, cExtA, cLstZip, zipD, cIsN, cNotN, isN, dats, dat, lis, seqS, truthS, back, frz, edOf, fin,
  List.getD_cons_zero, List.getD_cons_succ, ct0_0, ct0_1, ct0_2, ct0_3, ct0_4, ct0_5, ct1_0, ct1_1, ct1_2, ct1_3, ct1_4, ct1_5, ct2_0, ct2_1, ct2_2, ct2_3, ct2_4, ct2_5, ct3_0, ct3_1, ct3_2, ct3_3, ct3_4, ct3_5,
  List.map, List.length_cons, List.length_nil, List.replicate, List.cons_append, List.nil_append, List.getElem?_cons_zero, List.getElem?_cons_succ, List.set_cons_zero, List.set_cons_succ, List.range, List.range.loop, List.contains_nil, List.elem_nil, Bool.false_eq_true, if_false, if_true, Nat.reduceSub, Nat.reduceAdd, Nat.sub_self, Nat.zero_add, Nat.add_zero,
  Option.some.injEq, exists_eq_left', exists_eq_left, exists_eq_right, exists_eq_right', exists_and_left, exists_and_right, and_assoc, exists_eq, exists_eq', true_and, and_true, SV.d.injEq, SV.m.injEq, PyData.int.injEq, PyData.tuple.injEq, PyData.list.injEq, PyData.bool.injEq, reduceCtorEq, false_and, and_false, exists_false, List.cons.injEq])

def topS (i : Nat) : Stmt := PySem.Challenge.pw_notinvain_k00_errors_made_by_hand.main.body.getD i (.Pass ⟨0, 0, 0, 0⟩)

/-! ## what stands where -/
def plD (p : List Int) : PyData := .tuple (p.map PyData.int)
def prD (p : List Int) (f : Fm) : PyData := .tuple [plD p, f.d]
mutual
/-- the places of a FORM that stands at p, ascending, and what stands there -/
def Fm.sp (p : List Int) : Fm → List (List Int × Fm)
  | .op => [(p, .op)]
  | .nd n ps => (p, .nd n ps) :: Fm.sps p 0 ps
def Fm.sps (p : List Int) (k : Nat) : List Fm → List (List Int × Fm)
  | [] => []
  | f :: r => f.sp (p ++ [(k : Int)]) ++ Fm.sps p (k + 1) r
end
/-- the parts, each with its place -/
def kids (p : List Int) (k : Nat) : List Fm → List (List Int × Fm)
  | [] => []
  | f :: r => (p ++ [(k : Int)], f) :: kids p (k + 1) r
def Fm.parts : Fm → List Fm
  | .op => []
  | .nd _ ps => ps
def Fm.kd (p : List Int) (f : Fm) : List (List Int × Fm) := kids p 0 f.parts
theorem sps_kids (p : List Int) : ∀ (ps : List Fm) (k : Nat), Fm.sps p k ps = (kids p k ps).flatMap fun x => x.2.sp x.1
  | [], k => by simp [Fm.sps, kids]
  | f :: r, k => by rw [Fm.sps, kids, List.flatMap_cons, sps_kids p r (k + 1)]
theorem sp_eq (p : List Int) (f : Fm) : f.sp p = (p, f) :: (f.kd p).flatMap fun x => x.2.sp x.1 := by
  cases f with
  | op => simp [Fm.sp, Fm.kd, Fm.parts, kids]
  | nd n ps => rw [Fm.sp, sps_kids]; rfl
theorem kids_len (p : List Int) : ∀ (ps : List Fm) (k : Nat), (kids p k ps).length = ps.length
  | [], _ => rfl
  | f :: r, k => by rw [kids, List.length_cons, List.length_cons, kids_len p r (k + 1)]
theorem kids_get (p : List Int) : ∀ (ps : List Fm) (k i : Nat) (h : i < ps.length), (kids p k ps)[i]? = some (p ++ [((k + i : Nat) : Int)], ps[i])
  | [], _, _, h => by simp at h
  | f :: r, k, 0, _ => by simp [kids]
  | f :: r, k, i + 1, h => by
    have := kids_get p r (k + 1) i (by simpa using h)
    rw [kids, List.getElem?_cons_succ, this]
    have e : k + 1 + i = k + (i + 1) := by omega
    rw [e]
    rfl
theorem kd_len (p : List Int) (f : Fm) : (f.kd p).length = f.parts.length := kids_len _ _ _
/-- how many places, of a stack -/
def sizeS (l : List (List Int × Fm)) : Nat := (l.map fun x => x.2.size).sum
theorem sizes_kids (p : List Int) : ∀ (ps : List Fm) (k : Nat), sizeS (kids p k ps) = Fm.sizes ps
  | [], _ => rfl
  | f :: r, k => by
    show (f.size + sizeS (kids p (k + 1) r)) = _
    rw [sizes_kids p r (k + 1), Fm.sizes]
theorem size_kd (p : List Int) (f : Fm) : f.size = 1 + sizeS (f.kd p) := by
  cases f with
  | op => simp [Fm.size, Fm.kd, Fm.parts, kids, sizeS]
  | nd n ps => rw [Fm.size]; unfold Fm.kd; rw [sizes_kids]; rfl
theorem sizeS_append (a b : List (List Int × Fm)) : sizeS (a ++ b) = sizeS a + sizeS b := by unfold sizeS; rw [List.map_append, List.sum_append]
theorem sizeS_rev (a : List (List Int × Fm)) : sizeS a.reverse = sizeS a := by
  induction a with
  | nil => rfl
  | cons x r ih => rw [List.reverse_cons, sizeS_append, ih]; show _ = x.2.size + sizeS r; unfold sizeS; simp; omega
theorem size_pos : ∀ f : Fm, 0 < f.size
  | .op => by simp [Fm.size]
  | .nd _ _ => by simp only [Fm.size]; omega
theorem len_sizeS (l : List (List Int × Fm)) : l.length ≤ sizeS l := by
  induction l with
  | nil => exact Nat.le_refl _
  | cons x r ih =>
    show r.length + 1 ≤ x.2.size + sizeS r
    have := size_pos x.2
    omega
def spD (x : List Int × Fm) : PyData := prD x.1 x.2
theorem d_len (f : Fm) : (match f.d with | .tuple xs => xs.length | _ => 0) = (match f with | .op => 0 | .nd _ ps => ps.length + 1) := by
  cases f with
  | op => simp [Fm.d]
  | nd n ps => simp [Fm.d, Fm.ds_len]
/-- the tuple that a FORM is -/
def Fm.its : Fm → List PyData
  | .op => []
  | .nd n ps => .str n :: Fm.ds ps
theorem Fm.d_its (f : Fm) : f.d = .tuple f.its := by cases f <;> simp [Fm.d, Fm.its]
theorem Fm.its_len (f : Fm) : ((f.its.length : Int) - 1).toNat = f.parts.length := by
  cases f with
  | op => simp [Fm.its, Fm.parts]
  | nd n ps => simp only [Fm.its, Fm.parts, List.length_cons, Fm.ds_len]; omega
theorem Fm.its_at (f : Fm) (i : Nat) (h : i < f.parts.length) : atI f.its ((i : Int) + 1) = some (f.parts[i]).d := by
  cases f with
  | op => simp [Fm.parts] at h
  | nd n ps =>
    have en : ((i : Int) + 1) = ((i + 1 : Nat) : Int) := by omega
    rw [en]
    refine atI_nat ?_
    have h' : i < ps.length := h
    show (PyData.str n :: Fm.ds ps)[i + 1]? = some (ps[i]'h').d
    rw [List.getElem?_cons_succ, Fm.ds_eq, List.getElem?_map, List.getElem?_eq_getElem h']
    rfl
theorem its_small (f : Fm) (h : f.size ≤ 1000000) : f.parts.length ≤ 1000000 := by
  have := size_kd [] f
  have h2 := len_sizeS (f.kd [])
  rw [kd_len] at h2
  omega
mutual
theorem sp_len (p : List Int) : ∀ f : Fm, (f.sp p).length = f.size
  | .op => by simp [Fm.sp, Fm.size]
  | .nd n ps => by rw [Fm.sp, List.length_cons, sps_len p 0 ps, Fm.size]; omega
theorem sps_len (p : List Int) (k : Nat) : ∀ ps : List Fm, (Fm.sps p k ps).length = Fm.sizes ps
  | [] => by simp [Fm.sps, Fm.sizes]
  | f :: r => by rw [Fm.sps, List.length_append, sp_len _ f, sps_len p (k + 1) r, Fm.sizes]
end
theorem flat_len (l : List (List Int × Fm)) : (l.flatMap fun x => x.2.sp x.1).length = sizeS l := by
  induction l with
  | nil => rfl
  | cons x r ih => rw [List.flatMap_cons, List.length_append, ih, sp_len]; rfl
theorem plD_cat (p : List Int) (i : Int) : plD (p ++ [i]) = .tuple (p.map PyData.int ++ [.int i]) := by unfold plD; rw [List.map_append]; rfl
theorem mem_kids (p : List Int) : ∀ (ps : List Fm) (k : Nat) (x : List Int × Fm), x ∈ kids p k ps → x.1.length = p.length + 1 ∧ x.2.size ≤ Fm.sizes ps ∧ x.2 ∈ ps
  | [], _, _, h => by simp [kids] at h
  | f :: r, k, x, h => by
    rcases List.mem_cons.mp h with (z | z)
    · subst z
      exact ⟨by simp, by rw [Fm.sizes]; exact Nat.le_add_right _ _, List.mem_cons_self⟩
    · obtain ⟨h1, h2, h3⟩ := mem_kids p r (k + 1) x z
      exact ⟨h1, by rw [Fm.sizes]; omega, List.mem_cons_of_mem _ h3⟩
theorem mem_kd {p : List Int} {g : Fm} {x : List Int × Fm} (h : x ∈ g.kd p) : x.1.length + x.2.size ≤ p.length + g.size := by
  obtain ⟨h1, h2, _⟩ := mem_kids p g.parts 0 x h
  have := size_kd p g
  unfold Fm.kd at this
  rw [sizes_kids] at this
  omega
theorem take_one {α : Type} {l : List α} {i : Nat} {x : α} (h : l[i]? = some x) : l.take (i + 1) = l.take i ++ [x] := by
  rw [List.take_succ, h]; rfl
theorem rev_get {α : Type} {l : List α} {i : Nat} (h : i < l.length) : l.reverse[i]? = l[l.length - 1 - i]? := List.getElem?_reverse h
theorem rgD_rev_get {n i : Nat} {x : PyData} (h : (rgD 0 n).reverse[i]? = some x) : i < n ∧ x = .int ((n - 1 - i : Nat) : Int) := by
  have hi : i < n := by
    obtain ⟨h1, _⟩ := List.getElem?_eq_some_iff.mp h
    rw [List.length_reverse, rgD_len] at h1; exact h1
  rw [rev_get (by rw [rgD_len]; exact hi), rgD_len] at h
  obtain ⟨_, rfl⟩ := rgD_get h
  exact ⟨hi, by rw [Int.zero_add]⟩

/-! ## lists made tuples -/
mutual
def tupD : PyData → PyData
  | .list xs => .tuple (tupDs xs)
  | .tuple xs => .tuple (tupDs xs)
  | .none => .none
  | .bool b => .bool b
  | .int i => .int i
  | .str s => .str s
  | .dict kvs => .dict kvs
def tupDs : List PyData → List PyData
  | [] => []
  | x :: r => tupD x :: tupDs r
end
mutual
/-- how many things -/
def cnt : PyData → Nat
  | .list xs => 1 + cnts xs
  | .tuple xs => 1 + cnts xs
  | .none => 1
  | .bool _ => 1
  | .int _ => 1
  | .str _ => 1
  | .dict _ => 1
def cnts : List PyData → Nat
  | [] => 0
  | x :: r => cnt x + cnts r
end
mutual
/-- no dict in it -/
def nod : PyData → Bool
  | .list xs => nods xs
  | .tuple xs => nods xs
  | .none => true
  | .bool _ => true
  | .int _ => true
  | .str _ => true
  | .dict _ => false
def nods : List PyData → Bool
  | [] => true
  | x :: r => nod x && nods r
end
mutual
/-- all that is in it, from below -/
def pst : PyData → List PyData
  | .list xs => psts xs ++ [.list xs]
  | .tuple xs => psts xs ++ [.tuple xs]
  | .none => [.none]
  | .bool b => [.bool b]
  | .int i => [.int i]
  | .str s => [.str s]
  | .dict kvs => [.dict kvs]
def psts : List PyData → List PyData
  | [] => []
  | x :: r => pst x ++ psts r
end
def kidD : PyData → List PyData
  | .list xs => xs
  | .tuple xs => xs
  | _ => []
def isSq : PyData → Bool
  | .list _ => true
  | .tuple _ => true
  | _ => false
theorem psts_eq : ∀ xs, psts xs = xs.flatMap pst
  | [] => by simp [psts]
  | x :: r => by rw [psts, List.flatMap_cons, psts_eq r]
theorem pst_eq (x : PyData) : pst x = (kidD x).flatMap pst ++ [x] := by
  cases x <;> simp [pst, kidD, psts_eq]
theorem pst_rev (x : PyData) : (pst x).reverse = x :: (kidD x).reverse.flatMap fun y => (pst y).reverse := by
  rw [pst_eq, List.reverse_append, List.reverse_flatMap]; rfl
def cntS (l : List PyData) : Nat := (l.map cnt).sum
theorem cnts_eq : ∀ xs, cnts xs = cntS xs
  | [] => by simp [cnts, cntS]
  | x :: r => by rw [cnts, cnts_eq r]; simp [cntS]
theorem cnt_eq (x : PyData) : cnt x = 1 + cntS (kidD x) := by
  cases x <;> simp [cnt, kidD, cnts_eq] <;> simp [cntS]
theorem cntS_append (a b : List PyData) : cntS (a ++ b) = cntS a + cntS b := by unfold cntS; rw [List.map_append, List.sum_append]
theorem cnt_pos (x : PyData) : 0 < cnt x := by rw [cnt_eq]; omega
theorem len_cntS (l : List PyData) : l.length ≤ cntS l := by
  induction l with
  | nil => exact Nat.le_refl _
  | cons x r ih =>
    show r.length + 1 ≤ (((x :: r).map cnt).sum)
    have := cnt_pos x
    have e : (((x :: r).map cnt).sum) = cnt x + cntS r := by simp [cntS]
    omega
mutual
theorem pst_len : ∀ x : PyData, (pst x).length = cnt x
  | .list xs => by rw [pst, List.length_append, psts_len xs, cnt]; simp; omega
  | .tuple xs => by rw [pst, List.length_append, psts_len xs, cnt]; simp; omega
  | .none => by simp [pst, cnt]
  | .bool _ => by simp [pst, cnt]
  | .int _ => by simp [pst, cnt]
  | .str _ => by simp [pst, cnt]
  | .dict _ => by simp [pst, cnt]
theorem psts_len : ∀ xs : List PyData, (psts xs).length = cnts xs
  | [] => by simp [psts, cnts]
  | x :: r => by rw [psts, List.length_append, pst_len x, psts_len r, cnts]
end
theorem flatq_len (l : List PyData) : (l.flatMap fun y => (pst y).reverse).length = cntS l := by
  induction l with
  | nil => rfl
  | cons x r ih => rw [List.flatMap_cons, List.length_append, ih, List.length_reverse, pst_len]; simp [cntS]
theorem cntS_rev (a : List PyData) : cntS a.reverse = cntS a := by unfold cntS; rw [List.map_reverse, List.sum_reverse]
theorem nods_all : ∀ xs, nods xs = true ↔ ∀ y ∈ xs, nod y = true
  | [] => by simp [nods]
  | x :: r => by simp [nods, nods_all r]
theorem nod_kid {x y : PyData} (h : nod x = true) (m : y ∈ kidD x) : nod y = true := by
  cases x <;> simp [kidD] at m
  · exact (nods_all _).mp (by simpa [nod] using h) y m
  · exact (nods_all _).mp (by simpa [nod] using h) y m
mutual
theorem nod_pst : ∀ x : PyData, nod x = true → ∀ y ∈ pst x, nod y = true
  | .list xs, h, y, m => by
    rw [pst] at m
    rcases List.mem_append.mp m with (z | z)
    · exact nod_psts xs (by simpa [nod] using h) y z
    · rw [List.mem_singleton.mp z]; exact h
  | .tuple xs, h, y, m => by
    rw [pst] at m
    rcases List.mem_append.mp m with (z | z)
    · exact nod_psts xs (by simpa [nod] using h) y z
    · rw [List.mem_singleton.mp z]; exact h
  | .none, h, y, m => by rw [pst] at m; rw [List.mem_singleton.mp m]; exact h
  | .bool _, h, y, m => by rw [pst] at m; rw [List.mem_singleton.mp m]; exact h
  | .int _, h, y, m => by rw [pst] at m; rw [List.mem_singleton.mp m]; exact h
  | .str _, h, y, m => by rw [pst] at m; rw [List.mem_singleton.mp m]; exact h
  | .dict _, h, _, _ => by simp [nod] at h
theorem nod_psts : ∀ xs : List PyData, nods xs = true → ∀ y ∈ psts xs, nod y = true
  | [], _, _, m => by simp [psts] at m
  | x :: r, h, y, m => by
    rw [psts] at m
    have h' : nod x = true ∧ nods r = true := by simpa [nods] using h
    rcases List.mem_append.mp m with (z | z)
    · exact nod_pst x h'.1 y z
    · exact nod_psts r h'.2 y z
end
/-- one thing more, from below: behind what is made of its parts -/
def stepO (st : List PyData) (y : PyData) : Option (List PyData) :=
  if isSq y = true then (if (kidD y).length ≤ st.length then some (st.take (st.length - (kidD y).length) ++ [.tuple (st.drop (st.length - (kidD y).length))]) else none) else some (st ++ [y])
def runO (st : List PyData) (ys : List PyData) : Option (List PyData) := ys.foldlM stepO st
theorem runO_append (st a b : List PyData) : runO st (a ++ b) = (runO st a).bind fun s => runO s b := by
  unfold runO; rw [List.foldlM_append]; rfl
theorem tupDs_len : ∀ xs, (tupDs xs).length = xs.length
  | [] => by simp [tupDs]
  | x :: r => by rw [tupDs, List.length_cons, List.length_cons, tupDs_len r]
theorem step_sq (st xs : List PyData) (y : PyData) (h : isSq y = true) (e : kidD y = xs) : stepO (st ++ tupDs xs) y = some (st ++ [.tuple (tupDs xs)]) := by
  subst e
  unfold stepO
  have hl : (st ++ tupDs (kidD y)).length - (kidD y).length = st.length := by rw [List.length_append, tupDs_len]; omega
  rw [if_pos h, if_pos (by rw [List.length_append, tupDs_len]; omega), hl, List.take_left, List.drop_left]
mutual
theorem run_pst : ∀ (x : PyData) (st : List PyData), runO st (pst x) = some (st ++ [tupD x])
  | .list xs, st => by
    rw [pst, runO_append, run_psts xs st]
    show runO (st ++ tupDs xs) [.list xs] = _
    unfold runO
    simp only [List.foldlM_cons, List.foldlM_nil, step_sq st xs (.list xs) rfl rfl]
    rfl
  | .tuple xs, st => by
    rw [pst, runO_append, run_psts xs st]
    show runO (st ++ tupDs xs) [.tuple xs] = _
    unfold runO
    simp only [List.foldlM_cons, List.foldlM_nil, step_sq st xs (.tuple xs) rfl rfl]
    rfl
  | .none, st => by simp [pst, runO, stepO, isSq, tupD]
  | .bool _, st => by simp [pst, runO, stepO, isSq, tupD]
  | .int _, st => by simp [pst, runO, stepO, isSq, tupD]
  | .str _, st => by simp [pst, runO, stepO, isSq, tupD]
  | .dict _, st => by simp [pst, runO, stepO, isSq, tupD]
theorem run_psts : ∀ (xs : List PyData) (st : List PyData), runO st (psts xs) = some (st ++ tupDs xs)
  | [], st => by simp [psts, runO, tupDs]
  | x :: r, st => by
    rw [psts, runO_append, run_pst x st]
    show runO (st ++ [tupD x]) (psts r) = _
    rw [run_psts r, tupDs, List.append_assoc]; rfl
end
theorem runO_len : ∀ (ys st s' : List PyData), runO st ys = some s' → s'.length ≤ st.length + ys.length
  | [], st, s', h => by
    have e : some st = some s' := h
    cases e; simp
  | y :: r, st, s', h => by
    have h2 : (stepO st y).bind (fun s => runO s r) = some s' := h
    cases e : stepO st y with
    | none => (rw [e] at h2; cases h2)
    | some s1 =>
      rw [e] at h2
      have := runO_len r s1 s' h2
      have l1 : s1.length ≤ st.length + 1 := by
        unfold stepO at e
        split at e
        · split at e
          · cases e; simp only [List.length_append, List.length_take, List.length_singleton]; omega
          · cases e
        · cases e; simp
      simp only [List.length_cons]
      omega
/-- amid the run -/
theorem run_at {x : PyData} {i : Nat} {y : PyData} {s : List PyData} (h : runO [] ((pst x).take i) = some s) (e : (pst x)[i]? = some y) : ∃ s', stepO s y = some s' ∧ runO [] ((pst x).take (i + 1)) = some s' := by
  have w := run_pst x []
  rw [← List.take_append_drop (i + 1) (pst x), runO_append, take_one e, runO_append, h] at w
  have w2 : ((stepO s y).bind fun s' => runO s' []).bind (fun s' => runO s' ((pst x).drop (i + 1))) = some ([] ++ [tupD x]) := w
  cases q : stepO s y with
  | none => (rw [q] at w2; cases w2)
  | some s' =>
    refine ⟨s', rfl, ?_⟩
    rw [take_one e, runO_append, h]
    show (stepO s y).bind (fun s' => runO s' []) = _
    rw [q]; rfl
theorem step_inv {st s2 : List PyData} {y : PyData} (h : stepO st y = some s2) (q : isSq y = true) : (kidD y).length ≤ st.length ∧ s2 = st.take (st.length - (kidD y).length) ++ [.tuple (st.drop (st.length - (kidD y).length))] := by
  unfold stepO at h
  rw [if_pos q] at h
  split at h
  · rename_i hl; cases h; exact ⟨hl, rfl⟩
  · cases h
theorem step_leaf {st s2 : List PyData} {y : PyData} (h : stepO st y = some s2) (q : isSq y = false) : s2 = st ++ [y] := by
  unfold stepO at h
  rw [if_neg (by rw [q]; exact Bool.false_ne_true)] at h
  cases h; rfl
theorem isq_none : ansOf2 "list" "tuple" "NoneType" = some false := by decide +kernel
theorem isq_bool : ansOf2 "list" "tuple" "bool" = some false := by decide +kernel
theorem isq_int : ansOf2 "list" "tuple" "int" = some false := by decide +kernel
theorem isq_str : ansOf2 "list" "tuple" "str" = some false := by decide +kernel
theorem isq_list : ansOf2 "list" "tuple" "list" = some true := by decide +kernel
theorem isq_tuple : ansOf2 "list" "tuple" "tuple" = some true := by decide +kernel
theorem toNat_sub {n m : Nat} (h : m ≤ n) : ((n : Int) - (m : Int)).toNat = n - m := by omega
theorem cut_from {xs : List PyData} {a : Nat} (h : a ≤ xs.length) : cutD xs (some (a : Int)) none = xs.drop a := by
  unfold cutD
  rw [HT.sIx_nat, HT.sIx_none, Nat.min_eq_left h]
  exact List.take_of_length_le (by rw [List.length_drop]; exact Nat.le_refl _)
theorem cut_tail {xs : List PyData} {m : Nat} (h : m ≤ xs.length) : cutD xs (some ((xs.length : Int) - (m : Int))) none = xs.drop (xs.length - m) := by
  have e : ((xs.length : Int) - (m : Int)) = ((xs.length - m : Nat) : Int) := by omega
  rw [e, cut_from (by omega)]

/-! ## drawn numbers: of each only its bounds -/
/-- a box of which n numbers more may be drawn -/
def Tin (n : Nat) (xs : List PyData) : Prop := ∃ a b c : Int, xs = [.int a, .int b, .int c] ∧ 0 ≤ a ∧ 0 ≤ b ∧ b < 2 ^ 62 ∧ 0 ≤ c ∧ c + n ≤ 2 ^ 40
theorem Tin.mono {n m : Nat} {xs : List PyData} (h : Tin n xs) (l : m ≤ n) : Tin m xs := by
  obtain ⟨a, b, c, h1, h2, h3, h4, h5, h6⟩ := h
  exact ⟨a, b, c, h1, h2, h3, h4, h5, by omega⟩
theorem at30 {α : Type} (a b c : α) : atI [a, b, c] 0 = some a := rfl
theorem at31 {α : Type} (a b c : α) : atI [a, b, c] 1 = some b := rfl
theorem at32 {α : Type} (a b c : α) : atI [a, b, c] 2 = some c := rfl
theorem ix30 : ixN 3 0 = some 0 := rfl
theorem ix31 : ixN 3 1 = some 1 := rfl
theorem ix32 : ixN 3 2 = some 2 := rfl
theorem mul_r {i j : Int} (h1 : 0 ≤ j) (h2 : j < 2 ^ 63) : CMul i j := .inr ⟨by omega, by omega⟩
theorem mul_l {i j : Int} (h1 : 0 ≤ i) (h2 : i < 2 ^ 63) : CMul i j := .inl ⟨by omega, by omega⟩
theorem mod_lt' (a : Int) {b : Int} (h : 0 < b) : a % b < b := Int.emod_lt_of_pos a h
theorem mod_ge' (a : Int) {b : Int} (h : 0 < b) : 0 ≤ a % b := Int.emod_nonneg a (by omega)
section
variable {P : Program} {w : World} {K : PySem.W.Frag} {T : Tbs} {mg : Str → Option Value} {base : Heap} {f : Addr} {fd : FuncData}
abbrev s__law_take : Stmt := topS 11
theorem sc__law_take : FnScope ["tin", "below_so", "drawn", "once_so", "wide_so", "twice_so"] ["tin", "below_so"] (defScope s__law_take) := ⟨rfl, rfl, rfl, by decide +kernel, rfl, by decide +kernel, by decide +kernel⟩
def cTake : CT := fun ss P => ∃ (xs : List PyData) (below : Int) (n : Nat), ss = [.m xs, .d (.int below)] ∧ Tin (n + 1) xs ∧ 0 < below ∧ below < 1073741824 ∧ ∀ r xs', 0 ≤ r → r < below → Tin n xs' → P (.d (.int r)) [.m xs', .no]
theorem ok__law_take (B : BI mg) (F : Fun K "_law_take" "_law_take" s__law_take f fd) (b : Binds K fd ["tin", "below_so"] []) (m : mg "_law_take" = some (.ref f)) : Fnd P w K T mg base 1 "_law_take" ["tin", "below_so"] cTake := by
  refine fn_d F sc__law_take b m [0] (by decide) fun cdv A outer s H E hr => ?_
  refine ⟨_, (dss_cons (ds_if (dt_gt (de_item (de_var 0 (pv 0)) de_int) de_int) (dss_cons (ds_set (i := 2) (fun te h => ps_set sc__law_take.nd rfl (Or.inl rfl) h) (de_mod (de_intOf B.int (da_cons (de_item (de_var 0 (pv 0)) de_int) da_nil)) (de_var 1 (pv 1)))) (dss_cons (ds_store (fun te to ti h1 h2 h3 => ps_asg h1 (pg_sub h2 h3 set_list)) (de_fdiv (de_item (de_var 0 (pv 0)) de_int) (de_var 1 (pv 1))) (de_var 0 (pv 0)) de_int) (dss_one (ds_ret (de_var 2 (pv 2)))))) dss_nil) (dss_cons (ds_store (fun te to ti h1 h2 h3 => ps_asg h1 (pg_sub h2 h3 set_list)) (de_add (de_item (de_var 0 (pv 0)) de_int) de_int) (de_var 0 (pv 0)) de_int) (dss_cons (ds_set (i := 3) (fun te h => ps_set sc__law_take.nd rfl (Or.inl rfl) h) (de_mod (de_intOf B.int (da_cons (de_mul (de_add (de_item (de_var 0 (pv 0)) de_int) (de_mul de_int (de_item (de_var 0 (pv 0)) de_int))) (de_add de_int (de_item (de_var 0 (pv 0)) de_int))) da_nil)) de_int)) (dss_cons (ds_set (i := 4) (fun te h => ps_set sc__law_take.nd rfl (Or.inl rfl) h) (de_add (de_mod (de_intOf B.int (da_cons (de_var 3 (pv 3)) da_nil)) de_int) de_int)) (dss_cons (ds_set (i := 5) (fun te h => ps_set sc__law_take.nd rfl (Or.inl rfl) h) (de_mod (de_intOf B.int (da_cons (de_mul (de_add (de_add (de_var 3 (pv 3)) (de_item (de_var 0 (pv 0)) de_int)) (de_fdiv (de_item (de_var 0 (pv 0)) de_int) de_int)) (de_var 4 (pv 4))) da_nil)) de_int)) (dss_one (ds_ret (de_mod (de_intOf B.int (da_cons (de_fdiv (de_mod (de_intOf B.int (da_cons (de_add (de_mul (de_var 5 (pv 5)) de_int) (de_var 3 (pv 3))) da_nil)) de_int) de_int) da_nil)) (de_var 1 (pv 1)))))))))), ?_⟩
  rintro ss Q _ ⟨xs, below, n, e, ⟨x, y, z, rfl, hx, hy, hy2, hz, hz2⟩, hb, hb2, q⟩
  subst e
  walk_at "dl"
  simp only [at30, at31, at32, ix30, ix31, ix32, Option.some.injEq, exists_eq_left', List.set_cons_zero, List.set_cons_succ]
  by_cases h0 : 0 < x
  · rw [if_pos (decide_eq_true h0)]
    refine ⟨hb, ⟨hb, hb2⟩, ?_⟩
    exact q _ _ (mod_ge' _ hb) (mod_lt' _ hb) ⟨x / below, y, z, rfl, Int.ediv_nonneg (by omega) (by omega), hy, hy2, hz, by omega⟩
  · rw [if_neg (by rw [decide_eq_false h0]; exact Bool.false_ne_true)]
    refine ⟨mul_l (by decide) (by decide), mul_r (by omega) (by omega), by decide, by decide, ⟨by decide, by decide⟩, ?_, by decide, mul_r (by decide) (by decide), by decide, ⟨by decide, by decide⟩, hb, ?_⟩
    · have h1 := mod_ge' ((y + 48271 * (z + 1)) * (39373 + (z + 1)) % 2147483647) (b := 40009) (by decide)
      have h2 := mod_lt' ((y + 48271 * (z + 1)) * (39373 + (z + 1)) % 2147483647) (b := 40009) (by decide)
      exact mul_r (by omega) (by omega)
    · exact q _ _ (mod_ge' _ hb) (mod_lt' _ hb) ⟨x, y, z + 1, rfl, hx, hy, hy2, by omega, by omega⟩
end

theorem atI_ints {cs : List Int} {r v : Int} (ev : atI cs r = some v) : atI (cs.map PyData.int) r = some (.int v) := by
  unfold atI at ev ⊢
  rw [List.length_map]
  cases hx : ixN cs.length r with
  | none => (rw [hx] at ev; cases ev)
  | some j =>
    rw [hx] at ev
    show (cs.map PyData.int)[j]? = _
    rw [List.getElem?_map, show cs[j]? = some v from ev]; rfl
theorem ixN_of {n : Nat} {r : Int} (h1 : 0 ≤ r) (h2 : r < n) : ixN n r = some r.toNat := by
  unfold ixN
  rw [if_pos h1, if_pos (by omega)]
theorem cpow18 : CPow 10 18 := ⟨by decide, by decide, by decide⟩
theorem b01 (b : Bool) : (0 : Int) ≤ if b = true then 1 else 0 := by cases b <;> decide
theorem cmul01 (i : Int) (b : Bool) : CMul i (if b = true then 1 else 0) := by cases b <;> exact mul_r (by decide) (by decide)
def SeqIs (s : SV) (gs : List PyData) : Prop := s = .m gs ∨ s = .d (.list gs) ∨ s = .d (.tuple gs)
theorem atI_of {α : Type} {xs : List α} {r : Int} (h1 : 0 ≤ r) (h2 : r < xs.length) : ∃ x, atI xs r = some x ∧ x ∈ xs := by
  have e : r = ((r.toNat : Nat) : Int) := by omega
  have hl : r.toNat < xs.length := by omega
  rw [e]
  exact ⟨xs[r.toNat], atI_nat (List.getElem?_eq_getElem hl), List.getElem_mem hl⟩
section
variable {P : Program} {w : World} {K : PySem.W.Frag} {T : Tbs} {mg : Str → Option Value} {base : Heap} {f : Addr} {fd : FuncData}
abbrev s__law_of : Stmt := topS 13
theorem sc__law_of : FnScope ["tin", "goods_so"] ["tin", "goods_so"] (defScope s__law_of) := ⟨rfl, rfl, rfl, by decide +kernel, rfl, by decide +kernel, by decide +kernel⟩
abbrev s__law_box : Stmt := topS 10
theorem sc__law_box : FnScope ["script", "k", "cell_so"] ["script", "k"] (defScope s__law_box) := ⟨rfl, rfl, rfl, by decide +kernel, rfl, by decide +kernel, by decide +kernel⟩
def cOf0 : CT := fun ss P => ∃ (xs gs : List PyData) (s2 : SV) (n : Nat), ss = [.m xs, s2] ∧ (s2 = .d (.list gs) ∨ s2 = .d (.tuple gs)) ∧ Tin (n + 1) xs ∧ gs ≠ [] ∧ gs.length ≤ 1000000 ∧ ∀ g xs', g ∈ gs → Tin n xs' → P (.d g) [.m xs', .no]
def cOf : CT := fun ss P => ∃ (xs gs : List PyData) (s2 : SV) (n : Nat), ss = [.m xs, s2] ∧ SeqIs s2 gs ∧ Tin (n + 1) xs ∧ gs ≠ [] ∧ gs.length ≤ 1000000 ∧ ∀ g xs', g ∈ gs → Tin n xs' → P (.d g) [.m xs', .no]
theorem ok__law_of (B : BI mg) (h__law_take : Fnd P w K T mg base 1 "_law_take" ["tin", "below_so"] cTake) (F : Fun K "_law_of" "_law_of" s__law_of f fd) (b : Binds K fd ["tin", "goods_so"] []) (m : mg "_law_of" = some (.ref f)) : Fnd P w K T mg base 2 "_law_of" ["tin", "goods_so"] cOf := by
  have h0 : Fnd P w K T mg base 2 "_law_of" ["tin", "goods_so"] cOf0 := by
    refine fn_d F sc__law_of b m [0] (by decide) fun cdv A outer s H E hr => ?_
    refine ⟨_, (dss_one (ds_ret (de_item (de_var 1 (pv 1)) (de_call (h__law_take.mono (by omega)) hr (da_cons (de_var 0 (pv 0)) (da_cons (de_len B.len (da_cons (de_var 1 (pv 1)) da_nil)) da_nil)))))), ?_⟩
    rintro ss Q _ ⟨xs, gs, s2, n, e, h2, ht, hne, hl, q⟩
    subst e
    have hpos : 0 < gs.length := by cases gs with
      | nil => exact absurd rfl hne
      | cons _ _ => simp
    rcases h2 with (rfl | rfl)
    all_goals (
      refine ⟨_, rfl, ⟨rfl, xs, gs.length, n, rfl, ht, by omega, by omega, fun r xs' h0 h1 ht' => ?_⟩⟩
      obtain ⟨g, eg, hg⟩ := atI_of h0 h1
      exact ⟨gs, g, rfl, eg, q g xs' hg ht'⟩)
  refine h0.soft.imp fun ss Q => ?_
  rintro ⟨xs, gs, s2, n, e, h2, ht, hne, hl, q⟩
  subst e
  rcases h2 with (rfl | rfl | rfl)
  · exact ⟨[.m xs, .d (.list gs)], .cons (.inl rfl) (.cons (.inr rfl) .nil), xs, gs, _, n, rfl, .inl rfl, ht, hne, hl, q⟩
  · exact ⟨_, .cons (.inl rfl) (.cons (.inl rfl) .nil), xs, gs, _, n, rfl, .inl rfl, ht, hne, hl, q⟩
  · exact ⟨_, .cons (.inl rfl) (.cons (.inl rfl) .nil), xs, gs, _, n, rfl, .inr rfl, ht, hne, hl, q⟩
def cBox : CT := fun ss P => ∃ (cs : List Int) (k : Nat), ss = [.m (cs.map .int), .d (.int k)] ∧ k ≤ 1000 ∧ ∀ xs, Tin (2 ^ 39) xs → P (.m xs) [.m (cs.map .int), .no]
theorem ok__law_box (B : BI mg) (F : Fun K "_law_box" "_law_box" s__law_box f fd) (b : Binds K fd ["script", "k"] []) (m : mg "_law_box" = some (.ref f)) : Fnd P w K T mg base 1 "_law_box" ["script", "k"] cBox := by
  refine fn_d F sc__law_box b m [0] (by decide) fun cdv A outer s H E hr => ?_
  refine ⟨_, (dss_cons (ds_set (i := 2) (fun te h => ps_set sc__law_box.nd rfl (Or.inl rfl) h) (de_ifExp (dt_lt (de_var 1 (pv 1)) (de_len B.len (da_cons (de_var 0 (pv 0)) da_nil))) (de_item (de_var 0 (pv 0)) (de_var 1 (pv 1))) de_int)) (dss_one (ds_ret (de_lst (da_cons (de_mul (de_abs B.abs (da_cons (de_var 2 (pv 2)) da_nil)) (de_intOf B.int (da_cons (de_ge (de_abs B.abs (da_cons (de_var 2 (pv 2)) da_nil)) (de_pow de_int de_int)) da_nil))) (da_cons (de_add (de_add (de_mod (de_intOf B.int (da_cons (de_var 2 (pv 2)) da_nil)) de_int) (de_mul de_int (de_var 1 (pv 1)))) de_int) (da_cons de_int da_nil))))))), ?_⟩
  rintro ss Q _ ⟨cs, k, e, hk, q⟩
  subst e
  have main : ∀ v : Int, Q (.m [.int ((if v < 0 then -v else v) * (if decide ((10 : Int) ^ 18 ≤ if v < 0 then -v else v) = true then 1 else 0)), .int (v % 2305843009213693951 + 39373 * (k : Int) + 1943000), .int 0]) [.m (cs.map .int), .no] := fun v => by
    refine q _ ⟨_, _, _, rfl, ?_, ?_, ?_, by decide, by decide⟩
    · refine Int.mul_nonneg ?_ (b01 _)
      split <;> omega
    · have := mod_ge' v (b := 2305843009213693951) (by decide); omega
    · have := mod_lt' v (b := 2305843009213693951) (by decide); omega
  walk_at "dl"
  by_cases hlt : (k : Int) < (List.map PyData.int cs).length
  · rw [if_pos (decide_eq_true hlt)]
    rw [List.length_map] at hlt
    obtain ⟨v, ev, hv⟩ := atI_of (xs := cs) (r := (k : Int)) (by omega) hlt
    have ev2 := atI_ints ev
    refine ⟨.int v, ev2, ?_⟩
    exact ⟨cpow18, cmul01 _ _, by decide, mul_l (by decide) (by decide), sz 3, main v⟩
  · rw [if_neg (by rw [decide_eq_false hlt]; exact Bool.false_ne_true)]
    exact ⟨cpow18, cmul01 _ _, by decide, mul_l (by decide) (by decide), sz 3, main 0⟩
end

theorem cut_to {xs : List PyData} {m : Nat} : cutD xs none (some (m : Int)) = xs.take m := by
  unfold cutD
  rw [HT.sIx_nat, HT.sIx_none, List.drop_zero, Nat.sub_zero]
  rcases Nat.le_total m xs.length with (h | h)
  · rw [Nat.min_eq_left h]
  · rw [Nat.min_eq_right h, List.take_length, List.take_of_length_le h]
theorem cut_mem {xs : List PyData} {m : Nat} {hi : Option Int} {i : Nat} {y : PyData} (h : (cutD xs (some (m : Int)) hi)[i]? = some y) : y ∈ xs ∧ m < xs.length := by
  unfold cutD at h
  rw [HT.sIx_nat] at h
  have h1 := List.mem_of_getElem? h
  have h2 := List.mem_of_mem_take h1
  refine ⟨List.mem_of_mem_drop h2, ?_⟩
  have h3 := List.length_pos_of_mem h2
  rw [List.length_drop] at h3
  omega
section
variable {P : Program} {w : World} {K : PySem.W.Frag} {T : Tbs} {mg : Str → Option Value} {base : Heap} {f : Addr} {fd : FuncData}
abbrev s__law_cells : Stmt := topS 12
theorem sc__law_cells : FnScope ["script", "most_so", "cells_so", "k", "cell_so", "at_so"] ["script", "most_so"] (defScope s__law_cells) := ⟨rfl, rfl, rfl, by decide +kernel, rfl, by decide +kernel, by decide +kernel⟩
def cCells : CT := fun ss P => ∃ (cs : List Int) (m : Nat), ss = [.d (scD (cs.map .int)), .d (.int m)] ∧ 0 < m ∧ m ≤ 63 ∧ cs.length ≤ 1000000 ∧ ∀ ds : List Int, ds ≠ [] → ds.length ≤ m → P (.m (ds.map .int)) [.no, .no]
theorem ok__law_cells (B : BI mg) (F : Fun K "_law_cells" "_law_cells" s__law_cells f fd) (b : Binds K fd ["script", "most_so"] []) (m : mg "_law_cells" = some (.ref f)) : Fnd P w K T mg base 1 "_law_cells" ["script", "most_so"] cCells := by
  refine fn_d F sc__law_cells b m [] (by decide) fun cdv A outer s H E hr => ?_
  refine ⟨_, (dss_cons (ds_set (i := 2) (fun te h => ps_set sc__law_cells.nd rfl (Or.inl rfl) h) (de_or (de_lstOf B.list (da_cons (de_sliceF (de_var 0 (pv 0)) do_none (do_some (de_var 1 (pv 1)))) da_nil)) (de_one (de_lst (da_cons de_int da_nil))))) (dss_cons (ds_for PassesOwn.never rfl (di_enum rfl B.enumerate (de_sliceF (de_var 0 (pv 0)) (do_some (de_var 1 (pv 1))) (do_some de_int))) (dg_tup (n := 2) rfl (dgs_cons (dg_name (i := 3) (pg_name sc__law_cells.nd rfl (Or.inl rfl))) (dgs_cons (dg_name (i := 4) (pg_name sc__law_cells.nd rfl (Or.inl rfl))) dgs_nil))) (dss_cons (ds_set (i := 5) (fun te h => ps_set sc__law_cells.nd rfl (Or.inl rfl) h) (de_mod (de_intOf B.int (da_cons (de_var 3 (pv 3)) da_nil)) (de_var 1 (pv 1)))) (dss_one (ds_store (fun te to ti h1 h2 h3 => ps_asg h1 (pg_sub h2 h3 set_list)) (de_add (de_item (de_var 2 (pv 2)) (de_var 5 (pv 5))) (de_mul (de_var 4 (pv 4)) (de_add (de_var 3 (pv 3)) de_int))) (de_var 2 (pv 2)) (de_var 5 (pv 5)))))) (dss_one (ds_ret (de_var 2 (pv 2)))))), ?_⟩
  rintro ss Q _ ⟨cs, m, e, hm, hm2, hl, q⟩
  subst e
  have rest : ∀ ds : List Int, ds ≠ [] → ds.length ≤ m → (m < cs.length → ds.length = m) →
      tdSeq (tdFor (tdEnum (tdSlF (tdVar 0) (tdSome (tdVar 1)) (tdSome (tdC (PyData.int 63))))) (tgTup 2 (tgCons (tgName 3) (tgCons (tgName 4) tgNil)))
        (tdSeq (tdSet 5 (tAp2 (tAp (tdCons (tdVar 3) tdNil) cInt) (tdVar 1) (cII (fun x j => 0 < j) fun i j => PyData.int (i % j))))
          (tdStore (tAp2 (tAp2 (tdVar 2) (tdVar 5) cIx) (tAp2 (tdVar 4) (tAp2 (tdVar 3) (tdC (PyData.int 2)) cAdd) (cII CMul fun i j => PyData.int (i * j))) cAdd) (tdVar 2) (tdVar 5))))
        (tdRet (tdVar 2)) (edOf [] 2 Q) [.d (scD (cs.map .int)), .d (.int m), .m (ds.map .int), .no, .no, .no] := fun ds hne hdl hlen => by
    refine ⟨_, rfl, ⟨_, rfl, ⟨_, rfl, ⟨_, rfl, ?_⟩⟩⟩⟩
    refine ⟨fun i Γ => ∃ (es : List Int) (a b c : SV), es.length = ds.length ∧ Γ = [.d (scD (cs.map .int)), .d (.int m), .m (es.map .int), a, b, c], ⟨ds, _, _, _, rfl, rfl⟩, ?_, ?_⟩
    · rintro i x Γ hx ⟨es, a, b, c, hes, rfl⟩
      obtain ⟨y, hy, rfl⟩ := enumD_get hx
      obtain ⟨hmem, hlt⟩ := cut_mem hy
      rw [List.length_map] at hlt
      obtain ⟨v, _, rfl⟩ := List.mem_map.mp hmem
      have hL := hlen hlt
      refine ⟨_, rfl, rfl, ⟨_, _, rfl, ⟨_, _, rfl, rfl, ?_⟩⟩⟩
      have hm0 : (0 : Int) < (m : Int) := by omega
      refine ⟨hm0, ?_⟩
      have h1 := mod_ge' ((0 + i : Nat) : Int) hm0
      have h2 := mod_lt' ((0 + i : Nat) : Int) hm0
      obtain ⟨u, eu, _⟩ := atI_of (xs := es) (r := ((0 + i : Nat) : Int) % (m : Int)) h1 (by rw [hes, hL]; exact h2)
      have hr : ((0 + i : Nat) : Int) % (m : Int) < es.length := by rw [hes, hL]; exact h2
      have hi : i < 2 ^ 40 := by
        have h3 := (List.getElem?_eq_some_iff.mp hx).1
        rw [enumD_len] at h3
        have h4 : (cutD (cs.map PyData.int) (some (m : Int)) (some 63)).length ≤ cs.length := by
          unfold cutD
          rw [List.length_take, List.length_drop, List.length_map]; omega
        have : cs.length ≤ 1000000 := hl
        omega
      refine ⟨_, .int u, rfl, atI_ints eu, ⟨mul_r (by omega) (by omega), ?_⟩⟩
      refine ⟨_, es.map PyData.int, _, _, rfl, rfl, rfl, ixN_of h1 (by rw [List.length_map]; exact hr), ?_⟩
      exact ⟨es.set (((0 + i : Nat) : Int) % (m : Int)).toNat (u + v * (((0 + i : Nat) : Int) + 2)), .d (.int ((0 + i : Nat) : Int)), .d (.int v), .d (.int (((0 + i : Nat) : Int) % (m : Int))), by rw [List.length_set]; exact hes, by rw [List.map_set]; rfl⟩
    · rintro Γ ⟨es, a, b, c, hes, rfl⟩
      exact q es (fun z => hne (List.length_eq_zero_iff.mp (by rw [← hes, z]; rfl))) (by omega)
  refine ⟨_, rfl, ⟨_, rfl, ⟨_, rfl, ?_⟩⟩⟩
  have ec : cutD (cs.map PyData.int) none (some (m : Int)) = (cs.take m).map PyData.int := by rw [cut_to, List.map_take]
  rw [ec]
  cases hcs : cs with
  | nil =>
    rw [hcs] at rest
    refine ⟨false, by simp [truthS], ?_⟩
    refine ⟨_, rfl, sz 1, ?_⟩
    exact rest [0] (by simp) (by simp; omega) (by simp)
  | cons c0 r =>
    rw [hcs] at rest
    have hne : (c0 :: r).take m ≠ [] := by
      cases m with
      | zero => omega
      | succ m => simp
    refine ⟨true, ?_, rest ((c0 :: r).take m) hne (by rw [List.length_take]; omega) fun h => by rw [List.length_take]; omega⟩
    show some (!(((c0 :: r).take m).map PyData.int).isEmpty) = some true
    cases m with
    | zero => omega
    | succ m => simp
end

/-! ## lists in the place of tuples; alike -/
mutual
def lev : PyData → Nat
  | .list xs => 1 + levs xs
  | .tuple xs => 1 + levs xs
  | .none => 0
  | .bool _ => 0
  | .int _ => 0
  | .str _ => 0
  | .dict _ => 0
def levs : List PyData → Nat
  | [] => 0
  | x :: r => max (lev x) (levs r)
end
mutual
def lisD : PyData → PyData
  | .list xs => .list (lisDs xs)
  | .tuple xs => .list (lisDs xs)
  | .none => .none
  | .bool b => .bool b
  | .int i => .int i
  | .str s => .str s
  | .dict kvs => .dict kvs
def lisDs : List PyData → List PyData
  | [] => []
  | x :: r => lisD x :: lisDs r
end
theorem lisDs_eq : ∀ xs, lisDs xs = xs.map lisD
  | [] => by simp [lisDs]
  | x :: r => by rw [lisDs, lisDs_eq r]; rfl
theorem levs_le : ∀ (xs : List PyData) (x : PyData), x ∈ xs → lev x ≤ levs xs
  | [], _, h => by cases h
  | y :: r, x, h => by
    rw [levs]
    rcases List.mem_cons.mp h with (z | z)
    · rw [z]; exact Nat.le_max_left _ _
    · exact Nat.le_trans (levs_le r x z) (Nat.le_max_right _ _)
theorem lev_kid {x y : PyData} (h : y ∈ kidD x) : lev y < lev x := by
  cases x <;> simp [kidD] at h
  · have := levs_le _ _ h; rw [lev]; omega
  · have := levs_le _ _ h; rw [lev]; omega
theorem cnts_mem : ∀ (xs : List PyData) (x : PyData), x ∈ xs → cnt x ≤ cnts xs
  | [], _, h => by cases h
  | y :: r, x, h => by
    rw [cnts]
    rcases List.mem_cons.mp h with (z | z)
    · rw [z]; exact Nat.le_add_right _ _
    · have := cnts_mem r x z; omega
theorem cnt_kid {x y : PyData} (h : y ∈ kidD x) : cnt y ≤ cnt x := by
  cases x <;> simp [kidD] at h
  · have := cnts_mem _ _ h; rw [cnt]; omega
  · have := cnts_mem _ _ h; rw [cnt]; omega
/-- data that may be walked in d steps down -/
structure Dat (d : Nat) (x : PyData) : Prop where
  nod : nod x = true
  lev : lev x < d
  cnt : cnt x ≤ 1000000
theorem Dat.kid {d : Nat} {x y : PyData} (h : Dat (d + 1) x) (m : y ∈ kidD x) : Dat d y :=
  ⟨nod_kid h.nod m, by have := lev_kid m; have := h.lev; omega, Nat.le_trans (cnt_kid m) h.cnt⟩
theorem Dat.len {d : Nat} {x : PyData} (h : Dat d x) : (kidD x).length ≤ 1000000 := by
  have h1 := len_cntS (kidD x)
  have h2 := cnt_eq x
  have := h.cnt
  omega

/-! ## what isinstance answers, what == answers of small things -/
theorem an_int_NoneType : ansOf "int" "NoneType" = some false := by decide +kernel
theorem an_int_bool : ansOf "int" "bool" = some true := by decide +kernel
theorem an_int_int : ansOf "int" "int" = some true := by decide +kernel
theorem an_int_str : ansOf "int" "str" = some false := by decide +kernel
theorem an_int_list : ansOf "int" "list" = some false := by decide +kernel
theorem an_int_tuple : ansOf "int" "tuple" = some false := by decide +kernel
theorem an_bool_NoneType : ansOf "bool" "NoneType" = some false := by decide +kernel
theorem an_bool_bool : ansOf "bool" "bool" = some true := by decide +kernel
theorem an_bool_int : ansOf "bool" "int" = some false := by decide +kernel
theorem an_bool_str : ansOf "bool" "str" = some false := by decide +kernel
theorem an_bool_list : ansOf "bool" "list" = some false := by decide +kernel
theorem an_bool_tuple : ansOf "bool" "tuple" = some false := by decide +kernel
theorem an_list_NoneType : ansOf "list" "NoneType" = some false := by decide +kernel
theorem an_list_bool : ansOf "list" "bool" = some false := by decide +kernel
theorem an_list_int : ansOf "list" "int" = some false := by decide +kernel
theorem an_list_str : ansOf "list" "str" = some false := by decide +kernel
theorem an_list_list : ansOf "list" "list" = some true := by decide +kernel
theorem an_list_tuple : ansOf "list" "tuple" = some false := by decide +kernel
theorem an_tuple_NoneType : ansOf "tuple" "NoneType" = some false := by decide +kernel
theorem an_tuple_bool : ansOf "tuple" "bool" = some false := by decide +kernel
theorem an_tuple_int : ansOf "tuple" "int" = some false := by decide +kernel
theorem an_tuple_str : ansOf "tuple" "str" = some false := by decide +kernel
theorem an_tuple_list : ansOf "tuple" "list" = some false := by decide +kernel
theorem an_tuple_tuple : ansOf "tuple" "tuple" = some true := by decide +kernel
theorem an_str_NoneType : ansOf "str" "NoneType" = some false := by decide +kernel
theorem an_str_bool : ansOf "str" "bool" = some false := by decide +kernel
theorem an_str_int : ansOf "str" "int" = some false := by decide +kernel
theorem an_str_str : ansOf "str" "str" = some true := by decide +kernel
theorem an_str_list : ansOf "str" "list" = some false := by decide +kernel
theorem an_str_tuple : ansOf "str" "tuple" = some false := by decide +kernel
theorem an2_bs_NoneType : ansOf2 "bool" "str" "NoneType" = some false := by decide +kernel
theorem an2_bs_bool : ansOf2 "bool" "str" "bool" = some true := by decide +kernel
theorem an2_bs_int : ansOf2 "bool" "str" "int" = some false := by decide +kernel
theorem an2_bs_str : ansOf2 "bool" "str" "str" = some true := by decide +kernel
theorem an2_bs_list : ansOf2 "bool" "str" "list" = some false := by decide +kernel
theorem an2_bs_tuple : ansOf2 "bool" "str" "tuple" = some false := by decide +kernel
theorem ev_none : PyData.eqv .none .none = true := by simp [PyData.eqv]
theorem ev_bool (a b : Bool) : PyData.eqv (.bool a) (.bool b) = (a == b) := by simp [PyData.eqv]
theorem ev_int (a b : Int) : PyData.eqv (.int a) (.int b) = (a == b) := by simp [PyData.eqv]
theorem ev_str (a b : Str) : PyData.eqv (.str a) (.str b) = (a == b) := by simp [PyData.eqv]
theorem sh_none : SeqAt.shaped .none = true := by decide +kernel
theorem sh_bool (b : Bool) : SeqAt.shaped (.bool b) = true := by cases b <;> decide +kernel
theorem sh_int (i : Int) : SeqAt.shaped (.int i) = true := by simp [SeqAt.shaped, PyData.canLay0, PyData.depth]
theorem sh_str {s : Str} (h : PyData.strOk s = true) : SeqAt.shaped (.str s) = true := by simp [SeqAt.shaped, PyData.canLay0, PyData.depth, h]
local macro_rules | `(tactic| walk_at "lf") => `(tactic| simp only [an_int_NoneType, an_int_bool, an_int_int, an_int_str, an_int_list, an_int_tuple, an_bool_NoneType, an_bool_bool, an_bool_int, an_bool_str, an_bool_list, an_bool_tuple, an_list_NoneType, an_list_bool, an_list_int, an_list_str, an_list_list, an_list_tuple, an_tuple_NoneType, an_tuple_bool, an_tuple_int, an_tuple_str, an_tuple_list, an_tuple_tuple, an_str_NoneType, an_str_bool, an_str_int, an_str_str, an_str_list, an_str_tuple, an2_bs_NoneType, an2_bs_bool, an2_bs_int, an2_bs_str, an2_bs_list, an2_bs_tuple, isq_none, isq_bool, isq_int, isq_str, isq_list, isq_tuple, ev_none, ev_bool, ev_int, ev_str, sh_none, sh_bool, sh_int, Option.some.injEq, exists_eq_left', exists_eq_left, beq_self_eq_true, Bool.not_true, Bool.not_false, Bool.false_eq_true, if_false, if_true, true_and, and_true, decide_true, decide_false])
theorem lay_kid {x y : PyData} (h : x.canLay0 = true) (m : y ∈ kidD x) : y.canLay0 = true := by
  have all : ∀ xs : List PyData, PyData.canLayAll0 xs = true → ∀ y ∈ xs, y.canLay0 = true := fun xs => by
    induction xs with
    | nil => intro _ y hy; cases hy
    | cons a r ih =>
      intro h y hy
      simp only [PyData.canLayAll0, Bool.and_eq_true] at h
      rcases List.mem_cons.mp hy with (z | z)
      · rw [z]; exact h.1
      · exact ih h.2 y z
  cases x <;> simp [kidD] at m
  · exact all _ (by simpa [PyData.canLay0] using h) y m
  · exact all _ (by simpa [PyData.canLay0] using h) y m
section
variable {P : Program} {w : World} {K : PySem.W.Frag} {T : Tbs} {mg : Str → Option Value} {base : Heap} {f : Addr} {fd : FuncData}
abbrev s__law_same : Stmt := topS 14
theorem sc__law_same : FnScope ["got", "due", "mine", "its"] ["got", "due"] (defScope s__law_same) := ⟨rfl, rfl, rfl, by decide +kernel, rfl, by decide +kernel, by decide +kernel⟩
def cSame (d : Nat) : CT := fun ss P => ∃ x, ss = [.d x, .d x] ∧ Dat d x ∧ x.canLay0 = true ∧ P (.d (.bool true)) [.no, .no]
theorem ok__law_same (B : BI mg) (F : Fun K "_law_same" "_law_same" s__law_same f fd) (b : Binds K fd ["got", "due"] []) (m : mg "_law_same" = some (.ref f)) : ∀ d, Fnd P w K T mg base d "_law_same" ["got", "due"] (cSame d)
  | 0 => Fnd.zero F b m fun ss Q ⟨x, _, h, _⟩ => absurd h.lev (Nat.not_lt_zero _)
  | d + 1 => by
    have h__law_same := ok__law_same B F b m d
    refine fn_d F sc__law_same b m [] (by decide) fun cdv A outer s H E hr => ?_
    refine ⟨_, (dss_cons (ds_if (dt_truth (isi_list_tuple B (de_var 1 (pv 1)))) (dss_cons (ds_if (dw_pt (dw_or (dt_ne hr.units (isi_list B (de_var 0 (pv 0))) (isi_list B (de_var 1 (pv 1)))) (dw_or1 (dt_ne hr.units (isi_tuple B (de_var 0 (pv 0))) (isi_tuple B (de_var 1 (pv 1))))))) (dss_one (ds_ret de_bl)) dss_nil) (dss_one (ds_ret (de_and (de_eq hr.units (de_len B.len (da_cons (de_var 0 (pv 0)) da_nil)) (de_len B.len (da_cons (de_var 1 (pv 1)) da_nil))) (de_one (de_all B.all rfl (da_cons (de_lc (own := [("mine", 2), ("its", 3)]) rfl sc__law_same.nd (di_zip rfl B.zip (de_var 0 (pv 0)) (de_var 1 (pv 1))) (blkOk_by (N := ["got", "due", "mine", "its"]) (sc := (defScope s__law_same)) (by decide +kernel)) (by decide) (fun _ => (dg_tup (n := 2) rfl (dgs_cons (dg_name (i := 2) (pg_name sc__law_same.nd rfl (Or.inl rfl))) (dgs_cons (dg_name (i := 3) (pg_name sc__law_same.nd rfl (Or.inl rfl))) dgs_nil)))) (fun _ => dts_nil) (fun _ => (de_call (h__law_same.mono (by omega)) hr (da_cons (de_var 2 (pv 2)) (da_cons (de_var 3 (pv 3)) da_nil))))) da_nil))))))) dss_nil) (dss_cons (ds_if (dw_pt (dw_or (dt_isN (de_var 1 (pv 1)) de_non) (dw_or1 (dt_truth (isi_bool_str B (de_var 1 (pv 1))))))) (dss_one (ds_ret (de_and (de_eq hr.units (de_var 0 (pv 0)) (de_var 1 (pv 1))) (de_and (de_eq hr.units (isi_bool B (de_var 0 (pv 0))) (isi_bool B (de_var 1 (pv 1)))) (de_one (de_eq hr.units (de_isN (de_var 0 (pv 0)) de_non) (de_isN (de_var 1 (pv 1)) de_non))))))) dss_nil) (dss_one (ds_ret (de_and (isi_int B (de_var 0 (pv 0))) (de_and (de_not (isi_bool B (de_var 0 (pv 0)))) (de_one (de_eq hr.units (de_var 0 (pv 0)) (de_var 1 (pv 1)))))))))), ?_⟩
    rintro ss Q _ ⟨x, e, hx, hlay, q⟩
    subst e
    have hn := hx.nod
    cases x with
    | dict kvs => simp [nod] at hn
    | none => walk_at "dl"; walk_at "lf"; exact q
    | bool b => walk_at "dl"; walk_at "lf"; exact q
    | int i => walk_at "dl"; walk_at "lf"; exact q
    | str t =>
      have ht := sh_str (s := t) (by simpa [PyData.canLay0] using hlay)
      walk_at "dl"; walk_at "lf"; exact ⟨ht, ht, q⟩
    | list xs =>
      walk_at "dl"
      walk_at "lf"
      have hl : xs.length ≤ 1000000 := hx.len
      refine ⟨fun i acc Γ => acc = List.replicate i (.bool true) ∧ Γ = [.d (.list xs), .d (.list xs), .no, .no], ⟨rfl, rfl⟩, ?_, ?_⟩
      · rintro i y acc Γ hy ⟨rfl, rfl⟩
        obtain ⟨a, b, ea, eb, rfl⟩ := zipD_get hy
        rw [ea] at eb
        cases eb
        have hi := (List.getElem?_eq_some_iff.mp ea).1
        have hm := List.mem_of_getElem? ea
        refine ⟨_, rfl, rfl, ⟨_, _, rfl, ⟨_, _, rfl, rfl, ?_⟩⟩⟩
        refine ⟨rfl, a, rfl, hx.kid (x := .list xs) hm, lay_kid (x := .list xs) hlay hm, ?_⟩
        exact ⟨_, rfl, szl (by rw [List.length_replicate]; omega), by rw [List.replicate_succ'], rfl⟩
      · rintro acc Γ ⟨rfl, rfl⟩
        refine ⟨List.replicate (zipD xs xs).length true, by simp [lis, List.map_replicate], ?_⟩
        have e : (List.replicate (zipD xs xs).length true).all id = true := by simp
        rw [e]
        exact q
    | tuple xs =>
      walk_at "dl"
      walk_at "lf"
      have hl : xs.length ≤ 1000000 := hx.len
      refine ⟨fun i acc Γ => acc = List.replicate i (.bool true) ∧ Γ = [.d (.tuple xs), .d (.tuple xs), .no, .no], ⟨rfl, rfl⟩, ?_, ?_⟩
      · rintro i y acc Γ hy ⟨rfl, rfl⟩
        obtain ⟨a, b, ea, eb, rfl⟩ := zipD_get hy
        rw [ea] at eb
        cases eb
        have hi := (List.getElem?_eq_some_iff.mp ea).1
        have hm := List.mem_of_getElem? ea
        refine ⟨_, rfl, rfl, ⟨_, _, rfl, ⟨_, _, rfl, rfl, ?_⟩⟩⟩
        refine ⟨rfl, a, rfl, hx.kid (x := .tuple xs) hm, lay_kid (x := .tuple xs) hlay hm, ?_⟩
        exact ⟨_, rfl, szl (by rw [List.length_replicate]; omega), by rw [List.replicate_succ'], rfl⟩
      · rintro acc Γ ⟨rfl, rfl⟩
        refine ⟨List.replicate (zipD xs xs).length true, by simp [lis, List.map_replicate], ?_⟩
        have e : (List.replicate (zipD xs xs).length true).all id = true := by simp
        rw [e]
        exact q
end

/-! ## k00: under which classes an exception stands -/

section
variable {P : Program} {w : World} {K : PySem.W.Frag} {T : Tbs} {mg : Str → Option Value} {base : Heap} {f : Addr} {fd : FuncData}
abbrev s__law_under : Stmt := topS 15
theorem sc__law_under : FnScope ["error_so", "near", "far"] ["error_so"] (defScope s__law_under) := ⟨rfl, rfl, rfl, by decide +kernel, rfl, by decide +kernel, by decide +kernel⟩
/-- what isinstance answers against the built-in class n, by the exception's class -/
def AnB (K : PySem.W.Frag) (an : String → Addr → Option Bool) (n : String) : Prop := ∀ C b, an n C = some b → XI K C ∧ PySem.W.kitOne K (.ref C) (.type n) = some b
def cUnder (an : String → Addr → Option Bool) : CT := fun ss P => ∃ (x : PyData) (C : Addr) (b1 b2 b3 b4 b5 b6 b7 b8 : Bool), ss = [.d x] ∧ exC (.d x) = some C ∧ an "LookupError" C = some b1 ∧ an "ValueError" C = some b2 ∧ an "TypeError" C = some b3 ∧ an "KeyError" C = some b4 ∧
  an "IndexError" C = some b5 ∧ an "RuntimeError" C = some b6 ∧ an "AttributeError" C = some b7 ∧ an "Exception" C = some b8 ∧
  P (.m [.bool b1, .bool b2, .bool b3, .bool b4, .bool b5, .bool b6, .bool b7, .bool b8]) [.no]
theorem ok__law_under {an : String → Addr → Option Bool} (B : BI mg) (an_LookupError : AnB K an "LookupError") (an_ValueError : AnB K an "ValueError") (an_TypeError : AnB K an "TypeError") (an_KeyError : AnB K an "KeyError") (an_IndexError : AnB K an "IndexError")
    (an_RuntimeError : AnB K an "RuntimeError") (an_AttributeError : AnB K an "AttributeError") (an_Exception : AnB K an "Exception") (z_LookupError : mg "LookupError" = none) (z_ValueError : mg "ValueError" = none) (z_TypeError : mg "TypeError" = none) (z_KeyError : mg "KeyError" = none)
    (z_IndexError : mg "IndexError" = none) (z_RuntimeError : mg "RuntimeError" = none) (z_AttributeError : mg "AttributeError" = none) (z_Exception : mg "Exception" = none) (F : Fun K "_law_under" "_law_under" s__law_under f fd) (b : Binds K fd ["error_so"] []) (m : mg "_law_under" = some (.ref f)) : Fnd P w K T mg base 1 "_law_under" ["error_so"] (cUnder an) := by
  have boot_LookupError : bootBuiltins "LookupError" = some (.type "LookupError") := by decide +kernel
  have boot_ValueError : bootBuiltins "ValueError" = some (.type "ValueError") := by decide +kernel
  have boot_TypeError : bootBuiltins "TypeError" = some (.type "TypeError") := by decide +kernel
  have boot_KeyError : bootBuiltins "KeyError" = some (.type "KeyError") := by decide +kernel
  have boot_IndexError : bootBuiltins "IndexError" = some (.type "IndexError") := by decide +kernel
  have boot_RuntimeError : bootBuiltins "RuntimeError" = some (.type "RuntimeError") := by decide +kernel
  have boot_AttributeError : bootBuiltins "AttributeError" = some (.type "AttributeError") := by decide +kernel
  have boot_Exception : bootBuiltins "Exception" = some (.type "Exception") := by decide +kernel
  refine fn_d F sc__law_under b m [] (by decide) fun cdv A outer s H E hr => ?_
  refine ⟨_, (dss_cons (ds_set (i := 1) (fun te h => ps_set sc__law_under.nd rfl (Or.inl rfl) h) (de_lst (da_cons (de_isX (ans := an "LookupError") B.isinstance z_LookupError boot_LookupError (de_var 0 (pv 0)) an_LookupError) (da_cons (de_isX (ans := an "ValueError") B.isinstance z_ValueError boot_ValueError (de_var 0 (pv 0)) an_ValueError) (da_cons (de_isX (ans := an "TypeError") B.isinstance z_TypeError boot_TypeError (de_var 0 (pv 0)) an_TypeError) da_nil))))) (dss_cons (ds_set (i := 2) (fun te h => ps_set sc__law_under.nd rfl (Or.inl rfl) h) (de_lst (da_cons (de_isX (ans := an "KeyError") B.isinstance z_KeyError boot_KeyError (de_var 0 (pv 0)) an_KeyError) (da_cons (de_isX (ans := an "IndexError") B.isinstance z_IndexError boot_IndexError (de_var 0 (pv 0)) an_IndexError) da_nil)))) (dss_one (ds_ret (de_add (de_add (de_var 1 (pv 1)) (de_var 2 (pv 2))) (de_lst (da_cons (de_isX (ans := an "RuntimeError") B.isinstance z_RuntimeError boot_RuntimeError (de_var 0 (pv 0)) an_RuntimeError) (da_cons (de_isX (ans := an "AttributeError") B.isinstance z_AttributeError boot_AttributeError (de_var 0 (pv 0)) an_AttributeError) (da_cons (de_isX (ans := an "Exception") B.isinstance z_Exception boot_Exception (de_var 0 (pv 0)) an_Exception) da_nil))))))))), ?_⟩
  rintro ss Q _ ⟨x, C, b1, b2, b3, b4, b5, b6, b7, b8, e, ex, e1, e2, e3, e4, e5, e6, e7, e8, q⟩
  subst e
  refine ⟨C, b1, ex, e1, C, b2, ex, e2, C, b3, ex, e3, _, rfl, sz 3, ?_⟩
  refine ⟨C, b4, ex, e4, C, b5, ex, e5, _, rfl, sz 2, ?_⟩
  refine ⟨_, _, rfl, rfl, sz 5, ?_⟩
  refine ⟨C, b6, ex, e6, C, b7, ex, e7, C, b8, ex, e8, _, rfl, sz 3, ?_⟩
  exact ⟨_, _, rfl, rfl, sz 8, q⟩
end

section
variable {P : Program} {w : World} {K : PySem.W.Frag} {T : Tbs} {mg : Str → Option Value} {base : Heap} {f : Addr} {fd : FuncData}
abbrev s__law_which : Stmt := topS 16
theorem sc__law_which : FnScope ["error_so", "found"] ["error_so"] (defScope s__law_which) := ⟨rfl, rfl, rfl, by decide +kernel, rfl, by decide +kernel, by decide +kernel⟩
/-- what isinstance answers against the own class n, at D -/
def AnO (K : PySem.W.Frag) (an : String → Addr → Option Bool) (n : String) (D : Addr) : Prop := ∀ C b, an n C = some b → XI K C ∧ PySem.W.kitOne K (.ref C) (.ref D) = some b
/-- the eight classes: their addresses -/
structure Cs where
  c1 : Addr
  c2 : Addr
  c3 : Addr
  c4 : Addr
  c5 : Addr
  c6 : Addr
  c7 : Addr
  c8 : Addr
/-- the eight classes as the text has them, in its order; what isinstance answers -/
structure X8 (P : Program) (w : World) (K : PySem.W.Frag) (mg : Str → Option Value) (base : Heap) (cs : Cs) (an : String → Addr → Option Bool) : Prop where
  m1 : XM1 P w K mg base 1 "BadLine" cs.c1 "number"
  m2 : XM0 P w K mg base 1 "CanNot" cs.c2
  m3 : XM1 P w K mg base 1 "NoCell" cs.c3 "cell"
  m4 : XM1 P w K mg base 1 "NoNumber" cs.c4 "number"
  m5 : XM1 P w K mg base 1 "NoPlace" cs.c5 "place"
  m6 : XM0 P w K mg base 1 "NothingDone" cs.c6
  m7 : XM0 P w K mg base 1 "TooMany" cs.c7
  m8 : XM0 P w K mg base 1 "Unfit" cs.c8
  a1 : AnO K an "BadLine" cs.c1
  a2 : AnO K an "CanNot" cs.c2
  a3 : AnO K an "NoCell" cs.c3
  a4 : AnO K an "NoNumber" cs.c4
  a5 : AnO K an "NoPlace" cs.c5
  a6 : AnO K an "NothingDone" cs.c6
  a7 : AnO K an "TooMany" cs.c7
  a8 : AnO K an "Unfit" cs.c8
def cWhich (an : String → Addr → Option Bool) : CT := fun ss P => ∃ (x : PyData) (C : Addr) (b1 b2 b3 b4 b5 b6 b7 b8 : Bool), ss = [.d x] ∧ exC (.d x) = some C ∧ an "BadLine" C = some b1 ∧ an "CanNot" C = some b2 ∧ an "NoCell" C = some b3 ∧ an "NoNumber" C = some b4 ∧
  an "NoPlace" C = some b5 ∧ an "NothingDone" C = some b6 ∧ an "TooMany" C = some b7 ∧ an "Unfit" C = some b8 ∧
  P (.m [.bool b1, .bool b2, .bool b3, .bool b4, .bool b5, .bool b6, .bool b7, .bool b8]) [.no]
theorem ok__law_which {cs : Cs} {an : String → Addr → Option Bool} (B : BI mg) (Y : X8 P w K mg base cs an) (F : Fun K "_law_which" "_law_which" s__law_which f fd) (b : Binds K fd ["error_so"] []) (m : mg "_law_which" = some (.ref f)) : Fnd P w K T mg base 1 "_law_which" ["error_so"] (cWhich an) := by
  obtain ⟨m_BadLine, m_CanNot, m_NoCell, m_NoNumber, m_NoPlace, m_NothingDone, m_TooMany, m_Unfit, an_BadLine, an_CanNot, an_NoCell, an_NoNumber, an_NoPlace, an_NothingDone, an_TooMany, an_Unfit⟩ := Y
  refine fn_d F sc__law_which b m [] (by decide) fun cdv A outer s H E hr => ?_
  refine ⟨_, (dss_cons (ds_set (i := 1) (fun te h => ps_set sc__law_which.nd rfl (Or.inl rfl) h) (de_lst (da_cons (de_isXo (ans := an "BadLine") B.isinstance m_BadLine.at_ (de_var 0 (pv 0)) an_BadLine) (da_cons (de_isXo (ans := an "CanNot") B.isinstance m_CanNot.at_ (de_var 0 (pv 0)) an_CanNot) (da_cons (de_isXo (ans := an "NoCell") B.isinstance m_NoCell.at_ (de_var 0 (pv 0)) an_NoCell) (da_cons (de_isXo (ans := an "NoNumber") B.isinstance m_NoNumber.at_ (de_var 0 (pv 0)) an_NoNumber) da_nil)))))) (dss_one (ds_ret (de_add (de_var 1 (pv 1)) (de_lst (da_cons (de_isXo (ans := an "NoPlace") B.isinstance m_NoPlace.at_ (de_var 0 (pv 0)) an_NoPlace) (da_cons (de_isXo (ans := an "NothingDone") B.isinstance m_NothingDone.at_ (de_var 0 (pv 0)) an_NothingDone) (da_cons (de_isXo (ans := an "TooMany") B.isinstance m_TooMany.at_ (de_var 0 (pv 0)) an_TooMany) (da_cons (de_isXo (ans := an "Unfit") B.isinstance m_Unfit.at_ (de_var 0 (pv 0)) an_Unfit) da_nil))))))))), ?_⟩
  rintro ss Q _ ⟨x, C, b1, b2, b3, b4, b5, b6, b7, b8, e, ex, e1, e2, e3, e4, e5, e6, e7, e8, q⟩
  subst e
  refine ⟨C, b1, ex, e1, C, b2, ex, e2, C, b3, ex, e3, C, b4, ex, e4, _, rfl, sz 4, ?_⟩
  refine ⟨C, b5, ex, e5, C, b6, ex, e6, C, b7, ex, e7, C, b8, ex, e8, _, rfl, sz 4, ?_⟩
  exact ⟨_, _, rfl, rfl, sz 8, q⟩
end

/-! ## small data -/
theorem nods_iff : ∀ xs : List PyData, nods xs = true ↔ ∀ x ∈ xs, nod x = true
  | [] => by simp [nods]
  | x :: r => by simp [nods, nods_iff r]
theorem levs_iff {d : Nat} : ∀ xs : List PyData, levs xs ≤ d ↔ ∀ x ∈ xs, lev x ≤ d
  | [] => by simp [levs]
  | x :: r => by simp only [levs, List.forall_mem_cons, ← levs_iff r]; omega
theorem lays_iff : ∀ xs : List PyData, PyData.canLayAll0 xs = true ↔ ∀ x ∈ xs, x.canLay0 = true
  | [] => by simp [PyData.canLayAll0]
  | x :: r => by simp [PyData.canLayAll0, lays_iff r]
theorem cnts_le {c : Nat} : ∀ xs : List PyData, (∀ x ∈ xs, cnt x ≤ c) → cnts xs ≤ xs.length * c
  | [], _ => by simp [cnts]
  | x :: r, h => by
    have a := h x List.mem_cons_self
    have b := cnts_le r fun y hy => h y (List.mem_cons_of_mem _ hy)
    rw [cnts, List.length_cons, Nat.succ_mul]; omega
/-- small data: so deep, so large, and it can be laid -/
structure Sm (d c : Nat) (x : PyData) : Prop where
  nod : nod x = true
  lev : lev x ≤ d
  cnt : cnt x ≤ c
  lay : x.canLay0 = true
theorem Sm.mono {d c d' c' : Nat} {x : PyData} (h : Sm d c x) (a : d ≤ d') (b : c ≤ c') : Sm d' c' x := ⟨h.nod, Nat.le_trans h.lev a, Nat.le_trans h.cnt b, h.lay⟩
theorem Sm.dat {d c : Nat} {x : PyData} (h : Sm d c x) (b : c ≤ 1000000) : Dat (d + 1) x := ⟨h.nod, by have := h.lev; omega, Nat.le_trans h.cnt b⟩
theorem sm_list {d c n : Nat} {xs : List PyData} (h : ∀ x ∈ xs, Sm d c x) (l : xs.length ≤ n) : Sm (d + 1) (1 + n * c) (.list xs) where
  nod := by simp only [DL.nod]; exact (nods_iff xs).mpr fun x hx => (h x hx).nod
  lev := by simp only [DL.lev]; have := (levs_iff (d := d) xs).mpr fun x hx => (h x hx).lev; omega
  cnt := by
    simp only [DL.cnt]
    have a := cnts_le (c := c) xs fun x hx => (h x hx).cnt
    have b := Nat.mul_le_mul_right c l
    omega
  lay := by simp only [PyData.canLay0]; exact (lays_iff xs).mpr fun x hx => (h x hx).lay
theorem sm_tuple {d c n : Nat} {xs : List PyData} (h : ∀ x ∈ xs, Sm d c x) (l : xs.length ≤ n) : Sm (d + 1) (1 + n * c) (.tuple xs) :=
  have k := sm_list h l
  ⟨k.nod, k.lev, k.cnt, k.lay⟩
theorem sm_int (i : Int) : Sm 0 1 (.int i) := ⟨rfl, Nat.le_refl _, Nat.le_refl _, rfl⟩
theorem sm_bool (b : Bool) : Sm 0 1 (.bool b) := ⟨rfl, Nat.le_refl _, Nat.le_refl _, rfl⟩
theorem sm_none : Sm 0 1 .none := ⟨rfl, Nat.le_refl _, Nat.le_refl _, rfl⟩
theorem sm_pl {p : List Int} {n : Nat} (l : p.length ≤ n) : Sm 1 (1 + n) (plD p) := by
  have k : Sm (0 + 1) (1 + n * 1) (plD p) := sm_tuple (d := 0) (c := 1) (n := n) (fun x hx => by
    obtain ⟨i, _, rfl⟩ := List.mem_map.mp hx
    exact sm_int i) (by rw [List.length_map]; exact l)
  rw [Nat.mul_one] at k
  exact k

/-! ## k00: the errors made, and held against what is due -/
def oks (i : Nat) : Bool := decide (2 ≤ i) && decide (i ≤ 5)
def Cs.at (cs : Cs) : Nat → Addr
  | 0 => cs.c1
  | 1 => cs.c2
  | 2 => cs.c3
  | 3 => cs.c4
  | 4 => cs.c5
  | 5 => cs.c6
  | 6 => cs.c7
  | _ => cs.c8
def exL (cs : Cs) (n t : PyData) : List PyData := [exD1 cs.c1 "number" n, exD0 cs.c2, exD1 cs.c3 "cell" t, exD1 cs.c4 "number" n, exD1 cs.c5 "place" t, exD0 cs.c6, exD0 cs.c7, exD0 cs.c8]
theorem exL_at {cs : Cs} {n t x : PyData} : ∀ {i : Nat}, (exL cs n t)[i]? = some x → i < 8 ∧ exC (.d x) = some (cs.at i)
  | 0, h => by cases h; exact ⟨by decide, rfl⟩
  | 1, h => by cases h; exact ⟨by decide, rfl⟩
  | 2, h => by cases h; exact ⟨by decide, rfl⟩
  | 3, h => by cases h; exact ⟨by decide, rfl⟩
  | 4, h => by cases h; exact ⟨by decide, rfl⟩
  | 5, h => by cases h; exact ⟨by decide, rfl⟩
  | 6, h => by cases h; exact ⟨by decide, rfl⟩
  | 7, h => by cases h; exact ⟨by decide, rfl⟩
  | i + 8, h => by simp [exL] at h
/-- what isinstance answers of the eight -/
structure Ans8 (cs : Cs) (an : String → Addr → Option Bool) : Prop where
  u1 : ∀ i < 8, an "LookupError" (cs.at i) = some (oks i)
  u2 : ∀ i < 8, an "ValueError" (cs.at i) = some (!oks i)
  u3 : ∀ i < 8, an "TypeError" (cs.at i) = some false
  u4 : ∀ i < 8, an "KeyError" (cs.at i) = some false
  u5 : ∀ i < 8, an "IndexError" (cs.at i) = some false
  u6 : ∀ i < 8, an "RuntimeError" (cs.at i) = some false
  u7 : ∀ i < 8, an "AttributeError" (cs.at i) = some false
  u8 : ∀ i < 8, an "Exception" (cs.at i) = some true
  w1 : ∀ i < 8, an "BadLine" (cs.at i) = some (decide (0 = i))
  w2 : ∀ i < 8, an "CanNot" (cs.at i) = some (decide (1 = i))
  w3 : ∀ i < 8, an "NoCell" (cs.at i) = some (decide (2 = i))
  w4 : ∀ i < 8, an "NoNumber" (cs.at i) = some (decide (3 = i))
  w5 : ∀ i < 8, an "NoPlace" (cs.at i) = some (decide (4 = i))
  w6 : ∀ i < 8, an "NothingDone" (cs.at i) = some (decide (5 = i))
  w7 : ∀ i < 8, an "TooMany" (cs.at i) = some (decide (6 = i))
  w8 : ∀ i < 8, an "Unfit" (cs.at i) = some (decide (7 = i))
def valL : List PyData := [.bool false, .bool true, .bool false, .bool false, .bool false, .bool false, .bool false, .bool true]
def lookL : List PyData := [.bool true, .bool false, .bool false, .bool false, .bool false, .bool false, .bool false, .bool true]
def undD (i : Nat) : PyData := .list [.bool (oks i), .bool (!oks i), .bool false, .bool false, .bool false, .bool false, .bool false, .bool true]
theorem undD_eq (i : Nat) : undD i = .list (if oks i = true then lookL else valL) := by unfold undD; cases oks i <;> rfl
def whL (i n : Nat) : List PyData := (List.range n).map fun k => .bool (decide (k = i))
def rowM (n : Int) (t : PyData) : PyData := .list [.int n, t, .int n, t]
def gotI (n : Int) (t : PyData) : Nat → List PyData
  | 0 => [rowM n t, rowM n t]
  | i + 1 => gotI n t i ++ [undD i, .list (whL i 8)]
theorem gotI_len (n : Int) (t : PyData) : ∀ i, (gotI n t i).length = 2 + 2 * i
  | 0 => rfl
  | i + 1 => by rw [gotI, List.length_append, gotI_len n t i]; simp; omega
theorem whL_succ (i k : Nat) : whL i k ++ [.bool (PyData.eqv (.int (0 + (k : Int))) (.int (i : Int)))] = whL i (k + 1) := by
  have e : PyData.eqv (.int (0 + (k : Int))) (.int (i : Int)) = decide (k = i) := by
    rw [ev_int, Int.zero_add]
    by_cases h : k = i
    · subst h; simp
    · rw [decide_eq_false h]; exact beq_false_of_ne fun z => h (by omega)
  rw [e]; unfold whL; rw [List.range_succ, List.map_append]; rfl
theorem whL_len (i k : Nat) : (whL i k).length = k := by simp [whL]
/-- a comprehension that leaves all slots as they were -/
theorem LcOk.same {g : TDG} {tt : TDT} {te : TD} {vs : List Nat} {its : List PyData} {Γ0 : G} {P : R → G → Prop} (A : Nat → List PyData) (h0 : A 0 = [])
    (step : ∀ i x acc Γ, its[i]? = some x → (acc = A i ∧ Γ = wipeG Γ0 vs) → g x Γ fun Γ1 => tt Γ1 fun b Γ2 => if b = true then te Γ2 fun r Γ3 => ∃ y, dat r.1 = some y ∧ acc.length < sizeLine ∧ (acc ++ [y] = A (i + 1) ∧ wipeG (back [r] [frz r.1] Γ3) vs = wipeG Γ0 vs) else (acc = A (i + 1) ∧ wipeG Γ2 vs = wipeG Γ0 vs))
    (fin : P (.m (A its.length), none) (wipeG Γ0 vs)) : LcOk g tt te vs its Γ0 P :=
  ⟨fun i acc Γ => acc = A i ∧ Γ = wipeG Γ0 vs, ⟨h0.symm, rfl⟩, step, fun acc Γ ⟨e, e2⟩ => by subst e e2; exact fin⟩
theorem sm_row {n : Int} {ts : List Int} (h : ts.length ≤ 3) : Sm 2 100 (rowM n (plD ts)) :=
  (sm_list (d := 1) (c := 4) (n := 4) (fun x hx => by
    simp only [List.mem_cons, List.mem_nil_iff, or_false] at hx
    rcases hx with rfl | rfl | rfl | rfl
    · exact (sm_int _).mono (by decide) (by decide)
    · exact (sm_pl h)
    · exact (sm_int _).mono (by decide) (by decide)
    · exact (sm_pl h)) (by simp)).mono (by decide) (by decide)
theorem sm_bools {xs : List PyData} (h : ∀ x ∈ xs, ∃ b, x = .bool b) (l : xs.length ≤ 8) : Sm 2 100 (.list xs) :=
  (sm_list (d := 0) (c := 1) (n := 8) (fun x hx => by obtain ⟨b, rfl⟩ := h x hx; exact sm_bool b) l).mono (by decide) (by decide)
theorem sm_got {n : Int} {ts : List Int} (h : ts.length ≤ 3) : ∀ i, ∀ x ∈ gotI n (plD ts) i, Sm 2 100 x
  | 0, x, hx => by
    simp only [gotI, List.mem_cons, List.mem_nil_iff, or_false] at hx
    rcases hx with rfl | rfl <;> exact sm_row h
  | i + 1, x, hx => by
    rw [gotI] at hx
    rcases List.mem_append.mp hx with z | z
    · exact sm_got h i x z
    · simp only [List.mem_cons, List.mem_nil_iff, or_false] at z
      rcases z with rfl | rfl
      · exact sm_bools (fun x hx => by
          simp only [List.mem_cons, List.mem_nil_iff, or_false] at hx
          rcases hx with rfl | rfl | rfl | rfl | rfl | rfl | rfl | rfl <;> exact ⟨_, rfl⟩) (by simp)
      · exact sm_bools (fun x hx => by
          obtain ⟨k, _, rfl⟩ := List.mem_map.mp hx
          exact ⟨_, rfl⟩) (by simp [whL])
section
variable {P : Program} {w : World} {K : PySem.W.Frag} {T : Tbs} {mg : Str → Option Value} {base : Heap} {f : Addr} {fd : FuncData}
abbrev s__law_made_right : Stmt := topS 17
theorem sc__law_made_right : FnScope ["number_so", "trail_so", "value_so", "look_so", "made_so", "got", "due_so", "at_so", "own", "k"] ["number_so", "trail_so"] (defScope s__law_made_right) := ⟨rfl, rfl, rfl, by decide +kernel, rfl, by decide +kernel, by decide +kernel⟩
def cMade : CT := fun ss P => ∃ (n : Int) (ts : List Int), ss = [.d (.int n), .d (plD ts)] ∧ ts.length ≤ 3 ∧ P (.d (.bool true)) [.no, .no]
theorem XM1.xfA {k : Nat} {x g : Str} {C : Addr} (M : XM1 P w K mg base k x C g) : XfC K C ∧ PySem.W.findIn K (.ref C) g = some none := by
  obtain ⟨_, _, _, _, _, _, _, _, T, _⟩ := M.ex
  exact ⟨⟨T.ga, T.gg, T.exC, T.hdC⟩, M.no⟩
theorem ok__law_made_right {cs : Cs} {an : String → Addr → Option Bool} (B : BI mg) (Y : X8 P w K mg base cs an) (Z : Ans8 cs an) (h__law_under : Fnd P w K T mg base 1 "_law_under" ["error_so"] (cUnder an)) (h__law_which : Fnd P w K T mg base 1 "_law_which" ["error_so"] (cWhich an))
    (h__law_same : Fnd P w K T mg base 6 "_law_same" ["got", "due"] (softC (cSame 6))) (F : Fun K "_law_made_right" "_law_made_right" s__law_made_right f fd) (b : Binds K fd ["number_so", "trail_so"] []) (m : mg "_law_made_right" = some (.ref f)) : Fnd P w K T mg base 7 "_law_made_right" ["number_so", "trail_so"] cMade := by
  have xf_number : ∀ C, (C = cs.c1 ∨ C = cs.c4) → XfC K C ∧ PySem.W.findIn K (.ref C) "number" = some none := fun C h => h.elim (fun e => by rw [e]; exact Y.m1.xfA) (fun e => by rw [e]; exact Y.m4.xfA)
  have xf_cell : ∀ C, C = cs.c3 → XfC K C ∧ PySem.W.findIn K (.ref C) "cell" = some none := fun C h => by subst h; exact Y.m3.xfA
  have xf_place : ∀ C, C = cs.c5 → XfC K C ∧ PySem.W.findIn K (.ref C) "place" = some none := fun C h => by subst h; exact Y.m5.xfA
  obtain ⟨m_BadLine, m_CanNot, m_NoCell, m_NoNumber, m_NoPlace, m_NothingDone, m_TooMany, m_Unfit, _⟩ := Y
  refine fn_d F sc__law_made_right b m [] (by decide) fun cdv A outer s H E hr => ?_
  refine ⟨_, (dss_cut (ds_par (i := 2) (j := 3) (fun ta tb h1 h2 => ps_par rfl sc__law_made_right.nd rfl rfl (by decide) rfl rfl (pa_cons h1 (pa_cons h2 pa_nil)) (by rfl)) (de_add (de_add (de_lst (da_cons de_bl (da_cons de_bl da_nil))) (de_rep (de_lst (da_cons de_bl da_nil)) de_int)) (de_lst (da_cons de_bl da_nil))) (de_add (de_add (de_lst (da_cons de_bl da_nil)) (de_rep (de_lst (da_cons de_bl da_nil)) de_int)) (de_lst (da_cons de_bl da_nil)))) (dss_cut (ds_set (i := 4) (fun te h => ps_set sc__law_made_right.nd rfl (Or.inl rfl) h) (de_lst (da_cons (de_mk1 m_BadLine (hr.mono (by omega)) (de_var 0 (pv 0))) (da_cons (de_mk0 m_CanNot (hr.mono (by omega))) (da_cons (de_mk1 m_NoCell (hr.mono (by omega)) (de_var 1 (pv 1))) (da_cons (de_mk1 m_NoNumber (hr.mono (by omega)) (de_var 0 (pv 0))) (da_cons (de_mk1 m_NoPlace (hr.mono (by omega)) (de_var 1 (pv 1))) (da_cons (de_mk0 m_NothingDone (hr.mono (by omega))) (da_cons (de_mk0 m_TooMany (hr.mono (by omega))) (da_cons (de_mk0 m_Unfit (hr.mono (by omega))) da_nil)))))))))) (dss_cut (ds_set (i := 5) (fun te h => ps_set sc__law_made_right.nd rfl (Or.inl rfl) h) (de_lst (da_cons (de_lst (da_cons (de_xget xf_number (de_item (de_var 4 (pv 4)) de_int)) (da_cons (de_xget xf_cell (de_item (de_var 4 (pv 4)) de_int)) (da_cons (de_xget xf_number (de_item (de_var 4 (pv 4)) de_int)) (da_cons (de_xget xf_place (de_item (de_var 4 (pv 4)) de_int)) da_nil))))) da_nil))) (dss_cut (ds_expr (de_append (de_var 5 (pv 5)) (da_cons (de_lst (da_cons (de_xget xf_number (de_mkK m_BadLine (hr.mono (by omega)) (de_var 0 (pv 0)))) (da_cons (de_xget xf_cell (de_mkK m_NoCell (hr.mono (by omega)) (de_var 1 (pv 1)))) (da_cons (de_xget xf_number (de_mkK m_NoNumber (hr.mono (by omega)) (de_var 0 (pv 0)))) (da_cons (de_xget xf_place (de_mkK m_NoPlace (hr.mono (by omega)) (de_var 1 (pv 1)))) da_nil))))) da_nil))) (dss_cut (ds_set (i := 6) (fun te h => ps_set sc__law_made_right.nd rfl (Or.inl rfl) h) (de_rep (de_lst (da_cons (de_lst (da_cons (de_var 0 (pv 0)) (da_cons (de_var 1 (pv 1)) (da_cons (de_var 0 (pv 0)) (da_cons (de_var 1 (pv 1)) da_nil))))) da_nil)) de_int)) (dss_cut (ds_for PassesOwn.never rfl (di_enum rfl B.enumerate (de_var 4 (pv 4))) (dg_tup (n := 2) rfl (dgs_cons (dg_name (i := 7) (pg_name sc__law_made_right.nd rfl (Or.inr rfl))) (dgs_cons (dg_name (i := 8) (pg_name sc__law_made_right.nd rfl (Or.inl rfl))) dgs_nil))) (dss_cut (ds_set (i := 5) (fun te h => ps_set sc__law_made_right.nd rfl (Or.inl rfl) h) (de_add (de_var 5 (pv 5)) (de_lst (da_cons (de_call (h__law_under.mono (by omega)) hr (da_cons (de_var 8 (pv 8)) da_nil)) (da_cons (de_call (h__law_which.mono (by omega)) hr (da_cons (de_var 8 (pv 8)) da_nil)) da_nil))))) (dss_one (ds_set (i := 6) (fun te h => ps_set sc__law_made_right.nd rfl (Or.inl rfl) h) (de_add (de_var 6 (pv 6)) (de_lst (da_cons (de_ifExp (dt_chainEE de_int (de_var 7 (pv 7)) de_int) (de_var 3 (pv 3)) (de_var 2 (pv 2))) (da_cons (de_lc (own := [("k", 9)]) rfl sc__law_made_right.nd (di_range1 rfl B.range de_int) (blkOk_by (N := ["number_so", "trail_so", "value_so", "look_so", "made_so", "got", "due_so", "at_so", "own", "k"]) (sc := (defScope s__law_made_right)) (by decide +kernel)) (by decide) (fun _ => (dg_name (i := 9) (pg_name sc__law_made_right.nd rfl (Or.inl rfl)))) (fun _ => dts_nil) (fun _ => (de_eq hr.units (de_var 9 (pv 9)) (de_var 7 (pv 7))))) da_nil)))))))) (dss_one (ds_ret (de_call (h__law_same.mono (by omega)) hr (da_cons (de_var 5 (pv 5)) (da_cons (de_var 6 (pv 6)) da_nil))))))))))), ?_⟩
  rintro ss Q _ ⟨n, ts, rfl, hl, q⟩
  refine ⟨fun Γ => Γ = [.d (.int n), .d (plD ts), .m valL, .m lookL, .no, .no, .no, .no, .no, .no], ?_, ?_⟩
  · refine ⟨_, rfl, sz 2, _, rfl, sz 1, _, rfl, by decide, by decide, sz 5, _, _, rfl, rfl, sz 7, _, rfl, sz 1, _, _, rfl, rfl, sz 8, ?_⟩
    refine ⟨_, rfl, sz 1, _, rfl, sz 1, _, rfl, by decide, by decide, sz 6, _, _, rfl, rfl, sz 7, _, rfl, sz 1, _, _, rfl, rfl, sz 8, ?_⟩
    rfl
  rintro _ rfl
  refine ⟨fun Γ => Γ = [.d (.int n), .d (plD ts), .m valL, .m lookL, .m (exL cs (.int n) (plD ts)), .no, .no, .no, .no, .no], ?_, ?_⟩
  · refine ⟨_, rfl, _, rfl, _, rfl, _, rfl, _, rfl, sz 8, ?_⟩
    rfl
  rintro _ rfl
  refine ⟨fun Γ => Γ = [.d (.int n), .d (plD ts), .m valL, .m lookL, .m (exL cs (.int n) (plD ts)), .m [rowM n (plD ts)], .no, .no, .no, .no], ?_, ?_⟩
  · refine ⟨_, _, rfl, rfl, _, _, rfl, .inl rfl, ?_⟩
    refine ⟨_, _, rfl, rfl, _, _, rfl, rfl, ?_⟩
    refine ⟨_, _, rfl, rfl, _, _, rfl, .inr rfl, ?_⟩
    refine ⟨_, _, rfl, rfl, _, _, rfl, rfl, ?_⟩
    refine ⟨_, rfl, sz 4, _, rfl, sz 1, ?_⟩
    rfl
  rintro _ rfl
  refine ⟨fun Γ => Γ = [.d (.int n), .d (plD ts), .m valL, .m lookL, .m (exL cs (.int n) (plD ts)), .m (gotI n (plD ts) 0), .no, .no, .no, .no], ?_, ?_⟩
  · refine ⟨⟨_, rfl⟩, _, rfl, _, _, rfl, .inl rfl, ?_⟩
    refine ⟨_, rfl, _, _, rfl, rfl, ?_⟩
    refine ⟨_, rfl, _, _, rfl, .inr rfl, ?_⟩
    refine ⟨_, rfl, _, _, rfl, rfl, ?_⟩
    refine ⟨_, rfl, sz 4, _, rfl, szl (show 1 ≤ 16000000 by decide), rfl, ?_⟩
    rfl
  rintro _ rfl
  refine ⟨fun Γ => Γ = [.d (.int n), .d (plD ts), .m valL, .m lookL, .m (exL cs (.int n) (plD ts)), .m (gotI n (plD ts) 0), .m (gotI n (plD ts) 0), .no, .no, .no], ?_, ?_⟩
  · refine ⟨_, rfl, sz 4, _, rfl, sz 1, _, rfl, by decide, by decide, sz 2, ?_⟩
    rfl
  rintro _ rfl
  refine ⟨fun Γ => ∃ s2 s3 s4 s7 s8, Γ = [.d (.int n), .d (plD ts), s2, s3, s4, .m (gotI n (plD ts) 8), .m (gotI n (plD ts) 8), s7, s8, .no], ?_, ?_⟩
  · refine ⟨_, rfl, ?_⟩
    refine ⟨fun i Γ => ∃ s2 s3 s7 s8, (s2 = .m valL ∨ s2 = .d (.list valL)) ∧ (s3 = .m lookL ∨ s3 = .d (.list lookL)) ∧ Γ = [.d (.int n), .d (plD ts), s2, s3, .d (.list (exL cs (.int n) (plD ts))), .m (gotI n (plD ts) i), .m (gotI n (plD ts) i), s7, s8, .no], ⟨_, _, _, _, .inl rfl, .inl rfl, rfl⟩, ?_, ?_⟩
    · rintro i y Γ hy ⟨s2, s3, s7, s8, e2, e3, rfl⟩
      obtain ⟨x, hx, rfl⟩ := enumD_get hy
      rw [Nat.zero_add]
      obtain ⟨hi, ex⟩ := exL_at hx
      have hgl : (gotI n (plD ts) i).length = 2 + 2 * i := gotI_len _ _ _
      refine ⟨_, rfl, rfl, ⟨_, _, rfl, ⟨_, _, rfl, rfl, ?_⟩⟩⟩
      refine ⟨fun Γ => Γ = [.d (.int n), .d (plD ts), s2, s3, .d (.list (exL cs (.int n) (plD ts))), .m (gotI n (plD ts) (i + 1)), .m (gotI n (plD ts) i), .d (.int i), .d x, .no], ?_, ?_⟩
      · refine ⟨rfl, x, cs.at i, _, _, _, _, _, _, _, _, rfl, ex, Z.u1 i hi, Z.u2 i hi, Z.u3 i hi, Z.u4 i hi, Z.u5 i hi, Z.u6 i hi, Z.u7 i hi, Z.u8 i hi, ?_⟩
        refine ⟨rfl, x, cs.at i, _, _, _, _, _, _, _, _, rfl, ex, Z.w1 i hi, Z.w2 i hi, Z.w3 i hi, Z.w4 i hi, Z.w5 i hi, Z.w6 i hi, Z.w7 i hi, Z.w8 i hi, ?_⟩
        refine ⟨_, rfl, sz 2, _, _, rfl, rfl, Nat.le_of_lt (szl (show (gotI n (plD ts) i).length + 2 ≤ 16000000 by omega)), ?_⟩
        rfl
      rintro _ rfl
      rcases e2 with rfl | rfl <;> rcases e3 with rfl | rfl
      all_goals
        have eg : gotI n (plD ts) (i + 1) = gotI n (plD ts) i ++ [.list (if oks i = true then lookL else valL), .list (whL i 8)] := by rw [gotI, undD_eq]
        have hlp : ∀ (its : List PyData), its = rgD 0 (8 : Int).toNat → ∀ k y, its[k]? = some y → k < 8 ∧ y = .int (0 + (k : Int)) := fun its e k y h => by subst e; exact rgD_get h
        refine ⟨_, _, rfl, rfl, ?_⟩
        by_cases h2 : (2 : Int) ≤ (i : Int)
        · rw [if_pos (decide_eq_true h2)]
          refine ⟨_, rfl, _, rfl, ?_⟩
          by_cases h5 : (i : Int) ≤ 5
          · rw [show oks i = true by unfold oks; simp; omega, if_pos rfl] at eg
            rw [if_pos (decide_eq_true h5)]
            refine ⟨_, rfl, ⟨by decide, by decide⟩, LcOk.same (whL i) rfl ?_ ?_⟩
            · rintro k y acc Γ hy ⟨rfl, rfl⟩
              obtain ⟨hk, rfl⟩ := rgD_get hy
              refine ⟨_, _, rfl, rfl, sh_int _, sh_int _, ?_⟩
              exact ⟨_, rfl, szl (by rw [whL_len]; exact Nat.le_trans (Nat.le_of_lt hk) (by decide)), whL_succ i k, rfl⟩
            · refine ⟨_, rfl, sz 2, _, _, rfl, rfl, Nat.le_of_lt (szl (show (gotI n (plD ts) i).length + 2 ≤ 16000000 by omega)), ?_⟩
              show ∃ s2 s3 s7 s8, _ ∧ _ ∧ _ = [_, _, s2, s3, _, SV.m (gotI n (plD ts) (i + 1)), SV.m (gotI n (plD ts) (i + 1)), s7, s8, _]
              rw [eg]
              first
                | exact ⟨_, _, _, _, .inl rfl, .inl rfl, rfl⟩
                | exact ⟨_, _, _, _, .inr rfl, .inl rfl, rfl⟩
                | exact ⟨_, _, _, _, .inl rfl, .inr rfl, rfl⟩
                | exact ⟨_, _, _, _, .inr rfl, .inr rfl, rfl⟩
          · rw [show oks i = false by unfold oks; simp; omega, if_neg Bool.false_ne_true] at eg
            rw [if_neg (fun z => h5 (of_decide_eq_true z))]
            refine ⟨_, rfl, ⟨by decide, by decide⟩, LcOk.same (whL i) rfl ?_ ?_⟩
            · rintro k y acc Γ hy ⟨rfl, rfl⟩
              obtain ⟨hk, rfl⟩ := rgD_get hy
              refine ⟨_, _, rfl, rfl, sh_int _, sh_int _, ?_⟩
              exact ⟨_, rfl, szl (by rw [whL_len]; exact Nat.le_trans (Nat.le_of_lt hk) (by decide)), whL_succ i k, rfl⟩
            · refine ⟨_, rfl, sz 2, _, _, rfl, rfl, Nat.le_of_lt (szl (show (gotI n (plD ts) i).length + 2 ≤ 16000000 by omega)), ?_⟩
              show ∃ s2 s3 s7 s8, _ ∧ _ ∧ _ = [_, _, s2, s3, _, SV.m (gotI n (plD ts) (i + 1)), SV.m (gotI n (plD ts) (i + 1)), s7, s8, _]
              rw [eg]
              first
                | exact ⟨_, _, _, _, .inl rfl, .inl rfl, rfl⟩
                | exact ⟨_, _, _, _, .inr rfl, .inl rfl, rfl⟩
                | exact ⟨_, _, _, _, .inl rfl, .inr rfl, rfl⟩
                | exact ⟨_, _, _, _, .inr rfl, .inr rfl, rfl⟩
        · rw [show oks i = false by unfold oks; simp; omega, if_neg Bool.false_ne_true] at eg
          rw [if_neg (fun z => h2 (of_decide_eq_true z))]
          refine ⟨_, rfl, ?_⟩
          refine ⟨_, rfl, ⟨by decide, by decide⟩, LcOk.same (whL i) rfl ?_ ?_⟩
          · rintro k y acc Γ hy ⟨rfl, rfl⟩
            obtain ⟨hk, rfl⟩ := rgD_get hy
            refine ⟨_, _, rfl, rfl, sh_int _, sh_int _, ?_⟩
            exact ⟨_, rfl, szl (by rw [whL_len]; exact Nat.le_trans (Nat.le_of_lt hk) (by decide)), whL_succ i k, rfl⟩
          · refine ⟨_, rfl, sz 2, _, _, rfl, rfl, Nat.le_of_lt (szl (show (gotI n (plD ts) i).length + 2 ≤ 16000000 by omega)), ?_⟩
            show ∃ s2 s3 s7 s8, _ ∧ _ ∧ _ = [_, _, s2, s3, _, SV.m (gotI n (plD ts) (i + 1)), SV.m (gotI n (plD ts) (i + 1)), s7, s8, _]
            rw [eg]
            first
              | exact ⟨_, _, _, _, .inl rfl, .inl rfl, rfl⟩
              | exact ⟨_, _, _, _, .inr rfl, .inl rfl, rfl⟩
              | exact ⟨_, _, _, _, .inl rfl, .inr rfl, rfl⟩
              | exact ⟨_, _, _, _, .inr rfl, .inr rfl, rfl⟩
    · rintro Γ ⟨s2, s3, s7, s8, e2, e3, rfl⟩
      exact ⟨s2, s3, _, s7, s8, rfl⟩
  rintro _ ⟨s2, s3, s4, s7, s8, rfl⟩
  have hs : Sm 3 2000 (.list (gotI n (plD ts) 8)) := (sm_list (d := 2) (c := 100) (n := 18) (sm_got hl 8) (by rw [gotI_len]; decide)).mono (by decide) (by decide)
  refine ⟨rfl, [.d (.list (gotI n (plD ts) 8)), .d (.list (gotI n (plD ts) 8))], .cons (.inr rfl) (.cons (.inr rfl) .nil), _, rfl, ⟨hs.nod, Nat.lt_of_le_of_lt hs.lev (by decide), Nat.le_trans hs.cnt (by decide)⟩, hs.lay, ?_⟩
  exact q
end

section
variable {P : Program} {w : World} {K : PySem.W.Frag} {T : Tbs} {mg : Str → Option Value} {base : Heap} {f : Addr} {fd : FuncData}
abbrev s__law_right : Stmt := topS 18
theorem sc__law_right : FnScope ["tin", "number_so", "lap"] ["tin"] (defScope s__law_right) := ⟨rfl, rfl, rfl, by decide +kernel, rfl, by decide +kernel, by decide +kernel⟩
def cRight : CT := fun ss P => ∃ xs, ss = [.m xs] ∧ Tin (2 ^ 39) xs ∧ P (.d (.bool true)) [.no]
theorem ok__law_right (B : BI mg) (h__law_take : Fnd P w K T mg base 1 "_law_take" ["tin", "below_so"] cTake) (h__law_of : Fnd P w K T mg base 2 "_law_of" ["tin", "goods_so"] cOf) (h__law_made_right : Fnd P w K T mg base 7 "_law_made_right" ["number_so", "trail_so"] cMade)
    (F : Fun K "_law_right" "_law_right" s__law_right f fd) (b : Binds K fd ["tin"] []) (m : mg "_law_right" = some (.ref f)) : Fnd P w K T mg base 8 "_law_right" ["tin"] cRight := by
  refine fn_d F sc__law_right b m [] (by decide) fun cdv A outer s H E hr => ?_
  refine ⟨_, (dss_cut (ds_set (i := 1) (fun te h => ps_set sc__law_right.nd rfl (Or.inl rfl) h) (de_mul (de_sub (de_call (h__law_take.mono (by omega)) hr (da_cons (de_var 0 (pv 0)) (da_cons de_int da_nil))) de_int) (de_call (h__law_of.mono (by omega)) hr (da_late 0 (pv 0) (da_cons (de_lst (da_cons de_int (da_cons de_int (da_cons de_int (da_cons (de_pow de_int de_int) (da_cons (de_call (h__law_take.mono (by omega)) hr (da_cons (de_var 0 (pv 0)) (da_cons de_int da_nil))) da_nil)))))) da_nil))))) (dss_one (ds_ret (de_call (h__law_made_right.mono (by omega)) hr (da_cons (de_var 1 (pv 1)) (da_cons (de_tupOf B.tuple (da_cons (de_lc (own := [("lap", 2)]) rfl sc__law_right.nd (di_range1 rfl B.range (de_call (h__law_take.mono (by omega)) hr (da_cons (de_var 0 (pv 0)) (da_cons de_int da_nil)))) (blkOk_by (N := ["tin", "number_so", "lap"]) (sc := (defScope s__law_right)) (by decide +kernel)) (by decide) (fun _ => (dg_name (i := 2) (pg_name sc__law_right.nd rfl (Or.inl rfl)))) (fun _ => dts_nil) (fun _ => (de_call (h__law_take.mono (by omega)) hr (da_cons (de_var 0 (pv 0)) (da_cons de_int da_nil))))) da_nil)) da_nil)))))), ?_⟩
  rintro ss Q _ ⟨xs, rfl, ht, q⟩
  refine ⟨fun Γ => ∃ (n : Int) (xs1 : List PyData), Γ = [.m xs1, .d (.int n), .no] ∧ Tin 1000 xs1, ?_, ?_⟩
  · refine ⟨rfl, xs, 3, 2000, rfl, ht.mono (by decide), by decide, by decide, fun r xs1 r0 r1 ht1 => ?_⟩
    refine ⟨trivial, ⟨_, rfl, fun z => by cases z⟩, ?_⟩
    refine ⟨⟨by decide, by decide, by decide⟩, rfl, xs1, 1000, 1500, rfl, ht1.mono (by decide), by decide, by decide, fun r2 xs2 s0 s1 ht2 => ?_⟩
    refine ⟨_, rfl, sz 5, ?_⟩
    refine ⟨rfl, xs2, _, _, 1000, rfl, .inl rfl, ht2.mono (by decide), (fun z => by cases z), (show 5 ≤ 1000000 by decide), fun g xs3 hg ht3 => ?_⟩
    simp only [List.mem_cons, List.mem_nil_iff, or_false] at hg
    have hr1 : CMul (r - 1) 0 := mul_r (by decide) (by decide)
    rcases hg with rfl | rfl | rfl | rfl | rfl
    · exact ⟨mul_r (by decide) (by decide), _, xs3, rfl, ht3⟩
    · exact ⟨mul_r (by decide) (by decide), _, xs3, rfl, ht3⟩
    · exact ⟨mul_r (by decide) (by decide), _, xs3, rfl, ht3⟩
    · exact ⟨mul_r (by decide) (by decide), _, xs3, rfl, ht3⟩
    · exact ⟨mul_r (by omega) (by omega), _, xs3, rfl, ht3⟩
  rintro _ ⟨n, xs1, rfl, ht1⟩
  refine ⟨rfl, xs1, 4, 900, rfl, ht1.mono (by decide), by decide, by decide, fun k xs2 k0 k1 ht2 => ?_⟩
  refine ⟨_, rfl, ⟨by omega, by omega⟩, ⟨fun i acc Γ => ∃ (ts : List Int) (ys : List PyData), acc = ts.map PyData.int ∧ ts.length = i ∧ Γ = [.m ys, .d (.int n), .no] ∧ Tin (800 - i) ys, ⟨[], xs2, rfl, rfl, rfl, ht2.mono (by decide)⟩, ?_, ?_⟩⟩
  · rintro i x acc Γ hx ⟨ts, ys, rfl, l1, rfl, hy⟩
    obtain ⟨hi, rfl⟩ := rgD_get hx
    refine ⟨rfl, ys, 5, 800 - (i + 1), rfl, hy.mono (by omega), by decide, by decide, fun t zs t0 t1 hz => ?_⟩
    exact ⟨_, rfl, szl (by rw [List.length_map]; omega), ts ++ [t], zs, by rw [List.map_append]; rfl, by rw [List.length_append, l1]; rfl, rfl, hz⟩
  · rintro acc Γ ⟨ts, ys, rfl, l1, rfl, hy⟩
    rw [rgD_len] at l1
    refine ⟨_, rfl, ?_⟩
    exact ⟨rfl, n, ts, rfl, by omega, q⟩
abbrev s_law : Stmt := topS 19
theorem sc_law : FnScope ["script", "cells", "nth_so", "own"] ["script"] (defScope s_law) := ⟨rfl, rfl, rfl, by decide +kernel, rfl, by decide +kernel, by decide +kernel⟩
def cLaw : CT := fun ss P => ∃ ns : List Int, ss = [.d (scD (ns.map PyData.int))] ∧ ns.length ≤ 63 ∧ P (.d (.bool true)) [.no]
theorem ok_law (B : BI mg) (h__law_made_right : Fnd P w K T mg base 7 "_law_made_right" ["number_so", "trail_so"] cMade) (h__law_cells : Fnd P w K T mg base 1 "_law_cells" ["script", "most_so"] cCells) (h__law_box : Fnd P w K T mg base 1 "_law_box" ["script", "k"] cBox)
    (h__law_right : Fnd P w K T mg base 8 "_law_right" ["tin"] cRight) (F : Fun K "law" "law" s_law f fd) (b : Binds K fd ["script"] []) (m : mg "law" = some (.ref f)) : Fnd P w K T mg base 9 "law" ["script"] cLaw := by
  refine fn_d F sc_law b m [] (by decide) fun cdv A outer s H E hr => ?_
  refine ⟨_, (dss_cut (ds_if (dt_not (dt_truth (de_all B.all rfl (da_cons (de_lc (own := [("own", 3)]) rfl sc_law.nd (di_seq (de_tup (da_cons (de_tup (da_cons de_int (da_cons (de_tup da_nil) da_nil))) (da_cons (de_tup (da_cons (de_neg de_int) (da_cons (de_tup (da_cons de_int da_nil)) da_nil))) (da_cons (de_tup (da_cons (de_pow de_int de_int) (da_cons (de_tup (da_cons de_int (da_cons de_int (da_cons de_int da_nil)))) da_nil))) da_nil))))) (blkOk_by (N := ["script", "cells", "nth_so", "own"]) (sc := (defScope s_law)) (by decide +kernel)) (by decide) (fun _ => (dg_name (i := 3) (pg_name sc_law.nd rfl (Or.inl rfl)))) (fun _ => dts_nil) (fun _ => (de_call (h__law_made_right.mono (by omega)) hr (da_cons (de_item (de_var 3 (pv 3)) de_int) (da_cons (de_item (de_var 3 (pv 3)) de_int) da_nil))))) da_nil)))) (dss_one (ds_ret de_bl)) dss_nil) (dss_cut (ds_set (i := 1) (fun te h => ps_set sc_law.nd rfl (Or.inr rfl) h) (de_call (h__law_cells.mono (by omega)) hr (da_cons (de_var 0 (pv 0)) (da_cons de_int da_nil)))) (dss_one (ds_ret (de_all B.all rfl (da_cons (de_lc (own := [("nth_so", 2)]) rfl sc_law.nd (di_range1 rfl B.range (de_len B.len (da_cons (de_var 1 (pv 1)) da_nil))) (blkOk_by (N := ["script", "cells", "nth_so", "own"]) (sc := (defScope s_law)) (by decide +kernel)) (by decide) (fun _ => (dg_name (i := 2) (pg_name sc_law.nd rfl (Or.inl rfl)))) (fun _ => dts_nil) (fun _ => (de_call (h__law_right.mono (by omega)) hr (da_cons (de_call (h__law_box.mono (by omega)) hr (da_cons (de_var 1 (pv 1)) (da_cons (de_var 2 (pv 2)) da_nil))) da_nil)))) da_nil)))))), ?_⟩
  rintro ss Q _ ⟨ns, rfl, hl, q⟩
  refine ⟨fun Γ => Γ = [.d (scD (ns.map PyData.int)), .no, .no, .no], ?_, ?_⟩
  · refine ⟨_, rfl, sz 0, _, rfl, sz 2, ?_⟩
    refine ⟨_, rfl, _, rfl, sz 1, _, rfl, sz 2, ?_⟩
    refine ⟨⟨by decide, by decide, by decide⟩, _, rfl, sz 3, _, rfl, sz 2, _, rfl, sz 3, ?_⟩
    refine ⟨_, rfl, ?_⟩
    have made : ∀ x ∈ [PyData.tuple [.int 0, plD []], .tuple [.int (-1), plD [0]], .tuple [.int ((10 : Int) ^ ((6 : Int).toNat)), plD [2, 0, 1]]], ∃ (n : Int) (ts : List Int), x = .tuple [.int n, plD ts] ∧ ts.length ≤ 3 := fun x hx => by
      simp only [List.mem_cons, List.mem_nil_iff, or_false] at hx
      rcases hx with rfl | rfl | rfl
      · exact ⟨_, _, rfl, by decide⟩
      · exact ⟨_, _, rfl, by decide⟩
      · exact ⟨_, _, rfl, by decide⟩
    refine ⟨fun i acc Γ => ∃ bs : List Bool, acc = bs.map PyData.bool ∧ bs.length ≤ i ∧ bs.all id = true ∧ Γ = [.d (scD (ns.map PyData.int)), .no, .no, .no], ⟨[], rfl, Nat.le_refl _, rfl, rfl⟩, ?_, ?_⟩
    · rintro i x acc Γ hx ⟨bs, rfl, b1, b2, rfl⟩
      have hi := (List.getElem?_eq_some_iff.mp hx).1
      obtain ⟨n, ts, rfl, lt⟩ := made x (List.mem_of_getElem? hx)
      refine ⟨_, _, rfl, rfl, _, _, rfl, rfl, rfl, n, ts, rfl, lt, ?_⟩
      exact ⟨_, rfl, szl (by rw [List.length_map]; exact Nat.le_trans b1 (Nat.le_trans (Nat.le_of_lt hi) (by decide))), bs ++ [true], by rw [List.map_append]; rfl, by rw [List.length_append]; simp; omega, by rw [List.all_append, b2]; rfl, rfl⟩
    · rintro acc Γ ⟨bs, rfl, b1, b2, rfl⟩
      refine ⟨bs, rfl, ?_⟩
      rw [b2]
      exact ⟨_, rfl, rfl⟩
  rintro _ rfl
  refine ⟨fun Γ => ∃ (cs : List Int) (a : SV), Γ = [a, .m (cs.map PyData.int), .no, .no] ∧ cs.length ≤ 2, ⟨rfl, ns, 2, rfl, by decide, by decide, by omega, fun cs c1 c2 => ⟨cs, _, rfl, c2⟩⟩, ?_⟩
  rintro _ ⟨cs, a, rfl, c2⟩
  refine ⟨_, rfl, ⟨_, rfl, ⟨by omega, by rw [List.length_map]; omega⟩, ?_⟩⟩
  refine ⟨fun i acc Γ => ∃ bs : List Bool, acc = bs.map PyData.bool ∧ bs.length ≤ i ∧ bs.all id = true ∧ Γ = [a, .m (cs.map PyData.int), .no, .no], ⟨[], rfl, Nat.le_refl _, rfl, rfl⟩, ?_, ?_⟩
  · rintro i x acc Γ hx ⟨bs, rfl, b1, b2, rfl⟩
    obtain ⟨hi, rfl⟩ := rgD_get hx
    rw [Int.toNat_natCast, List.length_map] at hi
    refine ⟨rfl, cs, i, ?_, by omega, fun xs ht => ⟨rfl, xs, rfl, ht, ?_⟩⟩
    · rw [Int.zero_add]; rfl
    exact ⟨_, rfl, szl (by rw [List.length_map]; omega), bs ++ [true], by rw [List.map_append]; rfl, by rw [List.length_append]; simp; omega, by rw [List.all_append, b2]; rfl, rfl⟩
  · rintro acc Γ ⟨bs, rfl, b1, b2, rfl⟩
    refine ⟨bs, rfl, ?_⟩
    rw [b2]
    exact q
end

/-! ## k00: the eight classes by what the written part says of them -/
/-- the j-th statement in the class at the top's i -/
def clsS (i j : Nat) : Stmt := match topS i with
  | .ClassDef _ _ _ body _ _ _ _ _ _ _ => body.getD j (.Pass ⟨0, 0, 0, 0⟩)
  | _ => .Pass ⟨0, 0, 0, 0⟩
/-- all that is asked of the written part of one class; of its __init__ at g -/
structure ClsK (K : PySem.W.Frag) (tl : List Value) (newId : String) (C g : Addr) : Prop where
  q1 : PySem.W.excInitIn K C tl newId = true
  q2 : PySem.W.excOver K C tl = true
  q3 : PySem.W.findIn K (.ref C) "__setattr__" = some (some (.builtin "object.__setattr__"))
  q4 : PySem.W.findIn K (.ref C) "__getattribute__" = some (some (.builtin "BaseException.__getattribute__"))
  q5 : PySem.W.findIn K (.ref C) "__getattr__" = some none
  q6 : PySem.W.subIn K (.ref C) (.type "BaseException") = some true
  q7 : PySem.W.hasDictIn K C = true
  q8 : PySem.W.keepIn K (.ref C) = true
  q9 : PySem.W.typeIn K (.ref C) = some (.type "type")
  r2 : PySem.W.findIn K (.ref C) "__class__" = some (some (.builtin "object.__class__"))
  r3 : PySem.W.specialIn K (.builtin "object.__class__") "__get__" = some (some (.builtin "getset_descriptor.__get__"))
  r4 : PySem.W.takesIn K (.builtin "object.__class__") = some true
  r5 : PySem.W.mroIn K C (.type "object") = some true
  f1 : PySem.W.findIn K (.ref C) "__init__" = some (some (.ref g))
  f2 : PySem.W.typeIn K (.ref g) = some (.type "function")
section
variable {P : Program} {w : World} {K : PySem.W.Frag} {mg : Str → Option Value} {base : Heap} {tl : List Value} {newId initId B : String} {C g : Addr} {x f qual : Str} {st : Stmt} {fd : FuncData} {p1 p2 p3 pos : Pos}
theorem ClsK.xc (k : ClsK K tl newId C g) : XC K tl newId C := ⟨k.q1, k.q2, k.q3, k.q4, k.q5, k.q6, k.q7, k.q8, k.q9⟩
theorem ClsK.xi (k : ClsK K tl newId C g) : XI K C where
  cl := by obtain ⟨cd, h, _⟩ := PySem.W.any_some k.q7; rw [h]; rfl
  ga := k.q4
  gg := k.q5
  exC := k.q6
  ca := k.r2
  cg := k.r3
  ct := k.r4
  mo := k.r5
theorem ClsK.one (k : ClsK K tl newId C g) (FB : ExcBaseFacts B newId initId tl) (SF : StoreFacts B tl "object.__setattr__" "object") (hm : mg x = some (.ref C)) (no : PySem.W.findIn K (.ref C) f = some none) (F : Fun K "__init__" qual st g fd) (S : FnScope ["self", f] ["self", f] (defScope st))
    (hb : defBody st = [.Assign [.Attribute (.Name "self" p1) f p2] (.Name f p3) pos]) (v0 : Vis (defScope st) "self") (v1 : Vis (defScope st) f) (hd : (f == ("__debug__" : Str)) = false) (hcd : (f == ("__classdict__" : Str)) = false)
    (hs : ∀ env, swapsWith (.Name f p3) (some (.Attribute (.Name "self" p1) f p2)) pos.line env = pure false) (bb : Binds K fd ["self", f] []) (bk : ∀ (s : Shared) (a u : Value), BindsTo s fd ⟨[a], [(f, u)]⟩ [("self", a), (f, u)]) : XM1 P w K mg base 1 x C f :=
  ⟨⟨B, newId, initId, tl, g, fd, "self", FB, k.xc, k.f1, k.f2, init1_ok SF k.xc no F S hb v0 v1 hd hcd hs, bb, fun s a u _ => bk s a u⟩, hm, no, k.xi⟩
theorem ClsK.zero {bn : Str} {p4 p5 : Pos} (k : ClsK K tl newId C g) (FB : ExcBaseFacts B newId initId tl) (hx : mg x = some (.ref C)) (hbt : bootBuiltins bn = some (.type B)) (hty : typeOf (.type B) = pure (.type "type")) (hst : Manifest.isStub B = false)
    (hhd : PySem.W.handedIn (.builtin initId) = true) (hm : mg bn = none) (vV : PySem.W.findCls K (.type B) (.type "type") "__init__" = some (.val (.builtin initId))) (h1 : bn ≠ "__name__") (h2 : (bn == ("__debug__" : Str)) = false)
    (F : Fun K "__init__" qual st g fd) (S : FnScope ["self"] ["self"] (defScope st)) (hb : defBody st = [.Expr (.Call (.Attribute (.Name bn p1) "__init__" p2) [.Name "self" p3] [] p4) p5]) (v0 : Vis (defScope st) "self") {pl : Env → Sem Bool}
    (hsw : ∀ env, swapsWith (.Call (.Attribute (.Name bn p1) "__init__" p2) [.Name "self" p3] [] p4) none p5.line env = pure false)
    (hc : ∀ env, eval (.Call (.Attribute (.Name bn p1) "__init__" p2) [.Name "self" p3] [] p4) env = (do
      let ov ← eval (.Name bn p1) env
      standAt p2.atName
      let (f, first) ← holding [ov] (getMethod ov "__init__" (pl env))
      callWith p4 f first (backTo p4 (starEach [.Name "self" p3] env)) (backToKw p4 (keywordEach [] env))))
    (hg : ∀ (cdv : Value) (A : Around) (outer : List Env) (s : Shared) (H : Hp) (E : XK), Gl (cxOf CX0 P w K mg base ["self"] qual (defScope st) g cdv A outer s H E).nox bn) (bb : Binds K fd ["self"] []) : XM0 P w K mg base 1 x C :=
  ⟨⟨B, newId, initId, tl, g, fd, "self", FB, k.xc, k.f1, k.f2, init0_ok FB k.xc hbt hty hst hhd hm vV h1 h2 F S hb v0 hsw hc hg, bb⟩, hx, k.xi⟩
end
/-- the classes by the names that the law gives them -/
def vt (cs : Cs) (n : String) : Value := if n = "BadLine" then .ref cs.c1 else if n = "CanNot" then .ref cs.c2 else if n = "NoCell" then .ref cs.c3 else if n = "NoNumber" then .ref cs.c4 else
  if n = "NoPlace" then .ref cs.c5 else if n = "NothingDone" then .ref cs.c6 else if n = "TooMany" then .ref cs.c7 else if n = "Unfit" then .ref cs.c8 else .type n
/-- what isinstance answers of one of the eight -/
def anK (K : PySem.W.Frag) (cs : Cs) (n : String) (C : Addr) : Option Bool := if C ∈ [cs.c1, cs.c2, cs.c3, cs.c4, cs.c5, cs.c6, cs.c7, cs.c8] then PySem.W.kitOne K (.ref C) (vt cs n) else none
theorem anK_some {K : PySem.W.Frag} {cs : Cs} {n : String} {C : Addr} {b : Bool} (h : anK K cs n C = some b) : C ∈ [cs.c1, cs.c2, cs.c3, cs.c4, cs.c5, cs.c6, cs.c7, cs.c8] ∧ PySem.W.kitOne K (.ref C) (vt cs n) = some b := by
  unfold anK at h
  split at h
  · exact ⟨by assumption, h⟩
  · cases h
theorem anK_at {K : PySem.W.Frag} {cs : Cs} {n : String} {b : Bool} {i : Nat} (u : Value) (e : vt cs n = u) (h : PySem.W.kitOne K (.ref (cs.at i)) u = some b) : anK K cs n (cs.at i) = some b := by
  subst e
  unfold anK
  rw [if_pos]
  · exact h
  · unfold Cs.at
    split <;> simp
theorem eight {p : Nat → Prop} (h0 : p 0) (h1 : p 1) (h2 : p 2) (h3 : p 3) (h4 : p 4) (h5 : p 5) (h6 : p 6) (h7 : p 7) : ∀ i < 8, p i := fun i hi => by
  match i, hi with
  | 0, _ => exact h0
  | 1, _ => exact h1
  | 2, _ => exact h2
  | 3, _ => exact h3
  | 4, _ => exact h4
  | 5, _ => exact h5
  | 6, _ => exact h6
  | 7, _ => exact h7
  | i + 8, h => exact absurd h (by omega)
theorem vt_c1 (cs : Cs) : vt cs "BadLine" = .ref cs.c1 := by simp [vt]
theorem vt_c2 (cs : Cs) : vt cs "CanNot" = .ref cs.c2 := by simp [vt]
theorem vt_c3 (cs : Cs) : vt cs "NoCell" = .ref cs.c3 := by simp [vt]
theorem vt_c4 (cs : Cs) : vt cs "NoNumber" = .ref cs.c4 := by simp [vt]
theorem vt_c5 (cs : Cs) : vt cs "NoPlace" = .ref cs.c5 := by simp [vt]
theorem vt_c6 (cs : Cs) : vt cs "NothingDone" = .ref cs.c6 := by simp [vt]
theorem vt_c7 (cs : Cs) : vt cs "TooMany" = .ref cs.c7 := by simp [vt]
theorem vt_c8 (cs : Cs) : vt cs "Unfit" = .ref cs.c8 := by simp [vt]
theorem vt_LookupError (cs : Cs) : vt cs "LookupError" = .type "LookupError" := by simp [vt]
theorem vt_ValueError (cs : Cs) : vt cs "ValueError" = .type "ValueError" := by simp [vt]
theorem vt_TypeError (cs : Cs) : vt cs "TypeError" = .type "TypeError" := by simp [vt]
theorem vt_KeyError (cs : Cs) : vt cs "KeyError" = .type "KeyError" := by simp [vt]
theorem vt_IndexError (cs : Cs) : vt cs "IndexError" = .type "IndexError" := by simp [vt]
theorem vt_RuntimeError (cs : Cs) : vt cs "RuntimeError" = .type "RuntimeError" := by simp [vt]
theorem vt_AttributeError (cs : Cs) : vt cs "AttributeError" = .type "AttributeError" := by simp [vt]
theorem vt_Exception (cs : Cs) : vt cs "Exception" = .type "Exception" := by simp [vt]

abbrev si_BadLine : Stmt := clsS 5 0
abbrev si_CanNot : Stmt := clsS 6 0
abbrev si_NoCell : Stmt := clsS 2 0
abbrev si_NoNumber : Stmt := clsS 3 0
abbrev si_NoPlace : Stmt := clsS 1 0
abbrev si_NothingDone : Stmt := clsS 4 0
abbrev si_TooMany : Stmt := clsS 7 0
abbrev si_Unfit : Stmt := clsS 8 0
theorem sci_BadLine : FnScope ["self", "number"] ["self", "number"] (defScope si_BadLine) := ⟨rfl, rfl, rfl, by decide +kernel, rfl, by decide +kernel, by decide +kernel⟩
theorem sci_CanNot : FnScope ["self"] ["self"] (defScope si_CanNot) := ⟨rfl, rfl, rfl, by decide +kernel, rfl, by decide +kernel, by decide +kernel⟩
theorem sci_NoCell : FnScope ["self", "cell"] ["self", "cell"] (defScope si_NoCell) := ⟨rfl, rfl, rfl, by decide +kernel, rfl, by decide +kernel, by decide +kernel⟩
theorem sci_NoNumber : FnScope ["self", "number"] ["self", "number"] (defScope si_NoNumber) := ⟨rfl, rfl, rfl, by decide +kernel, rfl, by decide +kernel, by decide +kernel⟩
theorem sci_NoPlace : FnScope ["self", "place"] ["self", "place"] (defScope si_NoPlace) := ⟨rfl, rfl, rfl, by decide +kernel, rfl, by decide +kernel, by decide +kernel⟩
theorem sci_NothingDone : FnScope ["self"] ["self"] (defScope si_NothingDone) := ⟨rfl, rfl, rfl, by decide +kernel, rfl, by decide +kernel, by decide +kernel⟩
theorem sci_TooMany : FnScope ["self"] ["self"] (defScope si_TooMany) := ⟨rfl, rfl, rfl, by decide +kernel, rfl, by decide +kernel, by decide +kernel⟩
theorem sci_Unfit : FnScope ["self"] ["self"] (defScope si_Unfit) := ⟨rfl, rfl, rfl, by decide +kernel, rfl, by decide +kernel, by decide +kernel⟩
section
variable {P : Program} {w : World} {K : PySem.W.Frag} {mg : Str → Option Value} {base : Heap}
set_option maxHeartbeats 4000001 in
theorem chain00 {cs : Cs} {an : String → Addr → Option Bool} {a0 : Addr} {d0 : FuncData} {a1 : Addr} {d1 : FuncData} {a2 : Addr} {d2 : FuncData} {a3 : Addr} {d3 : FuncData} {a4 : Addr} {d4 : FuncData} {a5 : Addr} {d5 : FuncData} {a6 : Addr} {d6 : FuncData} {a7 : Addr} {d7 : FuncData} {a8 : Addr} {d8 : FuncData} {a9 : Addr} {d9 : FuncData} (B : BI mg) (Y : X8 P w K mg base cs an) (Z : Ans8 cs an)
    (y_LookupError : AnB K an "LookupError") (z_LookupError : mg "LookupError" = none) (y_ValueError : AnB K an "ValueError") (z_ValueError : mg "ValueError" = none) (y_TypeError : AnB K an "TypeError") (z_TypeError : mg "TypeError" = none) (y_KeyError : AnB K an "KeyError") (z_KeyError : mg "KeyError" = none) (y_IndexError : AnB K an "IndexError") (z_IndexError : mg "IndexError" = none) (y_RuntimeError : AnB K an "RuntimeError") (z_RuntimeError : mg "RuntimeError" = none) (y_AttributeError : AnB K an "AttributeError") (z_AttributeError : mg "AttributeError" = none) (y_Exception : AnB K an "Exception") (z_Exception : mg "Exception" = none)
    (F0 : Fun K "_law_box" "_law_box" s__law_box a0 d0) (b0 : Binds K d0 ["script", "k"] []) (m0 : mg "_law_box" = some (.ref a0))
    (F1 : Fun K "_law_take" "_law_take" s__law_take a1 d1) (b1 : Binds K d1 ["tin", "below_so"] []) (m1 : mg "_law_take" = some (.ref a1))
    (F2 : Fun K "_law_cells" "_law_cells" s__law_cells a2 d2) (b2 : Binds K d2 ["script", "most_so"] []) (m2 : mg "_law_cells" = some (.ref a2))
    (F3 : Fun K "_law_of" "_law_of" s__law_of a3 d3) (b3 : Binds K d3 ["tin", "goods_so"] []) (m3 : mg "_law_of" = some (.ref a3))
    (F4 : Fun K "_law_same" "_law_same" s__law_same a4 d4) (b4 : Binds K d4 ["got", "due"] []) (m4 : mg "_law_same" = some (.ref a4))
    (F5 : Fun K "_law_under" "_law_under" s__law_under a5 d5) (b5 : Binds K d5 ["error_so"] []) (m5 : mg "_law_under" = some (.ref a5))
    (F6 : Fun K "_law_which" "_law_which" s__law_which a6 d6) (b6 : Binds K d6 ["error_so"] []) (m6 : mg "_law_which" = some (.ref a6))
    (F7 : Fun K "_law_made_right" "_law_made_right" s__law_made_right a7 d7) (b7 : Binds K d7 ["number_so", "trail_so"] []) (m7 : mg "_law_made_right" = some (.ref a7))
    (F8 : Fun K "_law_right" "_law_right" s__law_right a8 d8) (b8 : Binds K d8 ["tin"] []) (m8 : mg "_law_right" = some (.ref a8))
    (F9 : Fun K "law" "law" s_law a9 d9) (b9 : Binds K d9 ["script"] []) (m9 : mg "law" = some (.ref a9))
    (T : Tbs) : Fnd P w K T mg base 9 "law" ["script"] cLaw := by
  have l1 := fun T : Tbs => ok__law_take (T := T) (P := P) (w := w) (base := base) B F1 b1 m1
  have l2 := fun T : Tbs => ok__law_of (T := T) (P := P) (w := w) (base := base) B (l1 T) F3 b3 m3
  have l3 := fun T : Tbs => ok__law_box (T := T) (P := P) (w := w) (base := base) B F0 b0 m0
  have l4 := fun T : Tbs => ok__law_cells (T := T) (P := P) (w := w) (base := base) B F2 b2 m2
  have l6 := fun T : Tbs => ok__law_same (T := T) (P := P) (w := w) (base := base) B F4 b4 m4 6
  have l7 := fun T : Tbs => ok__law_under (T := T) (P := P) (w := w) (base := base) B y_LookupError y_ValueError y_TypeError y_KeyError y_IndexError y_RuntimeError y_AttributeError y_Exception z_LookupError z_ValueError z_TypeError z_KeyError z_IndexError z_RuntimeError z_AttributeError z_Exception F5 b5 m5
  have l8 := fun T : Tbs => ok__law_which (T := T) (P := P) (w := w) (base := base) B Y F6 b6 m6
  have l9 := fun T : Tbs => ok__law_made_right (T := T) (P := P) (w := w) (base := base) B Y Z (l7 T) (l8 T) (l6 T).soft F7 b7 m7
  have l10 := fun T : Tbs => ok__law_right (T := T) (P := P) (w := w) (base := base) B (l1 T) (l2 T) (l9 T) F8 b8 m8
  exact ok_law (T := T) (P := P) (w := w) (base := base) B (l9 T) (l4 T) (l3 T) (l10 T) F9 b9 m9
end
/-- what law(script) promises -/
def spEnd (K : PySem.W.Frag) : Sp := fun vs H Q _ => ∃ (a : Addr) (ns : List Int), vs = [.ref a] ∧ Only H ∧ SqL K H a (ns.map V.int) ∧ ns.length ≤ 63 ∧ ∀ H', Q (.bl true) H'
theorem sp_end {K : PySem.W.Frag} {vs : List V} {H : Hp} {Q : VK} {E : XK} (h : spEnd K vs H Q E) : spOf (K, (([], []) : Tbs)) 1 cLaw vs H Q E := by
  obtain ⟨a, ns, rfl, on, sq, hl, q⟩ := h
  have e0 : ∀ s : SV, (∃ x, s = .d x) → ads (tmpS [V.ref a] [s] ++ []) = [] := fun s ⟨x, e⟩ => by subst e; rfl
  have fin : ∀ (s : SV) (ss' : List SV) (v : V) (H' : Hp), (s = .d (.bool true) ∧ ss' = [.no]) → ss'.length = 1 → Hs (K, (([], []) : Tbs)) H' ((some v, s) :: (tmpS [V.ref a] ss' ++ [])) → Q v H' := fun s ss' v H' ⟨e, e2⟩ _ hs => by
    subst e e2
    have d := hs.get_d
    cases d
    exact q H'
  refine ⟨rfl, [.d (scD (ns.map PyData.int))], [], fun s ss' => s = .d (.bool true) ∧ ss' = [.no], rfl, ⟨by rw [e0 _ ⟨_, rfl⟩]; exact List.nodup_nil, fun p hp => ?_, (fun _ z => by cases z), (fun _ z => by cases z)⟩, ⟨ns, rfl, hl, rfl, rfl⟩, fun s ss' v H' p l hs => fin s ss' v H' p l hs⟩
  have ep : p = (some (V.ref a), SV.d (scD (ns.map PyData.int))) := by simpa [tmpS] using hp
  subst ep
  rw [e0 _ ⟨_, rfl⟩, hid_nil]
  exact .scr sq (.ints ns)

section
open PySem.W
set_option maxHeartbeats 16000001 in
theorem all_mk00 {l : PySem.W.OpenLaw} {w : World} {K : PySem.W.Frag} {h : Heap} {mg : Str → Option Value} {fa : Addr} (X : K.In h) (G : h.Ns mainGlobals mg) (hfa : mg "law" = some (.ref fa))
    {f0 : Addr} {od0 an0 : Option Addr} {sl0 : Array (Option Value)} {oc0 kV0 dc0 pm0 cd0 ct0 : Value}
    (a0 : PySem.W.nsIn K mainGlobals "_law_box" = some (some (.ref f0))) (l0 : K.lookup f0 = some ⟨oc0, od0, .func (PySem.W.fnOf "_law_box" "_law_box" (defArgs s__law_box) (defBody s__law_box) (defScope s__law_box) .none kV0 dc0 pm0 an0 cd0 ct0), sl0⟩) (c0 : PySem.W.codeIn K cd0 "_law_box" = true) (k0 : PySem.W.keepIn K (.ref f0) = true)
    {f1 : Addr} {od1 an1 : Option Addr} {sl1 : Array (Option Value)} {oc1 kV1 dc1 pm1 cd1 ct1 : Value}
    (a1 : PySem.W.nsIn K mainGlobals "_law_take" = some (some (.ref f1))) (l1 : K.lookup f1 = some ⟨oc1, od1, .func (PySem.W.fnOf "_law_take" "_law_take" (defArgs s__law_take) (defBody s__law_take) (defScope s__law_take) .none kV1 dc1 pm1 an1 cd1 ct1), sl1⟩) (c1 : PySem.W.codeIn K cd1 "_law_take" = true) (k1 : PySem.W.keepIn K (.ref f1) = true)
    {f2 : Addr} {od2 an2 : Option Addr} {sl2 : Array (Option Value)} {oc2 kV2 dc2 pm2 cd2 ct2 : Value}
    (a2 : PySem.W.nsIn K mainGlobals "_law_cells" = some (some (.ref f2))) (l2 : K.lookup f2 = some ⟨oc2, od2, .func (PySem.W.fnOf "_law_cells" "_law_cells" (defArgs s__law_cells) (defBody s__law_cells) (defScope s__law_cells) .none kV2 dc2 pm2 an2 cd2 ct2), sl2⟩) (c2 : PySem.W.codeIn K cd2 "_law_cells" = true) (k2 : PySem.W.keepIn K (.ref f2) = true)
    {f3 : Addr} {od3 an3 : Option Addr} {sl3 : Array (Option Value)} {oc3 kV3 dc3 pm3 cd3 ct3 : Value}
    (a3 : PySem.W.nsIn K mainGlobals "_law_of" = some (some (.ref f3))) (l3 : K.lookup f3 = some ⟨oc3, od3, .func (PySem.W.fnOf "_law_of" "_law_of" (defArgs s__law_of) (defBody s__law_of) (defScope s__law_of) .none kV3 dc3 pm3 an3 cd3 ct3), sl3⟩) (c3 : PySem.W.codeIn K cd3 "_law_of" = true) (k3 : PySem.W.keepIn K (.ref f3) = true)
    {f4 : Addr} {od4 an4 : Option Addr} {sl4 : Array (Option Value)} {oc4 kV4 dc4 pm4 cd4 ct4 : Value}
    (a4 : PySem.W.nsIn K mainGlobals "_law_same" = some (some (.ref f4))) (l4 : K.lookup f4 = some ⟨oc4, od4, .func (PySem.W.fnOf "_law_same" "_law_same" (defArgs s__law_same) (defBody s__law_same) (defScope s__law_same) .none kV4 dc4 pm4 an4 cd4 ct4), sl4⟩) (c4 : PySem.W.codeIn K cd4 "_law_same" = true) (k4 : PySem.W.keepIn K (.ref f4) = true)
    {f5 : Addr} {od5 an5 : Option Addr} {sl5 : Array (Option Value)} {oc5 kV5 dc5 pm5 cd5 ct5 : Value}
    (a5 : PySem.W.nsIn K mainGlobals "_law_under" = some (some (.ref f5))) (l5 : K.lookup f5 = some ⟨oc5, od5, .func (PySem.W.fnOf "_law_under" "_law_under" (defArgs s__law_under) (defBody s__law_under) (defScope s__law_under) .none kV5 dc5 pm5 an5 cd5 ct5), sl5⟩) (c5 : PySem.W.codeIn K cd5 "_law_under" = true) (k5 : PySem.W.keepIn K (.ref f5) = true)
    {f6 : Addr} {od6 an6 : Option Addr} {sl6 : Array (Option Value)} {oc6 kV6 dc6 pm6 cd6 ct6 : Value}
    (a6 : PySem.W.nsIn K mainGlobals "_law_which" = some (some (.ref f6))) (l6 : K.lookup f6 = some ⟨oc6, od6, .func (PySem.W.fnOf "_law_which" "_law_which" (defArgs s__law_which) (defBody s__law_which) (defScope s__law_which) .none kV6 dc6 pm6 an6 cd6 ct6), sl6⟩) (c6 : PySem.W.codeIn K cd6 "_law_which" = true) (k6 : PySem.W.keepIn K (.ref f6) = true)
    {f7 : Addr} {od7 an7 : Option Addr} {sl7 : Array (Option Value)} {oc7 kV7 dc7 pm7 cd7 ct7 : Value}
    (a7 : PySem.W.nsIn K mainGlobals "_law_made_right" = some (some (.ref f7))) (l7 : K.lookup f7 = some ⟨oc7, od7, .func (PySem.W.fnOf "_law_made_right" "_law_made_right" (defArgs s__law_made_right) (defBody s__law_made_right) (defScope s__law_made_right) .none kV7 dc7 pm7 an7 cd7 ct7), sl7⟩) (c7 : PySem.W.codeIn K cd7 "_law_made_right" = true) (k7 : PySem.W.keepIn K (.ref f7) = true)
    {f8 : Addr} {od8 an8 : Option Addr} {sl8 : Array (Option Value)} {oc8 kV8 dc8 pm8 cd8 ct8 : Value}
    (a8 : PySem.W.nsIn K mainGlobals "_law_right" = some (some (.ref f8))) (l8 : K.lookup f8 = some ⟨oc8, od8, .func (PySem.W.fnOf "_law_right" "_law_right" (defArgs s__law_right) (defBody s__law_right) (defScope s__law_right) .none kV8 dc8 pm8 an8 cd8 ct8), sl8⟩) (c8 : PySem.W.codeIn K cd8 "_law_right" = true) (k8 : PySem.W.keepIn K (.ref f8) = true)
    {f9 : Addr} {od9 an9 : Option Addr} {sl9 : Array (Option Value)} {oc9 kV9 dc9 pm9 cd9 ct9 : Value}
    (a9 : PySem.W.nsIn K mainGlobals "law" = some (some (.ref f9))) (l9 : K.lookup f9 = some ⟨oc9, od9, .func (PySem.W.fnOf "law" "law" (defArgs s_law) (defBody s_law) (defScope s_law) .none kV9 dc9 pm9 an9 cd9 ct9), sl9⟩) (c9 : PySem.W.codeIn K cd9 "law" = true) (k9 : PySem.W.keepIn K (.ref f9) = true)
    (z_len : PySem.W.nsIn K mainGlobals "len" = some none)
    (z_int : PySem.W.nsIn K mainGlobals "int" = some none)
    (z_abs : PySem.W.nsIn K mainGlobals "abs" = some none)
    (z_min : PySem.W.nsIn K mainGlobals "min" = some none)
    (z_max : PySem.W.nsIn K mainGlobals "max" = some none)
    (z_tuple : PySem.W.nsIn K mainGlobals "tuple" = some none)
    (z_list : PySem.W.nsIn K mainGlobals "list" = some none)
    (z_bool : PySem.W.nsIn K mainGlobals "bool" = some none)
    (z_str : PySem.W.nsIn K mainGlobals "str" = some none)
    (z_range : PySem.W.nsIn K mainGlobals "range" = some none)
    (z_enumerate : PySem.W.nsIn K mainGlobals "enumerate" = some none)
    (z_zip : PySem.W.nsIn K mainGlobals "zip" = some none)
    (z_reversed : PySem.W.nsIn K mainGlobals "reversed" = some none)
    (z_isinstance : PySem.W.nsIn K mainGlobals "isinstance" = some none)
    (z_all : PySem.W.nsIn K mainGlobals "all" = some none)
    (z_any : PySem.W.nsIn K mainGlobals "any" = some none)
    (z_sorted : PySem.W.nsIn K mainGlobals "sorted" = some none)
    (z_set : PySem.W.nsIn K mainGlobals "set" = some none)
    (z_dict : PySem.W.nsIn K mainGlobals "dict" = some none)
    (z_LookupError : PySem.W.nsIn K mainGlobals "LookupError" = some none)
    (z_ValueError : PySem.W.nsIn K mainGlobals "ValueError" = some none)
    (z_TypeError : PySem.W.nsIn K mainGlobals "TypeError" = some none)
    (z_KeyError : PySem.W.nsIn K mainGlobals "KeyError" = some none)
    (z_IndexError : PySem.W.nsIn K mainGlobals "IndexError" = some none)
    (z_RuntimeError : PySem.W.nsIn K mainGlobals "RuntimeError" = some none)
    (z_AttributeError : PySem.W.nsIn K mainGlobals "AttributeError" = some none)
    (z_Exception : PySem.W.nsIn K mainGlobals "Exception" = some none)
    (r3 : PySem.W.specialIn K (.builtin "object.__class__") "__get__" = some (some (.builtin "getset_descriptor.__get__"))) (r4 : PySem.W.takesIn K (.builtin "object.__class__") = some true)
    (vV_ValueError : PySem.W.findCls K (.type "ValueError") (.type "type") "__init__" = some (.val (.builtin "ValueError.__init__")))
    (vV_LookupError : PySem.W.findCls K (.type "LookupError") (.type "type") "__init__" = some (.val (.builtin "LookupError.__init__")))
    {C1 G1 : Addr} {ox1 nx1 : Option Addr} {sx1 : Array (Option Value)} {ux1 kx1 dx1 px1 ex1 tx1 : Value}
    (pa1 : PySem.W.nsIn K mainGlobals "BadLine" = some (some (.ref C1)))
    (q1_1 : PySem.W.excInitIn K C1 [.type "ValueError", .type "Exception", .type "BaseException", .type "object"] "ValueError.__new__" = true) (q2_1 : PySem.W.excOver K C1 [.type "ValueError", .type "Exception", .type "BaseException", .type "object"] = true) (q3_1 : PySem.W.findIn K (.ref C1) "__setattr__" = some (some (.builtin "object.__setattr__")))
    (q4_1 : PySem.W.findIn K (.ref C1) "__getattribute__" = some (some (.builtin "BaseException.__getattribute__"))) (q5_1 : PySem.W.findIn K (.ref C1) "__getattr__" = some none) (q6_1 : PySem.W.subIn K (.ref C1) (.type "BaseException") = some true)
    (q7_1 : PySem.W.hasDictIn K C1 = true) (q8_1 : PySem.W.keepIn K (.ref C1) = true) (q9_1 : PySem.W.typeIn K (.ref C1) = some (.type "type")) (r2_1 : PySem.W.findIn K (.ref C1) "__class__" = some (some (.builtin "object.__class__")))
    (r5_1 : PySem.W.mroIn K C1 (.type "object") = some true) (f1_1 : PySem.W.findIn K (.ref C1) "__init__" = some (some (.ref G1))) (f2_1 : PySem.W.typeIn K (.ref G1) = some (.type "function"))
    (lx1 : K.lookup G1 = some ⟨ux1, ox1, .func (PySem.W.fnOf "__init__" "BadLine.__init__" (defArgs si_BadLine) (defBody si_BadLine) (defScope si_BadLine) .none kx1 dx1 px1 nx1 ex1 tx1), sx1⟩) (cx1 : PySem.W.codeIn K ex1 "BadLine.__init__" = true) (hx1 : PySem.W.keepIn K (.ref G1) = true)
    (no1 : PySem.W.findIn K (.ref C1) "number" = some none)
    {C2 G2 : Addr} {ox2 nx2 : Option Addr} {sx2 : Array (Option Value)} {ux2 kx2 dx2 px2 ex2 tx2 : Value}
    (pa2 : PySem.W.nsIn K mainGlobals "CanNot" = some (some (.ref C2)))
    (q1_2 : PySem.W.excInitIn K C2 [.type "ValueError", .type "Exception", .type "BaseException", .type "object"] "ValueError.__new__" = true) (q2_2 : PySem.W.excOver K C2 [.type "ValueError", .type "Exception", .type "BaseException", .type "object"] = true) (q3_2 : PySem.W.findIn K (.ref C2) "__setattr__" = some (some (.builtin "object.__setattr__")))
    (q4_2 : PySem.W.findIn K (.ref C2) "__getattribute__" = some (some (.builtin "BaseException.__getattribute__"))) (q5_2 : PySem.W.findIn K (.ref C2) "__getattr__" = some none) (q6_2 : PySem.W.subIn K (.ref C2) (.type "BaseException") = some true)
    (q7_2 : PySem.W.hasDictIn K C2 = true) (q8_2 : PySem.W.keepIn K (.ref C2) = true) (q9_2 : PySem.W.typeIn K (.ref C2) = some (.type "type")) (r2_2 : PySem.W.findIn K (.ref C2) "__class__" = some (some (.builtin "object.__class__")))
    (r5_2 : PySem.W.mroIn K C2 (.type "object") = some true) (f1_2 : PySem.W.findIn K (.ref C2) "__init__" = some (some (.ref G2))) (f2_2 : PySem.W.typeIn K (.ref G2) = some (.type "function"))
    (lx2 : K.lookup G2 = some ⟨ux2, ox2, .func (PySem.W.fnOf "__init__" "CanNot.__init__" (defArgs si_CanNot) (defBody si_CanNot) (defScope si_CanNot) .none kx2 dx2 px2 nx2 ex2 tx2), sx2⟩) (cx2 : PySem.W.codeIn K ex2 "CanNot.__init__" = true) (hx2 : PySem.W.keepIn K (.ref G2) = true)
    {C3 G3 : Addr} {ox3 nx3 : Option Addr} {sx3 : Array (Option Value)} {ux3 kx3 dx3 px3 ex3 tx3 : Value}
    (pa3 : PySem.W.nsIn K mainGlobals "NoCell" = some (some (.ref C3)))
    (q1_3 : PySem.W.excInitIn K C3 [.type "LookupError", .type "Exception", .type "BaseException", .type "object"] "LookupError.__new__" = true) (q2_3 : PySem.W.excOver K C3 [.type "LookupError", .type "Exception", .type "BaseException", .type "object"] = true) (q3_3 : PySem.W.findIn K (.ref C3) "__setattr__" = some (some (.builtin "object.__setattr__")))
    (q4_3 : PySem.W.findIn K (.ref C3) "__getattribute__" = some (some (.builtin "BaseException.__getattribute__"))) (q5_3 : PySem.W.findIn K (.ref C3) "__getattr__" = some none) (q6_3 : PySem.W.subIn K (.ref C3) (.type "BaseException") = some true)
    (q7_3 : PySem.W.hasDictIn K C3 = true) (q8_3 : PySem.W.keepIn K (.ref C3) = true) (q9_3 : PySem.W.typeIn K (.ref C3) = some (.type "type")) (r2_3 : PySem.W.findIn K (.ref C3) "__class__" = some (some (.builtin "object.__class__")))
    (r5_3 : PySem.W.mroIn K C3 (.type "object") = some true) (f1_3 : PySem.W.findIn K (.ref C3) "__init__" = some (some (.ref G3))) (f2_3 : PySem.W.typeIn K (.ref G3) = some (.type "function"))
    (lx3 : K.lookup G3 = some ⟨ux3, ox3, .func (PySem.W.fnOf "__init__" "NoCell.__init__" (defArgs si_NoCell) (defBody si_NoCell) (defScope si_NoCell) .none kx3 dx3 px3 nx3 ex3 tx3), sx3⟩) (cx3 : PySem.W.codeIn K ex3 "NoCell.__init__" = true) (hx3 : PySem.W.keepIn K (.ref G3) = true)
    (no3 : PySem.W.findIn K (.ref C3) "cell" = some none)
    {C4 G4 : Addr} {ox4 nx4 : Option Addr} {sx4 : Array (Option Value)} {ux4 kx4 dx4 px4 ex4 tx4 : Value}
    (pa4 : PySem.W.nsIn K mainGlobals "NoNumber" = some (some (.ref C4)))
    (q1_4 : PySem.W.excInitIn K C4 [.type "LookupError", .type "Exception", .type "BaseException", .type "object"] "LookupError.__new__" = true) (q2_4 : PySem.W.excOver K C4 [.type "LookupError", .type "Exception", .type "BaseException", .type "object"] = true) (q3_4 : PySem.W.findIn K (.ref C4) "__setattr__" = some (some (.builtin "object.__setattr__")))
    (q4_4 : PySem.W.findIn K (.ref C4) "__getattribute__" = some (some (.builtin "BaseException.__getattribute__"))) (q5_4 : PySem.W.findIn K (.ref C4) "__getattr__" = some none) (q6_4 : PySem.W.subIn K (.ref C4) (.type "BaseException") = some true)
    (q7_4 : PySem.W.hasDictIn K C4 = true) (q8_4 : PySem.W.keepIn K (.ref C4) = true) (q9_4 : PySem.W.typeIn K (.ref C4) = some (.type "type")) (r2_4 : PySem.W.findIn K (.ref C4) "__class__" = some (some (.builtin "object.__class__")))
    (r5_4 : PySem.W.mroIn K C4 (.type "object") = some true) (f1_4 : PySem.W.findIn K (.ref C4) "__init__" = some (some (.ref G4))) (f2_4 : PySem.W.typeIn K (.ref G4) = some (.type "function"))
    (lx4 : K.lookup G4 = some ⟨ux4, ox4, .func (PySem.W.fnOf "__init__" "NoNumber.__init__" (defArgs si_NoNumber) (defBody si_NoNumber) (defScope si_NoNumber) .none kx4 dx4 px4 nx4 ex4 tx4), sx4⟩) (cx4 : PySem.W.codeIn K ex4 "NoNumber.__init__" = true) (hx4 : PySem.W.keepIn K (.ref G4) = true)
    (no4 : PySem.W.findIn K (.ref C4) "number" = some none)
    {C5 G5 : Addr} {ox5 nx5 : Option Addr} {sx5 : Array (Option Value)} {ux5 kx5 dx5 px5 ex5 tx5 : Value}
    (pa5 : PySem.W.nsIn K mainGlobals "NoPlace" = some (some (.ref C5)))
    (q1_5 : PySem.W.excInitIn K C5 [.type "LookupError", .type "Exception", .type "BaseException", .type "object"] "LookupError.__new__" = true) (q2_5 : PySem.W.excOver K C5 [.type "LookupError", .type "Exception", .type "BaseException", .type "object"] = true) (q3_5 : PySem.W.findIn K (.ref C5) "__setattr__" = some (some (.builtin "object.__setattr__")))
    (q4_5 : PySem.W.findIn K (.ref C5) "__getattribute__" = some (some (.builtin "BaseException.__getattribute__"))) (q5_5 : PySem.W.findIn K (.ref C5) "__getattr__" = some none) (q6_5 : PySem.W.subIn K (.ref C5) (.type "BaseException") = some true)
    (q7_5 : PySem.W.hasDictIn K C5 = true) (q8_5 : PySem.W.keepIn K (.ref C5) = true) (q9_5 : PySem.W.typeIn K (.ref C5) = some (.type "type")) (r2_5 : PySem.W.findIn K (.ref C5) "__class__" = some (some (.builtin "object.__class__")))
    (r5_5 : PySem.W.mroIn K C5 (.type "object") = some true) (f1_5 : PySem.W.findIn K (.ref C5) "__init__" = some (some (.ref G5))) (f2_5 : PySem.W.typeIn K (.ref G5) = some (.type "function"))
    (lx5 : K.lookup G5 = some ⟨ux5, ox5, .func (PySem.W.fnOf "__init__" "NoPlace.__init__" (defArgs si_NoPlace) (defBody si_NoPlace) (defScope si_NoPlace) .none kx5 dx5 px5 nx5 ex5 tx5), sx5⟩) (cx5 : PySem.W.codeIn K ex5 "NoPlace.__init__" = true) (hx5 : PySem.W.keepIn K (.ref G5) = true)
    (no5 : PySem.W.findIn K (.ref C5) "place" = some none)
    {C6 G6 : Addr} {ox6 nx6 : Option Addr} {sx6 : Array (Option Value)} {ux6 kx6 dx6 px6 ex6 tx6 : Value}
    (pa6 : PySem.W.nsIn K mainGlobals "NothingDone" = some (some (.ref C6)))
    (q1_6 : PySem.W.excInitIn K C6 [.type "LookupError", .type "Exception", .type "BaseException", .type "object"] "LookupError.__new__" = true) (q2_6 : PySem.W.excOver K C6 [.type "LookupError", .type "Exception", .type "BaseException", .type "object"] = true) (q3_6 : PySem.W.findIn K (.ref C6) "__setattr__" = some (some (.builtin "object.__setattr__")))
    (q4_6 : PySem.W.findIn K (.ref C6) "__getattribute__" = some (some (.builtin "BaseException.__getattribute__"))) (q5_6 : PySem.W.findIn K (.ref C6) "__getattr__" = some none) (q6_6 : PySem.W.subIn K (.ref C6) (.type "BaseException") = some true)
    (q7_6 : PySem.W.hasDictIn K C6 = true) (q8_6 : PySem.W.keepIn K (.ref C6) = true) (q9_6 : PySem.W.typeIn K (.ref C6) = some (.type "type")) (r2_6 : PySem.W.findIn K (.ref C6) "__class__" = some (some (.builtin "object.__class__")))
    (r5_6 : PySem.W.mroIn K C6 (.type "object") = some true) (f1_6 : PySem.W.findIn K (.ref C6) "__init__" = some (some (.ref G6))) (f2_6 : PySem.W.typeIn K (.ref G6) = some (.type "function"))
    (lx6 : K.lookup G6 = some ⟨ux6, ox6, .func (PySem.W.fnOf "__init__" "NothingDone.__init__" (defArgs si_NothingDone) (defBody si_NothingDone) (defScope si_NothingDone) .none kx6 dx6 px6 nx6 ex6 tx6), sx6⟩) (cx6 : PySem.W.codeIn K ex6 "NothingDone.__init__" = true) (hx6 : PySem.W.keepIn K (.ref G6) = true)
    {C7 G7 : Addr} {ox7 nx7 : Option Addr} {sx7 : Array (Option Value)} {ux7 kx7 dx7 px7 ex7 tx7 : Value}
    (pa7 : PySem.W.nsIn K mainGlobals "TooMany" = some (some (.ref C7)))
    (q1_7 : PySem.W.excInitIn K C7 [.type "ValueError", .type "Exception", .type "BaseException", .type "object"] "ValueError.__new__" = true) (q2_7 : PySem.W.excOver K C7 [.type "ValueError", .type "Exception", .type "BaseException", .type "object"] = true) (q3_7 : PySem.W.findIn K (.ref C7) "__setattr__" = some (some (.builtin "object.__setattr__")))
    (q4_7 : PySem.W.findIn K (.ref C7) "__getattribute__" = some (some (.builtin "BaseException.__getattribute__"))) (q5_7 : PySem.W.findIn K (.ref C7) "__getattr__" = some none) (q6_7 : PySem.W.subIn K (.ref C7) (.type "BaseException") = some true)
    (q7_7 : PySem.W.hasDictIn K C7 = true) (q8_7 : PySem.W.keepIn K (.ref C7) = true) (q9_7 : PySem.W.typeIn K (.ref C7) = some (.type "type")) (r2_7 : PySem.W.findIn K (.ref C7) "__class__" = some (some (.builtin "object.__class__")))
    (r5_7 : PySem.W.mroIn K C7 (.type "object") = some true) (f1_7 : PySem.W.findIn K (.ref C7) "__init__" = some (some (.ref G7))) (f2_7 : PySem.W.typeIn K (.ref G7) = some (.type "function"))
    (lx7 : K.lookup G7 = some ⟨ux7, ox7, .func (PySem.W.fnOf "__init__" "TooMany.__init__" (defArgs si_TooMany) (defBody si_TooMany) (defScope si_TooMany) .none kx7 dx7 px7 nx7 ex7 tx7), sx7⟩) (cx7 : PySem.W.codeIn K ex7 "TooMany.__init__" = true) (hx7 : PySem.W.keepIn K (.ref G7) = true)
    {C8 G8 : Addr} {ox8 nx8 : Option Addr} {sx8 : Array (Option Value)} {ux8 kx8 dx8 px8 ex8 tx8 : Value}
    (pa8 : PySem.W.nsIn K mainGlobals "Unfit" = some (some (.ref C8)))
    (q1_8 : PySem.W.excInitIn K C8 [.type "ValueError", .type "Exception", .type "BaseException", .type "object"] "ValueError.__new__" = true) (q2_8 : PySem.W.excOver K C8 [.type "ValueError", .type "Exception", .type "BaseException", .type "object"] = true) (q3_8 : PySem.W.findIn K (.ref C8) "__setattr__" = some (some (.builtin "object.__setattr__")))
    (q4_8 : PySem.W.findIn K (.ref C8) "__getattribute__" = some (some (.builtin "BaseException.__getattribute__"))) (q5_8 : PySem.W.findIn K (.ref C8) "__getattr__" = some none) (q6_8 : PySem.W.subIn K (.ref C8) (.type "BaseException") = some true)
    (q7_8 : PySem.W.hasDictIn K C8 = true) (q8_8 : PySem.W.keepIn K (.ref C8) = true) (q9_8 : PySem.W.typeIn K (.ref C8) = some (.type "type")) (r2_8 : PySem.W.findIn K (.ref C8) "__class__" = some (some (.builtin "object.__class__")))
    (r5_8 : PySem.W.mroIn K C8 (.type "object") = some true) (f1_8 : PySem.W.findIn K (.ref C8) "__init__" = some (some (.ref G8))) (f2_8 : PySem.W.typeIn K (.ref G8) = some (.type "function"))
    (lx8 : K.lookup G8 = some ⟨ux8, ox8, .func (PySem.W.fnOf "__init__" "Unfit.__init__" (defArgs si_Unfit) (defBody si_Unfit) (defScope si_Unfit) .none kx8 dx8 px8 nx8 ex8 tx8), sx8⟩) (cx8 : PySem.W.codeIn K ex8 "Unfit.__init__" = true) (hx8 : PySem.W.keepIn K (.ref G8) = true)
    (e1_LookupError : PySem.W.kitOne K (.ref C1) (.type "LookupError") = some false) (e1_ValueError : PySem.W.kitOne K (.ref C1) (.type "ValueError") = some true) (e1_TypeError : PySem.W.kitOne K (.ref C1) (.type "TypeError") = some false) (e1_KeyError : PySem.W.kitOne K (.ref C1) (.type "KeyError") = some false) (e1_IndexError : PySem.W.kitOne K (.ref C1) (.type "IndexError") = some false) (e1_RuntimeError : PySem.W.kitOne K (.ref C1) (.type "RuntimeError") = some false) (e1_AttributeError : PySem.W.kitOne K (.ref C1) (.type "AttributeError") = some false) (e1_Exception : PySem.W.kitOne K (.ref C1) (.type "Exception") = some true) (o1_1 : PySem.W.kitOne K (.ref C1) (.ref C1) = some true) (o1_2 : PySem.W.kitOne K (.ref C1) (.ref C2) = some false) (o1_3 : PySem.W.kitOne K (.ref C1) (.ref C3) = some false) (o1_4 : PySem.W.kitOne K (.ref C1) (.ref C4) = some false) (o1_5 : PySem.W.kitOne K (.ref C1) (.ref C5) = some false) (o1_6 : PySem.W.kitOne K (.ref C1) (.ref C6) = some false) (o1_7 : PySem.W.kitOne K (.ref C1) (.ref C7) = some false) (o1_8 : PySem.W.kitOne K (.ref C1) (.ref C8) = some false)
    (e2_LookupError : PySem.W.kitOne K (.ref C2) (.type "LookupError") = some false) (e2_ValueError : PySem.W.kitOne K (.ref C2) (.type "ValueError") = some true) (e2_TypeError : PySem.W.kitOne K (.ref C2) (.type "TypeError") = some false) (e2_KeyError : PySem.W.kitOne K (.ref C2) (.type "KeyError") = some false) (e2_IndexError : PySem.W.kitOne K (.ref C2) (.type "IndexError") = some false) (e2_RuntimeError : PySem.W.kitOne K (.ref C2) (.type "RuntimeError") = some false) (e2_AttributeError : PySem.W.kitOne K (.ref C2) (.type "AttributeError") = some false) (e2_Exception : PySem.W.kitOne K (.ref C2) (.type "Exception") = some true) (o2_1 : PySem.W.kitOne K (.ref C2) (.ref C1) = some false) (o2_2 : PySem.W.kitOne K (.ref C2) (.ref C2) = some true) (o2_3 : PySem.W.kitOne K (.ref C2) (.ref C3) = some false) (o2_4 : PySem.W.kitOne K (.ref C2) (.ref C4) = some false) (o2_5 : PySem.W.kitOne K (.ref C2) (.ref C5) = some false) (o2_6 : PySem.W.kitOne K (.ref C2) (.ref C6) = some false) (o2_7 : PySem.W.kitOne K (.ref C2) (.ref C7) = some false) (o2_8 : PySem.W.kitOne K (.ref C2) (.ref C8) = some false)
    (e3_LookupError : PySem.W.kitOne K (.ref C3) (.type "LookupError") = some true) (e3_ValueError : PySem.W.kitOne K (.ref C3) (.type "ValueError") = some false) (e3_TypeError : PySem.W.kitOne K (.ref C3) (.type "TypeError") = some false) (e3_KeyError : PySem.W.kitOne K (.ref C3) (.type "KeyError") = some false) (e3_IndexError : PySem.W.kitOne K (.ref C3) (.type "IndexError") = some false) (e3_RuntimeError : PySem.W.kitOne K (.ref C3) (.type "RuntimeError") = some false) (e3_AttributeError : PySem.W.kitOne K (.ref C3) (.type "AttributeError") = some false) (e3_Exception : PySem.W.kitOne K (.ref C3) (.type "Exception") = some true) (o3_1 : PySem.W.kitOne K (.ref C3) (.ref C1) = some false) (o3_2 : PySem.W.kitOne K (.ref C3) (.ref C2) = some false) (o3_3 : PySem.W.kitOne K (.ref C3) (.ref C3) = some true) (o3_4 : PySem.W.kitOne K (.ref C3) (.ref C4) = some false) (o3_5 : PySem.W.kitOne K (.ref C3) (.ref C5) = some false) (o3_6 : PySem.W.kitOne K (.ref C3) (.ref C6) = some false) (o3_7 : PySem.W.kitOne K (.ref C3) (.ref C7) = some false) (o3_8 : PySem.W.kitOne K (.ref C3) (.ref C8) = some false)
    (e4_LookupError : PySem.W.kitOne K (.ref C4) (.type "LookupError") = some true) (e4_ValueError : PySem.W.kitOne K (.ref C4) (.type "ValueError") = some false) (e4_TypeError : PySem.W.kitOne K (.ref C4) (.type "TypeError") = some false) (e4_KeyError : PySem.W.kitOne K (.ref C4) (.type "KeyError") = some false) (e4_IndexError : PySem.W.kitOne K (.ref C4) (.type "IndexError") = some false) (e4_RuntimeError : PySem.W.kitOne K (.ref C4) (.type "RuntimeError") = some false) (e4_AttributeError : PySem.W.kitOne K (.ref C4) (.type "AttributeError") = some false) (e4_Exception : PySem.W.kitOne K (.ref C4) (.type "Exception") = some true) (o4_1 : PySem.W.kitOne K (.ref C4) (.ref C1) = some false) (o4_2 : PySem.W.kitOne K (.ref C4) (.ref C2) = some false) (o4_3 : PySem.W.kitOne K (.ref C4) (.ref C3) = some false) (o4_4 : PySem.W.kitOne K (.ref C4) (.ref C4) = some true) (o4_5 : PySem.W.kitOne K (.ref C4) (.ref C5) = some false) (o4_6 : PySem.W.kitOne K (.ref C4) (.ref C6) = some false) (o4_7 : PySem.W.kitOne K (.ref C4) (.ref C7) = some false) (o4_8 : PySem.W.kitOne K (.ref C4) (.ref C8) = some false)
    (e5_LookupError : PySem.W.kitOne K (.ref C5) (.type "LookupError") = some true) (e5_ValueError : PySem.W.kitOne K (.ref C5) (.type "ValueError") = some false) (e5_TypeError : PySem.W.kitOne K (.ref C5) (.type "TypeError") = some false) (e5_KeyError : PySem.W.kitOne K (.ref C5) (.type "KeyError") = some false) (e5_IndexError : PySem.W.kitOne K (.ref C5) (.type "IndexError") = some false) (e5_RuntimeError : PySem.W.kitOne K (.ref C5) (.type "RuntimeError") = some false) (e5_AttributeError : PySem.W.kitOne K (.ref C5) (.type "AttributeError") = some false) (e5_Exception : PySem.W.kitOne K (.ref C5) (.type "Exception") = some true) (o5_1 : PySem.W.kitOne K (.ref C5) (.ref C1) = some false) (o5_2 : PySem.W.kitOne K (.ref C5) (.ref C2) = some false) (o5_3 : PySem.W.kitOne K (.ref C5) (.ref C3) = some false) (o5_4 : PySem.W.kitOne K (.ref C5) (.ref C4) = some false) (o5_5 : PySem.W.kitOne K (.ref C5) (.ref C5) = some true) (o5_6 : PySem.W.kitOne K (.ref C5) (.ref C6) = some false) (o5_7 : PySem.W.kitOne K (.ref C5) (.ref C7) = some false) (o5_8 : PySem.W.kitOne K (.ref C5) (.ref C8) = some false)
    (e6_LookupError : PySem.W.kitOne K (.ref C6) (.type "LookupError") = some true) (e6_ValueError : PySem.W.kitOne K (.ref C6) (.type "ValueError") = some false) (e6_TypeError : PySem.W.kitOne K (.ref C6) (.type "TypeError") = some false) (e6_KeyError : PySem.W.kitOne K (.ref C6) (.type "KeyError") = some false) (e6_IndexError : PySem.W.kitOne K (.ref C6) (.type "IndexError") = some false) (e6_RuntimeError : PySem.W.kitOne K (.ref C6) (.type "RuntimeError") = some false) (e6_AttributeError : PySem.W.kitOne K (.ref C6) (.type "AttributeError") = some false) (e6_Exception : PySem.W.kitOne K (.ref C6) (.type "Exception") = some true) (o6_1 : PySem.W.kitOne K (.ref C6) (.ref C1) = some false) (o6_2 : PySem.W.kitOne K (.ref C6) (.ref C2) = some false) (o6_3 : PySem.W.kitOne K (.ref C6) (.ref C3) = some false) (o6_4 : PySem.W.kitOne K (.ref C6) (.ref C4) = some false) (o6_5 : PySem.W.kitOne K (.ref C6) (.ref C5) = some false) (o6_6 : PySem.W.kitOne K (.ref C6) (.ref C6) = some true) (o6_7 : PySem.W.kitOne K (.ref C6) (.ref C7) = some false) (o6_8 : PySem.W.kitOne K (.ref C6) (.ref C8) = some false)
    (e7_LookupError : PySem.W.kitOne K (.ref C7) (.type "LookupError") = some false) (e7_ValueError : PySem.W.kitOne K (.ref C7) (.type "ValueError") = some true) (e7_TypeError : PySem.W.kitOne K (.ref C7) (.type "TypeError") = some false) (e7_KeyError : PySem.W.kitOne K (.ref C7) (.type "KeyError") = some false) (e7_IndexError : PySem.W.kitOne K (.ref C7) (.type "IndexError") = some false) (e7_RuntimeError : PySem.W.kitOne K (.ref C7) (.type "RuntimeError") = some false) (e7_AttributeError : PySem.W.kitOne K (.ref C7) (.type "AttributeError") = some false) (e7_Exception : PySem.W.kitOne K (.ref C7) (.type "Exception") = some true) (o7_1 : PySem.W.kitOne K (.ref C7) (.ref C1) = some false) (o7_2 : PySem.W.kitOne K (.ref C7) (.ref C2) = some false) (o7_3 : PySem.W.kitOne K (.ref C7) (.ref C3) = some false) (o7_4 : PySem.W.kitOne K (.ref C7) (.ref C4) = some false) (o7_5 : PySem.W.kitOne K (.ref C7) (.ref C5) = some false) (o7_6 : PySem.W.kitOne K (.ref C7) (.ref C6) = some false) (o7_7 : PySem.W.kitOne K (.ref C7) (.ref C7) = some true) (o7_8 : PySem.W.kitOne K (.ref C7) (.ref C8) = some false)
    (e8_LookupError : PySem.W.kitOne K (.ref C8) (.type "LookupError") = some false) (e8_ValueError : PySem.W.kitOne K (.ref C8) (.type "ValueError") = some true) (e8_TypeError : PySem.W.kitOne K (.ref C8) (.type "TypeError") = some false) (e8_KeyError : PySem.W.kitOne K (.ref C8) (.type "KeyError") = some false) (e8_IndexError : PySem.W.kitOne K (.ref C8) (.type "IndexError") = some false) (e8_RuntimeError : PySem.W.kitOne K (.ref C8) (.type "RuntimeError") = some false) (e8_AttributeError : PySem.W.kitOne K (.ref C8) (.type "AttributeError") = some false) (e8_Exception : PySem.W.kitOne K (.ref C8) (.type "Exception") = some true) (o8_1 : PySem.W.kitOne K (.ref C8) (.ref C1) = some false) (o8_2 : PySem.W.kitOne K (.ref C8) (.ref C2) = some false) (o8_3 : PySem.W.kitOne K (.ref C8) (.ref C3) = some false) (o8_4 : PySem.W.kitOne K (.ref C8) (.ref C4) = some false) (o8_5 : PySem.W.kitOne K (.ref C8) (.ref C5) = some false) (o8_6 : PySem.W.kitOne K (.ref C8) (.ref C6) = some false) (o8_7 : PySem.W.kitOne K (.ref C8) (.ref C7) = some false) (o8_8 : PySem.W.kitOne K (.ref C8) (.ref C8) = some true) :
    ∃ fd : FuncData, (∀ (s : Shared) (v : Value), BindsTo s fd ⟨[v], []⟩ [("script", v)]) ∧ ∀ base : Heap, K.In base → base.Ns mainGlobals mg → FnOk l.prog w K mg base CX0 9 fa fd ["script"] (spEnd K) := by
  have e := hfa.symm.trans (PySem.W.mg_of X G a9)
  cases e
  have F0 := fun_mk (st := s__law_box) l0 c0 k0
  have b0 := F0.binds (ps := ["script", "k"]) fun _ _ _ _ _ _ us hl => match us, hl with | [_, _], _ => rfl
  have F1 := fun_mk (st := s__law_take) l1 c1 k1
  have b1 := F1.binds (ps := ["tin", "below_so"]) fun _ _ _ _ _ _ us hl => match us, hl with | [_, _], _ => rfl
  have F2 := fun_mk (st := s__law_cells) l2 c2 k2
  have b2 := F2.binds (ps := ["script", "most_so"]) fun _ _ _ _ _ _ us hl => match us, hl with | [_, _], _ => rfl
  have F3 := fun_mk (st := s__law_of) l3 c3 k3
  have b3 := F3.binds (ps := ["tin", "goods_so"]) fun _ _ _ _ _ _ us hl => match us, hl with | [_, _], _ => rfl
  have F4 := fun_mk (st := s__law_same) l4 c4 k4
  have b4 := F4.binds (ps := ["got", "due"]) fun _ _ _ _ _ _ us hl => match us, hl with | [_, _], _ => rfl
  have F5 := fun_mk (st := s__law_under) l5 c5 k5
  have b5 := F5.binds (ps := ["error_so"]) fun _ _ _ _ _ _ us hl => match us, hl with | [_], _ => rfl
  have F6 := fun_mk (st := s__law_which) l6 c6 k6
  have b6 := F6.binds (ps := ["error_so"]) fun _ _ _ _ _ _ us hl => match us, hl with | [_], _ => rfl
  have F7 := fun_mk (st := s__law_made_right) l7 c7 k7
  have b7 := F7.binds (ps := ["number_so", "trail_so"]) fun _ _ _ _ _ _ us hl => match us, hl with | [_, _], _ => rfl
  have F8 := fun_mk (st := s__law_right) l8 c8 k8
  have b8 := F8.binds (ps := ["tin"]) fun _ _ _ _ _ _ us hl => match us, hl with | [_], _ => rfl
  have F9 := fun_mk (st := s_law) l9 c9 k9
  have b9 := F9.binds (ps := ["script"]) fun _ _ _ _ _ _ us hl => match us, hl with | [_], _ => rfl
  have B : BI mg := ⟨PySem.W.mg_none_of X G z_len, PySem.W.mg_none_of X G z_int, PySem.W.mg_none_of X G z_abs, PySem.W.mg_none_of X G z_min, PySem.W.mg_none_of X G z_max, PySem.W.mg_none_of X G z_tuple, PySem.W.mg_none_of X G z_list, PySem.W.mg_none_of X G z_bool, PySem.W.mg_none_of X G z_str, PySem.W.mg_none_of X G z_range, PySem.W.mg_none_of X G z_enumerate, PySem.W.mg_none_of X G z_zip, PySem.W.mg_none_of X G z_reversed, PySem.W.mg_none_of X G z_isinstance, PySem.W.mg_none_of X G z_all, PySem.W.mg_none_of X G z_any, PySem.W.mg_none_of X G z_sorted, PySem.W.mg_none_of X G z_set, PySem.W.mg_none_of X G z_dict⟩
  refine ⟨PySem.W.fnOf "law" "law" (defArgs s_law) (defBody s_law) (defScope s_law) .none kV9 dc9 pm9 an9 cd9 ct9, fun s v => .of_eq rfl, fun base _ _ => ?_⟩
  have K1 : ClsK K [.type "ValueError", .type "Exception", .type "BaseException", .type "object"] "ValueError.__new__" C1 G1 := ⟨q1_1, q2_1, q3_1, q4_1, q5_1, q6_1, q7_1, q8_1, q9_1, r2_1, r3, r4, r5_1, f1_1, f2_1⟩
  have FX1 := fun_mk (st := si_BadLine) lx1 cx1 hx1
  have bX1 := FX1.binds (ps := ["self", "number"]) fun _ _ _ _ _ _ us hl => match us, hl with | [_, _], _ => rfl
  have mX1 := PySem.W.mg_of X G pa1
  have M1 : XM1 l.prog w K mg base 1 "BadLine" C1 "number" := K1.one PySem.F.excBase_ValueError PySem.F.store_ValueError mX1 no1 FX1 sci_BadLine rfl (.inl rfl) (.inl rfl) (by decide) (by decide) (fun _ => rfl) bX1 fun s a u => .of_eq rfl
  have K2 : ClsK K [.type "ValueError", .type "Exception", .type "BaseException", .type "object"] "ValueError.__new__" C2 G2 := ⟨q1_2, q2_2, q3_2, q4_2, q5_2, q6_2, q7_2, q8_2, q9_2, r2_2, r3, r4, r5_2, f1_2, f2_2⟩
  have FX2 := fun_mk (st := si_CanNot) lx2 cx2 hx2
  have bX2 := FX2.binds (ps := ["self"]) fun _ _ _ _ _ _ us hl => match us, hl with | [_], _ => rfl
  have mX2 := PySem.W.mg_of X G pa2
  have M2 : XM0 l.prog w K mg base 1 "CanNot" C2 := K2.zero (bn := "ValueError") PySem.F.excBase_ValueError mX2 (by decide +kernel) rfl (by decide +kernel) (by decide +kernel) (PySem.W.mg_none_of X G z_ValueError) vV_ValueError (by decide) (by decide) FX2 sci_CanNot rfl (.inl rfl) (fun _ => rfl) (fun _ => rfl) (fun _ _ _ _ _ _ => rfl) bX2
  have K3 : ClsK K [.type "LookupError", .type "Exception", .type "BaseException", .type "object"] "LookupError.__new__" C3 G3 := ⟨q1_3, q2_3, q3_3, q4_3, q5_3, q6_3, q7_3, q8_3, q9_3, r2_3, r3, r4, r5_3, f1_3, f2_3⟩
  have FX3 := fun_mk (st := si_NoCell) lx3 cx3 hx3
  have bX3 := FX3.binds (ps := ["self", "cell"]) fun _ _ _ _ _ _ us hl => match us, hl with | [_, _], _ => rfl
  have mX3 := PySem.W.mg_of X G pa3
  have M3 : XM1 l.prog w K mg base 1 "NoCell" C3 "cell" := K3.one PySem.F.excBase_LookupError PySem.F.store_LookupError mX3 no3 FX3 sci_NoCell rfl (.inl rfl) (.inl rfl) (by decide) (by decide) (fun _ => rfl) bX3 fun s a u => .of_eq rfl
  have K4 : ClsK K [.type "LookupError", .type "Exception", .type "BaseException", .type "object"] "LookupError.__new__" C4 G4 := ⟨q1_4, q2_4, q3_4, q4_4, q5_4, q6_4, q7_4, q8_4, q9_4, r2_4, r3, r4, r5_4, f1_4, f2_4⟩
  have FX4 := fun_mk (st := si_NoNumber) lx4 cx4 hx4
  have bX4 := FX4.binds (ps := ["self", "number"]) fun _ _ _ _ _ _ us hl => match us, hl with | [_, _], _ => rfl
  have mX4 := PySem.W.mg_of X G pa4
  have M4 : XM1 l.prog w K mg base 1 "NoNumber" C4 "number" := K4.one PySem.F.excBase_LookupError PySem.F.store_LookupError mX4 no4 FX4 sci_NoNumber rfl (.inl rfl) (.inl rfl) (by decide) (by decide) (fun _ => rfl) bX4 fun s a u => .of_eq rfl
  have K5 : ClsK K [.type "LookupError", .type "Exception", .type "BaseException", .type "object"] "LookupError.__new__" C5 G5 := ⟨q1_5, q2_5, q3_5, q4_5, q5_5, q6_5, q7_5, q8_5, q9_5, r2_5, r3, r4, r5_5, f1_5, f2_5⟩
  have FX5 := fun_mk (st := si_NoPlace) lx5 cx5 hx5
  have bX5 := FX5.binds (ps := ["self", "place"]) fun _ _ _ _ _ _ us hl => match us, hl with | [_, _], _ => rfl
  have mX5 := PySem.W.mg_of X G pa5
  have M5 : XM1 l.prog w K mg base 1 "NoPlace" C5 "place" := K5.one PySem.F.excBase_LookupError PySem.F.store_LookupError mX5 no5 FX5 sci_NoPlace rfl (.inl rfl) (.inl rfl) (by decide) (by decide) (fun _ => rfl) bX5 fun s a u => .of_eq rfl
  have K6 : ClsK K [.type "LookupError", .type "Exception", .type "BaseException", .type "object"] "LookupError.__new__" C6 G6 := ⟨q1_6, q2_6, q3_6, q4_6, q5_6, q6_6, q7_6, q8_6, q9_6, r2_6, r3, r4, r5_6, f1_6, f2_6⟩
  have FX6 := fun_mk (st := si_NothingDone) lx6 cx6 hx6
  have bX6 := FX6.binds (ps := ["self"]) fun _ _ _ _ _ _ us hl => match us, hl with | [_], _ => rfl
  have mX6 := PySem.W.mg_of X G pa6
  have M6 : XM0 l.prog w K mg base 1 "NothingDone" C6 := K6.zero (bn := "LookupError") PySem.F.excBase_LookupError mX6 (by decide +kernel) rfl (by decide +kernel) (by decide +kernel) (PySem.W.mg_none_of X G z_LookupError) vV_LookupError (by decide) (by decide) FX6 sci_NothingDone rfl (.inl rfl) (fun _ => rfl) (fun _ => rfl) (fun _ _ _ _ _ _ => rfl) bX6
  have K7 : ClsK K [.type "ValueError", .type "Exception", .type "BaseException", .type "object"] "ValueError.__new__" C7 G7 := ⟨q1_7, q2_7, q3_7, q4_7, q5_7, q6_7, q7_7, q8_7, q9_7, r2_7, r3, r4, r5_7, f1_7, f2_7⟩
  have FX7 := fun_mk (st := si_TooMany) lx7 cx7 hx7
  have bX7 := FX7.binds (ps := ["self"]) fun _ _ _ _ _ _ us hl => match us, hl with | [_], _ => rfl
  have mX7 := PySem.W.mg_of X G pa7
  have M7 : XM0 l.prog w K mg base 1 "TooMany" C7 := K7.zero (bn := "ValueError") PySem.F.excBase_ValueError mX7 (by decide +kernel) rfl (by decide +kernel) (by decide +kernel) (PySem.W.mg_none_of X G z_ValueError) vV_ValueError (by decide) (by decide) FX7 sci_TooMany rfl (.inl rfl) (fun _ => rfl) (fun _ => rfl) (fun _ _ _ _ _ _ => rfl) bX7
  have K8 : ClsK K [.type "ValueError", .type "Exception", .type "BaseException", .type "object"] "ValueError.__new__" C8 G8 := ⟨q1_8, q2_8, q3_8, q4_8, q5_8, q6_8, q7_8, q8_8, q9_8, r2_8, r3, r4, r5_8, f1_8, f2_8⟩
  have FX8 := fun_mk (st := si_Unfit) lx8 cx8 hx8
  have bX8 := FX8.binds (ps := ["self"]) fun _ _ _ _ _ _ us hl => match us, hl with | [_], _ => rfl
  have mX8 := PySem.W.mg_of X G pa8
  have M8 : XM0 l.prog w K mg base 1 "Unfit" C8 := K8.zero (bn := "ValueError") PySem.F.excBase_ValueError mX8 (by decide +kernel) rfl (by decide +kernel) (by decide +kernel) (PySem.W.mg_none_of X G z_ValueError) vV_ValueError (by decide) (by decide) FX8 sci_Unfit rfl (.inl rfl) (fun _ => rfl) (fun _ => rfl) (fun _ _ _ _ _ _ => rfl) bX8
  have hxi : ∀ C ∈ [C1, C2, C3, C4, C5, C6, C7, C8], XI K C := fun C hC => by
    simp only [List.mem_cons, List.mem_nil_iff, or_false] at hC
    rcases hC with rfl | rfl | rfl | rfl | rfl | rfl | rfl | rfl
    · exact K1.xi
    · exact K2.xi
    · exact K3.xi
    · exact K4.xi
    · exact K5.xi
    · exact K6.xi
    · exact K7.xi
    · exact K8.xi
  have Z : Ans8 ⟨C1, C2, C3, C4, C5, C6, C7, C8⟩ (anK K ⟨C1, C2, C3, C4, C5, C6, C7, C8⟩) := by
    constructor
    · exact eight (anK_at _ (vt_LookupError _) e1_LookupError) (anK_at _ (vt_LookupError _) e2_LookupError) (anK_at _ (vt_LookupError _) e3_LookupError) (anK_at _ (vt_LookupError _) e4_LookupError) (anK_at _ (vt_LookupError _) e5_LookupError) (anK_at _ (vt_LookupError _) e6_LookupError) (anK_at _ (vt_LookupError _) e7_LookupError) (anK_at _ (vt_LookupError _) e8_LookupError)
    · exact eight (anK_at _ (vt_ValueError _) e1_ValueError) (anK_at _ (vt_ValueError _) e2_ValueError) (anK_at _ (vt_ValueError _) e3_ValueError) (anK_at _ (vt_ValueError _) e4_ValueError) (anK_at _ (vt_ValueError _) e5_ValueError) (anK_at _ (vt_ValueError _) e6_ValueError) (anK_at _ (vt_ValueError _) e7_ValueError) (anK_at _ (vt_ValueError _) e8_ValueError)
    · exact eight (anK_at _ (vt_TypeError _) e1_TypeError) (anK_at _ (vt_TypeError _) e2_TypeError) (anK_at _ (vt_TypeError _) e3_TypeError) (anK_at _ (vt_TypeError _) e4_TypeError) (anK_at _ (vt_TypeError _) e5_TypeError) (anK_at _ (vt_TypeError _) e6_TypeError) (anK_at _ (vt_TypeError _) e7_TypeError) (anK_at _ (vt_TypeError _) e8_TypeError)
    · exact eight (anK_at _ (vt_KeyError _) e1_KeyError) (anK_at _ (vt_KeyError _) e2_KeyError) (anK_at _ (vt_KeyError _) e3_KeyError) (anK_at _ (vt_KeyError _) e4_KeyError) (anK_at _ (vt_KeyError _) e5_KeyError) (anK_at _ (vt_KeyError _) e6_KeyError) (anK_at _ (vt_KeyError _) e7_KeyError) (anK_at _ (vt_KeyError _) e8_KeyError)
    · exact eight (anK_at _ (vt_IndexError _) e1_IndexError) (anK_at _ (vt_IndexError _) e2_IndexError) (anK_at _ (vt_IndexError _) e3_IndexError) (anK_at _ (vt_IndexError _) e4_IndexError) (anK_at _ (vt_IndexError _) e5_IndexError) (anK_at _ (vt_IndexError _) e6_IndexError) (anK_at _ (vt_IndexError _) e7_IndexError) (anK_at _ (vt_IndexError _) e8_IndexError)
    · exact eight (anK_at _ (vt_RuntimeError _) e1_RuntimeError) (anK_at _ (vt_RuntimeError _) e2_RuntimeError) (anK_at _ (vt_RuntimeError _) e3_RuntimeError) (anK_at _ (vt_RuntimeError _) e4_RuntimeError) (anK_at _ (vt_RuntimeError _) e5_RuntimeError) (anK_at _ (vt_RuntimeError _) e6_RuntimeError) (anK_at _ (vt_RuntimeError _) e7_RuntimeError) (anK_at _ (vt_RuntimeError _) e8_RuntimeError)
    · exact eight (anK_at _ (vt_AttributeError _) e1_AttributeError) (anK_at _ (vt_AttributeError _) e2_AttributeError) (anK_at _ (vt_AttributeError _) e3_AttributeError) (anK_at _ (vt_AttributeError _) e4_AttributeError) (anK_at _ (vt_AttributeError _) e5_AttributeError) (anK_at _ (vt_AttributeError _) e6_AttributeError) (anK_at _ (vt_AttributeError _) e7_AttributeError) (anK_at _ (vt_AttributeError _) e8_AttributeError)
    · exact eight (anK_at _ (vt_Exception _) e1_Exception) (anK_at _ (vt_Exception _) e2_Exception) (anK_at _ (vt_Exception _) e3_Exception) (anK_at _ (vt_Exception _) e4_Exception) (anK_at _ (vt_Exception _) e5_Exception) (anK_at _ (vt_Exception _) e6_Exception) (anK_at _ (vt_Exception _) e7_Exception) (anK_at _ (vt_Exception _) e8_Exception)
    · exact eight (anK_at _ (vt_c1 _) o1_1) (anK_at _ (vt_c1 _) o2_1) (anK_at _ (vt_c1 _) o3_1) (anK_at _ (vt_c1 _) o4_1) (anK_at _ (vt_c1 _) o5_1) (anK_at _ (vt_c1 _) o6_1) (anK_at _ (vt_c1 _) o7_1) (anK_at _ (vt_c1 _) o8_1)
    · exact eight (anK_at _ (vt_c2 _) o1_2) (anK_at _ (vt_c2 _) o2_2) (anK_at _ (vt_c2 _) o3_2) (anK_at _ (vt_c2 _) o4_2) (anK_at _ (vt_c2 _) o5_2) (anK_at _ (vt_c2 _) o6_2) (anK_at _ (vt_c2 _) o7_2) (anK_at _ (vt_c2 _) o8_2)
    · exact eight (anK_at _ (vt_c3 _) o1_3) (anK_at _ (vt_c3 _) o2_3) (anK_at _ (vt_c3 _) o3_3) (anK_at _ (vt_c3 _) o4_3) (anK_at _ (vt_c3 _) o5_3) (anK_at _ (vt_c3 _) o6_3) (anK_at _ (vt_c3 _) o7_3) (anK_at _ (vt_c3 _) o8_3)
    · exact eight (anK_at _ (vt_c4 _) o1_4) (anK_at _ (vt_c4 _) o2_4) (anK_at _ (vt_c4 _) o3_4) (anK_at _ (vt_c4 _) o4_4) (anK_at _ (vt_c4 _) o5_4) (anK_at _ (vt_c4 _) o6_4) (anK_at _ (vt_c4 _) o7_4) (anK_at _ (vt_c4 _) o8_4)
    · exact eight (anK_at _ (vt_c5 _) o1_5) (anK_at _ (vt_c5 _) o2_5) (anK_at _ (vt_c5 _) o3_5) (anK_at _ (vt_c5 _) o4_5) (anK_at _ (vt_c5 _) o5_5) (anK_at _ (vt_c5 _) o6_5) (anK_at _ (vt_c5 _) o7_5) (anK_at _ (vt_c5 _) o8_5)
    · exact eight (anK_at _ (vt_c6 _) o1_6) (anK_at _ (vt_c6 _) o2_6) (anK_at _ (vt_c6 _) o3_6) (anK_at _ (vt_c6 _) o4_6) (anK_at _ (vt_c6 _) o5_6) (anK_at _ (vt_c6 _) o6_6) (anK_at _ (vt_c6 _) o7_6) (anK_at _ (vt_c6 _) o8_6)
    · exact eight (anK_at _ (vt_c7 _) o1_7) (anK_at _ (vt_c7 _) o2_7) (anK_at _ (vt_c7 _) o3_7) (anK_at _ (vt_c7 _) o4_7) (anK_at _ (vt_c7 _) o5_7) (anK_at _ (vt_c7 _) o6_7) (anK_at _ (vt_c7 _) o7_7) (anK_at _ (vt_c7 _) o8_7)
    · exact eight (anK_at _ (vt_c8 _) o1_8) (anK_at _ (vt_c8 _) o2_8) (anK_at _ (vt_c8 _) o3_8) (anK_at _ (vt_c8 _) o4_8) (anK_at _ (vt_c8 _) o5_8) (anK_at _ (vt_c8 _) o6_8) (anK_at _ (vt_c8 _) o7_8) (anK_at _ (vt_c8 _) o8_8)
  have y_LookupError : AnB K (anK K ⟨C1, C2, C3, C4, C5, C6, C7, C8⟩) "LookupError" := fun C b h => by
    obtain ⟨m, e⟩ := anK_some h
    rw [vt_LookupError] at e
    exact ⟨hxi C m, e⟩
  have y_ValueError : AnB K (anK K ⟨C1, C2, C3, C4, C5, C6, C7, C8⟩) "ValueError" := fun C b h => by
    obtain ⟨m, e⟩ := anK_some h
    rw [vt_ValueError] at e
    exact ⟨hxi C m, e⟩
  have y_TypeError : AnB K (anK K ⟨C1, C2, C3, C4, C5, C6, C7, C8⟩) "TypeError" := fun C b h => by
    obtain ⟨m, e⟩ := anK_some h
    rw [vt_TypeError] at e
    exact ⟨hxi C m, e⟩
  have y_KeyError : AnB K (anK K ⟨C1, C2, C3, C4, C5, C6, C7, C8⟩) "KeyError" := fun C b h => by
    obtain ⟨m, e⟩ := anK_some h
    rw [vt_KeyError] at e
    exact ⟨hxi C m, e⟩
  have y_IndexError : AnB K (anK K ⟨C1, C2, C3, C4, C5, C6, C7, C8⟩) "IndexError" := fun C b h => by
    obtain ⟨m, e⟩ := anK_some h
    rw [vt_IndexError] at e
    exact ⟨hxi C m, e⟩
  have y_RuntimeError : AnB K (anK K ⟨C1, C2, C3, C4, C5, C6, C7, C8⟩) "RuntimeError" := fun C b h => by
    obtain ⟨m, e⟩ := anK_some h
    rw [vt_RuntimeError] at e
    exact ⟨hxi C m, e⟩
  have y_AttributeError : AnB K (anK K ⟨C1, C2, C3, C4, C5, C6, C7, C8⟩) "AttributeError" := fun C b h => by
    obtain ⟨m, e⟩ := anK_some h
    rw [vt_AttributeError] at e
    exact ⟨hxi C m, e⟩
  have y_Exception : AnB K (anK K ⟨C1, C2, C3, C4, C5, C6, C7, C8⟩) "Exception" := fun C b h => by
    obtain ⟨m, e⟩ := anK_some h
    rw [vt_Exception] at e
    exact ⟨hxi C m, e⟩
  have w_BadLine : AnO K (anK K ⟨C1, C2, C3, C4, C5, C6, C7, C8⟩) "BadLine" C1 := fun C b h => by
    obtain ⟨m, e⟩ := anK_some h
    rw [vt_c1] at e
    exact ⟨hxi C m, e⟩
  have w_CanNot : AnO K (anK K ⟨C1, C2, C3, C4, C5, C6, C7, C8⟩) "CanNot" C2 := fun C b h => by
    obtain ⟨m, e⟩ := anK_some h
    rw [vt_c2] at e
    exact ⟨hxi C m, e⟩
  have w_NoCell : AnO K (anK K ⟨C1, C2, C3, C4, C5, C6, C7, C8⟩) "NoCell" C3 := fun C b h => by
    obtain ⟨m, e⟩ := anK_some h
    rw [vt_c3] at e
    exact ⟨hxi C m, e⟩
  have w_NoNumber : AnO K (anK K ⟨C1, C2, C3, C4, C5, C6, C7, C8⟩) "NoNumber" C4 := fun C b h => by
    obtain ⟨m, e⟩ := anK_some h
    rw [vt_c4] at e
    exact ⟨hxi C m, e⟩
  have w_NoPlace : AnO K (anK K ⟨C1, C2, C3, C4, C5, C6, C7, C8⟩) "NoPlace" C5 := fun C b h => by
    obtain ⟨m, e⟩ := anK_some h
    rw [vt_c5] at e
    exact ⟨hxi C m, e⟩
  have w_NothingDone : AnO K (anK K ⟨C1, C2, C3, C4, C5, C6, C7, C8⟩) "NothingDone" C6 := fun C b h => by
    obtain ⟨m, e⟩ := anK_some h
    rw [vt_c6] at e
    exact ⟨hxi C m, e⟩
  have w_TooMany : AnO K (anK K ⟨C1, C2, C3, C4, C5, C6, C7, C8⟩) "TooMany" C7 := fun C b h => by
    obtain ⟨m, e⟩ := anK_some h
    rw [vt_c7] at e
    exact ⟨hxi C m, e⟩
  have w_Unfit : AnO K (anK K ⟨C1, C2, C3, C4, C5, C6, C7, C8⟩) "Unfit" C8 := fun C b h => by
    obtain ⟨m, e⟩ := anK_some h
    rw [vt_c8] at e
    exact ⟨hxi C m, e⟩
  have Y : X8 l.prog w K mg base ⟨C1, C2, C3, C4, C5, C6, C7, C8⟩ (anK K ⟨C1, C2, C3, C4, C5, C6, C7, C8⟩) := ⟨M1, M2, M3, M4, M5, M6, M7, M8, w_BadLine, w_CanNot, w_NoCell, w_NoNumber, w_NoPlace, w_NothingDone, w_TooMany, w_Unfit⟩
  obtain ⟨f, fd, g1, _, _, g4, oc, od, osl, g5⟩ := chain00 (P := l.prog) (w := w) (base := base) B Y Z y_LookupError (PySem.W.mg_none_of X G z_LookupError) y_ValueError (PySem.W.mg_none_of X G z_ValueError) y_TypeError (PySem.W.mg_none_of X G z_TypeError) y_KeyError (PySem.W.mg_none_of X G z_KeyError) y_IndexError (PySem.W.mg_none_of X G z_IndexError) y_RuntimeError (PySem.W.mg_none_of X G z_RuntimeError) y_AttributeError (PySem.W.mg_none_of X G z_AttributeError) y_Exception (PySem.W.mg_none_of X G z_Exception) F0 b0 (PySem.W.mg_of X G a0) F1 b1 (PySem.W.mg_of X G a1) F2 b2 (PySem.W.mg_of X G a2) F3 b3 (PySem.W.mg_of X G a3) F4 b4 (PySem.W.mg_of X G a4) F5 b5 (PySem.W.mg_of X G a5) F6 b6 (PySem.W.mg_of X G a6) F7 b7 (PySem.W.mg_of X G a7) F8 b8 (PySem.W.mg_of X G a8) F9 b9 (PySem.W.mg_of X G a9) ([], [])
  have ef := Option.some.inj (hfa.symm.trans g4)
  cases ef
  have eo := Option.some.inj (l9.symm.trans g5)
  cases eo
  exact g1.imp fun vs H Q E z => sp_end z
end
theorem walk00 {l : PySem.W.OpenLaw} {q : Program} {loose : List Str} {XP : (Str → Option Value) → Heap → Prop} {YP : World → Heap → Prop} {d : DefRec} {K : Params → PySem.W.Frag} (hn : l.most = some 63) (hdf : d.params.defaults = [])
    (hY : ∀ (w : World) (h : Heap), YP w h → (K w.params).In h)
    (F : ∀ (w : World) (mg : Str → Option Value) (fa : Addr) (h : Heap), (K w.params).In h → h.Ns mainGlobals mg → mg d.name = some (.ref fa) →
      ∃ fd : FuncData, (∀ (s : Shared) (u : Value), BindsTo s fd ⟨[u], []⟩ [("script", u)]) ∧ ∀ base : Heap, (K w.params).In base → base.Ns mainGlobals mg → FnOk l.prog w (K w.params) mg base CX0 9 fa fd ["script"] (spEnd (K w.params))) :
    PySem.W.WalkO q loose XP YP l.row.toRowW d [] (fun f vs => PySem.call f vs) := by
  refine L2.walk_ofE (n := 63) (k := 9) (x := "script") (CX := CX0) hn (by decide) hdf ⟨rfl, by decide, by decide⟩ (fun w mg fa h Y G hm => ?_) fun _ _ _ _ z => z
  obtain ⟨fd, h1, h2⟩ := F w mg fa h (hY w h Y) G hm
  exact ⟨K w.params, fd, spEnd (K w.params), hY w h Y, h1, fun H a ns hl on hS => ⟨a, ns, rfl, on, hS, hl, fun _ => rfl⟩, h2⟩
end DL
open PySem PySem.W PyProof.Rows
set_option maxRecDepth 100000 in
set_option maxHeartbeats 0 in
theorem PySem.Challenge.cw_notinvain_k00_errors_made_by_hand_holds : PySem.Challenge.rw_notinvain_k00_errors_made_by_hand.Holds := by
  w_on; o_law; k_head; (case hw => w_witness2)
  k_fill
  refine DL.walk00 (l := PySem.Challenge.rw_notinvain_k00_errors_made_by_hand) rfl rfl (fun w h Y => PySem.W.kIn_of Y) ?F
  case F =>
    intro w mg fa h KX G hmg
    refine' DL.all_mk00 KX G hmg ?a0 ?l0 ?c0 ?k0 ?a1 ?l1 ?c1 ?k1 ?a2 ?l2 ?c2 ?k2 ?a3 ?l3 ?c3 ?k3 ?a4 ?l4 ?c4 ?k4 ?a5 ?l5 ?c5 ?k5 ?a6 ?l6 ?c6 ?k6 ?a7 ?l7 ?c7 ?k7 ?a8 ?l8 ?c8 ?k8 ?a9 ?l9 ?c9 ?k9 ?z_len ?z_int ?z_abs ?z_min ?z_max ?z_tuple ?z_list ?z_bool ?z_str ?z_range ?z_enumerate ?z_zip ?z_reversed ?z_isinstance ?z_all ?z_any ?z_sorted ?z_set ?z_dict ?z_LookupError ?z_ValueError ?z_TypeError ?z_KeyError ?z_IndexError ?z_RuntimeError ?z_AttributeError ?z_Exception ?r3 ?r4 ?vV_ValueError ?vV_LookupError ?pa1 ?q1_1 ?q2_1 ?q3_1 ?q4_1 ?q5_1 ?q6_1 ?q7_1 ?q8_1 ?q9_1 ?r2_1 ?r5_1 ?f1_1 ?f2_1 ?lx1 ?cx1 ?hx1 ?no1 ?pa2 ?q1_2 ?q2_2 ?q3_2 ?q4_2 ?q5_2 ?q6_2 ?q7_2 ?q8_2 ?q9_2 ?r2_2 ?r5_2 ?f1_2 ?f2_2 ?lx2 ?cx2 ?hx2 ?pa3 ?q1_3 ?q2_3 ?q3_3 ?q4_3 ?q5_3 ?q6_3 ?q7_3 ?q8_3 ?q9_3 ?r2_3 ?r5_3 ?f1_3 ?f2_3 ?lx3 ?cx3 ?hx3 ?no3 ?pa4 ?q1_4 ?q2_4 ?q3_4 ?q4_4 ?q5_4 ?q6_4 ?q7_4 ?q8_4 ?q9_4 ?r2_4 ?r5_4 ?f1_4 ?f2_4 ?lx4 ?cx4 ?hx4 ?no4 ?pa5 ?q1_5 ?q2_5 ?q3_5 ?q4_5 ?q5_5 ?q6_5 ?q7_5 ?q8_5 ?q9_5 ?r2_5 ?r5_5 ?f1_5 ?f2_5 ?lx5 ?cx5 ?hx5 ?no5 ?pa6 ?q1_6 ?q2_6 ?q3_6 ?q4_6 ?q5_6 ?q6_6 ?q7_6 ?q8_6 ?q9_6 ?r2_6 ?r5_6 ?f1_6 ?f2_6 ?lx6 ?cx6 ?hx6 ?pa7 ?q1_7 ?q2_7 ?q3_7 ?q4_7 ?q5_7 ?q6_7 ?q7_7 ?q8_7 ?q9_7 ?r2_7 ?r5_7 ?f1_7 ?f2_7 ?lx7 ?cx7 ?hx7 ?pa8 ?q1_8 ?q2_8 ?q3_8 ?q4_8 ?q5_8 ?q6_8 ?q7_8 ?q8_8 ?q9_8 ?r2_8 ?r5_8 ?f1_8 ?f2_8 ?lx8 ?cx8 ?hx8 ?e1_LookupError ?e1_ValueError ?e1_TypeError ?e1_KeyError ?e1_IndexError ?e1_RuntimeError ?e1_AttributeError ?e1_Exception ?o1_1 ?o1_2 ?o1_3 ?o1_4 ?o1_5 ?o1_6 ?o1_7 ?o1_8 ?e2_LookupError ?e2_ValueError ?e2_TypeError ?e2_KeyError ?e2_IndexError ?e2_RuntimeError ?e2_AttributeError ?e2_Exception ?o2_1 ?o2_2 ?o2_3 ?o2_4 ?o2_5 ?o2_6 ?o2_7 ?o2_8 ?e3_LookupError ?e3_ValueError ?e3_TypeError ?e3_KeyError ?e3_IndexError ?e3_RuntimeError ?e3_AttributeError ?e3_Exception ?o3_1 ?o3_2 ?o3_3 ?o3_4 ?o3_5 ?o3_6 ?o3_7 ?o3_8 ?e4_LookupError ?e4_ValueError ?e4_TypeError ?e4_KeyError ?e4_IndexError ?e4_RuntimeError ?e4_AttributeError ?e4_Exception ?o4_1 ?o4_2 ?o4_3 ?o4_4 ?o4_5 ?o4_6 ?o4_7 ?o4_8 ?e5_LookupError ?e5_ValueError ?e5_TypeError ?e5_KeyError ?e5_IndexError ?e5_RuntimeError ?e5_AttributeError ?e5_Exception ?o5_1 ?o5_2 ?o5_3 ?o5_4 ?o5_5 ?o5_6 ?o5_7 ?o5_8 ?e6_LookupError ?e6_ValueError ?e6_TypeError ?e6_KeyError ?e6_IndexError ?e6_RuntimeError ?e6_AttributeError ?e6_Exception ?o6_1 ?o6_2 ?o6_3 ?o6_4 ?o6_5 ?o6_6 ?o6_7 ?o6_8 ?e7_LookupError ?e7_ValueError ?e7_TypeError ?e7_KeyError ?e7_IndexError ?e7_RuntimeError ?e7_AttributeError ?e7_Exception ?o7_1 ?o7_2 ?o7_3 ?o7_4 ?o7_5 ?o7_6 ?o7_7 ?o7_8 ?e8_LookupError ?e8_ValueError ?e8_TypeError ?e8_KeyError ?e8_IndexError ?e8_RuntimeError ?e8_AttributeError ?e8_Exception ?o8_1 ?o8_2 ?o8_3 ?o8_4 ?o8_5 ?o8_6 ?o8_7 ?o8_8
    (case a0 => k_is); (case l0 => k_is); (case c0 => k_is); (case k0 => k_is); (case a1 => k_is); (case l1 => k_is); (case c1 => k_is); (case k1 => k_is)
    (case a2 => k_is); (case l2 => k_is); (case c2 => k_is); (case k2 => k_is); (case a3 => k_is); (case l3 => k_is); (case c3 => k_is); (case k3 => k_is)
    (case a4 => k_is); (case l4 => k_is); (case c4 => k_is); (case k4 => k_is); (case a5 => k_is); (case l5 => k_is); (case c5 => k_is); (case k5 => k_is)
    (case a6 => k_is); (case l6 => k_is); (case c6 => k_is); (case k6 => k_is); (case a7 => k_is); (case l7 => k_is); (case c7 => k_is); (case k7 => k_is)
    (case a8 => k_is); (case l8 => k_is); (case c8 => k_is); (case k8 => k_is); (case a9 => k_is); (case l9 => k_is); (case c9 => k_is); (case k9 => k_is)
    (case z_len => k_is); (case z_int => k_is); (case z_abs => k_is); (case z_min => k_is); (case z_max => k_is); (case z_tuple => k_is); (case z_list => k_is); (case z_bool => k_is)
    (case z_str => k_is); (case z_range => k_is); (case z_enumerate => k_is); (case z_zip => k_is); (case z_reversed => k_is); (case z_isinstance => k_is); (case z_all => k_is); (case z_any => k_is)
    (case z_sorted => k_is); (case z_set => k_is); (case z_dict => k_is); (case z_LookupError => k_is); (case z_ValueError => k_is); (case z_TypeError => k_is); (case z_KeyError => k_is); (case z_IndexError => k_is)
    (case z_RuntimeError => k_is); (case z_AttributeError => k_is); (case z_Exception => k_is); (case r3 => k_is); (case r4 => k_is); (case vV_ValueError => k_is); (case vV_LookupError => k_is); (case pa1 => k_is)
    (case q1_1 => kx_is); (case q2_1 => kx_is); (case q3_1 => k_is); (case q4_1 => k_is); (case q5_1 => k_is); (case q6_1 => k_is); (case q7_1 => k_is); (case q8_1 => k_is)
    (case q9_1 => k_is); (case r2_1 => k_is); (case r5_1 => k_is); (case f1_1 => k_is); (case f2_1 => k_is); (case lx1 => k_is); (case cx1 => k_is); (case hx1 => k_is)
    (case no1 => k_is); (case pa2 => k_is); (case q1_2 => kx_is); (case q2_2 => kx_is); (case q3_2 => k_is); (case q4_2 => k_is); (case q5_2 => k_is); (case q6_2 => k_is)
    (case q7_2 => k_is); (case q8_2 => k_is); (case q9_2 => k_is); (case r2_2 => k_is); (case r5_2 => k_is); (case f1_2 => k_is); (case f2_2 => k_is); (case lx2 => k_is)
    (case cx2 => k_is); (case hx2 => k_is); (case pa3 => k_is); (case q1_3 => kx_is); (case q2_3 => kx_is); (case q3_3 => k_is); (case q4_3 => k_is); (case q5_3 => k_is)
    (case q6_3 => k_is); (case q7_3 => k_is); (case q8_3 => k_is); (case q9_3 => k_is); (case r2_3 => k_is); (case r5_3 => k_is); (case f1_3 => k_is); (case f2_3 => k_is)
    (case lx3 => k_is); (case cx3 => k_is); (case hx3 => k_is); (case no3 => k_is); (case pa4 => k_is); (case q1_4 => kx_is); (case q2_4 => kx_is); (case q3_4 => k_is)
    (case q4_4 => k_is); (case q5_4 => k_is); (case q6_4 => k_is); (case q7_4 => k_is); (case q8_4 => k_is); (case q9_4 => k_is); (case r2_4 => k_is); (case r5_4 => k_is)
    (case f1_4 => k_is); (case f2_4 => k_is); (case lx4 => k_is); (case cx4 => k_is); (case hx4 => k_is); (case no4 => k_is); (case pa5 => k_is); (case q1_5 => kx_is)
    (case q2_5 => kx_is); (case q3_5 => k_is); (case q4_5 => k_is); (case q5_5 => k_is); (case q6_5 => k_is); (case q7_5 => k_is); (case q8_5 => k_is); (case q9_5 => k_is)
    (case r2_5 => k_is); (case r5_5 => k_is); (case f1_5 => k_is); (case f2_5 => k_is); (case lx5 => k_is); (case cx5 => k_is); (case hx5 => k_is); (case no5 => k_is)
    (case pa6 => k_is); (case q1_6 => kx_is); (case q2_6 => kx_is); (case q3_6 => k_is); (case q4_6 => k_is); (case q5_6 => k_is); (case q6_6 => k_is); (case q7_6 => k_is)
    (case q8_6 => k_is); (case q9_6 => k_is); (case r2_6 => k_is); (case r5_6 => k_is); (case f1_6 => k_is); (case f2_6 => k_is); (case lx6 => k_is); (case cx6 => k_is)
    (case hx6 => k_is); (case pa7 => k_is); (case q1_7 => kx_is); (case q2_7 => kx_is); (case q3_7 => k_is); (case q4_7 => k_is); (case q5_7 => k_is); (case q6_7 => k_is)
    (case q7_7 => k_is); (case q8_7 => k_is); (case q9_7 => k_is); (case r2_7 => k_is); (case r5_7 => k_is); (case f1_7 => k_is); (case f2_7 => k_is); (case lx7 => k_is)
    (case cx7 => k_is); (case hx7 => k_is); (case pa8 => k_is); (case q1_8 => kx_is); (case q2_8 => kx_is); (case q3_8 => k_is); (case q4_8 => k_is); (case q5_8 => k_is)
    (case q6_8 => k_is); (case q7_8 => k_is); (case q8_8 => k_is); (case q9_8 => k_is); (case r2_8 => k_is); (case r5_8 => k_is); (case f1_8 => k_is); (case f2_8 => k_is)
    (case lx8 => k_is); (case cx8 => k_is); (case hx8 => k_is); (case e1_LookupError => kit_is); (case e1_ValueError => kit_is); (case e1_TypeError => kit_is); (case e1_KeyError => kit_is); (case e1_IndexError => kit_is)
    (case e1_RuntimeError => kit_is); (case e1_AttributeError => kit_is); (case e1_Exception => kit_is); (case o1_1 => kit_is); (case o1_2 => kit_is); (case o1_3 => kit_is); (case o1_4 => kit_is); (case o1_5 => kit_is)
    (case o1_6 => kit_is); (case o1_7 => kit_is); (case o1_8 => kit_is); (case e2_LookupError => kit_is); (case e2_ValueError => kit_is); (case e2_TypeError => kit_is); (case e2_KeyError => kit_is); (case e2_IndexError => kit_is)
    (case e2_RuntimeError => kit_is); (case e2_AttributeError => kit_is); (case e2_Exception => kit_is); (case o2_1 => kit_is); (case o2_2 => kit_is); (case o2_3 => kit_is); (case o2_4 => kit_is); (case o2_5 => kit_is)
    (case o2_6 => kit_is); (case o2_7 => kit_is); (case o2_8 => kit_is); (case e3_LookupError => kit_is); (case e3_ValueError => kit_is); (case e3_TypeError => kit_is); (case e3_KeyError => kit_is); (case e3_IndexError => kit_is)
    (case e3_RuntimeError => kit_is); (case e3_AttributeError => kit_is); (case e3_Exception => kit_is); (case o3_1 => kit_is); (case o3_2 => kit_is); (case o3_3 => kit_is); (case o3_4 => kit_is); (case o3_5 => kit_is)
    (case o3_6 => kit_is); (case o3_7 => kit_is); (case o3_8 => kit_is); (case e4_LookupError => kit_is); (case e4_ValueError => kit_is); (case e4_TypeError => kit_is); (case e4_KeyError => kit_is); (case e4_IndexError => kit_is)
    (case e4_RuntimeError => kit_is); (case e4_AttributeError => kit_is); (case e4_Exception => kit_is); (case o4_1 => kit_is); (case o4_2 => kit_is); (case o4_3 => kit_is); (case o4_4 => kit_is); (case o4_5 => kit_is)
    (case o4_6 => kit_is); (case o4_7 => kit_is); (case o4_8 => kit_is); (case e5_LookupError => kit_is); (case e5_ValueError => kit_is); (case e5_TypeError => kit_is); (case e5_KeyError => kit_is); (case e5_IndexError => kit_is)
    (case e5_RuntimeError => kit_is); (case e5_AttributeError => kit_is); (case e5_Exception => kit_is); (case o5_1 => kit_is); (case o5_2 => kit_is); (case o5_3 => kit_is); (case o5_4 => kit_is); (case o5_5 => kit_is)
    (case o5_6 => kit_is); (case o5_7 => kit_is); (case o5_8 => kit_is); (case e6_LookupError => kit_is); (case e6_ValueError => kit_is); (case e6_TypeError => kit_is); (case e6_KeyError => kit_is); (case e6_IndexError => kit_is)
    (case e6_RuntimeError => kit_is); (case e6_AttributeError => kit_is); (case e6_Exception => kit_is); (case o6_1 => kit_is); (case o6_2 => kit_is); (case o6_3 => kit_is); (case o6_4 => kit_is); (case o6_5 => kit_is)
    (case o6_6 => kit_is); (case o6_7 => kit_is); (case o6_8 => kit_is); (case e7_LookupError => kit_is); (case e7_ValueError => kit_is); (case e7_TypeError => kit_is); (case e7_KeyError => kit_is); (case e7_IndexError => kit_is)
    (case e7_RuntimeError => kit_is); (case e7_AttributeError => kit_is); (case e7_Exception => kit_is); (case o7_1 => kit_is); (case o7_2 => kit_is); (case o7_3 => kit_is); (case o7_4 => kit_is); (case o7_5 => kit_is)
    (case o7_6 => kit_is); (case o7_7 => kit_is); (case o7_8 => kit_is); (case e8_LookupError => kit_is); (case e8_ValueError => kit_is); (case e8_TypeError => kit_is); (case e8_KeyError => kit_is); (case e8_IndexError => kit_is)
    (case e8_RuntimeError => kit_is); (case e8_AttributeError => kit_is); (case e8_Exception => kit_is); (case o8_1 => kit_is); (case o8_2 => kit_is); (case o8_3 => kit_is); (case o8_4 => kit_is); (case o8_5 => kit_is)
    (case o8_6 => kit_is); (case o8_7 => kit_is); (case o8_8 => kit_is)
