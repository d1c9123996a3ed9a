import PyProof.Rows.All
import Wide.All
import OpenK.AllK
import Wide.FinOn
import HandS.ForMost
import HandS.TupAny
import HandS.DictComp
import HandS.IsInst
import HandS.Conv
import HandS.Wide
import KE.SortData
import KE.DataEq
import KE.KeyNested
import HandS.Style
import HandS.Defaults
import KE.KDictPairs
import PyProof.ListStr
import HandS.AnyAll
import KE.GoesMore
import PyProof.CallFns
import PyProof.CompUse
import PyProof.ReprRoads
import HandS.Rev
import KE.KRevSl
import HandS.Set
import HandS.Strs
import HandS.SetKeys
import HandS.SetBool
import HandS.SetFor
import HandS.TupSets
import HandS.Comp
import HandS.TupMul
import KE.DataMinMax
import HandS.TupLe
import KE.KDictZip
import KE.KItemsList
import HandS.Zip
import HandS.ListItems
import HandS.ExcInit
import HandS.ExcIs
import HandS.ExcField
import HandS.WordsExc
import HandS.Dict
import KE.GoesZip
import KE.GoesEnum
import HandS.Text
import HandS.FStr
import HandS.RaiseMore
import HandS.TryOnly
import PyProof.StrLawsIn
import PyProof.StrLawsRepr
import PySem.Challenge.RW_samereading_k50_items_written_and_read
set_option Elab.async false
set_option linter.all false
set_option maxRecDepth 100000
set_option exponentiation.threshold 2000
/-! A layer over HandS: Python's values as data (PyData); lists that a def changes stand in its slots as its own. -/
namespace DL
open PySem PySem.Spec PyProof.Rows L2

abbrev D := PyData
def keyD : Key → D
  | .inl i => .int i
  | .inr s => .str s

/-- a plain tuple: tracked with its object, or a constant -/
def TupK (K : PySem.W.Frag) (H : Hp) (a : Addr) (xs : List V) : Prop :=
  (∃ o : Obj, o.dict = none ∧ H a = some (.frz o (.tup xs))) ∨
    ∃ (o : Obj) (its : Array Value) (n : Nat), K.lookup a = some o ∧ o.cls = .type "tuple" ∧ o.dict = none ∧ o.data = .seq its n ∧ its.size ≤ sizeLine ∧ Vals xs its.toList
theorem TupK.sqT {K : PySem.W.Frag} {H : Hp} {a : Addr} {xs : List V} (h : TupK K H a xs) : SqT K H a xs := by
  rcases h with ⟨o, _, h⟩ | ⟨o, its, n, h1, h2, _, h4, h5, h6⟩
  · exact .inl (.inr ⟨o, h⟩)
  · exact .inr ⟨o, its, n, h1, h2, h4, h5, h6⟩
mutual
/-- v is the data d, of objects that never change -/
inductive Is (K : PySem.W.Frag) (H : Hp) : V → D → Prop
  | non : Is K H .non .none
  | bl (b : Bool) : Is K H (.bl b) (.bool b)
  | int (i : Int) : Is K H (.int i) (.int i)
  | str (x : Str) : Is K H (.str x) (.str x)
  | lst {a : Addr} {o : Obj} {xs : List V} {ds : List D} : H a = some (.frz o (.lst xs)) → IsAll K H xs ds → Is K H (.ref a) (.list ds)
  | tup {a : Addr} {xs : List V} {ds : List D} : TupK K H a xs → IsAll K H xs ds → Is K H (.ref a) (.tuple ds)
  | dct {a : Addr} {o : Obj} {kvs : List (Key × V)} {es : List (D × D)} : H a = some (.frz o (.dK kvs)) → IsKv K H kvs es → Is K H (.ref a) (.dict es)
inductive IsAll (K : PySem.W.Frag) (H : Hp) : List V → List D → Prop
  | nil : IsAll K H [] []
  | cons {v : V} {vs : List V} {d : D} {ds : List D} : Is K H v d → IsAll K H vs ds → IsAll K H (v :: vs) (d :: ds)
inductive IsKv (K : PySem.W.Frag) (H : Hp) : List (Key × V) → List (D × D) → Prop
  | nil : IsKv K H [] []
  | cons {k : Key} {v : V} {vs : List (Key × V)} {d : D} {ds : List (D × D)} : Is K H v d → IsKv K H vs ds → IsKv K H ((k, v) :: vs) ((keyD k, d) :: ds)
end

def fixd : HO → Bool
  | .tup _ => true
  | .frz _ _ => true
  | _ => false
/-- what never changes has stayed -/
def Fx (H H' : Hp) : Prop := ∀ a o, fixd o = true → H a = some o → H' a = some o
theorem Fx.refl (H : Hp) : Fx H H := fun _ _ _ h => h
theorem Fx.trans {H H1 H2 : Hp} (a : Fx H H1) (b : Fx H1 H2) : Fx H H2 := fun c o f h => b c o f (a c o f h)
theorem Same.fx {H H' : Hp} (e : Same H H') : Fx H H' := fun a o _ h => e a o h
theorem Fx.sqT {K : PySem.W.Frag} {H H' : Hp} {a : Addr} {xs : List V} (e : Fx H H') (h : SqT K H a xs) : SqT K H' a xs := by
  rcases h with (h | ⟨o, h⟩) | h
  · exact .inl (.inl (e _ _ rfl h))
  · exact .inl (.inr ⟨o, e _ _ rfl h⟩)
  · exact .inr h
theorem Fx.tupK {K : PySem.W.Frag} {H H' : Hp} {a : Addr} {xs : List V} (e : Fx H H') (h : TupK K H a xs) : TupK K H' a xs := by
  rcases h with ⟨o, d, h⟩ | h
  · exact .inl ⟨o, d, e _ _ rfl h⟩
  · exact .inr h
mutual
theorem Is.mono {K : PySem.W.Frag} {H H' : Hp} (e : Fx H H') : ∀ (d : D) (v : V), Is K H v d → Is K H' v d
  | .none, _, h => by cases h; exact .non
  | .bool b, _, h => by cases h; exact .bl b
  | .int i, _, h => by cases h; exact .int i
  | .str x, _, h => by cases h; exact .str x
  | .list ds, _, h => by
    cases h with
    | lst h1 h2 => exact .lst (e _ _ rfl h1) (IsAll.mono e ds _ h2)
  | .tuple ds, _, h => by
    cases h with
    | tup h1 h2 => exact .tup (e.tupK h1) (IsAll.mono e ds _ h2)
  | .dict es, _, h => by
    cases h with
    | dct h1 h2 => exact .dct (e _ _ rfl h1) (IsKv.mono e es _ h2)
theorem IsAll.mono {K : PySem.W.Frag} {H H' : Hp} (e : Fx H H') : ∀ (ds : List D) (vs : List V), IsAll K H vs ds → IsAll K H' vs ds
  | [], _, h => by cases h; exact .nil
  | d :: ds, _, h => by
    cases h with
    | cons h1 h2 => exact .cons (Is.mono e d _ h1) (IsAll.mono e ds _ h2)
theorem IsKv.mono {K : PySem.W.Frag} {H H' : Hp} (e : Fx H H') : ∀ (ds : List (D × D)) (vs : List (Key × V)), IsKv K H vs ds → IsKv K H' vs ds
  | [], _, h => by cases h; exact .nil
  | (k, d) :: ds, _, h => by
    cases h with
    | cons h1 h2 => exact .cons (Is.mono e d _ h1) (IsKv.mono e ds _ h2)
end
section
variable {K : PySem.W.Frag} {H H' : Hp}
theorem IsAll.length : ∀ {vs : List V} {ds : List D}, IsAll K H vs ds → vs.length = ds.length
  | _, _, .nil => rfl
  | _, _, .cons _ t => by rw [List.length_cons, List.length_cons, t.length]
theorem IsAll.get : ∀ {vs : List V} {ds : List D} {i : Nat} {d : D}, IsAll K H vs ds → ds[i]? = some d → ∃ v, vs[i]? = some v ∧ Is K H v d
  | _, _, _, _, .nil, e => by simp at e
  | _, _, 0, _, .cons r _, e => by simp at e; subst e; exact ⟨_, rfl, r⟩
  | _, _, i + 1, d, .cons _ t, e => by
    obtain ⟨u, h1, h2⟩ := IsAll.get (i := i) (d := d) t (by simpa using e)
    exact ⟨u, by simpa using h1, h2⟩
theorem IsAll.getV : ∀ {vs : List V} {ds : List D} {i : Nat} {v : V}, IsAll K H vs ds → vs[i]? = some v → ∃ d, ds[i]? = some d ∧ Is K H v d
  | _, _, _, _, .nil, e => by simp at e
  | _, _, 0, _, .cons r _, e => by simp at e; subst e; exact ⟨_, rfl, r⟩
  | _, _, i + 1, d, .cons _ t, e => by
    obtain ⟨u, h1, h2⟩ := IsAll.getV (i := i) t (by simpa using e)
    exact ⟨u, by simpa using h1, h2⟩
theorem IsAll.append : ∀ {vs ws : List V} {ds es : List D}, IsAll K H vs ds → IsAll K H ws es → IsAll K H (vs ++ ws) (ds ++ es)
  | _, _, _, _, .nil, s => s
  | _, _, _, _, .cons r t, s => .cons r (IsAll.append t s)
theorem IsAll.one {v : V} {d : D} (h : Is K H v d) : IsAll K H [v] [d] := .cons h .nil
theorem IsAll.take : ∀ {vs : List V} {ds : List D} (n : Nat), IsAll K H vs ds → IsAll K H (vs.take n) (ds.take n)
  | _, _, 0, _ => .nil
  | _, _, _ + 1, .nil => .nil
  | _, _, n + 1, .cons r t => .cons r (IsAll.take n t)
theorem IsAll.drop : ∀ {vs : List V} {ds : List D} (n : Nat), IsAll K H vs ds → IsAll K H (vs.drop n) (ds.drop n)
  | _, _, 0, r => r
  | _, _, _ + 1, .nil => .nil
  | _, _, n + 1, .cons _ t => IsAll.drop n t
theorem IsAll.eraseIdx : ∀ {vs : List V} {ds : List D} (n : Nat), IsAll K H vs ds → IsAll K H (vs.eraseIdx n) (ds.eraseIdx n)
  | _, _, _, .nil => .nil
  | _, _, 0, .cons r t => t
  | _, _, n + 1, .cons r t => .cons r (IsAll.eraseIdx n t)
theorem IsAll.set {v : V} {d : D} (r : Is K H v d) : ∀ {vs : List V} {ds : List D} (n : Nat), IsAll K H vs ds → IsAll K H (vs.set n v) (ds.set n d)
  | _, _, _, .nil => .nil
  | _, _, 0, .cons _ t => .cons r t
  | _, _, n + 1, .cons q t => .cons q (IsAll.set r n t)
theorem IsAll.dropLast {vs : List V} {ds : List D} (h : IsAll K H vs ds) : IsAll K H vs.dropLast ds.dropLast := by
  rw [List.dropLast_eq_take, List.dropLast_eq_take, h.length]
  exact h.take _
/-- data without dicts is HandS's data -/
theorem plain_dict_false {es : List (D × D)} (h : PyData.plain (.dict es) = true) : False := by simp [PyData.plain] at h
mutual
theorem Is.dp : ∀ (d : D) (v : V), d.plain = true → Is K H v d → Dp K H v d
  | .none, _, _, h => by cases h; exact .non
  | .bool b, _, _, h => by cases h; exact .bl b
  | .int i, _, _, h => by cases h; exact .int i
  | .str x, _, _, h => by cases h; exact .str x
  | .list ds, _, p, h => by
    cases h with
    | lst h1 h2 => exact .lst (.inl (.inr ⟨_, h1⟩)) (IsAll.dp ds _ (by simpa only [PyData.plain] using p) h2)
  | .tuple ds, _, p, h => by
    cases h with
    | tup h1 h2 => exact .tup h1.sqT (IsAll.dp ds _ (by simpa only [PyData.plain] using p) h2)
  | .dict es, _, p, h => (plain_dict_false p).elim
theorem IsAll.dp : ∀ (ds : List D) (vs : List V), PyData.plainAll ds = true → IsAll K H vs ds → DpAll K H vs ds
  | [], _, _, h => by cases h; exact .nil
  | d :: ds, _, p, h => by
    cases h with
    | cons h1 h2 =>
      simp only [PyData.plainAll, Bool.and_eq_true] at p
      exact .cons (Is.dp d _ p.1 h1) (IsAll.dp ds _ p.2 h2)
end
end

/-! ### a list of one's own is frozen -/
theorem Inv.freeze {X : Cx} {pins : List (Addr × Obj)} {σ : L2.St} {H : Hp} {s : Shared} {a : Addr} {u : HO} (I : Inv X pins σ H s) (ha : H a = some u) (hu : Mut (some u)) (hx : ∀ C dx fs, u ≠ .ins C dx fs) (hx' : ∀ φ, u ≠ .ext φ) : ∃ o, Inv X pins σ (upd H a (.frz o u)) s := by
  have ok := I.hok a u ha
  have ex : ∃ o, s.heap.get? a = some o := by
    cases u with
    | lst xs => obtain ⟨_, _, _, _, e⟩ := ok; exact ⟨_, e⟩
    | dK kvs => obtain ⟨_, _, _, _, o, _, _, e, _⟩ := ok; exact ⟨_, e⟩
    | dT kvs => obtain ⟨_, _, _, _, o, _, _, e, _⟩ := ok; exact ⟨_, e⟩
    | set S n => obtain ⟨o, _, _, _, e, _⟩ := ok; exact ⟨_, e⟩
    | ins C dx fs => exact absurd rfl (hx C dx fs)
    | ext φ => exact absurd rfl (hx' φ)
    | _ => exact hu.elim
  obtain ⟨o, ho⟩ := ex
  have nm : ∀ b w, H b = some w → ¬ Mut (some w) → b ≠ a := fun b w q n z => by
    rw [z, ha] at q
    cases q
    exact n hu
  have nn : ∀ b, H b = none → b ≠ a := fun b q z => by rw [z, ha] at q; cases q
  have hdT : ∀ b w, (b ≠ a ∧ H b = some w) ∨ (b = a ∧ w = u) → ObjOk X.prog X.w (upd H a (.frz o u)) s.heap b w := fun b w z => by
    have e : H b = some w := by
      rcases z with ⟨_, e⟩ | ⟨rfl, rfl⟩
      · exact e
      · exact ha
    exact (I.hok b w e).stay (fun c v _ q => q) (fun c q => by rw [upd_ne (nm c _ q fun z => z)]; exact q) fun c xs q => by rw [upd_ne (nm c _ q fun z => z)]; exact q
  refine ⟨o, I.ok, I.os, I.bare, ⟨fun b w => I.base.keep b w, fun b w => I.base.slot b w, fun b w e n hx => ?_, I.base.there, fun b xs q => ?_, fun b w v q => ?_, fun b ps q => ?_⟩, I.loc, I.cell, ?_, fun x c e => ?_, fun p hp => ?_, fun b w q => ?_, I.len⟩
  · have q := I.base.free b w e n hx
    rw [upd_ne (nn b q)]; exact q
  · have q := I.base.tups b xs q
    rw [upd_ne (nm b _ q fun z => z)]; exact q
  · have q := I.base.frzs b w v q
    rw [upd_ne (nm b _ q fun z => z)]; exact q
  · obtain ⟨more, q⟩ := I.base.tbls b ps q
    exact ⟨more, by rw [upd_ne (nm b _ q fun z => z)]; exact q⟩
  · rw [upd_ne (nn _ I.free)]; exact I.free
  · rw [upd_ne (nn _ (I.freeC x c e))]; exact I.freeC x c e
  · obtain ⟨e, n, r⟩ := I.pin p hp
    exact ⟨e, by rw [upd_ne (nn _ n)]; exact n, r⟩
  · by_cases hb : b = a
    · subst hb
      rw [upd_same] at q
      cases q
      exact ⟨ho, hdT _ _ (.inr ⟨rfl, rfl⟩)⟩
    · rw [upd_ne hb] at q
      exact hdT _ _ (.inl ⟨hb, q⟩)
/-- a tuple just made -/
theorem Inv.newTup {X : Cx} {pins : List (Addr × Obj)} {σ : L2.St} {H : Hp} {s : Shared} {xs : List V} {its : List Value} (I : Inv X pins σ H s) (r : Vals xs its) (hz : xs.length ≤ sizeLine) (tk : Nat) :
    ∃ o : Obj, o.dict = none ∧ H s.heap.objs.size = none ∧ Inv X pins σ (upd H s.heap.objs.size (.frz o (.tup xs))) { s with heap := s.heap.push { cls := .type "tuple", data := .seq its.toArray }, toks := tk } := by
  refine ⟨{ cls := .type "tuple", data := .seq its.toArray }, rfl, I.hok.fresh (Nat.le_refl _), I.laid (t' := tk) (fun b ob q => Heap.get?_push_of_some _ q) (Nat.le_refl _) ?_⟩
  exact ⟨Heap.get?_push_size _ rfl, hz, its, r, IsTup.new _ _⟩
/-- a tuple of written items, its object told -/
def tTupZ (t : TA) : TE := fun σ H Q => t σ H fun xs H1 => xs.length ≤ sizeLine ∧ ∀ (p : Addr) (o : Obj), H1 p = none → o.dict = none → Q (.ref p) (upd H1 p (.frz o (.tup xs)))
theorem pe_tupZ {X : Cx} {es : List Expr} {t : TA} {pos : Pos} {x1} (h : PA X es t) : PE X (.Tuple es x1 pos) (tTupZ t) := by
  refine ⟨fun pins s σ H Q I hq => ?_⟩
  refine wpAny_Tuple_spliced (thn (h.run pos pins s σ H _ I hq) fun us s1 ⟨xs, H1, I1, r, z, q⟩ => ⟨by rw [← r.length]; exact z, ?_⟩)
  obtain ⟨o, d, n, I2⟩ := Inv.newTup I1 r z s1.toks
  exact ⟨.ref s1.heap.objs.size, _, I2, rfl, q _ o n d⟩
def rCatZ (K : PySem.W.Frag) : R2 := fun x y H Q => ∃ a b xs ys, x = .ref a ∧ y = .ref b ∧ SqT K H a xs ∧ SqT K H b ys ∧ xs.length + ys.length ≤ sizeLine ∧
  (xs = [] → Q (.ref b) H) ∧ (xs ≠ [] → ys = [] → Q (.ref a) H) ∧ (xs ≠ [] → ys ≠ [] → ∀ (p : Addr) (o : Obj), H p = none → o.dict = none → Q (.ref p) (upd H p (.frz o (.tup (xs ++ ys)))))
theorem op_catZ {X : Cx} : OpR X (binaryOp .Add) (rCatZ X.K) := by
  intro pins s σ H x y v u Q I rx ry h
  obtain ⟨a, b, xs, ys, rfl, rfl, ha, hb, hz, q0, q1, q2⟩ := h
  by_cases hx : xs = []
  · subst hx
    cases rx
    cases ry
    obtain ⟨its, r1, p1, _⟩ := I.tuple ha
    obtain ⟨its2, r2, p2, _⟩ := I.tuple hb
    cases r1
    exact cat_tup0 p1 p2 ⟨.ref b, H, I, rfl, q0 rfl⟩
  · cases rx
    cases ry
    obtain ⟨its, r1, p1, _⟩ := I.tuple ha
    obtain ⟨its2, r2, p2, _⟩ := I.tuple hb
    refine HT.cat_tup p1 p2 (fun z => hx (r1.nil_iff.mp z)) (fun z => ⟨.ref a, H, I, rfl, q1 hx (r2.nil_iff.mp z)⟩) (fun z => ?_) (by rw [← r1.length, ← r2.length]; exact hz)
    obtain ⟨o, d, n, I2⟩ := Inv.newTup I (r1.append r2) (by rw [List.length_append]; exact hz) s.toks
    exact ⟨.ref s.heap.objs.size, _, I2, rfl, q2 hx (fun w => z (r2.nil_iff.mpr w)) _ o n d⟩
def rSlZ (K : PySem.W.Frag) : V → Option Int → Option Int → Hp → VK → Prop := fun x lo hi H Q => ∃ a xs, x = .ref a ∧ SqT K H a xs ∧
  (HT.sIx xs.length 0 lo = 0 ∧ HT.sIx xs.length xs.length hi = xs.length → Q (.ref a) H) ∧ (¬ (HT.sIx xs.length 0 lo = 0 ∧ HT.sIx xs.length xs.length hi = xs.length) → ∀ (p : Addr) (o : Obj), H p = none → o.dict = none → Q (.ref p) (upd H p (.frz o (.tup (cutV xs lo hi)))))
theorem sl_tupZ {X : Cx} : SlR X (rSlZ X.K) := by
  intro pins s σ H x v vl vu lo hi sl Q I rx hs pl pu h
  obtain ⟨a, xs, rfl, hx, q1, q2⟩ := h
  cases rx
  obtain ⟨its, r, ht, hz⟩ := I.tuple hx
  have hlen : its.toArray.size = xs.length := by rw [List.size_toArray]; exact r.length.symm
  refine ⟨"tuple", _, PyProof.Rows.slot_tuple_getitem.lookup, ht.typeIs, ?_⟩
  by_cases hw : HT.sIx xs.length 0 lo = 0 ∧ HT.sIx xs.length xs.length hi = xs.length
  · exact getItem_tuple_whole ht hs pl pu (by rw [hlen]; exact hw) ⟨.ref a, H, I, rfl, q1 hw⟩
  · refine HT.getItem_tuple_cut ht hs pl pu (by rw [hlen]; exact hw) ?_ (by rw [hlen]; exact hz)
    rw [hlen]
    obtain ⟨o, d, n, I2⟩ := Inv.newTup I ((r.drop (HT.sIx xs.length 0 lo)).take (HT.sIx xs.length xs.length hi - HT.sIx xs.length 0 lo)) (Nat.le_trans (cutV_length xs lo hi) hz) s.toks
    exact ⟨.ref s.heap.objs.size, _, I2, rfl, q2 hw _ o n d⟩
theorem call_tuple_z {X : Cx} : CallR X (.type "tuple") (fun xs H Q => ∃ p ys, xs = [.ref p] ∧ ((SqL X.K H p ys ∧ ∀ (l : Addr) (o : Obj), H l = none → o.dict = none → Q (.ref l) (upd H l (.frz o (.tup ys)))) ∨ (SqT X.K H p ys ∧ Q (.ref p) H))) := by
  intro pins s σ H xs us Q I r h
  obtain ⟨p, ys, rfl, h⟩ := h
  obtain ⟨u, rfl, rx⟩ := vals1 r
  cases rx
  rcases h with ⟨hq, q⟩ | ⟨hq, q⟩
  · obtain ⟨its, r', pl, hz⟩ := I.list hq
    have hlen := r'.length
    refine call_tuple_list pl.isList (fun h' kp => ?_) (by simp only [List.size_toArray] <;> omega)
    have I1 : Inv X pins σ H { s with heap := h' } := I.kept (t' := s.toks) kp
    obtain ⟨o, d, n, I2⟩ := Inv.newTup I1 r' hz s.toks
    exact ⟨.ref h'.objs.size, _, I2, rfl, q _ o n d⟩
  · obtain ⟨its, r', pl, hz⟩ := I.tuple hq
    exact call_tuple_same pl ⟨.ref p, H, I, rfl, q⟩
end DL
/-! A dict whose keys are ints and (nested) tuples, mixed: in, d[k] = v. -/
namespace DL
open PySem PySem.Spec PyProof.Rows

abbrev NK := NestedKey
/-- an entry: the key as data, the key, its value -/
abbrev ME := NK × Value × Value
def topKey : Value → Bool
  | .int _ _ => true
  | .ref _ => true
  | _ => false
def entM (w : World) (x : ME) : DictEntry := ⟨x.1.hash w, x.2.1, x.2.2⟩
def KeyOk (h : Heap) (k : NK) (v : Value) : Prop := NestedIs h k v ∧ k.depth ≤ 8 ∧ topKey v = true
def MixOf (w : World) (h : Heap) (d : Addr) (xs : List ME) : Prop :=
  ∃ o es ep, h.get? d = some o ∧ o.ExactDict ∧ o.data = .dict es ep ∧ es.toList = xs.map (entM w) ∧ (∀ x ∈ xs, KeyOk h x.1 x.2.1) ∧ (xs.map (·.1)).Nodup
section
variable {prog : Program} {w : World} {A : Around} {E : Value → Shared → Prop} {s : Shared}
theorem eq_mix {x y : NK} {a b : Value} {Q : Bool → Shared → Prop} (hu : A.units + 8 < cLine) (ha : KeyOk s.heap x a) (hb : KeyOk s.heap y b) (h : Q (decide (x = y)) s) : wpAny (model prog w) A (eqBool a b) Q E s :=
  eqAt_key x y A s a b ha.1 hb.1 (by have := ha.2.1; omega) prog w E Q (by rw [← NestedKey.decide_eq]; exact h)
theorem ent_at {es : Array DictEntry} {xs : List ME} (he : es.toList = xs.map (entM w)) (j : Nat) : es[j]? = (xs[j]?).map (entM w) := by
  rw [← Array.getElem?_toList, he, List.getElem?_map]
theorem ent_size {es : Array DictEntry} {xs : List ME} (he : es.toList = xs.map (entM w)) : es.size = xs.length := by
  rw [← Array.length_toList, he, List.length_map]
theorem key_once {xs : List ME} (hn : (xs.map (·.1)).Nodup) {i j : Nat} {k : NK} {p q : Value × Value} (hi : xs[i]? = some (k, p)) (hj : xs[j]? = some (k, q)) : i = j := by
  have hi' : (xs.map (·.1))[i]? = some k := by rw [List.getElem?_map, hi]; rfl
  have hj' : (xs.map (·.1))[j]? = some k := by rw [List.getElem?_map, hj]; rfl
  exact (List.getElem?_inj (List.getElem?_eq_some_iff.mp hi').1 hn).mp (hi'.trans hj'.symm)
/-- no key k ahead of place i, or it stands at hit -/
def Seen (xs : List ME) (k : NK) (i : Nat) (hit : Option Nat) : Prop := (hit = none ∧ ∀ j p, j < i → xs[j]? ≠ some (k, p)) ∨ ∃ j p, hit = some j ∧ j < i ∧ xs[j]? = some (k, p)
theorem Seen.skip {xs : List ME} {k : NK} {i x : Nat} {hit : Option Nat} (h : Seen xs k i hit) (hx : i ≤ x) (hs : ∀ j, i ≤ j → j < x → ∀ p, xs[j]? ≠ some (k, p)) : Seen xs k x hit := by
  rcases h with ⟨h0, hno⟩ | ⟨j, p, h1, hji, hj⟩
  · refine .inl ⟨h0, fun j p hjx hj => ?_⟩
    by_cases hlt : j < i
    · exact hno j p hlt hj
    · exact hs j (by omega) hjx p hj
  · exact .inr ⟨j, p, h1, by omega, hj⟩
theorem Seen.other {xs : List ME} {k k' : NK} {x : Nat} {p : Value × Value} {hit : Option Nat} (h : Seen xs k x hit) (hx : xs[x]? = some (k', p)) (hne : ¬ k' = k) : Seen xs k (x + 1) hit :=
  h.skip (Nat.le_succ x) fun j h1 h2 q hq => by
    have : j = x := by omega
    subst this
    rw [hx] at hq
    injection hq with hq
    injection hq with hq
    exact hne hq
variable {d : Addr} {o : Obj} {es : Array DictEntry} {ep : Nat} {xs : List ME} {k : NK} {v : Value} {Q : Option Nat → Shared → Prop}
theorem mix_find (hu : A.units + 8 < cLine) (hk : KeyOk s.heap k v) (ho : s.heap.get? d = some o) (hd : o.data = .dict es ep) (he : es.toList = xs.map (entM w)) (his : ∀ x ∈ xs, KeyOk s.heap x.1 x.2.1) (hn : (xs.map (·.1)).Nodup)
    (hnone : (∀ (j : Nat) (p : Value × Value), xs[j]? ≠ some (k, p)) → Q none s) (hsome : ∀ (j : Nat) (p : Value × Value), xs[j]? = some (k, p) → Q (some j) s) :
    wpAny (model prog w) A (dictFind d v (k.hash w)) Q E s := by
  have hsz : es.size = xs.length := ent_size he
  have haskey : ∀ (j : Nat) (p : Value × Value), xs[j]? = some (k, p) → ((es[j]?.map (·.hash)) == some (k.hash w)) = true := fun j p hj => by
    rw [ent_at he j, hj]
    simp [entM]
  have skips : ∀ {i x : Nat}, (∀ j, i ≤ j → j < x → ((es[j]?.map (·.hash)) == some (k.hash w)) = false) → ∀ j, i ≤ j → j < x → ∀ p, xs[j]? ≠ some (k, p) := fun h j h1 h2 p hj => by
    have := h j h1 h2
    rw [haskey j p hj] at this
    cases this
  have hend : ∀ {i : Nat} {hit : Option Nat}, [] = (List.range' i (es.size - i)).filter (fun i => (es[i]?.map (·.hash)) == some (k.hash w)) → i ≤ es.size → Seen xs k i hit → Q hit s := by
    intro i hit hr hi hH
    rcases hH with ⟨rfl, hno⟩ | ⟨j, p, rfl, _, hj⟩
    · refine hnone fun j p hj => ?_
      by_cases hlt : j < i
      · exact hno j p hlt hj
      · have hjl : j < es.size := by
          rw [hsz]
          exact (List.getElem?_eq_some_iff.mp hj).1
        have := List.filter_eq_nil_iff.mp hr.symm j (List.mem_range'_1.mpr ⟨by omega, by omega⟩)
        rw [haskey j p hj] at this
        exact this rfl
    · exact hsome j p hj
  have hmem : ∀ e ∈ es, ∃ x ∈ xs, e = entM w x := fun e hin => by
    have : e ∈ xs.map (entM w) := he ▸ Array.mem_toList_iff.mpr hin
    obtain ⟨x, hx, rfl⟩ := List.mem_map.mp this
    exact ⟨x, hx, rfl⟩
  have hst : ∀ u ∈ (placesWithHash es.size (fun i => es[i]?.map (·.hash)) (k.hash w)).filterMap (fun i => es[i]?.map (·.key)), ∃ x ∈ xs, u = x.2.1 := by
    intro u hv
    obtain ⟨i, _, hi⟩ := List.mem_filterMap.mp hv
    cases hei : es[i]? with
    | none => rw [hei] at hi; cases hi
    | some e =>
      rw [hei] at hi
      obtain rfl : e.key = u := by simpa using hi
      obtain ⟨x, hx, rfl⟩ := hmem e (Array.mem_of_getElem? hei)
      exact ⟨x, hx, rfl⟩
  have hquiet : ∀ {u : Value} {x : NK}, KeyOk s.heap x u → QuietAt prog w 8 s u := fun {u x} h => quiet_key x u 8 s h.1 h.2.1
  have mayTell : ∀ (C : Bool → Shared → Prop), C false s → wpAny (model prog w) A (tableMayTell v ((placesWithHash es.size (fun i => es[i]?.map (·.hash)) (k.hash w)).filterMap (fun i => es[i]?.map (·.key)))) C E s := by
    intro C h
    unfold tableMayTell
    split
    · exact wpAny_pure h
    · refine wpAny_bind (hquiet hk A E _ ?_)
      simp only [Bool.not_true, Bool.false_eq_true, if_false]
      refine wpAny_bind ?_
      refine wpAny_forIn_list _ (fun rest r s' => s' = s ∧ r = (none, ()) ∧ ∀ u ∈ rest, ∃ x ∈ xs, u = x.2.1) _ ?_ ?_ _ _ ⟨rfl, rfl, hst⟩
      · rintro x rest r s' ⟨rfl, rfl, hr⟩
        obtain ⟨y, hy, rfl⟩ := hr x List.mem_cons_self
        refine wpAny_bind (hquiet (his y hy) A E _ ?_)
        simp only [Bool.not_true, Bool.false_eq_true, if_false]
        exact wpAny_pure ⟨rfl, rfl, fun u hu => hr u (List.mem_cons_of_mem _ hu)⟩
      · rintro r s' ⟨rfl, rfl, _⟩
        exact wpAny_pure h
  -- the walk where all is carried by value
  have plain : wpAny (model prog w) A (dictWalkPlain d v (k.hash w) es (placesWithHash es.size (fun i => es[i]?.map (·.hash)) (k.hash w))) Q E s := by
    refine wpAny_bind ?_
    refine wpAny_forIn_list _ (fun rest b s' => s' = s ∧ b = (none, ()) ∧ ∃ i, rest = (List.range' i (es.size - i)).filter (fun i => (es[i]?.map (·.hash)) == some (k.hash w)) ∧ i ≤ es.size ∧ Seen xs k i none) _ ?_ ?_ _ _
      ⟨rfl, rfl, 0, by rw [placesWithHash, List.range_eq_range', Nat.sub_zero], Nat.zero_le _, .inl ⟨rfl, fun _ _ h => absurd h (Nat.not_lt_zero _)⟩⟩
    · rintro x rest b s' ⟨rfl, rfl, i, hr, hi, hno⟩
      obtain ⟨hix, hxn, hpx, hskip, hrest⟩ := filter_range'_cons _ _ _ _ _ hr.symm
      have hlt : x < es.size := by omega
      obtain ⟨⟨k', b, v'⟩, hkv⟩ : ∃ y, xs[x]? = some y := ⟨xs[x]'(by rw [← hsz]; exact hlt), List.getElem?_eq_getElem _⟩
      have hib : KeyOk s'.heap k' b := his _ (List.mem_of_getElem? hkv)
      have hex : es[x]? = some ⟨k'.hash w, b, v'⟩ := by rw [ent_at he x, hkv]; rfl
      have hH := hno.skip hix (skips hskip)
      have hrest' : rest = (List.range' (x + 1) (es.size - (x + 1))).filter (fun i => (es[i]?.map (·.hash)) == some (k.hash w)) := by rw [hrest]; congr 2; omega
      rw [hex]
      dsimp only
      by_cases hh : (k'.hash w == k.hash w) = true
      · rw [if_pos hh]
        refine wpAny_bind (wpAny_dictEpoch ho hd (wpAny_bind (eq_mix hu hib hk (wpAny_bind (wpAny_dictEpoch ho hd ?_)))))
        show wpAny _ _ (if (ep != ep) = true then _ else _) _ E _
        rw [if_neg (by simp)]
        by_cases hkk : k' = k
        · rw [decide_eq_true hkk]
          subst hkk
          first | rw [if_pos rfl] | skip
          first
            | exact wpAny_bind (wpAny_rule (wpAny_pure (wpAny_pure (hsome x _ hkv))))
            | exact wpAny_bind (wpAny_bind (wpAny_rule (wpAny_pure (wpAny_pure (hsome x _ hkv)))))
        · rw [decide_eq_false hkk]
          simp only [Bool.false_eq_true, if_false]
          first
            | exact wpAny_bind (wpAny_rule (wpAny_pure ⟨rfl, rfl, x + 1, hrest', hlt, hH.other hkv hkk⟩))
            | exact wpAny_bind (wpAny_pure (wpAny_bind (wpAny_rule (wpAny_pure ⟨rfl, rfl, x + 1, hrest', hlt, hH.other hkv hkk⟩))))
      · rw [if_neg hh]
        refine wpAny_pure ⟨rfl, rfl, x + 1, hrest', hlt, hH.other hkv fun hkk => ?_⟩
        rw [hkk] at hh; simp at hh
    · rintro b s' ⟨rfl, rfl, i, hr, hi, hH⟩
      exact wpAny_pure (hend hr hi hH)
  obtain ⟨h1, h2, h3⟩ := id hk
  have hany : ∀ a, v = .ref a → ¬ (es.any fun e => e.key == Value.ref a && e.hash != k.hash w) = true := by
    intro a ea
    rw [← Array.any_toList, List.any_eq_true]
    rintro ⟨e, hin, hc⟩
    obtain ⟨x, hx, rfl⟩ := hmem e (Array.mem_toList_iff.mp hin)
    simp only [entM, Bool.and_eq_true, beq_iff_eq, bne_iff_ne, ne_eq] at hc
    obtain ⟨hxa, hne⟩ := hc
    have := (his x hx).1
    rw [hxa, ← ea] at this
    exact hne (by rw [NestedIs.inj _ _ _ this h1])
  cases v with
  | int i t =>
    unfold dictFind
    try with_reducible refine wpAny_holding ?_
    refine wpAny_bind (wpAny_dictEntries ho hd ?_)
    dsimp only
    by_cases hall : ((Value.int i t :: (placesWithHash es.size (fun i => es[i]?.map (·.hash)) (k.hash w)).filterMap (fun i => es[i]?.map (·.key))).all carriedByValue) = true
    · rw [if_pos hall]
      exact plain
    rw [if_neg hall]
    by_cases hone : (((placesWithHash es.size (fun i => es[i]?.map (·.hash)) (k.hash w)).filterMap (fun i => es[i]?.map (·.key))) == [Value.int i t]) = true <;>
    (first | rw [if_pos hone] | rw [if_neg hone]) <;> (first | refine wpAny_bind (wpAny_pure ?_) | refine wpAny_bind (mayTell _ ?_)) <;> (
      rw [if_neg (by simp)]
      refine wpAny_bind ?_
      refine wpAny_forIn_list _ (fun rest b s' => s' = s ∧ ∃ i hit, b = (none, hit) ∧ rest = (List.range' i (es.size - i)).filter (fun i => (es[i]?.map (·.hash)) == some (k.hash w)) ∧ i ≤ es.size ∧ Seen xs k i hit) _ ?_ ?_ _ _
        ⟨rfl, 0, none, rfl, by rw [placesWithHash, List.range_eq_range', Nat.sub_zero], Nat.zero_le _, .inl ⟨rfl, fun _ _ h => absurd h (Nat.not_lt_zero _)⟩⟩
      · rintro x rest b s' ⟨rfl, i, hit, rfl, hr, hi, hH⟩
        obtain ⟨hix, hxn, hpx, hskip, hrest⟩ := filter_range'_cons _ _ _ _ _ hr.symm
        have hlt : x < es.size := by omega
        have hrest' : rest = (List.range' (x + 1) (es.size - (x + 1))).filter (fun i => (es[i]?.map (·.hash)) == some (k.hash w)) := by rw [hrest]; congr 2; omega
        obtain ⟨⟨k', b, v'⟩, hkv⟩ : ∃ y, xs[x]? = some y := ⟨xs[x]'(by rw [← hsz]; exact hlt), List.getElem?_eq_getElem _⟩
        have hib : KeyOk s'.heap k' b := his _ (List.mem_of_getElem? hkv)
        have hex : es[x]? = some ⟨k'.hash w, b, v'⟩ := by rw [ent_at he x, hkv]; rfl
        have hHx := hH.skip hix (skips hskip)
        rw [hex]
        dsimp only
        by_cases hh : (k'.hash w == k.hash w) = true
        · rw [if_pos hh]
          refine wpAny_bind (wpAny_dictEpoch ho hd (wpAny_bind (eq_mix hu hib hk (wpAny_bind (wpAny_dictEpoch ho hd ?_)))))
          show wpAny _ _ (if (ep != ep) = true then _ else _) _ E _
          rw [if_neg (by simp)]
          by_cases hkk : k' = k
          · rw [decide_eq_true hkk]
            subst hkk
            rcases hHx with ⟨rfl, _⟩ | ⟨j, p, _, hjx, hj⟩
            · first | rw [if_pos rfl] | skip
              simp only [Option.isSome_none, Bool.false_eq_true, if_false]
              first | refine wpAny_bind (wpAny_pure ?_) | skip
              refine wpAny_bind (wpAny_rule ?_)
              split
              · exact wpAny_pure (wpAny_pure (hsome x _ hkv))
              · exact wpAny_pure ⟨rfl, x + 1, some x, rfl, hrest', hlt, .inr ⟨x, _, rfl, Nat.lt_succ_self x, hkv⟩⟩
            · exact absurd (key_once hn hj hkv) (by omega)
          · rw [decide_eq_false hkk]
            simp only [Bool.false_eq_true, if_false]
            refine wpAny_bind (wpAny_rule ?_)
            first | rw [if_neg (by simp)] | skip
            first
              | exact wpAny_pure ⟨rfl, x + 1, hit, rfl, hrest', hlt, hHx.other hkv hkk⟩
              | exact wpAny_bind (wpAny_pure (wpAny_pure ⟨rfl, x + 1, hit, rfl, hrest', hlt, hHx.other hkv hkk⟩))
        · rw [if_neg hh]
          refine wpAny_pure ⟨rfl, x + 1, hit, rfl, hrest', hlt, hHx.other hkv fun hkk => ?_⟩
          rw [hkk] at hh; simp at hh
      · rintro b s' ⟨rfl, i, hit, rfl, hr, hi, hH⟩
        exact wpAny_pure (hend hr hi hH))
  | ref a =>
    unfold dictFind
    try with_reducible refine wpAny_holding ?_
    refine wpAny_bind (wpAny_dictEntries ho hd ?_)
    dsimp only
    rw [if_neg (show ¬ ((Value.ref a :: (placesWithHash es.size (fun i => es[i]?.map (·.hash)) (k.hash w)).filterMap (fun i => es[i]?.map (·.key))).all carriedByValue) = true by simp [carriedByValue])]
    rw [if_neg (hany a rfl)]
    by_cases hone : (((placesWithHash es.size (fun i => es[i]?.map (·.hash)) (k.hash w)).filterMap (fun i => es[i]?.map (·.key))) == [Value.ref a]) = true <;>
    (first | rw [if_pos hone] | rw [if_neg hone]) <;> (first | refine wpAny_bind (wpAny_pure ?_) | refine wpAny_bind (mayTell _ ?_)) <;> (
      rw [if_neg (by simp)]
      refine wpAny_bind ?_
      refine wpAny_forIn_list _ (fun rest b s' => s' = s ∧ ∃ i hit, b = (none, hit) ∧ rest = (List.range' i (es.size - i)).filter (fun i => (es[i]?.map (·.hash)) == some (k.hash w)) ∧ i ≤ es.size ∧ Seen xs k i hit) _ ?_ ?_ _ _
        ⟨rfl, 0, none, rfl, by rw [placesWithHash, List.range_eq_range', Nat.sub_zero], Nat.zero_le _, .inl ⟨rfl, fun _ _ h => absurd h (Nat.not_lt_zero _)⟩⟩
      · rintro x rest b s' ⟨rfl, i, hit, rfl, hr, hi, hH⟩
        obtain ⟨hix, hxn, hpx, hskip, hrest⟩ := filter_range'_cons _ _ _ _ _ hr.symm
        have hlt : x < es.size := by omega
        have hrest' : rest = (List.range' (x + 1) (es.size - (x + 1))).filter (fun i => (es[i]?.map (·.hash)) == some (k.hash w)) := by rw [hrest]; congr 2; omega
        obtain ⟨⟨k', b, v'⟩, hkv⟩ : ∃ y, xs[x]? = some y := ⟨xs[x]'(by rw [← hsz]; exact hlt), List.getElem?_eq_getElem _⟩
        have hib : KeyOk s'.heap k' b := his _ (List.mem_of_getElem? hkv)
        have hex : es[x]? = some ⟨k'.hash w, b, v'⟩ := by rw [ent_at he x, hkv]; rfl
        have hHx := hH.skip hix (skips hskip)
        rw [hex]
        dsimp only
        by_cases hh : (k'.hash w == k.hash w) = true
        · rw [if_pos hh]
          refine wpAny_bind (wpAny_dictEpoch ho hd (wpAny_bind (eq_mix hu hib hk (wpAny_bind (wpAny_dictEpoch ho hd ?_)))))
          show wpAny _ _ (if (ep != ep) = true then _ else _) _ E _
          rw [if_neg (by simp)]
          by_cases hkk : k' = k
          · rw [decide_eq_true hkk]
            subst hkk
            rcases hHx with ⟨rfl, _⟩ | ⟨j, p, _, hjx, hj⟩
            · first | rw [if_pos rfl] | skip
              simp only [Option.isSome_none, Bool.false_eq_true, if_false]
              first | refine wpAny_bind (wpAny_pure ?_) | skip
              refine wpAny_bind (wpAny_rule ?_)
              split
              · exact wpAny_pure (wpAny_pure (hsome x _ hkv))
              · exact wpAny_pure ⟨rfl, x + 1, some x, rfl, hrest', hlt, .inr ⟨x, _, rfl, Nat.lt_succ_self x, hkv⟩⟩
            · exact absurd (key_once hn hj hkv) (by omega)
          · rw [decide_eq_false hkk]
            simp only [Bool.false_eq_true, if_false]
            refine wpAny_bind (wpAny_rule ?_)
            first | rw [if_neg (by simp)] | skip
            first
              | exact wpAny_pure ⟨rfl, x + 1, hit, rfl, hrest', hlt, hHx.other hkv hkk⟩
              | exact wpAny_bind (wpAny_pure (wpAny_pure ⟨rfl, x + 1, hit, rfl, hrest', hlt, hHx.other hkv hkk⟩))
        · rw [if_neg hh]
          refine wpAny_pure ⟨rfl, x + 1, hit, rfl, hrest', hlt, hHx.other hkv fun hkk => ?_⟩
          rw [hkk] at hh; simp at hh
      · rintro b s' ⟨rfl, i, hit, rfl, hr, hi, hH⟩
        exact wpAny_pure (hend hr hi hH))
  | _ => cases h3
theorem mix_in {Q : Value → Shared → Prop} (hu : A.units + 10 < cLine) (hk : KeyOk s.heap k v) (hd : (d == sysModules) = false) (hm : MixOf w s.heap d xs) (neg : Bool)
    (h : ∀ tk, Q (.bool (xor neg (decide (k ∈ xs.map (·.1))))) { s with toks := tk }) : wpAny (model prog w) A (compareOp (if neg then .NotIn else .In) v (.ref d)) Q E s := by
  obtain ⟨o, es, ep, ho, hc, hda, he, his, hn⟩ := hm
  have hT : s.TypeIs (.ref d) "dict" := ⟨o, ho, hc.1⟩
  have hnone : ∀ {xs : List ME}, (∀ (j : Nat) (p : Value × Value), xs[j]? ≠ some (k, p)) → decide (k ∈ xs.map (·.1)) = false := fun {xs} h => decide_eq_false fun hm => by
    obtain ⟨x, hx, rfl⟩ := List.mem_map.mp hm
    obtain ⟨j, hj⟩ := List.mem_iff_getElem?.mp hx
    exact h j x.2 hj
  have hsome : ∀ {xs : List ME} {j : Nat} {p : Value × Value}, xs[j]? = some (k, p) → decide (k ∈ xs.map (·.1)) = true := fun h => decide_eq_true (List.mem_map.mpr ⟨_, List.mem_of_getElem? h, rfl⟩)
  have core : ∀ (R : Bool → Shared → Prop), (∀ tk, R (decide (k ∈ xs.map (·.1))) { s with toks := tk }) → wpAny (model prog w) A (contains (.ref d) v) R E s := by
    intro R hR
    unfold contains
    try with_reducible refine wpAny_holding ?_
    refine wpAny_bind (wpAny_specialOf hT slot_dict_contains.lookup ?_)
    show wpAny _ _ (if (some (Value.builtin "dict.__contains__") == some Value.none) = true then _ else _) _ E s
    rw [if_neg (by rw [beq_builtin_none]; exact Bool.false_ne_true)]
    refine wpAny_bind (wpAny_callSpecialUnlessNone?_slot (name := Str.ofString "__contains__") hT slot_dict_contains
      (wpAny_call_entry slot_dict_contains hT entry_dict_contains ?_ (args_dict_contains _ _)))
    show wpAny _ _ (dictGet d v >>= _) _ _ s
    have hu1 : A.in1.units + 8 < cLine := by show A.units + 1 + 8 < cLine; omega
    refine wpAny_bind ?_
    unfold dictGet
    try with_reducible refine wpAny_holding ?_
    refine wpAny_bind (pyHash_key k v _ s _ hk.1 (by have := hk.2.1; omega) (wpAny_bind (mix_find (s := { s with toks := s.toks + k.draws }) hu1 hk ho hda he his hn ?_ ?_)))
    · intro hno
      refine wpAny_pure ?_
      show wpAny _ _ (Builtin.Dict.pendingKey? d v >>= _) _ _ _
      refine wpAny_bind (wpAny_pendingKey_other hd (wpAny_pure ⟨_, rfl, wpAny_truthy_bool ?_⟩))
      have := hR (s.toks + k.draws)
      rw [hnone hno] at this
      exact this
    · intro j p hj
      refine wpAny_bind (wpAny_dictEntries (s := { s with toks := s.toks + k.draws }) ho hda ?_)
      rw [ent_at he j, hj]
      refine wpAny_pure ?_
      show wpAny _ _ (ret (.bool true)) _ _ _
      have := hR (s.toks + k.draws)
      rw [hsome hj] at this
      exact wpAny_pure ⟨_, rfl, wpAny_truthy_bool this⟩
  cases neg with
  | false =>
    show wpAny _ _ (do return .bool (← contains (.ref d) v)) Q E s
    refine wpAny_bind (core _ fun tk => wpAny_pure ?_)
    have := h tk
    simpa using this
  | true =>
    show wpAny _ _ (do return .bool (!(← contains (.ref d) v))) Q E s
    refine wpAny_bind (core _ fun tk => wpAny_pure ?_)
    have := h tk
    simpa using this
/-- the entries behind d[k] = u -/
def putM (xs : List ME) (k : NK) (v u : Value) : List ME := if k ∈ xs.map (·.1) then xs.map (fun x => if x.1 = k then (x.1, x.2.1, u) else x) else xs ++ [(k, v, u)]
theorem mod_same {k : NK} {u : Value} : ∀ {xs : List ME} {j : Nat} {p : Value × Value}, (xs.map (·.1)).Nodup → xs[j]? = some (k, p) → (xs.map (entM w)).modify j (fun e : DictEntry => { e with val := u }) = (xs.map (fun x => if x.1 = k then (x.1, x.2.1, u) else x)).map (entM w)
  | [], _, _, _, h => by simp at h
  | x :: r, 0, p, nd, h => by
    simp only [List.getElem?_cons_zero, Option.some.injEq] at h
    subst h
    have hr : r.map (fun x => if x.1 = k then (x.1, x.2.1, u) else x) = r := by
      conv => rhs; rw [← List.map_id r]
      refine List.map_congr_left fun y hy => ?_
      have : ¬ y.1 = k := fun e => (List.nodup_cons.mp nd).1 (by rw [← e]; exact List.mem_map.mpr ⟨y, hy, rfl⟩)
      rw [if_neg this]; rfl
    rw [List.map_cons, List.map_cons, hr, if_pos rfl, List.map_cons]
    rfl
  | x :: r, j + 1, p, nd, h => by
    simp only [List.getElem?_cons_succ] at h
    have hne : ¬ x.1 = k := fun e => (List.nodup_cons.mp nd).1 (by show x.1 ∈ _; rw [e]; exact List.mem_map.mpr ⟨_, List.mem_of_getElem? h, rfl⟩)
    rw [List.map_cons, List.map_cons, if_neg hne, List.map_cons]
    show entM w x :: (r.map (entM w)).modify j _ = _
    rw [mod_same (List.nodup_cons.mp nd).2 h]
theorem mix_put {u : Value} {Q : Unit → Shared → Prop} (hu : A.units + 10 < cLine) (hk : KeyOk s.heap k v) (hm : MixOf w s.heap d xs) (hz : xs.length < sizeLine)
    (hQ : ∀ h' tk, (∃ o es ep, h'.get? d = some o ∧ o.ExactDict ∧ o.data = .dict es ep ∧ es.toList = (putM xs k v u).map (entM w)) → ((putM xs k v u).map (·.1)).Nodup → Heap.SameBut d s.heap h' → Q () { s with heap := h', toks := tk }) :
    wpAny (model prog w) A (setItem (.ref d) v u) Q E s := by
  obtain ⟨o, es, ep, ho, hc, hda, he, his, hn⟩ := hm
  have hT : s.TypeIs (.ref d) "dict" := ⟨o, ho, hc.1⟩
  unfold setItem
  try with_reducible refine wpAny_holding ?_
  refine wpAny_bind (wpAny_sequenceKey hT (by decide) ?_)
  refine wpAny_bind (wpAny_callSpecial?_slot (name := Str.ofString "__setitem__") hT slot_dict_setitem
    (wpAny_call_entry slot_dict_setitem hT entry_dict_setitem ?_ (args_dict_setitem _ _ _)))
  show wpAny _ _ (Builtin.Dict.notOrdered "__setitem__" ⟨[.ref d, v, u], []⟩ >>= _) _ _ s
  refine wpAny_bind (wpAny_notOrdered_dict hT ?_)
  show wpAny _ _ (dictSet d v u >>= _) _ _ s
  refine wpAny_bind ?_
  have hu1 : A.in1.units + 8 < cLine := by show A.units + 1 + 8 < cLine; omega
  unfold dictSet
  try with_reducible refine wpAny_holding ?_
  refine wpAny_bind (pyHash_key k v _ s _ hk.1 (by have := hk.2.1; omega) ?_)
  unfold dictSetHashed
  try with_reducible refine wpAny_holding ?_
  refine wpAny_bind (mix_find (s := { s with toks := s.toks + k.draws }) hu1 hk ho hda he his hn ?_ ?_)
  · intro hno
    have hnot : k ∉ xs.map (·.1) := fun hm => by
      obtain ⟨x, hx, rfl⟩ := List.mem_map.mp hm
      obtain ⟨j, hj⟩ := List.mem_iff_getElem?.mp hx
      exact hno j x.2 hj
    have ep' : putM xs k v u = xs ++ [(k, v, u)] := by unfold putM; rw [if_neg hnot]
    refine wpAny_bind (wpAny_rule (wpAny_updateDictKeys (hz := by have e := ent_size he; omega) (s := { s with toks := s.toks + k.draws }) ho hda (wpAny_pure ⟨.none, rfl, wpAny_pure (hQ _ _ ⟨_, _, ep + 1, Heap.get?_update_self _ ho (Obj.isFreed_of_dict (Obj.data_mapDictKeys hda _)),
      hc.mapDictKeys _, Obj.data_mapDictKeys hda _, ?_⟩ ?_ (Heap.SameBut.update ..))⟩)))
    · rw [ep']
      simp [he, entM]
    · rw [ep', List.map_append, List.nodup_append]
      refine ⟨hn, by simp, ?_⟩
      intro x hx y hy
      simp only [List.map_cons, List.map_nil, List.mem_singleton] at hy
      subst hy
      exact fun e => hnot (e ▸ hx)
  · intro j p hj
    have hin : k ∈ xs.map (·.1) := List.mem_map.mpr ⟨_, List.mem_of_getElem? hj, rfl⟩
    have ep' : putM xs k v u = xs.map (fun x => if x.1 = k then (x.1, x.2.1, u) else x) := by unfold putM; rw [if_pos hin]
    refine wpAny_bind (wpAny_rule (wpAny_bind (wpAny_updateDict (s := { s with toks := s.toks + k.draws }) ho hda (wpAny_point (wpAny_pure ⟨.none, rfl, wpAny_pure (hQ _ _ ⟨_, _, ep, Heap.get?_update_self _ ho (Obj.isFreed_of_dict (Obj.data_mapDict hda _)),
      hc.mapDict _, Obj.data_mapDict hda _, ?_⟩ ?_ (Heap.SameBut.update ..))⟩)))))
    · rw [ep', ← mod_same hn hj, ← he]
      obtain ⟨l⟩ := es
      simp
    · rw [ep', List.map_map]
      have : (Prod.fst ∘ fun x : ME => if x.1 = k then (x.1, x.2.1, u) else x) = Prod.fst := by
        funext x
        by_cases e : x.1 = k <;> simp [e]
      rw [this]
      exact hn
end

/-! ### data that may be a key -/
open L2
mutual
def nkOf : PyData → Option NK
  | .none => some .none
  | .int i => some (.num i)
  | .str x => some (.text x)
  | .tuple ds => (nkAll ds).map .tup
  | _ => none
def nkAll : List PyData → Option (List NK)
  | [] => some []
  | d :: ds => match nkOf d, nkAll ds with
    | some k, some ks => some (k :: ks)
    | _, _ => none
end
mutual
theorem nested_of {h : Heap} : ∀ (d : PyData) (k : NK) (u : Value) (as : List Addr), Reads h u d as → nkOf d = some k → NestedIs h k u
  | .none, k, u, _, r, e => by cases r; cases e; exact .none
  | .int i, k, u, _, r, e => by cases r; cases e; exact .int _ _
  | .str x, k, u, _, r, e => by cases r; cases e; exact .text _ _
  | .tuple ds, k, u, _, r, e => by
    cases r with
    | tuple h1 h2 h3 h4 =>
      simp only [nkOf] at e
      cases q : nkAll ds with
      | none => rw [q] at e; cases e
      | some ks =>
        rw [q] at e
        cases e
        exact .tup h1 h2 h3 (nested_all ds ks _ _ h4 q)
  | .bool b, k, u, _, r, e => by simp [nkOf] at e
  | .list _, k, u, _, r, e => by simp [nkOf] at e
  | .dict _, k, u, _, r, e => by simp [nkOf] at e
theorem nested_all {h : Heap} : ∀ (ds : List PyData) (ks : List NK) (us : List Value) (as : List Addr), ReadsAll h us ds as → nkAll ds = some ks → NestedAll h ks us
  | [], ks, us, _, r, e => by cases r; cases e; exact .nil
  | d :: ds, ks, us, _, r, e => by
    cases r with
    | cons h1 h2 =>
      simp only [nkAll] at e
      cases q1 : nkOf d with
      | none => rw [q1] at e; cases e
      | some k =>
        cases q2 : nkAll ds with
        | none => rw [q1, q2] at e; cases e
        | some ks' =>
          rw [q1, q2] at e
          cases e
          exact .cons (nested_of d k _ _ h1 q1) (nested_all ds ks' _ _ h2 q2)
end
mutual
theorem nk_plain : ∀ (d : PyData) (k : NK), nkOf d = some k → d.plain = true
  | .none, _, _ => rfl
  | .int _, _, _ => rfl
  | .str _, _, _ => rfl
  | .tuple ds, k, e => by
    simp only [nkOf] at e
    cases q : nkAll ds with
    | none => rw [q] at e; cases e
    | some ks => simp only [PyData.plain]; exact nk_plainAll ds ks q
  | .bool b, k, e => by simp [nkOf] at e
  | .list _, k, e => by simp [nkOf] at e
  | .dict _, k, e => by simp [nkOf] at e
theorem nk_plainAll : ∀ (ds : List PyData) (ks : List NK), nkAll ds = some ks → PyData.plainAll ds = true
  | [], _, _ => rfl
  | d :: ds, ks, e => by
    simp only [nkAll] at e
    cases q1 : nkOf d with
    | none => rw [q1] at e; cases e
    | some k =>
      cases q2 : nkAll ds with
      | none => rw [q1, q2] at e; cases e
      | some ks' => simp only [PyData.plainAll, nk_plain d k q1, nk_plainAll ds ks' q2, Bool.and_self]
end
def topD : PyData → Bool
  | .int _ => true
  | .tuple _ => true
  | _ => false
theorem topKey_of {K : PySem.W.Frag} {H : Hp} {v : V} {u : Value} {d : PyData} (h : Is K H v d) (r : RelV v u) (t : topD d = true) : topKey u = true := by
  cases h with
  | int i => obtain ⟨t, rfl⟩ := r; rfl
  | tup h1 h2 => cases r; rfl
  | _ => cases t
/-- the dict with the entries xs stands at a -/
def BagO (w : World) (a : Addr) (xs : List ME) : HO := .ext fun h => ∃ o es ep, h.get? a = some o ∧ o.ExactDict ∧ o.data = .dict es ep ∧ es.toList = xs.map (entM w)
def KeyIs (K : PySem.W.Frag) (H : Hp) (e : ME) : Prop := e.1.depth ≤ 8 ∧ topKey e.2.1 = true ∧ ∃ d v, RelV v e.2.1 ∧ Is K H v d ∧ nkOf d = some e.1
theorem KeyIs.mono {K : PySem.W.Frag} {H H' : Hp} {e : ME} (fx : Fx H H') (h : KeyIs K H e) : KeyIs K H' e := by
  obtain ⟨h1, h2, d, v, r, i, n⟩ := h
  exact ⟨h1, h2, d, v, r, Is.mono fx d v i, n⟩
theorem KeyIs.ok {X : Cx} {pins : List (Addr × Obj)} {σ : L2.St} {H : Hp} {s : Shared} {e : ME} (I : Inv X pins σ H s) (h : KeyIs X.K H e) : KeyOk s.heap e.1 e.2.1 := by
  obtain ⟨h1, h2, d, v, r, i, n⟩ := h
  obtain ⟨as, rd⟩ := Dp.reads I d v _ (Is.dp d v (nk_plain d _ n) i) r
  exact ⟨nested_of d _ _ _ rd n, h1, h2⟩
end DL
namespace DL
open PySem PySem.Spec PyProof.Rows L2
abbrev Sg := L2.St

/-- what a slot holds: anything; data; a list of the def's own; the script -/
inductive Sl where
  | un | dat (d : D) | own (ds : List D) | bag (ks : List NK) | ints (ns : List Int)
/-- what a def hands back: data, or a new list -/
inductive Rv where
  | d (d : D) | f (ds : List D)
structure Ctx where
  w : World
  K : PySem.W.Frag
  M : List Nat
  pot : Option Addr
  H0 : Hp
def SlIs (w : World) (K : PySem.W.Frag) (H : Hp) : Sl → Option V → Prop
  | .un, _ => True
  | .dat d, x => ∃ v, x = some v ∧ Is K H v d
  | .own ds, x => ∃ a xs, x = some (.ref a) ∧ H a = some (.lst xs) ∧ IsAll K H xs ds
  | .ints ns, x => ∃ a, x = some (.ref a) ∧ ∀ H', Fx H H' → SqL K H' a (ns.map V.int)
  | .bag ks, x => ∃ a xs, x = some (.ref a) ∧ H a = some (BagO w a xs) ∧ (a == sysModules) = false ∧ xs.map (·.1) = ks ∧ ks.Nodup ∧ ∀ e ∈ xs, KeyIs K H e
/-- such a slot's object changes -/
def Mine (s : Sl) : Prop := (∃ ds, s = .own ds) ∨ ∃ ks, s = .bag ks
def RvIs (K : PySem.W.Frag) (H0 H' : Hp) (v : V) : Rv → Prop
  | .d d => Is K H' v d
  | .f ds => ∃ a xs, v = .ref a ∧ H0 a = none ∧ H' a = some (.lst xs) ∧ IsAll K H' xs ds
structure En (c : Ctx) (H : Hp) (σ : Sg) (ρ : List Sl) : Prop where
  len : σ.length = ρ.length
  sl : ∀ (i : Nat) (s : Sl) (x : Option V), ρ[i]? = some s → σ[i]? = some x → SlIs c.w c.K H s x
  ownM : ∀ (i : Nat) (ds : List D), ρ[i]? = some (.own ds) → i ∈ c.M
  sep : ∀ (i j : Nat) (ds es : List D) (a : Addr), ρ[i]? = some (.own ds) → ρ[j]? = some (.own es) → σ[i]? = some (some (.ref a)) → σ[j]? = some (some (.ref a)) → i = j
  new : ∀ (i : Nat) (ds : List D) (a : Addr), ρ[i]? = some (.own ds) → σ[i]? = some (some (.ref a)) → c.H0 a = none ∨ (c.pot = some a ∧ i = 0)
  keep : ∀ b o, c.H0 b = some o → c.pot ≠ some b → H b = some o
  potS : ∀ a, c.pot = some a → σ[0]? = some (some (.ref a))
  trk : ∀ (i : Nat) (a : Addr), i ∈ c.M → σ[i]? = some (some (.ref a)) → (H a).isSome = true
  potM : c.pot ≠ none → 0 ∈ c.M
  bagN : ∀ (i : Nat) (ks : List NK) (a : Addr), ρ[i]? = some (.bag ks) → σ[i]? = some (some (.ref a)) → c.H0 a = none
  bagM : ∀ (i : Nat) (ks : List NK), ρ[i]? = some (.bag ks) → i ∈ c.M
  bag1 : ∀ (i j : Nat) (ks ls : List NK), ρ[i]? = some (.bag ks) → ρ[j]? = some (.bag ls) → i = j
/-- the addresses of the def's own lists (and what such slots hold else) -/
def Ow (c : Ctx) (σ : Sg) (a : Addr) : Prop := ∃ i, i ∈ c.M ∧ σ[i]? = some (some (.ref a))
structure Gr (c : Ctx) (σ : Sg) (H H' : Hp) : Prop where
  fx : Fx H H'
  kp : ∀ b o, H b = some o → ¬ Ow c σ b → H' b = some o
theorem Gr.refl {c : Ctx} {σ : Sg} (H : Hp) : Gr c σ H H := ⟨Fx.refl H, fun _ _ h _ => h⟩
theorem Gr.trans {c : Ctx} {σ : Sg} {H H1 H2 : Hp} (a : Gr c σ H H1) (b : Gr c σ H1 H2) : Gr c σ H H2 := ⟨a.fx.trans b.fx, fun x o h n => b.kp x o (a.kp x o h n) n⟩
theorem Gr.same {c : Ctx} {σ : Sg} {H H' : Hp} (e : Same H H') : Gr c σ H H' := ⟨Same.fx e, fun b o h _ => e b o h⟩
theorem Gr.free {c : Ctx} {σ : Sg} {H H' : Hp} {ρ : List Sl} {a : Addr} (g : Gr c σ H H') (E : En c H' σ ρ) (n : H' a = none) : H a = none := by
  cases q : H a with
  | none => rfl
  | some o =>
    by_cases w : Ow c σ a
    · obtain ⟨i, hi, e⟩ := w
      have := E.trk i a hi e
      rw [n] at this
      cases this
    · rw [g.kp a o q w] at n
      cases n
theorem En.notOw {c : Ctx} {σ : Sg} {H : Hp} {ρ : List Sl} {a : Addr} (E : En c H σ ρ) (n : H a = none) : ¬ Ow c σ a := fun ⟨i, hi, e⟩ => by
  have := E.trk i a hi e
  rw [n] at this
  cases this
theorem Ow.congr {c : Ctx} {σ σ' : Sg} {a : Addr} (h : ∀ i, i ∈ c.M → σ'[i]? = σ[i]?) : Ow c σ' a ↔ Ow c σ a :=
  ⟨fun ⟨i, hi, e⟩ => ⟨i, hi, by rw [← h i hi]; exact e⟩, fun ⟨i, hi, e⟩ => ⟨i, hi, by rw [h i hi]; exact e⟩⟩
theorem Gr.congr {c : Ctx} {σ σ' : Sg} {H H' : Hp} (h : ∀ i, i ∈ c.M → σ'[i]? = σ[i]?) (g : Gr c σ' H H') : Gr c σ H H' := ⟨g.fx, fun b o e n => g.kp b o e fun w => n ((Ow.congr h).mp w)⟩

section
variable {c : Ctx} {H H' : Hp} {σ : Sg} {ρ : List Sl}
theorem SlIs.mono {w : World} {K : PySem.W.Frag} (fx : Fx H H') : ∀ {s : Sl} {x : Option V}, (∀ a, Mine s → x = some (.ref a) → ∀ o, H a = some o → H' a = some o) → SlIs w K H s x → SlIs w K H' s x
  | .un, _, _, _ => trivial
  | .dat d, _, _, ⟨v, e, h⟩ => ⟨v, e, Is.mono fx d v h⟩
  | .own ds, _, k, ⟨a, xs, e, h1, h2⟩ => ⟨a, xs, e, k a (.inl ⟨ds, rfl⟩) e _ h1, IsAll.mono fx ds xs h2⟩
  | .ints ns, _, _, ⟨a, e, h⟩ => ⟨a, e, fun H2 f => h H2 (fx.trans f)⟩
  | .bag ks, _, k, ⟨a, xs, e, h1, h2, h3, h4, h5⟩ => ⟨a, xs, e, k a (.inr ⟨ks, rfl⟩) e _ h1, h2, h3, h4, fun e he => (h5 e he).mono fx⟩
/-- a list's place is no other such slot's -/
theorem En.ne {j : Nat} {b a : Addr} {xs : List V} {s : Sl} (E : En c H σ ρ) (hj : ρ[j]? = some s) (hm : Mine s) (hb : σ[j]? = some (some (V.ref b))) (ha : H a = some (.lst xs)) (hs : ∀ es, ρ[j]? = some (Sl.own es) → σ[j]? ≠ some (some (V.ref a))) : b ≠ a := fun z => by
  subst z
  rcases hm with ⟨ds, rfl⟩ | ⟨ks, rfl⟩
  · exact hs ds hj hb
  · obtain ⟨a, xs', e, h, _⟩ := E.sl j _ _ hj hb
    cases e
    rw [ha] at h
    cases h
theorem En.same (E : En c H σ ρ) (e : Same H H') : En c H' σ ρ where
  len := E.len
  sl := fun i s x h1 h2 => SlIs.mono (Same.fx e) (fun a _ _ o h => e a o h) (E.sl i s x h1 h2)
  ownM := E.ownM
  sep := E.sep
  new := E.new
  keep := fun b o h n => e b o (E.keep b o h n)
  potS := E.potS
  trk := fun i a hi h => by
    have q := E.trk i a hi h
    cases r : H a with
    | none => rw [r] at q; cases q
    | some o => rw [e a o r]; rfl
  potM := E.potM
  bagN := E.bagN
  bagM := E.bagM
  bag1 := E.bag1
theorem getSet {α : Type} {l : List α} {i j : Nat} {x y : α} (h : (l.set i x)[j]? = some y) : (i = j ∧ y = x) ∨ (i ≠ j ∧ l[j]? = some y) := by
  by_cases e : i = j
  · subst e
    by_cases hi : i < l.length
    · rw [List.getElem?_set_self hi] at h
      exact .inl ⟨rfl, (Option.some.inj h).symm⟩
    · rw [List.getElem?_eq_none (by simpa using hi)] at h
      cases h
  · rw [List.getElem?_set_ne e] at h
    exact .inr ⟨e, h⟩
theorem getSetLt {α : Type} {l : List α} {i j : Nat} {x y : α} (h : (l.set i x)[j]? = some y) : (i = j ∧ y = x ∧ i < l.length) ∨ (i ≠ j ∧ l[j]? = some y) := by
  rcases getSet h with ⟨a, b⟩ | q
  · refine .inl ⟨a, b, ?_⟩
    by_cases hi : i < l.length
    · exact hi
    · subst a
      rw [List.getElem?_eq_none (by simpa using hi)] at h
      cases h
  · exact .inr q
/-- a slot is given data -/
theorem En.setD {i : Nat} {v : V} {d : D} (E : En c H σ ρ) (hi : i ∉ c.M) (hp : c.pot = none ∨ i ≠ 0) (h : Is c.K H v d) : En c H (σ.set i (some v)) (ρ.set i (.dat d)) where
  len := by rw [List.length_set, List.length_set]; exact E.len
  sl := fun j s x h1 h2 => by
    rcases getSet h1 with ⟨e, rfl⟩ | ⟨e, h1⟩
    · rcases getSet h2 with ⟨_, rfl⟩ | ⟨e', _⟩
      · exact ⟨v, rfl, h⟩
      · exact absurd e e'
    · rcases getSet h2 with ⟨e', _⟩ | ⟨_, h2⟩
      · exact absurd e' e
      · exact E.sl j s x h1 h2
  ownM := fun j ds h1 => by
    rcases getSet h1 with ⟨_, e⟩ | ⟨_, h1⟩
    · cases e
    · exact E.ownM j ds h1
  sep := fun j k ds es a h1 h2 h3 h4 => by
    rcases getSet h1 with ⟨_, e⟩ | ⟨n1, h1⟩
    · cases e
    rcases getSet h2 with ⟨_, e⟩ | ⟨n2, h2⟩
    · cases e
    rcases getSet h3 with ⟨e, _⟩ | ⟨_, h3⟩
    · exact absurd e n1
    rcases getSet h4 with ⟨e, _⟩ | ⟨_, h4⟩
    · exact absurd e n2
    exact E.sep j k ds es a h1 h2 h3 h4
  new := fun j ds a h1 h2 => by
    rcases getSet h1 with ⟨_, e⟩ | ⟨n1, h1⟩
    · cases e
    rcases getSet h2 with ⟨e, _⟩ | ⟨_, h2⟩
    · exact absurd e n1
    exact E.new j ds a h1 h2
  keep := E.keep
  potS := fun a h => by
    rcases hp with hp | hp
    · rw [hp] at h; cases h
    · rw [List.getElem?_set_ne hp]; exact E.potS a h
  trk := fun j a hj h1 => by
    rcases getSet h1 with ⟨e, _⟩ | ⟨_, h1⟩
    · subst e; exact absurd hj hi
    · exact E.trk j a hj h1
  potM := E.potM
  bagN := fun j ks a h1 h2 => by
    rcases getSet h1 with ⟨_, e⟩ | ⟨n1, h1⟩
    · cases e
    rcases getSet h2 with ⟨e, _⟩ | ⟨_, h2⟩
    · exact absurd e n1
    exact E.bagN j ks a h1 h2
  bagM := fun j ks h1 => by
    rcases getSet h1 with ⟨_, e⟩ | ⟨_, h1⟩
    · cases e
    · exact E.bagM j ks h1
  bag1 := fun j k ks ls h1 h2 => by
    rcases getSet h1 with ⟨_, e⟩ | ⟨_, h1⟩
    · cases e
    rcases getSet h2 with ⟨_, e⟩ | ⟨_, h2⟩
    · cases e
    exact E.bag1 j k ks ls h1 h2
/-- a slot is given a new list -/
theorem En.setO {i : Nat} {a : Addr} {xs : List V} {ds : List D} (E : En c H σ ρ) (hi : i ∈ c.M) (hp : c.pot = none ∨ i ≠ 0) (hH : H a = some (.lst xs)) (h : IsAll c.K H xs ds) (h0 : c.H0 a = none)
    (hs : ∀ j es, j ≠ i → ρ[j]? = some (.own es) → σ[j]? ≠ some (some (.ref a))) : En c H (σ.set i (some (.ref a))) (ρ.set i (.own ds)) where
  len := by rw [List.length_set, List.length_set]; exact E.len
  sl := fun j s x h1 h2 => by
    rcases getSet h1 with ⟨e, rfl⟩ | ⟨e, h1⟩
    · rcases getSet h2 with ⟨_, rfl⟩ | ⟨e', _⟩
      · exact ⟨a, xs, rfl, hH, h⟩
      · exact absurd e e'
    · rcases getSet h2 with ⟨e', _⟩ | ⟨_, h2⟩
      · exact absurd e' e
      · exact E.sl j s x h1 h2
  ownM := fun j ds h1 => by
    rcases getSet h1 with ⟨rfl, e⟩ | ⟨_, h1⟩
    · exact hi
    · exact E.ownM j ds h1
  sep := fun j k ds es b h1 h2 h3 h4 => by
    rcases getSet h1 with ⟨e1, _⟩ | ⟨n1, h1⟩
    · rcases getSet h2 with ⟨e2, _⟩ | ⟨n2, h2⟩
      · rw [← e1, ← e2]
      · rcases getSet h3 with ⟨_, e3⟩ | ⟨n3, _⟩
        · rcases getSet h4 with ⟨e4, _⟩ | ⟨_, h4⟩
          · exact absurd e4 n2
          · cases e3
            exact absurd h4 (hs k es (Ne.symm n2) h2)
        · exact absurd e1 n3
    · rcases getSet h2 with ⟨e2, _⟩ | ⟨n2, h2⟩
      · rcases getSet h4 with ⟨_, e4⟩ | ⟨n4, _⟩
        · rcases getSet h3 with ⟨e3, _⟩ | ⟨_, h3⟩
          · exact absurd e3 n1
          · cases e4
            exact absurd h3 (hs j ds (Ne.symm n1) h1)
        · exact absurd e2 n4
      · rcases getSet h3 with ⟨e, _⟩ | ⟨_, h3⟩
        · exact absurd e n1
        rcases getSet h4 with ⟨e, _⟩ | ⟨_, h4⟩
        · exact absurd e n2
        exact E.sep j k ds es b h1 h2 h3 h4
  new := fun j es b h1 h2 => by
    rcases getSet h1 with ⟨e1, _⟩ | ⟨n1, h1⟩
    · rcases getSet h2 with ⟨_, e2⟩ | ⟨n2, _⟩
      · cases e2
        exact .inl h0
      · exact absurd e1 n2
    · rcases getSet h2 with ⟨e, _⟩ | ⟨_, h2⟩
      · exact absurd e n1
      exact E.new j es b h1 h2
  keep := E.keep
  potS := fun b h => by
    rcases hp with hp | hp
    · rw [hp] at h; cases h
    · rw [List.getElem?_set_ne hp]; exact E.potS b h
  trk := fun j b hj h1 => by
    rcases getSet h1 with ⟨_, e⟩ | ⟨_, h1⟩
    · cases e
      rw [hH]; rfl
    · exact E.trk j b hj h1
  potM := E.potM
  bagN := fun j ks a h1 h2 => by
    rcases getSet h1 with ⟨_, e⟩ | ⟨n1, h1⟩
    · cases e
    rcases getSet h2 with ⟨e, _⟩ | ⟨_, h2⟩
    · exact absurd e n1
    exact E.bagN j ks a h1 h2
  bagM := fun j ks h1 => by
    rcases getSet h1 with ⟨_, e⟩ | ⟨_, h1⟩
    · cases e
    · exact E.bagM j ks h1
  bag1 := fun j k ks ls h1 h2 => by
    rcases getSet h1 with ⟨_, e⟩ | ⟨_, h1⟩
    · cases e
    rcases getSet h2 with ⟨_, e⟩ | ⟨_, h2⟩
    · cases e
    exact E.bag1 j k ks ls h1 h2
/-- a slot's own list changes -/
theorem En.updO {i : Nat} {a : Addr} {ys : List V} {ds es : List D} (E : En c H σ ρ) (h1 : ρ[i]? = some (.own ds)) (h2 : σ[i]? = some (some (.ref a))) (h : IsAll c.K H ys es) : En c (upd H a (.lst ys)) σ (ρ.set i (.own es)) := by
  obtain ⟨a', xs, e, ha, hx⟩ := E.sl i _ _ h1 h2
  cases e
  have fx : Fx H (upd H a (.lst ys)) := fun b o f q => by
    by_cases e : b = a
    · subst e; rw [ha] at q; cases q; cases f
    · rw [upd_ne e]; exact q
  refine ⟨by rw [List.length_set]; exact E.len, fun j s x q1 q2 => ?_, fun j fs q1 => ?_, fun j k fs gs b q1 q2 q3 q4 => ?_, fun j fs b q1 q2 => ?_, fun b o q n => ?_, E.potS, fun j b hj q => ?_, E.potM, fun j ks b q1 q2 => by
    rcases getSet q1 with ⟨_, e⟩ | ⟨_, q1⟩
    · cases e
    · exact E.bagN j ks b q1 q2, fun j ks q1 => by
    rcases getSet q1 with ⟨_, e⟩ | ⟨_, q1⟩
    · cases e
    · exact E.bagM j ks q1, fun j k ks ls q1 q2 => by
    rcases getSet q1 with ⟨_, e⟩ | ⟨_, q1⟩
    · cases e
    rcases getSet q2 with ⟨_, e⟩ | ⟨_, q2⟩
    · cases e
    exact E.bag1 j k ks ls q1 q2⟩
  · rcases getSet q1 with ⟨rfl, rfl⟩ | ⟨n, q1⟩
    · rw [h2] at q2
      cases q2
      exact ⟨a, ys, rfl, upd_same, IsAll.mono fx es ys h⟩
    · refine SlIs.mono fx (fun b e1 e2 o q => ?_) (E.sl j s x q1 q2)
      subst e2
      have : b ≠ a := E.ne q1 e1 q2 ha fun es z1 z2 => n (E.sep i j ds es a h1 z1 h2 z2)
      rw [upd_ne this]; exact q
  · rcases getSet q1 with ⟨rfl, _⟩ | ⟨_, q1⟩
    · exact E.ownM i ds h1
    · exact E.ownM j fs q1
  · have r1 : ∃ f, ρ[j]? = some (.own f) := by
      rcases getSet q1 with ⟨rfl, _⟩ | ⟨_, q1⟩
      · exact ⟨_, h1⟩
      · exact ⟨_, q1⟩
    have r2 : ∃ f, ρ[k]? = some (.own f) := by
      rcases getSet q2 with ⟨rfl, _⟩ | ⟨_, q2⟩
      · exact ⟨_, h1⟩
      · exact ⟨_, q2⟩
    obtain ⟨f, r1⟩ := r1
    obtain ⟨g, r2⟩ := r2
    exact E.sep j k f g b r1 r2 q3 q4
  · rcases getSet q1 with ⟨rfl, _⟩ | ⟨_, q1⟩
    · exact E.new i ds b h1 q2
    · exact E.new j fs b q1 q2
  · have nb : b ≠ a := fun z => by
      subst z
      rcases E.new i ds b h1 h2 with e | ⟨e, _⟩
      · rw [e] at q; cases q
      · exact n e
    rw [upd_ne nb]; exact E.keep b o q n
  · by_cases e : b = a
    · subst e; rw [upd_same]; rfl
    · rw [upd_ne e]; exact E.trk j b hj q
theorem En.updGr {i : Nat} {a : Addr} {ys : List V} {ds : List D} (E : En c H σ ρ) (h1 : ρ[i]? = some (.own ds)) (h2 : σ[i]? = some (some (.ref a))) : Gr c σ H (upd H a (.lst ys)) := by
  obtain ⟨a', xs, e, ha, hx⟩ := E.sl i _ _ h1 h2
  cases e
  refine ⟨fun b o f q => ?_, fun b o q n => ?_⟩
  · by_cases e : b = a
    · subst e; rw [ha] at q; cases q; cases f
    · rw [upd_ne e]; exact q
  · have : b ≠ a := fun z => n (by subst z; exact ⟨i, E.ownM i ds h1, h2⟩)
    rw [upd_ne this]; exact q
/-- a slot's own list becomes data -/
theorem En.frz {i : Nat} {a : Addr} {xs : List V} {ds : List D} {o : Obj} (E : En c H σ ρ) (h1 : ρ[i]? = some (.own ds)) (h2 : σ[i]? = some (some (.ref a))) (ha : H a = some (.lst xs)) (hx : IsAll c.K H xs ds) :
    En c (upd H a (.frz o (.lst xs))) σ (ρ.set i (.dat (.list ds))) := by
  have fx : Fx H (upd H a (.frz o (.lst xs))) := fun b o f q => by
    by_cases e : b = a
    · subst e; rw [ha] at q; cases q; cases f
    · rw [upd_ne e]; exact q
  refine ⟨by rw [List.length_set]; exact E.len, fun j s x q1 q2 => ?_, fun j fs q1 => ?_, fun j k fs gs b q1 q2 q3 q4 => ?_, fun j fs b q1 q2 => ?_, fun b o q n => ?_, E.potS, fun j b hj q => ?_, E.potM, fun j ks b q1 q2 => by
    rcases getSet q1 with ⟨_, e⟩ | ⟨_, q1⟩
    · cases e
    · exact E.bagN j ks b q1 q2, fun j ks q1 => by
    rcases getSet q1 with ⟨_, e⟩ | ⟨_, q1⟩
    · cases e
    · exact E.bagM j ks q1, fun j k ks ls q1 q2 => by
    rcases getSet q1 with ⟨_, e⟩ | ⟨_, q1⟩
    · cases e
    rcases getSet q2 with ⟨_, e⟩ | ⟨_, q2⟩
    · cases e
    exact E.bag1 j k ks ls q1 q2⟩
  · rcases getSet q1 with ⟨rfl, rfl⟩ | ⟨n, q1⟩
    · rw [h2] at q2
      cases q2
      exact ⟨.ref a, rfl, .lst upd_same (IsAll.mono fx ds xs hx)⟩
    · refine SlIs.mono fx (fun b e1 e2 o q => ?_) (E.sl j s x q1 q2)
      subst e2
      have : b ≠ a := E.ne q1 e1 q2 ha fun es z1 z2 => n (E.sep i j ds es a h1 z1 h2 z2)
      rw [upd_ne this]; exact q
  · rcases getSet q1 with ⟨_, e⟩ | ⟨_, q1⟩
    · cases e
    · exact E.ownM j fs q1
  · rcases getSet q1 with ⟨_, e⟩ | ⟨_, q1⟩
    · cases e
    rcases getSet q2 with ⟨_, e⟩ | ⟨_, q2⟩
    · cases e
    exact E.sep j k fs gs b q1 q2 q3 q4
  · rcases getSet q1 with ⟨_, e⟩ | ⟨_, q1⟩
    · cases e
    exact E.new j fs b q1 q2
  · have nb : b ≠ a := fun z => by
      subst z
      rcases E.new i ds b h1 h2 with e | ⟨e, _⟩
      · rw [e] at q; cases q
      · exact n e
    rw [upd_ne nb]; exact E.keep b o q n
  · by_cases e : b = a
    · subst e; rw [upd_same]; rfl
    · rw [upd_ne e]; exact E.trk j b hj q
theorem En.frzGr {i : Nat} {a : Addr} {xs : List V} {ds : List D} {o : Obj} (E : En c H σ ρ) (h1 : ρ[i]? = some (.own ds)) (h2 : σ[i]? = some (some (.ref a))) (ha : H a = some (.lst xs)) : Gr c σ H (upd H a (.frz o (.lst xs))) := by
  refine ⟨fun b o f q => ?_, fun b o q n => ?_⟩
  · by_cases e : b = a
    · subst e; rw [ha] at q; cases q; cases f
    · rw [upd_ne e]; exact q
  · have : b ≠ a := fun z => n (by subst z; exact ⟨i, E.ownM i ds h1, h2⟩)
    rw [upd_ne this]; exact q
/-- the slots in vs forgotten -/
def wipeS (ρ : List Sl) : List Nat → List Sl
  | [] => ρ
  | v :: vs => (wipeS ρ vs).set v .un
theorem wipeS_length (ρ : List Sl) : ∀ vs : List Nat, (wipeS ρ vs).length = ρ.length
  | [] => rfl
  | v :: vs => by unfold wipeS; rw [List.length_set, wipeS_length ρ vs]
theorem wipeS_get {ρ : List Sl} {i : Nat} {x : Sl} : ∀ {vs : List Nat}, (wipeS ρ vs)[i]? = some x → x = .un ∨ (ρ[i]? = some x ∧ i ∉ vs)
  | [], h => .inr ⟨h, by simp⟩
  | v :: vs, h => by
    unfold wipeS at h
    rcases getSet h with ⟨_, e⟩ | ⟨n, h⟩
    · exact .inl e
    · rcases wipeS_get h with e | ⟨e, m⟩
      · exact .inl e
      · exact .inr ⟨e, by simp only [List.mem_cons, not_or]; exact ⟨fun z => n z.symm, m⟩⟩
/-- the slots outside of vs are as they were -/
def Off (vs : List Nat) (σ σ' : Sg) : Prop := σ'.length = σ.length ∧ ∀ j, j ∉ vs → σ'[j]? = σ[j]?
theorem Off.refl (vs : List Nat) (σ : Sg) : Off vs σ σ := ⟨rfl, fun _ _ => rfl⟩
theorem Off.trans {vs : List Nat} {σ σ1 σ2 : Sg} (a : Off vs σ σ1) (b : Off vs σ1 σ2) : Off vs σ σ2 := ⟨b.1.trans a.1, fun j h => (b.2 j h).trans (a.2 j h)⟩
theorem Off.symm {vs : List Nat} {σ σ1 : Sg} (a : Off vs σ σ1) : Off vs σ1 σ := ⟨a.1.symm, fun j h => (a.2 j h).symm⟩
theorem off_wipe (σ : Sg) : ∀ vs : List Nat, Off vs σ (wipe σ vs)
  | [] => Off.refl _ _
  | v :: vs => by
    refine ⟨by unfold wipe; rw [List.length_set]; exact (off_wipe σ vs).1, fun j h => ?_⟩
    unfold wipe
    rw [List.getElem?_set_ne (fun e => h (by simp [e]))]
    exact (off_wipe σ vs).2 j fun z => h (by simp [z])
theorem off_wipes {σ σ' : Sg} {vs : List Nat} (h : Off vs σ σ') : wipe σ' vs = wipe σ vs := by
  have key : ∀ (σ : Sg) (vs : List Nat) (j : Nat), (wipe σ vs)[j]? = if j ∈ vs then (if j < σ.length then some none else none) else σ[j]? := by
    intro σ vs
    induction vs with
    | nil => intro j; simp [wipe]
    | cons v vs ih =>
      intro j
      unfold wipe
      by_cases e : v = j
      · subst e
        by_cases hv : v < σ.length
        · rw [List.getElem?_set_self (by rw [wipe_length]; exact hv)]; simp [hv]
        · rw [List.getElem?_eq_none (by rw [List.length_set, wipe_length]; omega)]; simp [hv]
      · rw [List.getElem?_set_ne e, ih j]
        simp [Ne.symm e]
  apply List.ext_getElem?
  intro j
  rw [key, key, h.1]
  by_cases hj : j ∈ vs
  · simp [hj]
  · simp [hj, h.2 j hj]
theorem En.off {vs : List Nat} {σ' : Sg} (E : En c H σ ρ) (h : Off vs σ σ') (hM : ∀ i, i ∈ vs → i ∉ c.M) (hp : c.pot = none ∨ 0 ∉ vs) : En c H σ' (wipeS ρ vs) where
  len := by rw [wipeS_length, h.1]; exact E.len
  sl := fun i s x h1 h2 => by
    rcases wipeS_get h1 with rfl | ⟨h1, n⟩
    · trivial
    · rw [h.2 i n] at h2
      exact E.sl i s x h1 h2
  ownM := fun i ds h1 => by
    rcases wipeS_get h1 with e | ⟨h1, n⟩
    · cases e
    · exact E.ownM i ds h1
  sep := fun i j ds es a h1 h2 h3 h4 => by
    rcases wipeS_get h1 with e | ⟨h1, n1⟩
    · cases e
    rcases wipeS_get h2 with e | ⟨h2, n2⟩
    · cases e
    rw [h.2 i n1] at h3
    rw [h.2 j n2] at h4
    exact E.sep i j ds es a h1 h2 h3 h4
  new := fun i ds a h1 h2 => by
    rcases wipeS_get h1 with e | ⟨h1, n1⟩
    · cases e
    rw [h.2 i n1] at h2
    exact E.new i ds a h1 h2
  keep := E.keep
  potS := fun a e => by
    rcases hp with hp | hp
    · rw [hp] at e; cases e
    · rw [h.2 0 hp]; exact E.potS a e
  trk := fun i a hi e => by
    rw [h.2 i fun z => hM i z hi] at e
    exact E.trk i a hi e
  potM := E.potM
  bagN := fun i ks a h1 h2 => by
    rcases wipeS_get h1 with e | ⟨h1, n1⟩
    · cases e
    rw [h.2 i n1] at h2
    exact E.bagN i ks a h1 h2
  bagM := fun i ks h1 => by
    rcases wipeS_get h1 with e | ⟨h1, n1⟩
    · cases e
    exact E.bagM i ks h1
  bag1 := fun i j ks ls h1 h2 => by
    rcases wipeS_get h1 with e | ⟨h1, n1⟩
    · cases e
    rcases wipeS_get h2 with e | ⟨h2, n2⟩
    · cases e
    exact E.bag1 i j ks ls h1 h2
theorem Off.M {vs : List Nat} {σ' : Sg} (h : Off vs σ σ') (hM : ∀ i, i ∈ vs → i ∉ c.M) : ∀ i, i ∈ c.M → σ'[i]? = σ[i]? := fun i hi => h.2 i fun z => hM i z hi
/-- behind a call that changed the list of slot i alone -/
theorem En.call {i : Nat} {a : Addr} {ys : List V} {ds es : List D} (E : En c H σ ρ) (h1 : ρ[i]? = some (.own ds)) (h2 : σ[i]? = some (some (.ref a))) (k : ∀ b o, b ≠ a → H b = some o → H' b = some o) (ha : H' a = some (.lst ys)) (h : IsAll c.K H' ys es) :
    En c H' σ (ρ.set i (.own es)) ∧ Gr c σ H H' := by
  obtain ⟨a', xs, e, haH, hx⟩ := E.sl i _ _ h1 h2
  cases e
  have fx : Fx H H' := fun b o f q => by
    by_cases e : b = a
    · subst e; rw [haH] at q; cases q; cases f
    · exact k b o e q
  refine ⟨⟨by rw [List.length_set]; exact E.len, fun j s x q1 q2 => ?_, fun j fs q1 => ?_, fun j k fs gs b q1 q2 q3 q4 => ?_, fun j fs b q1 q2 => ?_, fun b o q n => ?_, E.potS, fun j b hj q => ?_, E.potM, fun j ks b q1 q2 => by
    rcases getSet q1 with ⟨_, e⟩ | ⟨_, q1⟩
    · cases e
    · exact E.bagN j ks b q1 q2, fun j ks q1 => by
    rcases getSet q1 with ⟨_, e⟩ | ⟨_, q1⟩
    · cases e
    · exact E.bagM j ks q1, fun j k ks ls q1 q2 => by
    rcases getSet q1 with ⟨_, e⟩ | ⟨_, q1⟩
    · cases e
    rcases getSet q2 with ⟨_, e⟩ | ⟨_, q2⟩
    · cases e
    exact E.bag1 j k ks ls q1 q2⟩, fx, fun b o q n => k b o (fun z => n (by subst z; exact ⟨i, E.ownM i ds h1, h2⟩)) q⟩
  · rcases getSet q1 with ⟨rfl, rfl⟩ | ⟨n, q1⟩
    · rw [h2] at q2
      cases q2
      exact ⟨a, ys, rfl, ha, h⟩
    · refine SlIs.mono fx (fun b e1 e2 o q => ?_) (E.sl j s x q1 q2)
      subst e2
      exact k b o (E.ne q1 e1 q2 haH fun es z1 z2 => n (E.sep i j ds es a h1 z1 h2 z2)) q
  · rcases getSet q1 with ⟨rfl, _⟩ | ⟨_, q1⟩
    · exact E.ownM i ds h1
    · exact E.ownM j fs q1
  · have r1 : ∃ f, ρ[j]? = some (.own f) := by
      rcases getSet q1 with ⟨rfl, _⟩ | ⟨_, q1⟩
      · exact ⟨_, h1⟩
      · exact ⟨_, q1⟩
    have r2 : ∃ f, ρ[k]? = some (.own f) := by
      rcases getSet q2 with ⟨rfl, _⟩ | ⟨_, q2⟩
      · exact ⟨_, h1⟩
      · exact ⟨_, q2⟩
    obtain ⟨f, r1⟩ := r1
    obtain ⟨g, r2⟩ := r2
    exact E.sep j k f g b r1 r2 q3 q4
  · rcases getSet q1 with ⟨rfl, _⟩ | ⟨_, q1⟩
    · exact E.new i ds b h1 q2
    · exact E.new j fs b q1 q2
  · have nb : b ≠ a := fun z => by
      subst z
      rcases E.new i ds b h1 h2 with e | ⟨e, _⟩
      · rw [e] at q; cases q
      · exact n e
    exact k b o nb (E.keep b o q n)
  · by_cases e : b = a
    · subst e; rw [ha]; rfl
    · have t := E.trk j b hj q
      cases r : H b with
      | none => rw [r] at t; cases t
      | some o => rw [k b o e r]; rfl
theorem En.h0 {a : Addr} (E : En c H σ ρ) (n : H a = none) : c.H0 a = none := by
  cases q : c.H0 a with
  | none => rfl
  | some o =>
    by_cases e : c.pot = some a
    · have := E.trk 0 a (E.potM (by rw [e]; simp)) (E.potS a e)
      rw [n] at this; cases this
    · rw [E.keep a o q e] at n; cases n
/-- a list that is no slot's own is frozen -/
theorem En.frzN {a : Addr} {xs : List V} {o : Obj} (E : En c H σ ρ) (ha : H a = some (.lst xs)) (h0 : c.H0 a = none) (hs : ∀ (j : Nat) (es : List D), ρ[j]? = some (Sl.own es) → σ[j]? ≠ some (some (V.ref a))) :
    En c (upd H a (.frz o (.lst xs))) σ ρ := by
  have fx : Fx H (upd H a (.frz o (.lst xs))) := fun b o f q => by
    by_cases e : b = a
    · subst e; rw [ha] at q; cases q; cases f
    · rw [upd_ne e]; exact q
  refine ⟨E.len, fun j s x q1 q2 => ?_, E.ownM, E.sep, E.new, fun b o q n => ?_, E.potS, fun j b hj q => ?_, E.potM, E.bagN, E.bagM, E.bag1⟩
  · refine SlIs.mono fx (fun b e1 e2 o q => ?_) (E.sl j s x q1 q2)
    subst e2
    have : b ≠ a := E.ne q1 e1 q2 ha fun es z1 z2 => hs j es z1 z2
    rw [upd_ne this]; exact q
  · have nb : b ≠ a := fun z => by subst z; rw [h0] at q; cases q
    rw [upd_ne nb]; exact E.keep b o q n
  · by_cases e : b = a
    · subst e; rw [upd_same]; rfl
    · rw [upd_ne e]; exact E.trk j b hj q
/-- a new object: no slot's own -/
theorem En.sepN {H1 : Hp} {ρ1 : List Sl} {a : Addr} (E : En c H σ ρ) (E1 : En c H1 σ ρ1) (n : H a = none) : ∀ (j : Nat) (es : List D), ρ1[j]? = some (Sl.own es) → σ[j]? ≠ some (some (V.ref a)) := fun j es h1 h2 => by
  have := E.trk j a (E1.ownM j es h1) h2
  rw [n] at this; cases this
/-- a new dict at a slot -/
theorem En.setB {i : Nat} {a : Addr} {xs : List ME} (E : En c H σ ρ) (hi : i ∈ c.M) (hp : c.pot = none ∨ i ≠ 0) (hH : H a = some (BagO c.w a xs)) (hm : (a == sysModules) = false) (hn : (xs.map (·.1)).Nodup) (hk : ∀ e ∈ xs, KeyIs c.K H e) (h0 : c.H0 a = none)
    (h1 : ∀ j ks, ρ[j]? = some (Sl.bag ks) → j = i) : En c H (σ.set i (some (.ref a))) (ρ.set i (.bag (xs.map (·.1)))) where
  len := by rw [List.length_set, List.length_set]; exact E.len
  sl := fun j s x h1 h2 => by
    rcases getSet h1 with ⟨e, rfl⟩ | ⟨e, h1⟩
    · rcases getSet h2 with ⟨_, rfl⟩ | ⟨e', _⟩
      · exact ⟨a, xs, rfl, hH, hm, rfl, hn, hk⟩
      · exact absurd e e'
    · rcases getSet h2 with ⟨e', _⟩ | ⟨_, h2⟩
      · exact absurd e' e
      · exact E.sl j s x h1 h2
  ownM := fun j ds h1 => by
    rcases getSet h1 with ⟨_, e⟩ | ⟨_, h1⟩
    · cases e
    · exact E.ownM j ds h1
  sep := fun j k ds es a h1 h2 h3 h4 => by
    rcases getSet h1 with ⟨_, e⟩ | ⟨n1, h1⟩
    · cases e
    rcases getSet h2 with ⟨_, e⟩ | ⟨n2, h2⟩
    · cases e
    rcases getSet h3 with ⟨e, _⟩ | ⟨_, h3⟩
    · exact absurd e n1
    rcases getSet h4 with ⟨e, _⟩ | ⟨_, h4⟩
    · exact absurd e n2
    exact E.sep j k ds es a h1 h2 h3 h4
  new := fun j ds a h1 h2 => by
    rcases getSet h1 with ⟨_, e⟩ | ⟨n1, h1⟩
    · cases e
    rcases getSet h2 with ⟨e, _⟩ | ⟨_, h2⟩
    · exact absurd e n1
    exact E.new j ds a h1 h2
  keep := E.keep
  potS := fun b h => by
    rcases hp with hp | hp
    · rw [hp] at h; cases h
    · rw [List.getElem?_set_ne hp]; exact E.potS b h
  trk := fun j b hj h1 => by
    rcases getSet h1 with ⟨_, e⟩ | ⟨_, h1⟩
    · cases e
      rw [hH]; rfl
    · exact E.trk j b hj h1
  potM := E.potM
  bagN := fun j ks b h2 h3 => by
    rcases getSet h2 with ⟨e, _⟩ | ⟨n1, h2⟩
    · rcases getSet h3 with ⟨_, e3⟩ | ⟨n3, _⟩
      · cases e3; exact h0
      · exact absurd e n3
    · exact absurd (h1 j ks h2).symm n1
  bagM := fun j ks h2 => by
    rcases getSet h2 with ⟨rfl, _⟩ | ⟨_, h2⟩
    · exact hi
    · exact E.bagM j ks h2
  bag1 := fun j k ks ls h2 h3 => by
    have e1 : j = i := by
      rcases getSet h2 with ⟨e, _⟩ | ⟨_, h2⟩
      · exact e.symm
      · exact h1 j ks h2
    have e2 : k = i := by
      rcases getSet h3 with ⟨e, _⟩ | ⟨_, h3⟩
      · exact e.symm
      · exact h1 k ls h3
    rw [e1, e2]
/-- the dict of a slot changes -/
theorem En.updB {i : Nat} {a : Addr} {ks : List NK} {ys : List ME} (E : En c H σ ρ) (h1 : ρ[i]? = some (.bag ks)) (h2 : σ[i]? = some (some (.ref a))) (hn : (ys.map (·.1)).Nodup) (hk : ∀ e ∈ ys, KeyIs c.K H e) : En c (upd H a (BagO c.w a ys)) σ (ρ.set i (.bag (ys.map (·.1)))) ∧ Gr c σ H (upd H a (BagO c.w a ys)) := by
  obtain ⟨a', xs, e, ha, hm, _, _, _⟩ := E.sl i _ _ h1 h2
  cases e
  have fx : Fx H (upd H a (BagO c.w a ys)) := fun b o f q => by
    by_cases e : b = a
    · subst e; rw [ha] at q; cases q; cases f
    · rw [upd_ne e]; exact q
  refine ⟨⟨by rw [List.length_set]; exact E.len, fun j s x q1 q2 => ?_, fun j fs q1 => ?_, fun j k fs gs b q1 q2 q3 q4 => ?_, fun j fs b q1 q2 => ?_, fun b o q n => ?_, E.potS, fun j b hj q => ?_, E.potM, fun j ks b q1 q2 => ?_, fun j ks q1 => ?_, fun j k ks ls q1 q2 => ?_⟩, fx, fun b o q n => ?_⟩
  · rcases getSet q1 with ⟨rfl, rfl⟩ | ⟨n, q1⟩
    · rw [h2] at q2
      cases q2
      exact ⟨a, ys, rfl, upd_same, hm, rfl, hn, fun e he => (hk e he).mono fx⟩
    · refine SlIs.mono fx (fun b e1 e2 o q => ?_) (E.sl j s x q1 q2)
      subst e2
      have : b ≠ a := fun z => by
        subst z
        rcases e1 with ⟨ds, rfl⟩ | ⟨ls, rfl⟩
        · obtain ⟨b', xs', e, h, _⟩ := E.sl j _ _ q1 q2
          cases e
          rw [ha] at h
          cases h
        · exact n (E.bag1 i j ks ls h1 q1)
      rw [upd_ne this]; exact q
  · rcases getSet q1 with ⟨_, e⟩ | ⟨_, q1⟩
    · cases e
    · exact E.ownM j fs q1
  · rcases getSet q1 with ⟨_, e⟩ | ⟨_, q1⟩
    · cases e
    rcases getSet q2 with ⟨_, e⟩ | ⟨_, q2⟩
    · cases e
    exact E.sep j k fs gs b q1 q2 q3 q4
  · rcases getSet q1 with ⟨_, e⟩ | ⟨_, q1⟩
    · cases e
    exact E.new j fs b q1 q2
  · have nb : b ≠ a := fun z => by subst z; rw [E.bagN i ks b h1 h2] at q; cases q
    rw [upd_ne nb]; exact E.keep b o q n
  · by_cases e : b = a
    · subst e; rw [upd_same]; rfl
    · rw [upd_ne e]; exact E.trk j b hj q
  · rcases getSet q1 with ⟨rfl, _⟩ | ⟨_, q1⟩
    · rw [h2] at q2; cases q2; exact E.bagN i _ _ h1 h2
    · exact E.bagN j ks b q1 q2
  · rcases getSet q1 with ⟨rfl, _⟩ | ⟨_, q1⟩
    · exact E.bagM i _ h1
    · exact E.bagM j ks q1
  · have e1 : ∀ {m : Nat} {l : List NK}, (ρ.set i (.bag (ys.map (·.1))))[m]? = some (.bag l) → m = i := fun {m l} q => by
      rcases getSet q with ⟨e, _⟩ | ⟨_, q⟩
      · exact e.symm
      · exact E.bag1 m i l _ q h1
    rw [e1 q1, e1 q2]
  · have : b ≠ a := fun z => n (by subst z; exact ⟨i, E.bagM i ks h1, h2⟩)
    rw [upd_ne this]; exact q
end
end DL
namespace DL
open PySem PySem.Spec PyProof.Rows L2

abbrev DW := List Sl → (D → List Sl → Prop) → Prop
abbrev BW := List Sl → (Bool → List Sl → Prop) → Prop
abbrev LW := List Sl → (List D → List Sl → Prop) → Prop
abbrev GW := D → List Sl → (List Sl → Prop) → Prop
structure DE where
  nx : List Sl → Prop
  rt : Rv → List Sl → Prop
  bk : List Sl → Prop := fun _ => False
  ct : List Sl → Prop := fun _ => False
abbrev SW := DE → List Sl → Prop

def tD (c : Ctx) (w : DW) : TE := fun σ H Q => ∃ ρ Q0, En c H σ ρ ∧ w ρ Q0 ∧ ∀ d ρ' v H', Q0 d ρ' → Gr c σ H H' → En c H' σ ρ' → Is c.K H' v d → Q v H'
def tT (c : Ctx) (w : BW) : TT := fun σ H Q => ∃ ρ Q0, En c H σ ρ ∧ w ρ Q0 ∧ ∀ b ρ' H', Q0 b ρ' → Gr c σ H H' → En c H' σ ρ' → Q b H'
def tA (c : Ctx) (w : LW) : TA := fun σ H Q => ∃ ρ Q0, En c H σ ρ ∧ w ρ Q0 ∧ ∀ ds ρ' vs H', Q0 ds ρ' → Gr c σ H H' → En c H' σ ρ' → IsAll c.K H' vs ds → Q vs H'
def tF (c : Ctx) (w : LW) : TE := fun σ H Q => ∃ ρ Q0, En c H σ ρ ∧ w ρ Q0 ∧ ∀ ds ρ' a xs H', Q0 ds ρ' → Gr c σ H H' → En c H' σ ρ' → H a = none → H' a = some (.lst xs) → IsAll c.K H' xs ds → Q (.ref a) H'
abbrev Rel := PySem.W.Frag → Hp → V → D → Prop
def gR (R : Rel) (c : Ctx) (vs : List Nat) (g : GW) : TG := fun v σ H Q => ∃ (d : D) (ρ : List Sl) (Q0 : List Sl → Prop), R c.K H v d ∧ En c H σ ρ ∧ g d ρ Q0 ∧ ∀ ρ' σ', Q0 ρ' → (σ'.length = σ.length ∧ ∀ j, j ∉ vs → σ'[j]? = σ[j]?) → En c H σ' ρ' → Q σ' H
abbrev gD := gR Is
/-- the walk's items, whatever has stayed -/
def WalkR (R : Rel) (K : PySem.W.Frag) (J : It) (H : Hp) (xs : List D) : Prop :=
  (∀ i H', Fx H H' → i < xs.length → J.go i H') ∧ (∀ i x H' H'' d, Fx H H' → xs[i]? = some d → J.yld i H' x H'' → Same H' H'' ∧ R K H'' x d) ∧ ∀ i H', Fx H H' → xs.length ≤ i → J.stop i H'
abbrev Walk := WalkR Is
def iR (R : Rel) (c : Ctx) (w : LW) : TI := fun σ H RR => ∃ (ρ : List Sl) (Q0 : List D → List Sl → Prop), En c H σ ρ ∧ w ρ Q0 ∧ ∀ xs ρ' J H', Q0 xs ρ' → Gr c σ H H' → En c H' σ ρ' → WalkR R c.K J H' xs → RR J H'
abbrev iD := iR Is
def sD (c : Ctx) (w : SW) : TS := fun D σ H => ∃ ρ D0, En c H σ ρ ∧ w D0 ρ ∧ (∀ ρ' σ' H', D0.nx ρ' → Fx H H' → En c H' σ' ρ' → D.nx σ' H') ∧
  (∀ r ρ' σ' v H', D0.rt r ρ' → Fx H H' → En c H' σ' ρ' → RvIs c.K c.H0 H' v r → D.rt v H') ∧ (∀ ρ' σ' H', D0.bk ρ' → Fx H H' → En c H' σ' ρ' → D.bk σ' H') ∧ ∀ ρ' σ' H', D0.ct ρ' → Fx H H' → En c H' σ' ρ' → D.ct σ' H'

theorem PE.imp {X : Cx} {e : Expr} {t t' : TE} (h : PE X e t) (i : ∀ σ H Q, t' σ H Q → t σ H Q) : PE X e t' := ⟨fun pins s σ H Q I q => h.run pins s σ H Q I (i σ H Q q)⟩
theorem PT.imp {X : Cx} {e : Expr} {t t' : TT} (h : PT X e t) (i : ∀ σ H Q, t' σ H Q → t σ H Q) : PT X e t' := ⟨fun pins s σ H Q I q => h.run pins s σ H Q I (i σ H Q q)⟩
theorem PA.imp {X : Cx} {e : List Expr} {t t' : TA} (h : PA X e t) (i : ∀ σ H Q, t' σ H Q → t σ H Q) : PA X e t' := ⟨fun pos pins s σ H Q I q => h.run pos pins s σ H Q I (i σ H Q q)⟩
theorem PS.imp {X : Cx} {e : Stmt} {t t' : TS} (h : PS X e t) (i : ∀ D σ H, t' D σ H → t D σ H) : PS X e t' := ⟨fun pins s σ H D I q => h.run pins s σ H D I (i D σ H q)⟩
theorem PSs.imp {X : Cx} {e : List Stmt} {t t' : TS} (h : PSs X e t) (i : ∀ D σ H, t' D σ H → t D σ H) : PSs X e t' := ⟨fun pins s σ H D I q => h.run pins s σ H D I (i D σ H q)⟩
theorem PG.imp {X : Cx} {e : Expr} {t t' : TG} (h : PG X e t) (i : ∀ v σ H Q, t' v σ H Q → t v σ H Q) : PG X e t' := ⟨fun pins s σ H v u Q I r q => h.run pins s σ H v u Q I r (i v σ H Q q)⟩
theorem PI.imp {X : Cx} {tg e : Expr} {t t' : TI} (h : PI X tg e t) (i : ∀ σ H Q, t' σ H Q → t σ H Q) : PI X tg e t' := ⟨fun pins s σ H Q I q => h.run pins s σ H Q I (i σ H Q q)⟩

theorem En.at {c : Ctx} {H : Hp} {σ : Sg} {ρ : List Sl} {i : Nat} {s : Sl} (E : En c H σ ρ) (h : ρ[i]? = some s) : ∃ x, σ[i]? = some x ∧ SlIs c.w c.K H s x := by
  have hi : i < ρ.length := (List.getElem?_eq_some_iff.mp h).1
  have hj : i < σ.length := by rw [E.len]; exact hi
  exact ⟨σ[i], List.getElem?_eq_getElem hj, E.sl i s _ h (List.getElem?_eq_getElem hj)⟩

section
variable {X : Cx} {c : Ctx} {e a b : Expr} {es : List Expr} {pos : Pos}

/-! ### names, constants -/
def wVar (i : Nat) : DW := fun ρ Q => (∃ d, ρ[i]? = some (.dat d) ∧ Q d ρ) ∨ ∃ ds, ρ[i]? = some (.own ds) ∧ Q (.list ds) (ρ.set i (.dat (.list ds)))
theorem de_var (i : Nat) {x : Str} (hN : X.N[i]? = some x := by rfl) (hv : Vis X.env.scope x := by first | exact Or.inl rfl | exact Or.inr (Or.inl rfl) | exact Or.inr (Or.inr rfl)) (hd : (x == ("__debug__" : Str)) = false := by decide)
    (hcd : (x == ("__classdict__" : Str)) = false := by decide) : PE X (.Name x pos) (tD c (wVar i)) := by
  refine ⟨fun pins s σ H Q I h => ?_⟩
  obtain ⟨ρ, Q0, E, w, k⟩ := h
  rcases w with ⟨d, h1, q⟩ | ⟨ds, h1, q⟩
  · obtain ⟨x, hx, v, rfl, iv⟩ := E.at h1
    exact (pe_var hN hv hd hcd).run pins s σ H Q I ⟨v, hx, k d ρ v H q (Gr.refl H) E iv⟩
  · obtain ⟨x, hx, a, xs, rfl, ha, ix⟩ := E.at h1
    refine thn ((pe_var hN hv hd hcd).run pins s σ H (fun v H' => v = .ref a ∧ H' = H) I ⟨_, hx, rfl, rfl⟩) fun u s1 ⟨v, H1, I1, r1, e1, e2⟩ => ?_
    subst e1 e2
    obtain ⟨o, I2⟩ := Inv.freeze I1 ha trivial (fun _ _ _ z => by cases z) (fun _ z => by cases z)
    have E2 := E.frz (o := o) h1 hx ha ix
    obtain ⟨x', hx', v', ev, iv⟩ := E2.at (i := i) (s := .dat (.list ds)) (by
      have hi : i < ρ.length := (List.getElem?_eq_some_iff.mp h1).1
      rw [List.getElem?_set_self hi])
    rw [hx] at hx'
    cases hx'
    cases ev
    exact ⟨.ref a, _, I2, r1, k _ _ _ _ q (E.frzGr h1 hx ha) E2 iv⟩
def wC (d : D) : DW := fun ρ Q => Q d ρ
theorem de_c {v : V} {d : D} (h : PE X e (tC v)) (hd : ∀ H, Is c.K H v d) : PE X e (tD c (wC d)) :=
  PE.imp h fun σ H Q ⟨ρ, Q0, E, w, k⟩ => k d ρ v H w (Gr.refl H) E (hd H)
theorem de_int {i j pos} : PE X (.Constant (.int i) j pos) (tD c (wC (.int i))) := de_c pe_int fun _ => .int i
theorem de_bl {i j pos} : PE X (.Constant (.bool i) j pos) (tD c (wC (.bool i))) := de_c pe_bl fun _ => .bl i
theorem de_non {j pos} : PE X (.Constant .none j pos) (tD c (wC .none)) := de_c pe_non fun _ => .non
theorem de_str {i j pos} : PE X (.Constant (.str i) j pos) (tD c (wC (.str i))) := de_c pe_str fun _ => .str i
/-- a module's number -/
theorem de_gint {x : Str} {i : Int} {t : Tok} (hg : Gl X x) (hm : X.mg x = some (.int i t)) (hd : (x == ("__debug__" : Str)) = false := by decide) : PE X (.Name x pos) (tD c (wC (.int i))) := de_c (pe_glob (v := .int i) hg hm ⟨t, rfl⟩ hd) fun _ => .int i
/-- a new list as data -/
def wL (w : LW) : DW := fun ρ Q => w ρ fun ds ρ' => Q (.list ds) ρ'
theorem de_fz {w : LW} (h : PE X e (tF c w)) : PE X e (tD c (wL w)) := by
  refine ⟨fun pins s σ H Q I hq => ?_⟩
  obtain ⟨ρ, Q0, E, hw, k⟩ := hq
  refine thn (h.run pins s σ H (fun v H' => ∃ ds ρ' a xs, v = .ref a ∧ Q0 (.list ds) ρ' ∧ Gr c σ H H' ∧ En c H' σ ρ' ∧ H a = none ∧ H' a = some (.lst xs) ∧ IsAll c.K H' xs ds) I
    ⟨ρ, _, E, hw, fun ds ρ' a xs H' q g E1 n ha ix => ⟨ds, ρ', a, xs, rfl, q, g, E1, n, ha, ix⟩⟩) fun u s1 ⟨v, H1, I1, r1, ds, ρ', a, xs, e1, q, g, E1, n, ha, ix⟩ => ?_
  subst e1
  obtain ⟨o, I2⟩ := Inv.freeze I1 ha trivial (fun _ _ _ z => by cases z) (fun _ z => by cases z)
  have fx : Fx H1 (upd H1 a (.frz o (.lst xs))) := fun b o f q => by
    by_cases e : b = a
    · subst e; rw [ha] at q; cases q; cases f
    · rw [upd_ne e]; exact q
  have nb : ∀ b o, H b = some o → b ≠ a := fun b o q z => by subst z; rw [n] at q; cases q
  refine ⟨.ref a, _, I2, r1, k _ ρ' _ _ q ⟨g.fx.trans fx, fun b o q w => ?_⟩ (E1.frzN ha (E.h0 n) (E.sepN E1 n)) (.lst upd_same (IsAll.mono fx ds xs ix))⟩
  rw [upd_ne (nb b o q)]; exact g.kp b o q w

/-! ### operators -/
def rB (K : PySem.W.Frag) (f : D → D → Option D) : R2 := fun x y H Q => ∃ d e r, Is K H x d ∧ Is K H y e ∧ f d e = some r ∧ ∀ v H', Same H H' → Is K H' v r → Q v H'
def wBin (f : D → D → Option D) (wa wb : DW) : DW := fun ρ Q => wa ρ fun d ρ1 => wb ρ1 fun e ρ2 => ∃ r, f d e = some r ∧ Q r ρ2
theorem bin_imp {f : D → D → Option D} {wa wb : DW} {K : PySem.W.Frag} (hK : c.K = K) : ∀ σ H Q, tD c (wBin f wa wb) σ H Q → tOp (rB K f) (tD c wa) (tD c wb) σ H Q := by
  subst hK
  rintro σ H Q ⟨ρ, Q0, E, w, k⟩
  refine ⟨ρ, _, E, w, fun d ρ1 v H1 q g1 E1 i1 => ?_⟩
  refine ⟨ρ1, _, E1, q, fun e ρ2 u H2 q2 g2 E2 i2 => ?_⟩
  obtain ⟨r, hf, q3⟩ := q2
  exact ⟨d, e, r, Is.mono g2.fx d v i1, i2, hf, fun z H3 sm iz => k r ρ2 z H3 q3 ((g1.trans g2).trans (Gr.same sm)) (E2.same sm) iz⟩
theorem de_bin {op : Operator} {f : D → D → Option D} {wa wb : DW} (ho : OpR X (binaryOp op) (rB X.K f)) (ha : PE X a (tD c wa)) (hb : PE X b (tD c wb)) (hK : c.K = X.K := by rfl) : PE X (.BinOp a op b pos) (tD c (wBin f wa wb)) :=
  PE.imp (pe_op ho ha hb) (bin_imp hK)
theorem de_cmp {op : CmpOp} {f : D → D → Option D} {wa wb : DW} (ho : OpR X (compareOp op) (rB X.K f)) (ha : PE X a (tD c wa)) (hb : PE X b (tD c wb)) (hm : behindInMarks op b = false) (hK : c.K = X.K := by rfl) : PE X (.Compare a [op] [b] pos) (tD c (wBin f wa wb)) :=
  PE.imp (pe_cmpR ho ha hb hm) (bin_imp hK)
def wTst (w : DW) : BW := fun ρ Q => w ρ fun d ρ' => ∃ k, d = .bool k ∧ Q k ρ'
theorem tst_imp {w : DW} {t : TE} (h : ∀ σ H Q, tD c w σ H Q → t σ H Q) : ∀ σ H Q, tT c (wTst w) σ H Q → tTest t σ H Q := by
  rintro σ H Q ⟨ρ, Q0, E, hw, k⟩
  refine h σ H _ ⟨ρ, _, E, hw, fun d ρ' v H' q g E1 i1 => ?_⟩
  obtain ⟨b, rfl, q⟩ := q
  cases i1
  exact ⟨b, rfl, k b ρ' H' q g E1⟩
theorem dt_cmp {op : CmpOp} {f : D → D → Option D} {wa wb : DW} (ho : OpR X (compareOp op) (rB X.K f)) (ha : PE X a (tD c wa)) (hb : PE X b (tD c wb)) (hm : behindInMarks op b = false) (hK : c.K = X.K := by rfl) : PT X (.Compare a [op] [b] pos) (tT c (wTst (wBin f wa wb))) :=
  PT.imp (pt_cmpR ho ha hb hm) (tst_imp (bin_imp hK))
/-- a op b op' c -/
def wChain (f f' : D → D → Option D) (wa wb wc : DW) : DW := fun ρ Q => wa ρ fun d ρ1 => wb ρ1 fun e ρ2 => ∃ k, f d e = some (.bool k) ∧ if k = true then wc ρ2 fun g ρ3 => ∃ r, f' e g = some r ∧ Q r ρ3 else Q (.bool false) ρ2
theorem chain_imp {f f' : D → D → Option D} {wa wb wc : DW} {K : PySem.W.Frag} (hK : c.K = K) : ∀ σ H Q, tD c (wChain f f' wa wb wc) σ H Q → tChain (rB K f) (rB K f') (tD c wa) (tD c wb) (tD c wc) σ H Q := by
  subst hK
  rintro σ H Q ⟨ρ, Q0, E, w, k⟩
  refine ⟨ρ, _, E, w, fun d ρ1 v H1 q g1 E1 i1 => ?_⟩
  refine ⟨ρ1, _, E1, q, fun e ρ2 u H2 q2 g2 E2 i2 => ?_⟩
  obtain ⟨b, hf, q3⟩ := q2
  refine ⟨d, e, .bool b, Is.mono g2.fx d v i1, i2, hf, fun z H3 sm iz => ?_⟩
  cases iz
  refine ⟨b, rfl, ?_⟩
  cases b with
  | false => exact k _ ρ2 _ H3 q3 ((g1.trans g2).trans (Gr.same sm)) (E2.same sm) (.bl false)
  | true =>
    refine ⟨ρ2, _, E2.same sm, q3, fun g ρ3 z H4 q4 g4 E4 i4 => ?_⟩
    obtain ⟨r, hf', q5⟩ := q4
    exact ⟨e, g, r, Is.mono g4.fx e u (Is.mono (Same.fx sm) e u i2), i4, hf', fun y H5 sm5 iy => k r ρ3 y H5 q5 ((((g1.trans g2).trans (Gr.same sm)).trans g4).trans (Gr.same sm5)) (E4.same sm5) iy⟩
theorem de_chain {op op' : CmpOp} {f f' : D → D → Option D} {b2 : Expr} {wa wb wc : DW} (ho : OpR X (compareOp op) (rB X.K f)) (ho' : OpR X (compareOp op') (rB X.K f')) (ha : PE X a (tD c wa)) (hb : PE X b (tD c wb)) (hc : PE X b2 (tD c wc)) (hK : c.K = X.K := by rfl)
    (hm : lastMarks [op, op'] [b, b2] = false := by with_unfolding_all rfl) : PE X (.Compare a [op, op'] [b, b2] pos) (tD c (wChain f f' wa wb wc)) := PE.imp (pe_chain ho ho' ha hb hc hm) (chain_imp hK)
theorem dt_chain {op op' : CmpOp} {f f' : D → D → Option D} {b2 : Expr} {wa wb wc : DW} (ho : OpR X (compareOp op) (rB X.K f)) (ho' : OpR X (compareOp op') (rB X.K f')) (ha : PE X a (tD c wa)) (hb : PE X b (tD c wb)) (hc : PE X b2 (tD c wc)) (hK : c.K = X.K := by rfl)
    (hm : lastMarks [op, op'] [b, b2] = false := by with_unfolding_all rfl) : PT X (.Compare a [op, op'] [b, b2] pos) (tT c (wTst (wChain f f' wa wb wc))) := PT.imp (pt_chain ho ho' ha hb hc hm) (tst_imp (chain_imp hK))
/-- an expression that gives a bool, as a test (no comparison, not, and, or) -/
theorem dt_val {w : DW} (h : PE X e (tD c w)) (he : ∀ whole, isTrue e X.env whole = (do let v ← whole; standAt e.pos; holding [v] (truthy v)) := by intro _; rfl) : PT X e (tT c (wTst w)) :=
  PT.imp (pt_val h he) (tst_imp (t := tD c w) fun _ _ _ q => q)
/-- by truth -/
def truD : D → Option Bool
  | .none => some false
  | .bool b => some b
  | .int i => some (i != 0)
  | .str x => if x.length ≤ sizeLine then some ((x.length : Int) != 0) else none
  | .list xs => some (!xs.isEmpty)
  | .tuple xs => some (!xs.isEmpty)
  | .dict _ => none
theorem isE {K : PySem.W.Frag} {H : Hp} {vs : List V} {ds : List D} (h : IsAll K H vs ds) : vs.isEmpty = ds.isEmpty := by cases h <;> rfl
theorem tru_of {K : PySem.W.Frag} {H : Hp} {v : V} {d : D} {k : Bool} (h : Is K H v d) (e : truD d = some k) : TruV K v H k := by
  cases h with
  | non => exact (Option.some.inj e).symm
  | bl b => exact (Option.some.inj e).symm
  | int i => exact (Option.some.inj e).symm
  | str x =>
    have e : (if x.length ≤ sizeLine then some ((x.length : Int) != 0) else none) = some k := e
    split at e
    · rename_i hz
      exact ⟨hz, (Option.some.inj e).symm⟩
    · cases e
  | lst h1 h2 => exact .inl ⟨_, .inl (.inr ⟨_, h1⟩), by rw [isE h2]; exact (Option.some.inj e).symm⟩
  | tup h1 h2 => exact .inr (.inl ⟨_, h1.sqT, by rw [isE h2]; exact (Option.some.inj e).symm⟩)
  | dct h1 h2 => cases e
def wTru (w : DW) : BW := fun ρ Q => w ρ fun d ρ' => ∃ k, truD d = some k ∧ Q k ρ'
end
end DL
namespace DL
open PySem PySem.Spec PyProof.Rows L2
section
variable {X : Cx} {c : Ctx} {e a b : Expr} {es : List Expr} {pos : Pos}
theorem upd_same' {H : Hp} {p : Addr} {o : HO} (h : H p = none) : Same H (upd H p o) := fun b x e => by
  rw [upd_ne (ne_of_none e h)]
  exact e
theorem dt_tru {w : DW} (h : PE X e (tD c w)) (he : ∀ whole, isTrue e X.env whole = (do let v ← whole; standAt e.pos; holding [v] (truthy v)) := by intro _; rfl) (hK : c.K = X.K := by rfl) : PT X e (tT c (wTru w)) := by
  refine PT.imp (pt_truth h he) ?_
  rintro σ H Q ⟨ρ, Q0, E, hw, k⟩
  refine ⟨ρ, _, E, hw, fun d ρ' v H' q g E1 i1 => ?_⟩
  obtain ⟨b, hb, q⟩ := q
  exact ⟨b, by rw [← hK]; exact tru_of i1 hb, k b ρ' H' q g E1⟩
/-! ### and, or, not, if -/
def wAnd (t u : BW) : BW := fun ρ Q => t ρ fun k ρ1 => if k = true then u ρ1 Q else Q false ρ1
def wOr (t u : BW) : BW := fun ρ Q => t ρ fun k ρ1 => if k = true then Q true ρ1 else u ρ1 Q
def wNot (t : BW) : BW := fun ρ Q => t ρ fun k ρ1 => Q (!k) ρ1
def wIf (t : BW) (wa wb : DW) : DW := fun ρ Q => t ρ fun k ρ1 => if k = true then wa ρ1 Q else wb ρ1 Q
def wAndV (wa wb : DW) : DW := fun ρ Q => wa ρ fun d ρ1 => ∃ k, d = .bool k ∧ if k = true then wb ρ1 Q else Q (.bool false) ρ1
def wOrV (wa wb : DW) : DW := fun ρ Q => wa ρ fun d ρ1 => ∃ k, d = .bool k ∧ if k = true then Q (.bool true) ρ1 else wb ρ1 Q
def wNotV (wa : DW) : DW := fun ρ Q => wa ρ fun d ρ1 => ∃ k, d = .bool k ∧ Q (.bool (!k)) ρ1
theorem PW.imp {t t' : TT} (h : PW X e t) (i : ∀ σ H Q, t' σ H Q → t σ H Q) : PW X e t' := ⟨fun wh pins s σ H Q I q => h.run wh pins s σ H Q I (i σ H Q q)⟩
variable {t u : BW} {wa wb : DW} {rest : List Expr}
theorem dw_and1 (ha : PT X a (tT c t)) : PW X (.BoolOp .And [a] pos) (tT c t) := pw_and1 ha
theorem dw_or1 (ha : PT X a (tT c t)) : PW X (.BoolOp .Or [a] pos) (tT c t) := pw_or1 ha
theorem dw_and (ha : PT X a (tT c t)) (hb : PW X (.BoolOp .And (b :: rest) pos) (tT c u)) : PW X (.BoolOp .And (a :: b :: rest) pos) (tT c (wAnd t u)) := by
  refine PW.imp (pw_and ha hb) ?_
  rintro σ H Q ⟨ρ, Q0, E, hw, k⟩
  refine ⟨ρ, _, E, hw, fun b ρ' H' q g E1 => ?_⟩
  cases b with
  | false => exact k false ρ' H' q g E1
  | true => exact ⟨ρ', Q0, E1, q, fun b2 ρ2 H2 q2 g2 E2 => k b2 ρ2 H2 q2 (g.trans g2) E2⟩
theorem dw_or (ha : PT X a (tT c t)) (hb : PW X (.BoolOp .Or (b :: rest) pos) (tT c u)) : PW X (.BoolOp .Or (a :: b :: rest) pos) (tT c (wOr t u)) := by
  refine PW.imp (pw_or ha hb) ?_
  rintro σ H Q ⟨ρ, Q0, E, hw, k⟩
  refine ⟨ρ, _, E, hw, fun b ρ' H' q g E1 => ?_⟩
  cases b with
  | true => exact k true ρ' H' q g E1
  | false => exact ⟨ρ', Q0, E1, q, fun b2 ρ2 H2 q2 g2 E2 => k b2 ρ2 H2 q2 (g.trans g2) E2⟩
theorem dt_bool {op} (h : PW X (.BoolOp op es pos) (tT c t)) : PT X (.BoolOp op es pos) (tT c t) := h.pt
theorem dt_not (ha : PT X a (tT c t)) : PT X (.UnaryOp .Not a pos) (tT c (wNot t)) := by
  refine PT.imp (pt_not ha) ?_
  rintro σ H Q ⟨ρ, Q0, E, hw, k⟩
  exact ⟨ρ, _, E, hw, fun b ρ' H' q g E1 => k (!b) ρ' H' q g E1⟩
theorem de_one {op} {w : DW} (h : PE X a (tD c w)) : PE X (.BoolOp op [a] pos) (tD c w) := pe_one h
theorem de_and (ha : PE X a (tD c wa)) (hb : PE X (.BoolOp .And (b :: rest) pos) (tD c wb)) : PE X (.BoolOp .And (a :: b :: rest) pos) (tD c (wAndV wa wb)) := by
  refine PE.imp (pe_and ha hb) ?_
  rintro σ H Q ⟨ρ, Q0, E, hw, k⟩
  refine ⟨ρ, _, E, hw, fun d ρ' v H' q g E1 i1 => ?_⟩
  obtain ⟨b, rfl, q⟩ := q
  cases i1
  refine ⟨b, rfl, ?_⟩
  cases b with
  | false => exact k _ ρ' _ H' q g E1 (.bl false)
  | true => exact ⟨ρ', Q0, E1, q, fun d2 ρ2 v2 H2 q2 g2 E2 i2 => k d2 ρ2 v2 H2 q2 (g.trans g2) E2 i2⟩
theorem de_or (ha : PE X a (tD c wa)) (hb : PE X (.BoolOp .Or (b :: rest) pos) (tD c wb)) : PE X (.BoolOp .Or (a :: b :: rest) pos) (tD c (wOrV wa wb)) := by
  refine PE.imp (pe_or ha hb) ?_
  rintro σ H Q ⟨ρ, Q0, E, hw, k⟩
  refine ⟨ρ, _, E, hw, fun d ρ' v H' q g E1 i1 => ?_⟩
  obtain ⟨b, rfl, q⟩ := q
  cases i1
  refine ⟨b, rfl, ?_⟩
  cases b with
  | true => exact k _ ρ' _ H' q g E1 (.bl true)
  | false => exact ⟨ρ', Q0, E1, q, fun d2 ρ2 v2 H2 q2 g2 E2 i2 => k d2 ρ2 v2 H2 q2 (g.trans g2) E2 i2⟩
theorem de_not (ha : PE X a (tD c wa)) : PE X (.UnaryOp .Not a pos) (tD c (wNotV wa)) := by
  refine PE.imp (pe_not ha) ?_
  rintro σ H Q ⟨ρ, Q0, E, hw, k⟩
  refine ⟨ρ, _, E, hw, fun d ρ' v H' q g E1 i1 => ?_⟩
  obtain ⟨b, rfl, q⟩ := q
  cases i1
  exact ⟨b, rfl, k _ ρ' _ H' q g E1 (.bl _)⟩
theorem de_if {cd : Expr} (hc : PT X cd (tT c t)) (ha : PE X a (tD c wa)) (hb : PE X b (tD c wb)) : PE X (.IfExp cd a b pos) (tD c (wIf t wa wb)) := by
  refine PE.imp (pe_ifExp hc ha hb) ?_
  rintro σ H Q ⟨ρ, Q0, E, hw, k⟩
  refine ⟨ρ, _, E, hw, fun b ρ' H' q g E1 => ?_⟩
  cases b with
  | true => exact ⟨ρ', Q0, E1, q, fun d2 ρ2 v2 H2 q2 g2 E2 i2 => k d2 ρ2 v2 H2 q2 (g.trans g2) E2 i2⟩
  | false => exact ⟨ρ', Q0, E1, q, fun d2 ρ2 v2 H2 q2 g2 E2 i2 => k d2 ρ2 v2 H2 q2 (g.trans g2) E2 i2⟩

/-! ### arguments, displays -/
def wNil : LW := fun ρ Q => Q [] ρ
def wCons (wa : DW) (wr : LW) : LW := fun ρ Q => wa ρ fun d ρ1 => wr ρ1 fun ds ρ2 => Q (d :: ds) ρ2
theorem da_nil : PA X [] (tA c wNil) := PA.imp pa_nil fun σ H Q ⟨ρ, Q0, E, hw, k⟩ => k [] ρ [] H hw (Gr.refl H) E .nil
theorem da_cons {wr : LW} (ha : PE X e (tD c wa)) (hr : PA X es (tA c wr)) (hs : starEach (e :: es) X.env = (false, eval e X.env) :: starEach es X.env := by rfl) : PA X (e :: es) (tA c (wCons wa wr)) := by
  refine PA.imp (pa_cons ha hr hs) ?_
  rintro σ H Q ⟨ρ, Q0, E, hw, k⟩
  refine ⟨ρ, _, E, hw, fun d ρ' v H' q g E1 i1 => ?_⟩
  exact ⟨ρ', _, E1, q, fun ds ρ2 vs H2 q2 g2 E2 i2 => k _ ρ2 _ H2 q2 (g.trans g2) E2 (.cons (Is.mono g2.fx d v i1) i2)⟩
def wTup (wr : LW) : DW := fun ρ Q => wr ρ fun ds ρ1 => ds.length ≤ sizeLine ∧ Q (.tuple ds) ρ1
def wLst (wr : LW) : LW := fun ρ Q => wr ρ fun ds ρ1 => ds.length ≤ sizeLine ∧ Q ds ρ1
theorem de_tup {x1} {wr : LW} (h : PA X es (tA c wr)) : PE X (.Tuple es x1 pos) (tD c (wTup wr)) := by
  refine PE.imp (pe_tupZ h) ?_
  rintro σ H Q ⟨ρ, Q0, E, hw, k⟩
  refine ⟨ρ, _, E, hw, fun ds ρ' vs H' q g E1 i1 => ?_⟩
  refine ⟨by rw [i1.length]; exact q.1, fun p o hp hd => ?_⟩
  have sm := upd_same' (o := .frz o (.tup vs)) hp
  exact k _ ρ' _ _ q.2 (g.trans (Gr.same sm)) (E1.same sm) (.tup (.inl ⟨o, hd, upd_same⟩) (IsAll.mono (Same.fx sm) ds vs i1))
theorem de_lst {wr : LW} (h : PA X es (tA c wr)) : PE X (.List es pos) (tF c (wLst wr)) := by
  refine PE.imp (pe_lst h) ?_
  rintro σ H Q ⟨ρ, Q0, E, hw, k⟩
  refine ⟨ρ, _, E, hw, fun ds ρ' vs H' q g E1 i1 => ?_⟩
  refine ⟨by rw [i1.length]; exact q.1, fun p hp => ?_⟩
  have sm := upd_same' (o := .lst vs) hp
  exact k _ ρ' p vs _ q.2 (g.trans (Gr.same sm)) (E1.same sm) (g.free E1 hp) upd_same (IsAll.mono (Same.fx sm) ds vs i1)

/-! ### subscripts -/
def keyOfD : D → Option Key
  | .int i => some (.inl i)
  | .str s => some (.inr s)
  | _ => none
theorem keyOf_keyD (k : Key) : keyOfD (keyD k) = some k := by cases k <;> rfl
def lookD (es : List (D × D)) (k : Key) : Option D := (es.find? fun p => decide (keyOfD p.1 = some k)).map (·.2)
theorem IsKv.look {K : PySem.W.Frag} {H : Hp} {k : Key} : ∀ {kvs : List (Key × V)} {es : List (D × D)} {d : D}, IsKv K H kvs es → lookD es k = some d → ∃ v, valV kvs k = some v ∧ Is K H v d
  | _, _, _, .nil, e => by cases e
  | _, _, d, @IsKv.cons _ _ k' v vs d' ds h t, e => by
    unfold lookD at e
    unfold valV
    by_cases q : k' = k
    · subst q
      simp only [List.find?_cons, keyOf_keyD, decide_true, Option.map_some] at e
      cases e
      exact ⟨v, by simp, h⟩
    · have q' : ¬ (some k' = some k) := fun z => q (Option.some.inj z)
      simp only [List.find?_cons, keyOf_keyD, q', decide_false] at e
      obtain ⟨v', e1, e2⟩ := IsKv.look t e
      exact ⟨v', by simp only [List.find?_cons, q, decide_false]; exact e1, e2⟩
theorem IsKv.lookN {K : PySem.W.Frag} {H : Hp} {k : Key} : ∀ {kvs : List (Key × V)} {es : List (D × D)}, IsKv K H kvs es → lookD es k = none → valV kvs k = none
  | _, _, .nil, e => rfl
  | _, _, @IsKv.cons _ _ k' v vs d' ds h t, e => by
    unfold lookD at e
    unfold valV
    by_cases q : k' = k
    · subst q
      simp [keyOf_keyD] at e
    · have q' : ¬ (some k' = some k) := fun z => q (Option.some.inj z)
      simp only [List.find?_cons, keyOf_keyD, q', decide_false] at e
      have := IsKv.lookN t e
      simp only [List.find?_cons, q, decide_false]
      exact this
def ixD : D → D → Option D
  | .list ds, .int i => atI ds i
  | .tuple ds, .int i => atI ds i
  | .str z, .int i => if z.length ≤ sizeLine then (atI z.cps.toList i).map fun c => .str ⟨#[c]⟩ else none
  | .dict es, .int i => lookD es (.inl i)
  | .dict es, .str s => lookD es (.inr s)
  | _, _ => none
theorem IsAll.atI {K : PySem.W.Frag} {H : Hp} {vs : List V} {ds : List D} {i : Int} {d : D} (h : IsAll K H vs ds) (e : L2.atI ds i = some d) : ∃ v, L2.atI vs i = some v ∧ Is K H v d := by
  unfold L2.atI at e ⊢
  rw [h.length]
  cases q : ixN ds.length i with
  | none => rw [q] at e; cases e
  | some j =>
    rw [q] at e
    exact h.get e
theorem tail_dict {prog : Program} {w : World} {A : Around} {E : Value → Shared → Prop} {s : Shared} {value slice : Expr} {T id : String} {o i : Value} {Q : Value → Shared → Prop}
    (hl : typeLookup (.type T) "__getitem__" = pure (some (.builtin id))) (hs : subscripted slice false o i = operate [o, i] (getItem o i)) (hT : s.TypeIs o T) (h : wpAny (model prog w) A (getItem o i) Q E s) :
    wpAny (model prog w) A (subscriptTail value slice o i) Q E s := by
  unfold subscriptTail
  refine wpAny_bind ?_
  rw [getitemInPython_of_ne hT.not_modules]
  refine wpAny_bind (wpAny_specialOf hT hl ?_)
  have fin : wpAny (model prog w) A (subscripted slice false o i) (fun r s₃ => wpAny (model prog w) A (letTemporaryGo value o r >>= fun _ => pure r) Q E s₃) E s := by
    rw [hs]
    exact wpAny_operating (wpAny_mono h (fun r s₃ h₃ => wpAny_bind (wpAny_letTemporaryGo (wpAny_pure h₃))) fun _ _ x => x)
  first
    | exact wpAny_pure (wpAny_bind fin)
    | exact wpAny_bind (wpAny_pure (wpAny_bind fin))
    | exact wpAny_bind fin
theorem ix_dict (hu : X.A.units + 1 < cLine) : IxR X (fun x y H Q => ∃ a v, x = .ref a ∧ DGet H a y (some v) ∧ Q v H) := by
  intro value slice pins s σ H x y v u Q I rx ry h hs
  obtain ⟨a, z, rfl, g, q⟩ := h
  cases rx
  exact tail_dict PySem.F.slot_dict_getitem.lookup hs (dict_typeIs I g) (d_getItem hu I g ry fun w' s3 I3 rw' => ⟨z, H, I3, rw', q⟩)
theorem ix_D (hu : X.A.units + 1 < cLine) : IxR X (rB X.K ixD) := by
  intro value slice pins s σ H x y v u Q I rx ry h hs
  obtain ⟨d, e, r, hd, he, hr, q⟩ := h
  have fin : ∀ {z : V}, Is X.K H z r → Q z H := fun iz => q _ H (Same.refl H) iz
  cases hd with
  | non => cases he <;> exact nomatch hr
  | bl _ => cases he <;> exact nomatch hr
  | int _ => cases he <;> exact nomatch hr
  | str z =>
    cases he with
    | int i =>
      have hr : (if z.length ≤ sizeLine then (atI z.cps.toList i).map (fun c => PyData.str ⟨#[c]⟩) else none) = some r := hr
      split at hr
      · rename_i hz
        cases hc : atI z.cps.toList i with
        | none => rw [hc] at hr; cases hr
        | some cc =>
          rw [hc] at hr
          cases hr
          exact ix_str value slice pins s σ H _ _ v u Q I rx ry ⟨z, i, cc, rfl, rfl, hz, hc, fin (.str _)⟩ hs
      · cases hr
    | _ => exact nomatch hr
  | lst h1 h2 =>
    cases he with
    | int i =>
      obtain ⟨z, hz, iz⟩ := h2.atI hr
      exact ix_list value slice pins s σ H _ _ v u Q I rx ry ⟨_, _, i, z, rfl, rfl, .inl (.inr ⟨_, h1⟩), hz, fin iz⟩ hs
    | _ => exact nomatch hr
  | tup h1 h2 =>
    cases he with
    | int i =>
      obtain ⟨z, hz, iz⟩ := h2.atI hr
      exact ix_tup value slice pins s σ H _ _ v u Q I rx ry ⟨_, _, i, z, rfl, rfl, h1.sqT, hz, fin iz⟩ hs
    | _ => exact nomatch hr
  | dct h1 h2 =>
    cases he with
    | int i =>
      obtain ⟨z, hz, iz⟩ := h2.look (k := .inl i) hr
      exact ix_dict hu value slice pins s σ H _ _ v u Q I rx ry ⟨_, z, rfl, .inl ⟨_, .inl i, .inr ⟨_, h1⟩, rfl, hz.symm⟩, fin iz⟩ hs
    | str i =>
      obtain ⟨z, hz, iz⟩ := h2.look (k := .inr i) hr
      exact ix_dict hu value slice pins s σ H _ _ v u Q I rx ry ⟨_, z, rfl, .inl ⟨_, .inr i, .inr ⟨_, h1⟩, rfl, hz.symm⟩, fin iz⟩ hs
    | _ => exact nomatch hr
theorem de_ix (hu : X.A.units + 1 < cLine) (ha : PE X a (tD c wa)) (hb : PE X b (tD c wb)) (hs : PlainIx b := by exact fun _ _ => rfl) (hK : c.K = X.K := by rfl) : PE X (.Subscript a b pos) (tD c (wBin ixD wa wb)) :=
  PE.imp (pe_ix (ix_D hu) ha hb hs) (bin_imp hK)
/-- the slot holds something -/
def Has (ρ : List Sl) (i : Nat) : Prop := (∃ d, ρ[i]? = some (.dat d)) ∨ ∃ ds, ρ[i]? = some (.own ds)
theorem En.has {H : Hp} {σ : Sg} {ρ : List Sl} {i : Nat} (E : En c H σ ρ) (h : Has ρ i) : ∃ v, σ[i]? = some (some v) := by
  rcases h with ⟨d, h⟩ | ⟨ds, h⟩
  · obtain ⟨x, hx, v, rfl, _⟩ := E.at h
    exact ⟨v, hx⟩
  · obtain ⟨x, hx, a, _, rfl, _⟩ := E.at h
    exact ⟨_, hx⟩
/-- an item of what a name holds, its own list too -/
def wIxN (i : Nat) (wb : DW) : DW := fun ρ Q => Has ρ i ∧ wb ρ fun e ρ1 => (∃ d r, ρ1[i]? = some (.dat d) ∧ ixD d e = some r ∧ Q r ρ1) ∨ ∃ ds r, ρ1[i]? = some (.own ds) ∧ ixD (.list ds) e = some r ∧ Q r ρ1
theorem de_ixN (hu : X.A.units + 1 < cLine) (i : Nat) {x : Str} {p2 : Pos} (hb : PE X b (tD c wb)) (hN : X.N[i]? = some x := by rfl) (hv : Vis X.env.scope x := by first | exact Or.inl rfl | exact Or.inr (Or.inl rfl) | exact Or.inr (Or.inr rfl)) (hd : (x == ("__debug__" : Str)) = false := by decide)
    (hcd : (x == ("__classdict__" : Str)) = false := by decide) (hs : PlainIx b := by exact fun _ _ => rfl) (hK : c.K = X.K := by rfl) : PE X (.Subscript (.Name x p2) b pos) (tD c (wIxN i wb)) := by
  refine PE.imp (pe_ix ((ix_D hu).or ix_list) (pe_var hN hv hd hcd) hb hs) ?_
  rintro σ H Q ⟨ρ, Q0, E, ⟨hh, hw⟩, k⟩
  obtain ⟨v, hv⟩ := E.has hh
  refine ⟨v, hv, ρ, _, E, hw, fun e ρ1 u H1 q g E1 i1 => ?_⟩
  rcases q with ⟨d, r, h1, h2, q⟩ | ⟨ds, r, h1, h2, q⟩
  · obtain ⟨x, ex, v', e1, iv⟩ := E1.at h1
    rw [hv] at ex
    cases ex
    cases e1
    exact .inl ⟨d, e, r, by rw [← hK]; exact iv, by rw [← hK]; exact i1, h2, fun z H3 sm iz => k r ρ1 z H3 q (g.trans (Gr.same sm)) (E1.same sm) (by rw [hK]; exact iz)⟩
  · obtain ⟨x, ex, a', xs, e1, ha, ix⟩ := E1.at h1
    rw [hv] at ex
    cases ex
    cases e1
    cases i1 with
    | int j =>
      obtain ⟨z, hz, iz⟩ := ix.atI h2
      exact .inr ⟨a', xs, j, z, rfl, rfl, SqL.of ha, hz, k r ρ1 z H1 q g E1 iz⟩
    | _ => exact nomatch h2

/-! ### slices of data (step one) -/
def tPartD (c : Ctx) (w : List Sl → (Option Int → List Sl → Prop) → Prop) : L2.St → Hp → (Option Int → Hp → Prop) → Prop := fun σ H Q => ∃ ρ Q0, En c H σ ρ ∧ w ρ Q0 ∧ ∀ o ρ' H', Q0 o ρ' → Gr c σ H H' → En c H' σ ρ' → Q o H'
end
end DL
namespace DL
open PySem PySem.Spec PyProof.Rows L2

section
variable {X : Cx} {c : Ctx} {e a b : Expr} {es : List Expr} {pos : Pos}
/-- a list just made, frozen on the spot -/
theorem frzEP {pins : List (Addr × Obj)} {σ : Sg} {H : Hp} {s : Shared} {Q : VK} {u : Value} {xs : List V} {ds : List D}
    (h : EP X pins σ (fun v H' => ∃ p, v = .ref p ∧ H p = none ∧ H' = upd H p (.lst xs)) u s) (ix : IsAll X.K H xs ds) (q : ∀ v H', Same H H' → Is X.K H' v (.list ds) → Q v H') : EP X pins σ Q u s := by
  obtain ⟨v, H', I', r, p, rfl, n, rfl⟩ := h
  obtain ⟨o, I2⟩ := Inv.freeze I' (a := p) upd_same trivial (fun _ _ _ z => by cases z) (fun _ z => by cases z)
  have e : upd (upd H p (.lst xs)) p (.frz o (.lst xs)) = upd H p (.frz o (.lst xs)) := upd_upd
  rw [e] at I2
  have sm := upd_same' (o := .frz o (.lst xs)) n
  exact ⟨.ref p, _, I2, r, q _ _ sm (.lst upd_same (IsAll.mono (Same.fx sm) ds xs ix))⟩

/-! ### binary operators -/
def addD : D → D → Option D
  | .int i, .int j => some (.int (i + j))
  | .str x, .str y => if x.length + y.length ≤ sizeLine then some (.str (x ++ y)) else none
  | .tuple xs, .tuple ys => if xs.length + ys.length ≤ sizeLine then some (.tuple (xs ++ ys)) else none
  | .list xs, .list ys => if xs.length + ys.length ≤ sizeLine then some (.list (xs ++ ys)) else none
  | _, _ => none
theorem exact_lst {pins : List (Addr × Obj)} {σ : Sg} {H : Hp} {s : Shared} {a : Addr} {o : Obj} {xs : List V} (I : Inv X pins σ H s) (h : H a = some (.frz o (.lst xs))) : xs.length ≤ sizeLine ∧ ∃ (its : List Value) (n : Nat), Vals xs its ∧ xs.length = its.length ∧ s.heap.get? a = some { cls := .type "list", data := .seq its.toArray n } := by
  obtain ⟨_, z, its, n, r, e⟩ := I.hok a _ h
  exact ⟨z, its, n, r, r.length, e⟩
theorem op_addD : OpR X (binaryOp .Add) (rB X.K addD) := by
  intro pins s σ H x y v u Q I rx ry h
  obtain ⟨d, e, r, hd, he, hr, q⟩ := h
  cases hd with
  | int i =>
    cases he with
    | int j =>
      cases hr
      exact op_add pins s σ H _ _ v u Q I rx ry ⟨i, j, rfl, rfl, q _ H (Same.refl H) (.int _)⟩
    | _ => exact nomatch hr
  | str x =>
    cases he with
    | str y =>
      have hr : (if x.length + y.length ≤ sizeLine then some (PyData.str (x ++ y)) else none) = some r := hr
      split at hr
      · rename_i hz
        cases hr
        exact op_add_str pins s σ H _ _ v u Q I rx ry ⟨x, y, rfl, rfl, hz, q _ H (Same.refl H) (.str _)⟩
      · cases hr
    | _ => exact nomatch hr
  | @tup a xs ds h1 h2 =>
    cases he with
    | @tup b ys es g1 g2 =>
      have hr : (if ds.length + es.length ≤ sizeLine then some (PyData.tuple (ds ++ es)) else none) = some r := hr
      split at hr
      · rename_i hz
        cases hr
        refine op_catZ pins s σ H _ _ v u Q I rx ry ⟨a, b, xs, ys, rfl, rfl, h1.sqT, g1.sqT, by rw [h2.length, g2.length]; exact hz, fun z => ?_, fun _ z => ?_, fun _ _ p o hp hd => ?_⟩
        · subst z
          cases h2
          exact q _ H (Same.refl H) (.tup g1 g2)
        · subst z
          cases g2
          rw [List.append_nil] at q
          exact q _ H (Same.refl H) (.tup h1 h2)
        · have sm := upd_same' (o := .frz o (.tup (xs ++ ys))) hp
          exact q _ _ sm (.tup (.inl ⟨o, hd, upd_same⟩) (IsAll.mono (Same.fx sm) _ _ (h2.append g2)))
      · cases hr
    | _ => exact nomatch hr
  | @lst a o xs ds h1 h2 =>
    cases he with
    | @lst b o2 ys es g1 g2 =>
      have hr : (if ds.length + es.length ≤ sizeLine then some (PyData.list (ds ++ es)) else none) = some r := hr
      split at hr
      · rename_i hz
        cases hr
        cases rx
        cases ry
        obtain ⟨z, its, n, rv, hl, e⟩ := exact_lst I h1
        obtain ⟨z2, its2, n2, rv2, hl2, e2⟩ := exact_lst I g1
        refine thn (?_ : wpAny (model X.prog X.w) X.A (binaryOp .Add (.ref a) (.ref b)) (EP X pins σ (fun v H' => ∃ p, v = .ref p ∧ H p = none ∧ H' = upd H p (.lst (xs ++ ys)))) X.xe s) fun u s1 ep => frzEP ep (h2.append g2) q
        refine PySem.P.add_list e e2 ?_ (by rw [List.size_toArray, List.size_toArray, ← hl, ← hl2, h2.length, g2.length]; omega)
        have ea : its.toArray ++ its2.toArray = (its ++ its2).toArray := by simp
        rw [ea]
        exact ⟨.ref _, _, I.lnew (t' := s.toks) (rv.append rv2) (by rw [List.length_append, h2.length, g2.length]; omega), rfl, _, rfl, I.fresh, rfl⟩
      · cases hr
    | _ => exact nomatch hr
  | _ => cases he <;> exact nomatch hr
def subD : D → D → Option D
  | .int i, .int j => some (.int (i - j))
  | _, _ => none
theorem op_subD : OpR X (binaryOp .Sub) (rB X.K subD) := by
  intro pins s σ H x y v u Q I rx ry h
  obtain ⟨d, e, r, hd, he, hr, q⟩ := h
  cases hd with
  | int i =>
    cases he with
    | int j =>
      cases hr
      exact op_sub pins s σ H _ _ v u Q I rx ry ⟨i, j, rfl, rfl, q _ H (Same.refl H) (.int _)⟩
    | _ => exact nomatch hr
  | _ => cases he <;> exact nomatch hr
def mulD : D → D → Option D
  | .int i, .int j => if i.natAbs.log2 + j.natAbs.log2 < 1000000 then some (.int (i * j)) else none
  | _, _ => none
theorem op_mulD : OpR X (binaryOp .Mult) (rB X.K mulD) := by
  intro pins s σ H x y v u Q I rx ry h
  obtain ⟨d, e, r, hd, he, hr, q⟩ := h
  cases hd with
  | int i =>
    cases he with
    | int j =>
      have hr : (if i.natAbs.log2 + j.natAbs.log2 < 1000000 then some (PyData.int (i * j)) else none) = some r := hr
      split at hr
      · rename_i hz
        cases hr
        exact op_mulW pins s σ H _ _ v u Q I rx ry ⟨i, j, rfl, rfl, hz, q _ H (Same.refl H) (.int _)⟩
      · cases hr
    | _ => exact nomatch hr
  | _ => cases he <;> exact nomatch hr
def fdivD : D → D → Option D
  | .int i, .int j => if 0 < j ∧ j.natAbs.log2 < 9000 then some (.int (i / j)) else none
  | _, _ => none
theorem op_fdivD : OpR X (binaryOp .FloorDiv) (rB X.K fdivD) := by
  intro pins s σ H x y v u Q I rx ry h
  obtain ⟨d, e, r, hd, he, hr, q⟩ := h
  cases hd with
  | int i =>
    cases he with
    | int j =>
      have hr : (if 0 < j ∧ j.natAbs.log2 < 9000 then some (PyData.int (i / j)) else none) = some r := hr
      split at hr
      · rename_i hz
        cases hr
        exact op_fdivW pins s σ H _ _ v u Q I rx ry ⟨i, j, rfl, rfl, hz, q _ H (Same.refl H) (.int _)⟩
      · cases hr
    | _ => exact nomatch hr
  | _ => cases he <;> exact nomatch hr
def modD : D → D → Option D
  | .int i, .int j => if 0 < j then some (.int (i % j)) else none
  | _, _ => none
theorem op_modD : OpR X (binaryOp .Mod) (rB X.K modD) := by
  intro pins s σ H x y v u Q I rx ry h
  obtain ⟨d, e, r, hd, he, hr, q⟩ := h
  cases hd with
  | int i =>
    cases he with
    | int j =>
      have hr : (if 0 < j then some (PyData.int (i % j)) else none) = some r := hr
      split at hr
      · rename_i hz
        cases hr
        exact op_mod pins s σ H _ _ v u Q I rx ry ⟨i, j, rfl, rfl, hz, q _ H (Same.refl H) (.int _)⟩
      · cases hr
    | _ => exact nomatch hr
  | _ => cases he <;> exact nomatch hr
def powD : D → D → Option D
  | .int i, .int j => if 0 ≤ j ∧ (Builtin.Int.intBits i : Int) * j ≤ 2 ^ 27 then some (.int (i ^ j.toNat)) else none
  | _, _ => none
theorem op_powD : OpR X (binaryOp .Pow) (rB X.K powD) := by
  intro pins s σ H x y v u Q I rx ry h
  obtain ⟨d, e, r, hd, he, hr, q⟩ := h
  cases hd with
  | int i =>
    cases he with
    | int j =>
      have hr : (if 0 ≤ j ∧ (Builtin.Int.intBits i : Int) * j ≤ 2 ^ 27 then some (PyData.int (i ^ j.toNat)) else none) = some r := hr
      split at hr
      · rename_i hz
        cases hr
        obtain ⟨t, rfl⟩ := rx
        obtain ⟨t', rfl⟩ := ry
        exact pow_int hz.1 hz.2 ⟨.int _, H, I.tok _, ⟨_, rfl⟩, q _ H (Same.refl H) (.int _)⟩
      · cases hr
    | _ => exact nomatch hr
  | _ => cases he <;> exact nomatch hr
def negD : D → Option D
  | .int i => some (.int (-i))
  | _ => none

/-! ### comparisons -/
/-- both without dicts, not too deep -/
def pl2 (d e : D) : Bool := d.plain && e.plain && decide (min d.depth e.depth ≤ 100)
def eqD (d e : D) : Option D := if pl2 d e = true then some (.bool (PyData.eqv d e)) else none
def neD (d e : D) : Option D := if pl2 d e = true then some (.bool (!PyData.eqv d e)) else none
theorem pl2_of {d e : D} (h : pl2 d e = true) : d.plain = true ∧ e.plain = true ∧ min d.depth e.depth ≤ 100 := by
  unfold pl2 at h
  simp only [Bool.and_eq_true, decide_eq_true_eq] at h
  exact ⟨h.1.1, h.1.2, h.2⟩
def rPl (K : PySem.W.Frag) (f : D → D → Option D) : R2 := fun x y H Q => ∃ d e r, Dp K H x d ∧ Dp K H y e ∧ f d e = some r ∧ ∀ v H', Same H H' → Is K H' v r → Q v H'
theorem op_eqP (hu : X.A.units + 120 < cLine) : OpR X (compareOp .Eq) (rPl X.K eqD) := by
  intro pins s σ H x y v u Q I rx ry h
  obtain ⟨d, e, r, hd, he, hr, q⟩ := h
  unfold eqD at hr
  split at hr
  · rename_i hp
    cases hr
    obtain ⟨p1, p2, p3⟩ := pl2_of hp
    obtain ⟨as, r1⟩ := Dp.reads I d x v hd rx
    obtain ⟨bs, r2⟩ := Dp.reads I e y u he ry
    exact PySem.SeqAt.eq_plain r1 r2 p1 p2 (by omega) ⟨.bl _, H, I, rfl, q _ H (Same.refl H) (.bl _)⟩
  · cases hr
theorem op_neP (hu : X.A.units + 120 < cLine) : OpR X (compareOp .NotEq) (rPl X.K neD) := by
  intro pins s σ H x y v u Q I rx ry h
  obtain ⟨d, e, r, hd, he, hr, q⟩ := h
  unfold neD at hr
  split at hr
  · rename_i hp
    cases hr
    obtain ⟨p1, p2, p3⟩ := pl2_of hp
    obtain ⟨as, r1⟩ := Dp.reads I d x v hd rx
    obtain ⟨bs, r2⟩ := Dp.reads I e y u he ry
    exact PySem.SeqAt.ne_plain r1 r2 p1 p2 (by omega) ⟨.bl _, H, I, rfl, q _ H (Same.refl H) (.bl _)⟩
  · cases hr
theorem rPl_of {K : PySem.W.Frag} {f : D → D → Option D} {x y : V} {H : Hp} {Q : VK} (hf : ∀ d e r, f d e = some r → pl2 d e = true) (h : rB K f x y H Q) : rPl K f x y H Q := by
  obtain ⟨d, e, r, hd, he, hr, q⟩ := h
  obtain ⟨p1, p2, _⟩ := pl2_of (hf d e r hr)
  exact ⟨d, e, r, Is.dp d x p1 hd, Is.dp e y p2 he, hr, q⟩
theorem eqD_pl {d e r : D} (h : eqD d e = some r) : pl2 d e = true := by
  unfold eqD at h
  split at h
  · assumption
  · cases h
theorem neD_pl {d e r : D} (h : neD d e = some r) : pl2 d e = true := by
  unfold neD at h
  split at h
  · assumption
  · cases h
theorem op_eqD' (hu : X.A.units + 120 < cLine) : OpR X (compareOp .Eq) (rB X.K eqD) := fun pins s σ H x y v u Q I rx ry h => op_eqP hu pins s σ H x y v u Q I rx ry (rPl_of (fun _ _ _ => eqD_pl) h)
theorem op_neD' (hu : X.A.units + 120 < cLine) : OpR X (compareOp .NotEq) (rB X.K neD) := fun pins s σ H x y v u Q I rx ry h => op_neP hu pins s σ H x y v u Q I rx ry (rPl_of (fun _ _ _ => neD_pl) h)
/-- order of ints, of texts -/
def ordD (p : Int → Int → Bool) (q : List Nat → List Nat → Bool) : D → D → Option D
  | .int i, .int j => some (.bool (p i j))
  | .str x, .str y => some (.bool (q x.cps.toList y.cps.toList))
  | _, _ => none
def ltD : D → D → Option D := ordD (fun i j => decide (i < j)) fun x y => decide (x < y)
def leD : D → D → Option D := ordD (fun i j => decide (i ≤ j)) fun x y => !decide (y < x)
def gtD : D → D → Option D := ordD (fun i j => decide (j < i)) fun x y => decide (y < x)
def geD : D → D → Option D := ordD (fun i j => decide (j ≤ i)) fun x y => !decide (x < y)
theorem op_ordD {op : CmpOp} {p : Int → Int → Bool} {qq : List Nat → List Nat → Bool} (h1 : OpR X (compareOp op) (rI0 fun i j => .bl (p i j)))
    (h2 : OpR X (compareOp op) (fun x y H Q => ∃ i j, x = .str i ∧ y = .str j ∧ Q (.bl (qq i.cps.toList j.cps.toList)) H)) : OpR X (compareOp op) (rB X.K (ordD p qq)) := by
  intro pins s σ H x y v u Q I rx ry h
  obtain ⟨d, e, r, hd, he, hr, q⟩ := h
  cases hd with
  | int i =>
    cases he with
    | int j => cases hr; exact h1 pins s σ H _ _ v u Q I rx ry ⟨i, j, rfl, rfl, q _ H (Same.refl H) (.bl _)⟩
    | _ => exact nomatch hr
  | str i =>
    cases he with
    | str j => cases hr; exact h2 pins s σ H _ _ v u Q I rx ry ⟨i, j, rfl, rfl, q _ H (Same.refl H) (.bl _)⟩
    | _ => exact nomatch hr
  | _ => cases he <;> exact nomatch hr
theorem op_ltD : OpR X (compareOp .Lt) (rB X.K ltD) := op_ordD op_lt op_lt_str
theorem op_leD : OpR X (compareOp .LtE) (rB X.K leD) := op_ordD op_le op_le_str
theorem op_gtD : OpR X (compareOp .Gt) (rB X.K gtD) := op_ordD op_gt op_gt_str
theorem op_geD : OpR X (compareOp .GtE) (rB X.K geD) := op_ordD op_ge op_ge_str
/-- x in c -/
def memD (d : D) : D → Option Bool
  | .list xs => if d.plain && PyData.plainAll xs && decide (min (PyData.depthAll xs) d.depth ≤ 100) then some (xs.any fun y => PyData.eqv y d) else none
  | .tuple xs => if d.plain && PyData.plainAll xs && decide (min (PyData.depthAll xs) d.depth ≤ 100) then some (xs.any fun y => PyData.eqv y d) else none
  | .dict es => (keyOfD d).map fun k => (lookD es k).isSome
  | .str z => match d with
    | .str x => some (!(Builtin.Str.occurrences z x 0 z.length 1).isEmpty)
    | _ => none
  | _ => none
def inD (d e : D) : Option D := (memD d e).map .bool
def notInD (d e : D) : Option D := (memD d e).map fun b => .bool (!b)
theorem keyD_of {d : D} {k : Key} (h : keyOfD d = some k) : d = keyD k := by
  cases d <;> first | (cases h; rfl) | exact nomatch h
theorem is_key {K : PySem.W.Frag} {H : Hp} {x : V} {k : Key} (h : Is K H x (keyD k)) : x = kV k := by
  cases k <;> (cases h; rfl)
theorem look_isSome {K : PySem.W.Frag} {H : Hp} {kvs : List (Key × V)} {es : List (D × D)} {k : Key} (h : IsKv K H kvs es) : (valV kvs k).isSome = (lookD es k).isSome := by
  cases q : lookD es k with
  | none => rw [h.lookN q]; rfl
  | some d =>
    obtain ⟨v, e, _⟩ := h.look q
    rw [e]; rfl
theorem op_inD (hu : X.A.units + 120 < cLine) : OpR X (compareOp .In) (rB X.K inD) := by
  intro pins s σ H x y v u Q I rx ry h
  obtain ⟨d, e, r, hd, he, hr, q⟩ := h
  unfold inD at hr
  cases hm : memD d e with
  | none => rw [hm] at hr; cases hr
  | some b =>
    rw [hm] at hr
    cases hr
    have fin : EP X pins σ Q (.bool b) s := ⟨.bl b, H, I, rfl, q _ H (Same.refl H) (.bl b)⟩
    cases he with
    | @lst a o xs ds h1 h2 =>
      have hm : (if d.plain && PyData.plainAll ds && decide (min (PyData.depthAll ds) d.depth ≤ 100) then some (ds.any fun y => PyData.eqv y d) else none) = some b := hm
      split at hm
      · rename_i hp
        simp only [Bool.and_eq_true, decide_eq_true_eq] at hp
        cases hm
        obtain ⟨as, r1⟩ := Dp.reads I d x v (Is.dp d x hp.1.1 hd) rx
        obtain ⟨bs, r2⟩ := Dp.reads I (.list ds) (.ref a) u (.lst (.inl (.inr ⟨_, h1⟩)) (IsAll.dp ds xs hp.1.2 h2)) ry
        exact PySem.SeqAt.in_list_data r2 r1 hp.1.2 hp.1.1 (by omega) fin
      · cases hm
    | @tup a xs ds h1 h2 =>
      have hm : (if d.plain && PyData.plainAll ds && decide (min (PyData.depthAll ds) d.depth ≤ 100) then some (ds.any fun y => PyData.eqv y d) else none) = some b := hm
      split at hm
      · rename_i hp
        simp only [Bool.and_eq_true, decide_eq_true_eq] at hp
        cases hm
        obtain ⟨as, r1⟩ := Dp.reads I d x v (Is.dp d x hp.1.1 hd) rx
        obtain ⟨bs, r2⟩ := Dp.reads I (.tuple ds) (.ref a) u (.tup h1.sqT (IsAll.dp ds xs hp.1.2 h2)) ry
        exact PySem.SeqAt.in_tuple_data r2 r1 hp.1.2 hp.1.1 (by omega) fin
      · cases hm
    | @dct a o kvs es h1 h2 =>
      cases hk : keyOfD d with
      | none =>
        have hm : (keyOfD d).map (fun k => (lookD es k).isSome) = some b := hm
        rw [hk] at hm; cases hm
      | some k =>
        have hm : (keyOfD d).map (fun k => (lookD es k).isSome) = some b := hm
        rw [hk] at hm
        cases hm
        have ek := keyD_of hk
        subst ek
        have ex := is_key hd
        subst ex
        cases ry
        refine d_in (by omega) I (.inl ⟨kvs, k, .inr ⟨_, h1⟩, rfl, rfl⟩) rx fun s3 I3 => ⟨.bl _, H, I3, rfl, ?_⟩
        rw [look_isSome h2]
        exact q _ H (Same.refl H) (.bl _)
    | str z =>
      cases hd with
      | str x =>
        cases hm
        exact op_in_str pins s σ H _ _ v u Q I rx ry ⟨x, z, rfl, rfl, q _ H (Same.refl H) (.bl _)⟩
      | _ => exact nomatch hm
    | _ => exact nomatch hm
end
end DL
namespace DL
open PySem PySem.Spec PyProof.Rows L2

section
variable {X : Cx} {c : Ctx} {e a b : Expr} {es : List Expr} {pos : Pos}
theorem op_notInD (hu : X.A.units + 120 < cLine) : OpR X (compareOp .NotIn) (rB X.K notInD) := by
  intro pins s σ H x y v u Q I rx ry h
  obtain ⟨d, e, r, hd, he, hr, q⟩ := h
  unfold notInD at hr
  cases hm : memD d e with
  | none => rw [hm] at hr; cases hr
  | some b =>
    rw [hm] at hr
    cases hr
    have fin : EP X pins σ Q (.bool (!b)) s := ⟨.bl (!b), H, I, rfl, q _ H (Same.refl H) (.bl _)⟩
    cases he with
    | @lst a o xs ds h1 h2 =>
      have hm : (if d.plain && PyData.plainAll ds && decide (min (PyData.depthAll ds) d.depth ≤ 100) then some (ds.any fun y => PyData.eqv y d) else none) = some b := hm
      split at hm
      · rename_i hp
        simp only [Bool.and_eq_true, decide_eq_true_eq] at hp
        cases hm
        obtain ⟨as, r1⟩ := Dp.reads I d x v (Is.dp d x hp.1.1 hd) rx
        obtain ⟨bs, r2⟩ := Dp.reads I (.list ds) (.ref a) u (.lst (.inl (.inr ⟨_, h1⟩)) (IsAll.dp ds xs hp.1.2 h2)) ry
        exact PySem.SeqAt.notIn_list_data r2 r1 hp.1.2 hp.1.1 (by omega) fin
      · cases hm
    | @tup a xs ds h1 h2 =>
      have hm : (if d.plain && PyData.plainAll ds && decide (min (PyData.depthAll ds) d.depth ≤ 100) then some (ds.any fun y => PyData.eqv y d) else none) = some b := hm
      split at hm
      · rename_i hp
        simp only [Bool.and_eq_true, decide_eq_true_eq] at hp
        cases hm
        obtain ⟨as, r1⟩ := Dp.reads I d x v (Is.dp d x hp.1.1 hd) rx
        obtain ⟨bs, r2⟩ := Dp.reads I (.tuple ds) (.ref a) u (.tup h1.sqT (IsAll.dp ds xs hp.1.2 h2)) ry
        exact PySem.SeqAt.notIn_tuple_data r2 r1 hp.1.2 hp.1.1 (by omega) fin
      · cases hm
    | @dct a o kvs es h1 h2 =>
      cases hk : keyOfD d with
      | none =>
        have hm : (keyOfD d).map (fun k => (lookD es k).isSome) = some b := hm
        rw [hk] at hm; cases hm
      | some k =>
        have hm : (keyOfD d).map (fun k => (lookD es k).isSome) = some b := hm
        rw [hk] at hm
        cases hm
        have ek := keyD_of hk
        subst ek
        have ex := is_key hd
        subst ex
        cases ry
        refine d_notIn (by omega) I (.inl ⟨kvs, k, .inr ⟨_, h1⟩, rfl, rfl⟩) rx fun s3 I3 => ⟨.bl _, H, I3, rfl, ?_⟩
        rw [look_isSome h2]
        exact q _ H (Same.refl H) (.bl _)
    | str z =>
      cases hd with
      | str x =>
        cases hm
        exact op_notIn_str pins s σ H _ _ v u Q I rx ry ⟨x, z, rfl, rfl, q _ H (Same.refl H) (.bl _)⟩
      | _ => exact nomatch hm
    | _ => exact nomatch hm
def rU1 (K : PySem.W.Frag) (f : D → Option D) : V → Hp → VK → Prop := fun x H Q => ∃ d r, Is K H x d ∧ f d = some r ∧ ∀ v H', Same H H' → Is K H' v r → Q v H'
def wUn (f : D → Option D) (wa : DW) : DW := fun ρ Q => wa ρ fun d ρ1 => ∃ r, f d = some r ∧ Q r ρ1
theorem de_un {op : UnaryOp} {f : D → Option D} {wa : DW} (ho : UnR X (unaryOp op) (rU1 X.K f)) (ha : PE X a (tD c wa)) (hK : c.K = X.K := by rfl) : PE X (.UnaryOp op a pos) (tD c (wUn f wa)) := by
  refine PE.imp (pe_un ho ha) ?_
  rintro σ H Q ⟨ρ, Q0, E, hw, k⟩
  refine ⟨ρ, _, E, hw, fun d ρ' v H' q g E1 i1 => ?_⟩
  obtain ⟨r, hf, q⟩ := q
  exact ⟨d, r, by rw [← hK]; exact i1, hf, fun z H3 sm iz => k r ρ' z H3 q (g.trans (Gr.same sm)) (E1.same sm) (by rw [hK]; exact iz)⟩
theorem un_negD : UnR X (unaryOp .USub) (rU1 X.K negD) := by
  intro pins s σ H x v Q I rx h
  obtain ⟨d, r, hd, hr, q⟩ := h
  cases hd with
  | int i => cases hr; exact un_neg pins s σ H _ v Q I rx ⟨i, rfl, q _ H (Same.refl H) (.int _)⟩
  | _ => exact nomatch hr

/-! ### built-in functions of data -/
def rCl (K : PySem.W.Frag) (f : List D → Option D) : List V → Hp → VK → Prop := fun vs H Q => ∃ ds r, IsAll K H vs ds ∧ f ds = some r ∧ ∀ v H', Same H H' → Is K H' v r → Q v H'
def wCl (f : List D → Option D) (wa : LW) : DW := fun ρ Q => wa ρ fun ds ρ1 => ∃ r, f ds = some r ∧ Q r ρ1
theorem cl_imp {f : List D → Option D} {wa : LW} {K : PySem.W.Frag} (hK : c.K = K) : ∀ σ H Q, tD c (wCl f wa) σ H Q → tCB (rCl K f) (tA c wa) σ H Q := by
  subst hK
  rintro σ H Q ⟨ρ, Q0, E, hw, k⟩
  refine ⟨ρ, _, E, hw, fun ds ρ' vs H' q g E1 i1 => ?_⟩
  obtain ⟨r, hf, q⟩ := q
  exact ⟨ds, r, i1, hf, fun z H3 sm iz => k r ρ' z H3 q (g.trans (Gr.same sm)) (E1.same sm) iz⟩
theorem de_clB {x : Str} {p : Pos} {id : String} {f : List D → Option D} {wa : LW} (hc : CallR X (.builtin id) (rCl X.K f)) (hg : Gl X x) (hm : X.mg x = none) (hv : bootBuiltins x = some (.builtin id)) (ha : PA X (e :: es) (tA c wa)) (hK : c.K = X.K := by rfl) (hn : x ≠ "__name__" := by decide) (hdb : (x == ("__debug__" : Str)) = false := by decide)
    (he : starEach (e :: es) X.env = (false, eval e X.env) :: starEach es X.env := by rfl) (hpl : (backTo pos (starEach es X.env)).any (·.1) = false := by rfl) : PE X (.Call (.Name x p) (e :: es) [] pos) (tD c (wCl f wa)) :=
  PE.imp (pe_callB hc hg hm hv ha hn hdb he hpl) (cl_imp hK)
theorem de_clT {x : Str} {p : Pos} {T : String} {f : List D → Option D} {wa : LW} (hc : CallR X (.type T) (rCl X.K f)) (hg : Gl X x) (hm : X.mg x = none) (hv : bootBuiltins x = some (.type T)) (ha : PA X (e :: es) (tA c wa)) (hK : c.K = X.K := by rfl) (hn : x ≠ "__name__" := by decide) (hdb : (x == ("__debug__" : Str)) = false := by decide)
    (he : starEach (e :: es) X.env = (false, eval e X.env) :: starEach es X.env := by rfl) (hpl : (backTo pos (starEach es X.env)).any (·.1) = false := by rfl) : PE X (.Call (.Name x p) (e :: es) [] pos) (tD c (wCl f wa)) :=
  PE.imp (pe_callTy hc hg hm hv ha hn hdb he hpl) (cl_imp hK)
def lenD : D → Option Int
  | .list xs => some xs.length
  | .tuple xs => some xs.length
  | .str x => if x.length ≤ sizeLine then some x.length else none
  | _ => none
def lenL : List D → Option D
  | [d] => (lenD d).map .int
  | _ => none
theorem cr_len : CallR X (.builtin "len") (rCl X.K lenL) := by
  intro pins s σ H xs us Q I r h
  obtain ⟨ds, r', hd, hr, q⟩ := h
  cases hd with
  | nil => exact nomatch hr
  | cons h1 h2 =>
    cases h2 with
    | cons _ _ => exact nomatch hr
    | nil =>
      cases h1 with
      | @lst a o xs ds g1 g2 =>
        cases hr
        exact call_len_seq pins s σ H _ us Q I r ⟨a, xs, rfl, .inl (.inl (.inr ⟨_, g1⟩)), by rw [g2.length]; exact q _ H (Same.refl H) (.int _)⟩
      | @tup a xs ds g1 g2 =>
        cases hr
        exact call_len_seq pins s σ H _ us Q I r ⟨a, xs, rfl, .inr g1.sqT, by rw [g2.length]; exact q _ H (Same.refl H) (.int _)⟩
      | str x =>
        have hr : ((if x.length ≤ sizeLine then some (x.length : Int) else none).map PyData.int) = some r' := hr
        split at hr
        · rename_i hz
          cases hr
          exact call_len_str pins s σ H _ us Q I r ⟨x, rfl, hz, q _ H (Same.refl H) (.int _)⟩
        · cases hr
      | _ => exact nomatch hr
/-- len of what a name holds -/
def wLenN (i : Nat) : DW := fun ρ Q => (∃ d n, ρ[i]? = some (.dat d) ∧ lenD d = some n ∧ Q (.int n) ρ) ∨ ∃ ds : List D, ρ[i]? = some (.own ds) ∧ Q (.int ds.length) ρ
theorem de_lenN (i : Nat) {x : Str} {p p2 : Pos} (hg : Gl X "len") (hm : X.mg "len" = none) (hN : X.N[i]? = some x := by rfl) (hv : Vis X.env.scope x := by first | exact Or.inl rfl | exact Or.inr (Or.inl rfl) | exact Or.inr (Or.inr rfl)) (hd : (x == ("__debug__" : Str)) = false := by decide)
    (hcd : (x == ("__classdict__" : Str)) = false := by decide) (hK : c.K = X.K := by rfl)
    (he : starEach [.Name x p2] X.env = (false, eval (.Name x p2) X.env) :: starEach [] X.env := by rfl) (hpl : (backTo pos (starEach [] X.env)).any (·.1) = false := by rfl) : PE X (.Call (.Name "len" p) [.Name x p2] [] pos) (tD c (wLenN i)) := by
  refine PE.imp (pe_callB (cr_len.or call_len_seq) hg hm PySem.boot_len (pa_cons (pe_var hN hv hd hcd) pa_nil he) (by decide) (by decide) he hpl) ?_
  rintro σ H Q ⟨ρ, Q0, E, hw, k⟩
  rcases hw with ⟨d, n, h1, h2, q⟩ | ⟨ds, h1, q⟩
  · obtain ⟨x, hx, v, rfl, iv⟩ := E.at h1
    refine ⟨v, hx, .inl ⟨[d], .int n, IsAll.one (by rw [← hK]; exact iv), by show (lenD d).map PyData.int = _; rw [h2]; rfl, fun z H3 sm iz => k _ ρ z H3 q (Gr.same sm) (E.same sm) (by rw [hK]; exact iz)⟩⟩
  · obtain ⟨x, hx, a, xs, rfl, ha, ix⟩ := E.at h1
    refine ⟨_, hx, .inr ⟨a, xs, rfl, .inl (SqL.of ha), ?_⟩⟩
    rw [ix.length]
    exact k _ ρ _ H q (Gr.refl H) E (.int _)
def absL : List D → Option D
  | [.int i] => some (.int (if i < 0 then -i else i))
  | _ => none
theorem cr_abs : CallR X (.builtin "abs") (rCl X.K absL) := by
  intro pins s σ H xs us Q I r h
  obtain ⟨ds, r', hd, hr, q⟩ := h
  cases hd with
  | nil => exact nomatch hr
  | cons h1 h2 =>
    cases h2 with
    | cons _ _ => cases h1 <;> exact nomatch hr
    | nil =>
      cases h1 with
      | int i => cases hr; exact call_abs pins s σ H _ us Q I r ⟨i, rfl, q _ H (Same.refl H) (.int _)⟩
      | _ => exact nomatch hr
def intL : List D → Option D
  | [.int i] => some (.int i)
  | [.bool k] => some (.int (if k then 1 else 0))
  | _ => none
theorem cr_int : CallR X (.type "int") (rCl X.K intL) := by
  intro pins s σ H xs us Q I r h
  obtain ⟨ds, r', hd, hr, q⟩ := h
  cases hd with
  | nil => exact nomatch hr
  | cons h1 h2 =>
    cases h2 with
    | cons _ _ => cases h1 <;> exact nomatch hr
    | nil =>
      cases h1 with
      | int i => cases hr; exact call_int1 pins s σ H _ us Q I r (.inl ⟨i, rfl, q _ H (Same.refl H) (.int _)⟩)
      | bl i => cases hr; exact call_int1 pins s σ H _ us Q I r (.inr ⟨i, rfl, q _ H (Same.refl H) (.int _)⟩)
      | _ => exact nomatch hr
def maxL : List D → Option D
  | [.int i, .int j] => some (.int (if j > i then j else i))
  | _ => none
def minL : List D → Option D
  | [.int i, .int j] => some (.int (if j < i then j else i))
  | _ => none
theorem two_ints {K : PySem.W.Frag} {H : Hp} {f : List D → Option D} {xs : List V} {ds : List D} {r : D} {g : Int → Int → D} (hf : ∀ ds r, f ds = some r → ∃ i j, ds = [.int i, .int j] ∧ r = g i j) (h : IsAll K H xs ds) (hr : f ds = some r) : ∃ i j, xs = [.int i, .int j] ∧ r = g i j := by
  obtain ⟨i, j, rfl, rfl⟩ := hf ds r hr
  cases h with
  | cons h1 h2 =>
    cases h2 with
    | cons h3 h4 =>
      cases h4
      cases h1
      cases h3
      exact ⟨i, j, rfl, rfl⟩
theorem cr_max2 (hc : X.calm = true) : CallR X (.builtin "max") (rCl X.K maxL) := by
  intro pins s σ H xs us Q I r h
  obtain ⟨ds, r', hd, hr, q⟩ := h
  obtain ⟨i, j, rfl, rfl⟩ := two_ints (g := fun i j => .int (if j > i then j else i)) (fun ds r h => by
    unfold maxL at h
    split at h
    · exact ⟨_, _, rfl, (Option.some.inj h).symm⟩
    · cases h) hd hr
  exact call_max2 hc pins s σ H _ us Q I r ⟨i, j, rfl, q _ H (Same.refl H) (.int _)⟩
theorem cr_min2 (hc : X.calm = true) : CallR X (.builtin "min") (rCl X.K minL) := by
  intro pins s σ H xs us Q I r h
  obtain ⟨ds, r', hd, hr, q⟩ := h
  obtain ⟨i, j, rfl, rfl⟩ := two_ints (g := fun i j => .int (if j < i then j else i)) (fun ds r h => by
    unfold minL at h
    split at h
    · exact ⟨_, _, rfl, (Option.some.inj h).symm⟩
    · cases h) hd hr
  exact call_min2 hc pins s σ H _ us Q I r ⟨i, j, rfl, q _ H (Same.refl H) (.int _)⟩
/-- tuple(xs) -/
def tupL : List D → Option D
  | [.list xs] => some (.tuple xs)
  | [.tuple xs] => some (.tuple xs)
  | _ => none
theorem cr_tuple : CallR X (.type "tuple") (rCl X.K tupL) := by
  intro pins s σ H xs us Q I r h
  obtain ⟨ds, r', hd, hr, q⟩ := h
  cases hd with
  | nil => exact nomatch hr
  | cons h1 h2 =>
    cases h2 with
    | cons _ _ => cases h1 <;> exact nomatch hr
    | nil =>
      cases h1 with
      | @lst a o ys ds g1 g2 =>
        cases hr
        refine call_tuple_z pins s σ H _ us Q I r ⟨a, ys, rfl, .inl ⟨.inl (.inr ⟨_, g1⟩), fun l o hl hd => ?_⟩⟩
        have sm := upd_same' (o := .frz o (.tup ys)) hl
        exact q _ _ sm (.tup (.inl ⟨o, hd, upd_same⟩) (IsAll.mono (Same.fx sm) ds ys g2))
      | @tup a ys ds g1 g2 =>
        cases hr
        exact call_tuple_z pins s σ H _ us Q I r ⟨a, ys, rfl, .inr ⟨g1.sqT, q _ H (Same.refl H) (.tup g1 g2)⟩⟩
      | _ => exact nomatch hr
/-- a new list by a call -/
def rClF (K : PySem.W.Frag) (f : List D → Option (List D)) : List V → Hp → VK → Prop := fun vs H Q => ∃ ds r, IsAll K H vs ds ∧ f ds = some r ∧ ∀ a xs, H a = none → IsAll K H xs r → Q (.ref a) (upd H a (.lst xs))
def wClF (f : List D → Option (List D)) (wa : LW) : LW := fun ρ Q => wa ρ fun ds ρ1 => ∃ r, f ds = some r ∧ Q r ρ1
theorem clF_imp {f : List D → Option (List D)} {wa : LW} {K : PySem.W.Frag} (hK : c.K = K) : ∀ σ H Q, tF c (wClF f wa) σ H Q → tCB (rClF K f) (tA c wa) σ H Q := by
  subst hK
  rintro σ H Q ⟨ρ, Q0, E, hw, k⟩
  refine ⟨ρ, _, E, hw, fun ds ρ' vs H' q g E1 i1 => ?_⟩
  obtain ⟨r, hf, q⟩ := q
  refine ⟨ds, r, i1, hf, fun a xs n ix => ?_⟩
  have sm := upd_same' (o := .lst xs) n
  exact k r ρ' a xs _ q (g.trans (Gr.same sm)) (E1.same sm) (g.free E1 n) upd_same (IsAll.mono (Same.fx sm) r xs ix)
theorem df_clB {x : Str} {p : Pos} {id : String} {f : List D → Option (List D)} {wa : LW} (hc : CallR X (.builtin id) (rClF X.K f)) (hg : Gl X x) (hm : X.mg x = none) (hv : bootBuiltins x = some (.builtin id)) (ha : PA X (e :: es) (tA c wa)) (hK : c.K = X.K := by rfl) (hn : x ≠ "__name__" := by decide) (hdb : (x == ("__debug__" : Str)) = false := by decide)
    (he : starEach (e :: es) X.env = (false, eval e X.env) :: starEach es X.env := by rfl) (hpl : (backTo pos (starEach es X.env)).any (·.1) = false := by rfl) : PE X (.Call (.Name x p) (e :: es) [] pos) (tF c (wClF f wa)) :=
  PE.imp (pe_callB hc hg hm hv ha hn hdb he hpl) (clF_imp hK)
theorem df_clT {x : Str} {p : Pos} {T : String} {f : List D → Option (List D)} {wa : LW} (hc : CallR X (.type T) (rClF X.K f)) (hg : Gl X x) (hm : X.mg x = none) (hv : bootBuiltins x = some (.type T)) (ha : PA X (e :: es) (tA c wa)) (hK : c.K = X.K := by rfl) (hn : x ≠ "__name__" := by decide) (hdb : (x == ("__debug__" : Str)) = false := by decide)
    (he : starEach (e :: es) X.env = (false, eval e X.env) :: starEach es X.env := by rfl) (hpl : (backTo pos (starEach es X.env)).any (·.1) = false := by rfl) : PE X (.Call (.Name x p) (e :: es) [] pos) (tF c (wClF f wa)) :=
  PE.imp (pe_callTy hc hg hm hv ha hn hdb he hpl) (clF_imp hK)
def lisL : List D → Option (List D)
  | [.list xs] => some xs
  | [.tuple xs] => some xs
  | _ => none
theorem cr_list : CallR X (.type "list") (rClF X.K lisL) := by
  intro pins s σ H xs us Q I r h
  obtain ⟨ds, r', hd, hr, q⟩ := h
  cases hd with
  | nil => exact nomatch hr
  | cons h1 h2 =>
    cases h2 with
    | cons _ _ => cases h1 <;> exact nomatch hr
    | nil =>
      cases h1 with
      | @lst a o ys ds g1 g2 =>
        cases hr
        exact call_list_of pins s σ H _ us Q I r ⟨a, ys, rfl, .inl (.inl (.inr ⟨_, g1⟩)), fun l hl => q l ys hl g2⟩
      | @tup a ys ds g1 g2 =>
        cases hr
        exact call_list_of pins s σ H _ us Q I r ⟨a, ys, rfl, .inr g1.sqT, fun l hl => q l ys hl g2⟩
      | _ => exact nomatch hr
end
end DL
namespace DL
open PySem PySem.Spec PyProof.Rows L2

/-- data, or a tuple of data just made -/
def IsW (K : PySem.W.Frag) (H : Hp) (v : V) (d : D) : Prop := Is K H v d ∨ ∃ a xs ds, v = .ref a ∧ d = .tuple ds ∧ SqT K H a xs ∧ IsAll K H xs ds
abbrev WalkW := WalkR IsW
abbrev iW := iR IsW
abbrev gW := gR IsW

section
variable {X : Cx} {c : Ctx} {e a b l tg : Expr} {es : List Expr} {pos : Pos}

/-! ### what is walked -/
def itemsD : D → Option (List D)
  | .list xs => some xs
  | .tuple xs => some xs
  | _ => none
def wItems (w : DW) : LW := fun ρ Q => w ρ fun d ρ1 => ∃ xs, itemsD d = some xs ∧ Q xs ρ1
theorem walk_l {K : PySem.W.Frag} {H : Hp} {a : Addr} {o : Obj} {xs : List V} {ds : List D} (h1 : H a = some (.frz o (.lst xs))) (h2 : IsAll K H xs ds) : Walk K (Itl K a) H ds := by
  have sq : ∀ H', Fx H H' → SqL K H' a xs := fun H' f => .inl (.inr ⟨o, f _ _ rfl h1⟩)
  refine ⟨fun i H' f hi => ?_, fun i x H' H'' d f hd y => ?_, fun i H' f hi => ⟨xs, sq H' f, by rw [h2.length]; exact hi⟩⟩
  · rw [← h2.length] at hi
    exact ⟨xs, xs[i], sq H' f, List.getElem?_eq_getElem hi⟩
  · obtain ⟨rfl, y⟩ := y
    obtain ⟨v, hv, iv⟩ := h2.get hd
    have e := (y xs (sq _ f)).symm.trans hv
    cases e
    exact ⟨Same.refl _, Is.mono f d _ iv⟩
theorem walk_t {K : PySem.W.Frag} {H : Hp} {a : Addr} {xs : List V} {ds : List D} (h1 : TupK K H a xs) (h2 : IsAll K H xs ds) : Walk K (Itt K a) H ds := by
  have sq : ∀ H', Fx H H' → SqT K H' a xs := fun H' f => (f.tupK h1).sqT
  refine ⟨fun i H' f hi => ?_, fun i x H' H'' d f hd y => ?_, fun i H' f hi => ⟨xs, sq H' f, by rw [h2.length]; exact hi⟩⟩
  · rw [← h2.length] at hi
    exact ⟨xs, xs[i], sq H' f, List.getElem?_eq_getElem hi⟩
  · obtain ⟨rfl, y⟩ := y
    obtain ⟨v, hv, iv⟩ := h2.get hd
    have e := (y xs (sq _ f)).symm.trans hv
    cases e
    exact ⟨Same.refl _, Is.mono f d _ iv⟩
theorem di_of {w : DW} (h : PE X l (tD c w)) (hK : c.K = X.K := by rfl) : PI X tg l (iD c (wItems w)) := by
  refine ⟨fun pins s σ H R I hw => ?_⟩
  obtain ⟨ρ, Q0, E, hw, k⟩ := hw
  refine thn (h.run pins s σ H (fun v H' => ∃ d ρ' xs, itemsD d = some xs ∧ Q0 xs ρ' ∧ Gr c σ H H' ∧ En c H' σ ρ' ∧ Is c.K H' v d) I ⟨ρ, _, E, hw, fun d ρ' v H' ⟨xs, e, q⟩ g E1 i1 => ⟨d, ρ', xs, e, q, g, E1, i1⟩⟩) fun u s1 ⟨v, H1, I1, r1, d, ρ', xs, e, q, g, E1, i1⟩ => ?_
  cases i1 with
  | @lst a o ys ds h1 h2 =>
    cases e
    cases r1
    obtain ⟨its, rv, p, hz⟩ := I1.list (a := a) (xs := ys) (.inl (.inr ⟨_, h1⟩))
    refine wpAny_pyIter_list p.isList ?_
    refine ⟨s1.heap.objs.size, [s1.heap.objs.size], _, _, H1, rfl, I1.kept (t' := s1.toks) fun b o e => Heap.get?_push_of_some _ e, turn_list a _, ⟨_, Heap.get?_push_size _ rfl, rfl, rfl⟩, fun b hb => ?_, k _ ρ' (Itl X.K a) H1 q g E1 (by rw [← hK]; exact walk_l h1 h2)⟩
    have e : b = s1.heap.objs.size := by simpa using hb
    subst e
    exact I1.fpOk (Nat.le_refl _) (I1.hok.fresh (Nat.le_refl _))
  | @tup a ys ds h1 h2 =>
    cases e
    cases r1
    have h1' : TupK X.K H1 a ys := by rw [← hK]; exact h1
    obtain ⟨its, rv, p, hz⟩ := I1.tuple (a := a) (xs := ys) h1'.sqT
    refine wpAny_pyIter_tuple (show s1.heap.IsTuple a its.toArray from p) ?_
    refine ⟨s1.heap.objs.size, [s1.heap.objs.size], _, _, H1, rfl, I1.kept (t' := s1.toks) fun b o e => Heap.get?_push_of_some _ e, turn_tuple a _, ⟨_, Heap.get?_push_size _ rfl, rfl, rfl⟩, fun b hb => ?_, k _ ρ' (Itt X.K a) H1 q g E1 (by rw [← hK]; exact walk_t h1 h2)⟩
    have e : b = s1.heap.objs.size := by simpa using hb
    subst e
    exact I1.fpOk (Nat.le_refl _) (I1.hok.fresh (Nat.le_refl _))
  | _ => exact nomatch e
/-- 0, 1, .. as data -/
def upto (lo : Int) (n : Nat) : List D := (List.range n).map fun i : Nat => .int (lo + (i : Int))
theorem upto_length (lo : Int) (n : Nat) : (upto lo n).length = n := by simp [upto]
theorem upto_get {lo : Int} {n i : Nat} {d : D} (h : (upto lo n)[i]? = some d) : d = .int (lo + i) ∧ i < n := by
  unfold upto at h
  rw [List.getElem?_map] at h
  by_cases hi : i < n
  · rw [List.getElem?_range hi] at h
    exact ⟨(Option.some.inj h).symm, hi⟩
  · rw [List.getElem?_eq_none (by simpa using hi)] at h
    cases h
theorem walk_r {K : PySem.W.Frag} {H : Hp} (lo : Int) (n : Nat) : Walk K (Itr lo n) H (upto lo n) := by
  refine ⟨fun i H' f hi => by rw [upto_length] at hi; exact hi, fun i x H' H'' d f hd y => ?_, fun i H' f hi => by rw [upto_length] at hi; exact hi⟩
  obtain ⟨rfl, rfl⟩ := y
  obtain ⟨rfl, _⟩ := upto_get hd
  exact ⟨Same.refl _, .int _⟩
def wRange1 (wa : LW) : LW := fun ρ Q => wa ρ fun ds ρ1 => ∃ j : Int, ds = [.int j] ∧ -(2 ^ 62) ≤ j ∧ j < 2 ^ 62 ∧ Q (upto 0 j.toNat) ρ1
theorem di_range1 {p : Pos} {wa : LW} (hg : Gl X "range") (hm : X.mg "range" = none) (ha : PA X [a] (tA c wa)) (hs : starEach [a] X.env = [(false, eval a X.env)] := by rfl) : PI X tg (.Call (.Name "range" p) [a] [] pos) (iD c (wRange1 wa)) := by
  refine PI.imp (pi_range1 hg hm ha hs) ?_
  rintro σ H Q ⟨ρ, Q0, E, hw, k⟩
  refine ⟨ρ, _, E, hw, fun ds ρ' vs H' q g E1 i1 => ?_⟩
  obtain ⟨j, rfl, h1, h2, q⟩ := q
  cases i1 with
  | cons h3 h4 =>
    cases h4
    cases h3
    exact ⟨j, rfl, h1, h2, k _ ρ' _ H' q g E1 (walk_r 0 _)⟩
def wRange2 (wa : LW) : LW := fun ρ Q => wa ρ fun ds ρ1 => ∃ i j : Int, ds = [.int i, .int j] ∧ (-(2 ^ 62) ≤ i ∧ i < 2 ^ 62 ∧ -(2 ^ 62) ≤ j ∧ j < 2 ^ 62) ∧ Q (upto i (j - i).toNat) ρ1
theorem di_range2 {p : Pos} {wa : LW} (hg : Gl X "range") (hm : X.mg "range" = none) (ha : PA X [a, b] (tA c wa)) (hs : starEach [a, b] X.env = [(false, eval a X.env), (false, eval b X.env)] := by rfl) (hs2 : starEach [b] X.env = [(false, eval b X.env)] := by rfl) : PI X tg (.Call (.Name "range" p) [a, b] [] pos) (iD c (wRange2 wa)) := by
  refine PI.imp (pi_range2 hg hm ha hs hs2) ?_
  rintro σ H Q ⟨ρ, Q0, E, hw, k⟩
  refine ⟨ρ, _, E, hw, fun ds ρ' vs H' q g E1 i1 => ?_⟩
  obtain ⟨i, j, rfl, h1, q⟩ := q
  cases i1 with
  | cons h3 h4 =>
    cases h4 with
    | cons h5 h6 =>
      cases h6
      cases h3
      cases h5
      exact ⟨i, j, rfl, h1, k _ ρ' _ H' q g E1 (walk_r i _)⟩
/-- enumerate -/
def enumD (xs : List D) : List D := xs.zipIdx.map fun p => .tuple [.int (p.2 : Nat), p.1]
theorem enumD_length (xs : List D) : (enumD xs).length = xs.length := by simp [enumD]
theorem enumD_get {xs : List D} {i : Nat} {d : D} (h : (enumD xs)[i]? = some d) : ∃ x, xs[i]? = some x ∧ d = .tuple [.int (i : Nat), x] := by
  unfold enumD at h
  rw [List.getElem?_map, List.getElem?_zipIdx] at h
  cases e : xs[i]? with
  | none => rw [e] at h; cases h
  | some x =>
    rw [e] at h
    refine ⟨x, rfl, ?_⟩
    simpa using h.symm
def wEnum (wa : LW) : LW := fun ρ Q => wa ρ fun ds ρ1 => ∃ xs, ds = [.list xs] ∧ Q (enumD xs) ρ1
theorem di_enum {p tpos : Pos} {elts : List Expr} {kk : Nat} {wa : LW} (hg : Gl X "enumerate") (hm : X.mg "enumerate" = none) (ha : PA X [a] (tA c wa)) (hs : starEach [a] X.env = [(false, eval a X.env)] := by rfl) (hK : c.K = X.K := by rfl) : PI X (.Tuple elts kk tpos) (.Call (.Name "enumerate" p) [a] [] pos) (iW c (wEnum wa)) := by
  refine PI.imp (pi_enum hg hm ha hs) ?_
  rintro σ H Q ⟨ρ, Q0, E, hw, k⟩
  refine ⟨ρ, _, E, hw, fun ds ρ' vs H' q g E1 i1 => ?_⟩
  obtain ⟨xs, rfl, q⟩ := q
  cases i1 with
  | cons h3 h4 =>
    cases h4
    cases h3 with
    | @lst a o ys ds h1 h2 =>
      have sq : ∀ H2, Fx H' H2 → SqL X.K H2 a ys := fun H2 f => .inl (.inr ⟨o, f _ _ rfl h1⟩)
      refine ⟨a, ys, rfl, sq H' (Fx.refl _), k _ ρ' _ H' q g E1 ⟨fun i H2 f hi => ?_, fun i x H2 H3 d f hd y => ?_, fun i H2 f hi => ⟨ys, sq H2 f, by rw [h2.length, ← enumD_length]; exact hi⟩⟩⟩
      · rw [enumD_length, ← h2.length] at hi
        exact ⟨ys, ys[i], sq H2 f, List.getElem?_eq_getElem hi⟩
      · obtain ⟨T, x', rfl, n, rfl, y⟩ := y
        obtain ⟨z, hz, rfl⟩ := enumD_get hd
        obtain ⟨v, hv, iv⟩ := h2.get hz
        have e := (y ys (sq _ f)).symm.trans hv
        cases e
        have sm := upd_same' (o := .tup [.int (i : Nat), x']) n
        exact ⟨sm, .inr ⟨T, _, _, rfl, rfl, SqT.of upd_same, .cons (.int _) (.cons (Is.mono (f.trans (Same.fx sm)) _ _ iv) .nil)⟩⟩

/-! ### targets -/
def wName (i : Nat) : GW := fun d ρ Q => Q (ρ.set i (.dat d))
theorem Off.set {vs : List Nat} {σ : Sg} {i : Nat} {x : Option V} (h : i ∈ vs) : Off vs σ (σ.set i x) := ⟨List.length_set, fun j hj => List.getElem?_set_ne fun e => hj (by rw [← e]; exact h)⟩
theorem dg_name (i : Nat) {x : Str} (vs : List Nat) (hN : X.N.Nodup) (hi : X.N[i]? = some x) (hx : Loc X.env.scope x) (hM : i ∉ c.M) (hp : c.pot = none ∨ i ≠ 0) (hv : i ∈ vs) (hf : X.fn x = true ∨ X.env.scope.names.lookup x = some .local := by first | exact .inl rfl | exact .inr rfl | assumption) : PG X (.Name x pos) (gD c vs (wName i)) := by
  refine PG.imp (pg_name hN hi hx hf) ?_
  rintro v σ H Q ⟨d, ρ, Q0, iv, E, g, k⟩
  exact k _ _ g (Off.set hv) (E.setD hM hp iv)
def setN : List Sl → List Nat → List D → List Sl
  | ρ, i :: is, d :: ds => setN (ρ.set i (.dat d)) is ds
  | ρ, _, _ => ρ
def gsD (c : Ctx) (vs is : List Nat) : TGs := fun vals σ H Q => ∃ (ds : List D) (ρ : List Sl) (Q0 : List Sl → Prop), IsAll c.K H vals ds ∧ ds.length = is.length ∧ En c H σ ρ ∧ Q0 (setN ρ is ds) ∧ ∀ ρ' σ', Q0 ρ' → Off vs σ σ' → En c H σ' ρ' → Q σ' H
theorem PGs.imp {t t' : TGs} (h : PGs X es t) (i : ∀ v σ H Q, t' v σ H Q → t v σ H Q) : PGs X es t' := ⟨fun pins s σ H v u Q I r q => h.run pins s σ H v u Q I r (i v σ H Q q)⟩
theorem dgs_nil (vs : List Nat) : PGs X [] (gsD c vs []) := by
  refine PGs.imp pgs_nil ?_
  rintro v σ H Q ⟨ds, ρ, Q0, ia, hl, E, g, k⟩
  cases ds with
  | nil => cases ia; exact ⟨rfl, k _ _ g (Off.refl vs σ) E⟩
  | cons _ _ => cases hl
theorem dgs_cons (i : Nat) {x : Str} {is vs : List Nat} {p : Pos} (hN : X.N.Nodup) (hi : X.N[i]? = some x) (hx : Loc X.env.scope x) (hM : i ∉ c.M) (hp : c.pot = none ∨ i ≠ 0) (hv : i ∈ vs) (h2 : PGs X es (gsD c vs is))
    (hs : (assignEach (.Name x p :: es) X.env).map (·.2) = assign (.Name x p) X.env :: (assignEach es X.env).map (·.2) := by rfl) (hf : X.fn x = true ∨ X.env.scope.names.lookup x = some .local := by first | exact .inl rfl | exact .inr rfl | assumption) : PGs X (.Name x p :: es) (gsD c vs (i :: is)) := by
  refine PGs.imp (pgs_cons (pg_name hN hi hx hf) h2 hs) ?_
  rintro v σ H Q ⟨ds, ρ, Q0, ia, hl, E, g, k⟩
  cases ia with
  | nil => cases hl
  | @cons v vr d dr h3 h4 =>
    refine ⟨v, vr, rfl, dr, ρ.set i (.dat d), Q0, h4, by simpa using hl, E.setD hM hp h3, g, fun ρ' σ' q o E' => k ρ' σ' q ((Off.set hv).trans o) E'⟩
/-- (a, b, ..) = a tuple -/
def wUnp (is : List Nat) : GW := fun d ρ Q => ∃ ds, d = .tuple ds ∧ ds.length = is.length ∧ Q (setN ρ is ds)
theorem dg_tup {is vs : List Nat} {kk : Nat} (hc : X.calm = true) (h : PGs X es (gsD c vs is)) (hn : (assignEach es X.env).length = is.length := by rfl) (hst : (assignEach es X.env).findIdx? (·.1) = none := by rfl) (hK : c.K = X.K := by rfl) : PG X (.Tuple es kk pos) (gW c vs (wUnp is)) := by
  refine PG.imp (pg_tup hc h hn hst) ?_
  rintro v σ H Q ⟨d, ρ, Q0, iv, E, ⟨ds, rfl, hl, g⟩, k⟩
  have : ∃ a xs, v = .ref a ∧ SqT c.K H a xs ∧ IsAll c.K H xs ds := by
    rcases iv with iv | ⟨a, xs, ds', e1, e2, h1, h2⟩
    · cases iv with
      | tup h1 h2 => exact ⟨_, _, rfl, h1.sqT, h2⟩
    · cases e2
      exact ⟨a, xs, e1, h1, h2⟩
  obtain ⟨a, xs, rfl, h1, h2⟩ := this
  exact ⟨a, xs, rfl, by rw [← hK]; exact h1, by rw [h2.length]; exact hl, ds, ρ, Q0, h2, hl, E, g, k⟩
theorem dg_w {g : GW} {vs : List Nat} (h : PG X e (gW c vs g)) : PG X e (gD c vs g) := PG.imp h fun v σ H Q ⟨d, ρ, Q0, iv, r⟩ => ⟨d, ρ, Q0, .inl iv, r⟩

/-! ### comprehensions -/
def wLc (vs : List Nat) (wi : LW) (g : GW) (wt : BW) (we : DW) : LW := fun ρ Q => wi ρ fun (xs : List D) ρ1 => ∃ W : Nat → List D → List Sl → Prop, W 0 [] (wipeS ρ1 vs) ∧
  (∀ (i : Nat) (x : D) (acc : List D) (ρ2 : List Sl), xs[i]? = some x → W i acc ρ2 → g x (wipeS ρ2 vs) fun ρ3 => wt ρ3 fun b ρ4 => if b = true then we ρ4 fun y ρ5 => acc.length < sizeLine ∧ W (i + 1) (acc ++ [y]) (wipeS ρ5 vs) else W (i + 1) acc (wipeS ρ4 vs)) ∧
  ∀ acc ρ2, W xs.length acc ρ2 → Q acc ρ2
def wYes : BW := fun ρ Q => Q true ρ
theorem dts_nil : PTs X [] (tT c wYes) := ⟨fun pins s σ H Q I ⟨ρ, Q0, E, hw, k⟩ => pts_nil.run pins s σ H Q I (k true ρ H hw (Gr.refl H) E)⟩
theorem dts_one {t : BW} (h : PT X e (tT c t)) : PTs X [e] (tT c t) := pts_one h
/-- a list at D that no slot holds is changed -/
theorem En.updN {H : Hp} {σ : Sg} {ρ : List Sl} {D : Addr} {as bs : List V} (E : En c H σ ρ) (h : H D = some (.lst as)) (h0 : c.H0 D = none) (hs : ∀ (j : Nat) (es : List PyData), ρ[j]? = some (Sl.own es) → σ[j]? ≠ some (some (V.ref D))) : En c (upd H D (.lst bs)) σ ρ := by
  have fx : Fx H (upd H D (.lst bs)) := fun b o f q => by
    by_cases e : b = D
    · subst e; rw [h] at q; cases q; cases f
    · rw [upd_ne e]; exact q
  refine ⟨E.len, fun j s x q1 q2 => SlIs.mono fx (fun b e1 e2 o q => ?_) (E.sl j s x q1 q2), E.ownM, E.sep, E.new, fun b o q n => ?_, E.potS, fun j b hj q => ?_, E.potM, E.bagN, E.bagM, E.bag1⟩
  · subst e2
    have : b ≠ D := E.ne q1 e1 q2 h fun es z1 z2 => hs j es z1 z2
    rw [upd_ne this]; exact q
  · have nb : b ≠ D := fun z => by subst z; rw [h0] at q; cases q
    rw [upd_ne nb]; exact E.keep b o q n
  · by_cases e : b = D
    · subst e; rw [upd_same]; rfl
    · rw [upd_ne e]; exact E.trk j b hj q
theorem lc_imp {R : Rel} {wi : LW} {g : GW} {wt : BW} {we : DW} {vs : List Nat} (hM : ∀ i, i ∈ vs → i ∉ c.M) (hp : c.pot = none ∨ 0 ∉ vs) : ∀ σ H Q, tF c (wLc vs wi g wt we) σ H Q → tLc (iR R c wi) (gR R c vs g) (tT c wt) (tD c we) vs σ H Q := by
  rintro σ H Q ⟨ρ, Q0, E, hw, k⟩
  refine ⟨ρ, _, E, hw, fun xs ρ' J H1 q gr E1 hJ => ?_⟩
  obtain ⟨W, w0, ws, wd⟩ := q
  obtain ⟨jgo, jy, jstop⟩ := hJ
  intro D hD
  have h0D : c.H0 D = none := E1.h0 hD
  have HD : H D = none := gr.free E1 hD
  refine ⟨fun i m H2 => m = xs.length - i ∧ i ≤ xs.length ∧ ∃ acc av ρ2, W i acc ρ2 ∧ En c H2 σ ρ2 ∧ Gr c σ H1 H2 ∧ H2 D = some (.lst av) ∧ IsAll c.K H2 av acc, ⟨xs.length, by simp, Nat.zero_le _, [], [], wipeS ρ' vs, w0, ?_, ?_, upd_same, .nil⟩, ?_⟩
  · exact (E1.off (Off.refl vs σ) hM hp).same (upd_same' hD)
  · exact Gr.same (upd_same' hD)
  rintro i m H2 ⟨rfl, hi, acc, av, ρ2, hW, E2, g2, hav, iav⟩
  by_cases hlt : i < xs.length
  · refine .inr ⟨jgo i H2 g2.fx hlt, fun H3 => ∃ acc av ρ2, W (i + 1) acc ρ2 ∧ En c H3 σ ρ2 ∧ Gr c σ H1 H3 ∧ H3 D = some (.lst av) ∧ IsAll c.K H3 av acc, fun H3 q => ⟨xs.length - (i + 1), by omega, rfl, hlt, q⟩, fun x H3 y => ?_⟩
    have hx := List.getElem?_eq_getElem hlt
    obtain ⟨sm, rx⟩ := jy i x H2 H3 xs[i] g2.fx hx y
    have E3 : En c H3 (wipe σ vs) (wipeS ρ2 vs) := (E2.same sm).off (off_wipe σ vs) hM hp
    refine ⟨xs[i], wipeS ρ2 vs, _, rx, E3, ws i xs[i] acc ρ2 hx hW, fun ρ3 σ3 q3 (o3 : Off vs (wipe σ vs) σ3) E4 => ⟨off_wipes ((off_wipe σ vs).trans o3), ?_⟩⟩
    -- back in the def's slots
    have oσ : Off vs σ3 σ := ((off_wipe σ vs).trans o3).symm
    have gM : ∀ i, i ∈ c.M → σ[i]? = σ3[i]? := Off.M oσ hM
    have gM' : ∀ i, i ∈ c.M → σ3[i]? = σ[i]? := fun i h => (gM i h).symm
    refine ⟨ρ3, _, E4, q3, fun b ρ4 H4 q4 g4 E5 => ?_⟩
    have g24 : Gr c σ H1 H4 := (g2.trans (Gr.same sm)).trans (g4.congr gM')
    have nOw : ¬ Ow c σ3 D := fun w => E1.notOw hD ((Ow.congr gM').mp w)
    have hD4 : H4 D = some (.lst av) := g4.kp D _ (sm D _ hav) nOw
    have iav4 : IsAll c.K H4 av acc := IsAll.mono ((Same.fx sm).trans g4.fx) acc av iav
    cases b with
    | false => exact ⟨acc, av, _, q4, E5.off oσ hM hp, g24, hD4, iav4⟩
    | true =>
      refine ⟨ρ4, _, E5, q4, fun d ρ5 v H5 q5 g5 E6 i6 => ?_⟩
      have hD5 : H5 D = some (.lst av) := g5.kp D _ hD4 nOw
      have E7 : En c H5 σ (wipeS ρ5 vs) := E6.off oσ hM hp
      have sepD := E1.sepN E7 hD
      have fxD : Fx H5 (upd H5 D (.lst (av ++ [v]))) := fun b o f q => by
        by_cases e : b = D
        · subst e; rw [hD5] at q; cases q; cases f
        · rw [upd_ne e]; exact q
      refine ⟨av, hD5, by rw [iav4.length]; exact q5.1, acc ++ [d], av ++ [v], wipeS ρ5 vs, q5.2, E7.updN hD5 h0D sepD, ⟨(g24.trans (g5.congr gM')).fx.trans fxD, fun b o e w => ?_⟩, upd_same, IsAll.mono fxD _ _ ((IsAll.mono g5.fx _ _ iav4).append (IsAll.one i6))⟩
      have nb : b ≠ D := fun z => by subst z; rw [hD] at e; cases e
      rw [upd_ne nb]
      exact (g24.trans (g5.congr gM')).kp b o e w
  · have e : i = xs.length := by omega
    subst e
    exact .inl ⟨jstop _ H2 g2.fx (Nat.le_refl _), k acc ρ2 D av H2 (wd acc ρ2 hW) (gr.trans g2) E2 HD hav iav⟩
theorem df_lc {R : Rel} {elt iter : Expr} {ifs : List Expr} {scope : Scope} {own : List (Str × Nat)} {wi : LW} {g : GW} {wt : BW} {we : DW} (hc : X.calm = true) (hN : X.N.Nodup) (ok : BlkOk X.N X.env.scope scope own) (hM : ∀ i, i ∈ own.map (·.2) → i ∉ c.M) (hp : c.pot = none ∨ 0 ∉ own.map (·.2))
    (hi : PI X tg iter (iR R c wi))
    (hg : ∀ (s : Shared) (H : Hp) (C : Addr) (cl : List (Str × Addr)) (fp : List Addr), PG (X.blk s H scope (compEnvC scope cl C X.env) fp) tg (gR R c (own.map (·.2)) g)) (ht : ∀ (s : Shared) (H : Hp) (C : Addr) (cl : List (Str × Addr)) (fp : List Addr), PTs (X.blk s H scope (compEnvC scope cl C X.env) fp) ifs (tT c wt))
    (he : ∀ (s : Shared) (H : Hp) (C : Addr) (cl : List (Str × Addr)) (fp : List Addr), PE (X.blk s H scope (compEnvC scope cl C X.env) fp) elt (tD c we)) (hs : ∀ x, foldedSetIterable iter X.env x = pure x := by intro _; rfl) :
    PE X (.ListComp elt [⟨tg, iter, ifs, 0⟩] scope pos) (tF c (wLc (own.map (·.2)) wi g wt we)) := PE.imp (pe_lc hc hN hi ok hg ht he hs) (lc_imp hM hp)
end
end DL
namespace DL
open PySem PySem.Spec PyProof.Rows L2
section
variable {X : Cx} {c : Ctx} {e a b l tg : Expr} {es : List Expr} {pos : Pos} {st : Stmt} {sts : List Stmt}

/-! ### statements -/
def wSeq (w1 w2 : SW) : SW := fun D ρ => w1 { D with nx := fun ρ' => w2 D ρ' } ρ
def wNext : SW := fun D ρ => D.nx ρ
theorem dss_nil : PSs X [] (sD c wNext) := PSs.imp pss_nil fun D σ H ⟨ρ, D0, E, hw, k1, _⟩ => k1 ρ σ H hw (Fx.refl H) E
theorem dss_cons {w1 w2 : SW} (h1 : PS X st (sD c w1)) (h2 : PSs X sts (sD c w2)) : PSs X (st :: sts) (sD c (wSeq w1 w2)) := by
  refine PSs.imp (pss_cons h1 h2) ?_
  rintro D σ H ⟨ρ, D0, E, hw, k1, k2, k3, k4⟩
  refine ⟨ρ, _, E, hw, fun ρ' σ' H' q fx E' => ⟨ρ', D0, E', q, fun ρ2 σ2 H2 q2 f2 E2 => k1 ρ2 σ2 H2 q2 (fx.trans f2) E2, fun r ρ2 σ2 v H2 q2 f2 E2 i2 => k2 r ρ2 σ2 v H2 q2 (fx.trans f2) E2 i2, fun ρ2 σ2 H2 q2 f2 E2 => k3 ρ2 σ2 H2 q2 (fx.trans f2) E2, fun ρ2 σ2 H2 q2 f2 E2 => k4 ρ2 σ2 H2 q2 (fx.trans f2) E2⟩, k2, k3, k4⟩
theorem dss_one {w : SW} (h1 : PS X st (sD c w)) : PSs X [st] (sD c w) := pss_one h1
theorem ds_pass : PS X (.Pass pos) (sD c wNext) := PS.imp ps_pass fun D σ H ⟨ρ, D0, E, hw, k1, _⟩ => k1 ρ σ H hw (Fx.refl H) E
def wBreak : SW := fun D ρ => D.bk ρ
def wCont : SW := fun D ρ => D.ct ρ
theorem ds_break : PS X (.Break pos) (sD c wBreak) := PS.imp ps_break fun D σ H ⟨ρ, D0, E, hw, _, _, k3, _⟩ => k3 ρ σ H hw (Fx.refl H) E
theorem ds_cont : PS X (.Continue pos) (sD c wCont) := PS.imp ps_continue fun D σ H ⟨ρ, D0, E, hw, _, _, _, k4⟩ => k4 ρ σ H hw (Fx.refl H) E
def wIfS (t : BW) (w1 w2 : SW) : SW := fun D ρ => t ρ fun b ρ' => if b = true then w1 D ρ' else w2 D ρ'
theorem ds_if {t : BW} {w1 w2 : SW} {b1 b2 : List Stmt} (hc : PT X e (tT c t)) (h1 : PSs X b1 (sD c w1)) (h2 : PSs X b2 (sD c w2)) : PS X (.If e b1 b2 pos) (sD c (wIfS t w1 w2)) := by
  refine PS.imp (ps_if hc h1 h2) ?_
  rintro D σ H ⟨ρ, D0, E, hw, k1, k2, k3, k4⟩
  refine ⟨ρ, _, E, hw, fun b ρ' H' q g E' => ?_⟩
  cases b with
  | true => exact ⟨ρ', D0, E', q, fun ρ2 σ2 H2 q2 f2 E2 => k1 ρ2 σ2 H2 q2 (g.fx.trans f2) E2, fun r ρ2 σ2 v H2 q2 f2 E2 i2 => k2 r ρ2 σ2 v H2 q2 (g.fx.trans f2) E2 i2, fun ρ2 σ2 H2 q2 f2 E2 => k3 ρ2 σ2 H2 q2 (g.fx.trans f2) E2, fun ρ2 σ2 H2 q2 f2 E2 => k4 ρ2 σ2 H2 q2 (g.fx.trans f2) E2⟩
  | false => exact ⟨ρ', D0, E', q, fun ρ2 σ2 H2 q2 f2 E2 => k1 ρ2 σ2 H2 q2 (g.fx.trans f2) E2, fun r ρ2 σ2 v H2 q2 f2 E2 i2 => k2 r ρ2 σ2 v H2 q2 (g.fx.trans f2) E2 i2, fun ρ2 σ2 H2 q2 f2 E2 => k3 ρ2 σ2 H2 q2 (g.fx.trans f2) E2, fun ρ2 σ2 H2 q2 f2 E2 => k4 ρ2 σ2 H2 q2 (g.fx.trans f2) E2⟩
def wRet (w : DW) : SW := fun D ρ => w ρ fun d ρ' => D.rt (.d d) ρ'
theorem ds_ret {w : DW} (h : PE X e (tD c w)) : PS X (.Return (some e) pos) (sD c (wRet w)) := by
  refine PS.imp (ps_ret h) ?_
  rintro D σ H ⟨ρ, D0, E, hw, k1, k2, k3, k4⟩
  exact ⟨ρ, _, E, hw, fun d ρ' v H' q g E' i' => k2 (.d d) ρ' σ v H' q g.fx E' i'⟩
def wRetF (w : LW) : SW := fun D ρ => w ρ fun ds ρ' => D.rt (.f ds) ρ'
theorem ds_retF {w : LW} (h : PE X e (tF c w)) : PS X (.Return (some e) pos) (sD c (wRetF w)) := by
  refine PS.imp (ps_ret h) ?_
  rintro D σ H ⟨ρ, D0, E, hw, k1, k2, k3, k4⟩
  exact ⟨ρ, _, E, hw, fun ds ρ' a xs H' q g E' n ha ix => k2 (.f ds) ρ' σ _ H' q g.fx E' ⟨a, xs, rfl, E.h0 n, ha, ix⟩⟩
/-- return a list of one's own -/
def wRetO (i : Nat) : SW := fun D ρ => ∃ ds, ρ[i]? = some (.own ds) ∧ D.rt (.f ds) ρ
theorem ds_retO (i : Nat) {x : Str} {p2 : Pos} (hp : c.pot = none ∨ i ≠ 0) (hN : X.N[i]? = some x := by rfl) (hv : Vis X.env.scope x := by first | exact Or.inl rfl | exact Or.inr (Or.inl rfl) | exact Or.inr (Or.inr rfl)) (hd : (x == ("__debug__" : Str)) = false := by decide)
    (hcd : (x == ("__classdict__" : Str)) = false := by decide) : PS X (.Return (some (.Name x p2)) pos) (sD c (wRetO i)) := by
  refine PS.imp (ps_ret (pe_var hN hv hd hcd)) ?_
  rintro D σ H ⟨ρ, D0, E, ⟨ds, h1, q⟩, k1, k2, k3, k4⟩
  obtain ⟨x, hx, a, xs, rfl, ha, ix⟩ := E.at h1
  refine ⟨_, hx, k2 (.f ds) ρ σ _ H q (Fx.refl H) E ⟨a, xs, rfl, ?_, ha, ix⟩⟩
  rcases E.new i ds a h1 hx with h | ⟨h, h'⟩
  · exact h
  · rcases hp with z | z
    · rw [z] at h; cases h
    · exact absurd h' z
def wDrop (w : DW) : SW := fun D ρ => w ρ fun _ ρ' => D.nx ρ'
theorem ds_expr {w : DW} (h : PE X e (tD c w)) (hs : swapsWith e none pos.line X.env = pure false := by rfl) : PS X (.Expr e pos) (sD c (wDrop w)) := by
  refine PS.imp (ps_expr h hs) ?_
  rintro D σ H ⟨ρ, D0, E, hw, k1, k2, k3, k4⟩
  exact ⟨ρ, _, E, hw, fun d ρ' v H' q g E' i' => k1 ρ' σ H' q g.fx E'⟩
theorem ds_doc {x j pos pos'} : PS X (.Expr (.Constant (.str x) j pos) pos') (sD c wNext) := PS.imp ps_doc fun D σ H ⟨ρ, D0, E, hw, k1, _⟩ => k1 ρ σ H hw (Fx.refl H) E
def wSet (i : Nat) (w : DW) : SW := fun D ρ => w ρ fun d ρ' => D.nx (ρ'.set i (.dat d))
theorem ds_set (i : Nat) {x : Str} {w : DW} {pos' : Pos} (hN : X.N.Nodup) (hi : X.N[i]? = some x) (hx : Loc X.env.scope x) (hM : i ∉ c.M) (hp : c.pot = none ∨ i ≠ 0) (he : PE X e (tD c w)) (hs : swapsWith e (some (.Name x pos')) pos.line X.env = pure false := by rfl) (hf : X.fn x = true ∨ X.env.scope.names.lookup x = some .local := by first | exact .inl rfl | exact .inr rfl | assumption) :
    PS X (.Assign [.Name x pos'] e pos) (sD c (wSet i w)) := by
  refine PS.imp (ps_set hN hi hx he hs hf) ?_
  rintro D σ H ⟨ρ, D0, E, hw, k1, k2, k3, k4⟩
  exact ⟨ρ, _, E, hw, fun d ρ' v H' q g E' i' => k1 _ _ H' q g.fx (E'.setD hM hp i')⟩
def wSetO (i : Nat) (w : LW) : SW := fun D ρ => w ρ fun ds ρ' => D.nx (ρ'.set i (.own ds))
theorem ds_setO (i : Nat) {x : Str} {w : LW} {pos' : Pos} (hN : X.N.Nodup) (hi : X.N[i]? = some x) (hx : Loc X.env.scope x) (hM : i ∈ c.M) (hp : c.pot = none ∨ i ≠ 0) (he : PE X e (tF c w)) (hs : swapsWith e (some (.Name x pos')) pos.line X.env = pure false := by rfl) (hf : X.fn x = true ∨ X.env.scope.names.lookup x = some .local := by first | exact .inl rfl | exact .inr rfl | assumption) :
    PS X (.Assign [.Name x pos'] e pos) (sD c (wSetO i w)) := by
  refine PS.imp (ps_set hN hi hx he hs hf) ?_
  rintro D σ H ⟨ρ, D0, E, hw, k1, k2, k3, k4⟩
  exact ⟨ρ, _, E, hw, fun ds ρ' a xs H' q g E' n ha ix => k1 _ _ H' q g.fx (E'.setO hM hp ha ix (E.h0 n) fun j es _ h1 h2 => E.sepN E' n j es h1 h2)⟩
/-- target = e -/
def wAsg (w : DW) (g : GW) : SW := fun D ρ => w ρ fun d ρ' => g d ρ' fun ρ2 => D.nx ρ2
theorem ds_asg {w : DW} {g : GW} {vs : List Nat} (he : PE X e (tD c w)) (hg : PG X tg (gD c vs g)) (hs : swapsWithSole [tg] e pos.line X.env = pure false := by rfl) (hw : swappedStores [tg] e X.env = pure none := by rfl)
    (h1 : (assignEach [tg] X.env).map (·.2) = [assign tg X.env] := by rfl) : PS X (.Assign [tg] e pos) (sD c (wAsg w g)) := by
  refine PS.imp (ps_asg he hg hs hw h1) ?_
  rintro D σ H ⟨ρ, D0, E, hw, k1, k2, k3, k4⟩
  exact ⟨ρ, _, E, hw, fun d ρ' v H' q gr E' i' => ⟨d, ρ', _, i', E', q, fun ρ2 σ2 q2 o E2 => k1 ρ2 σ2 H' q2 gr.fx E2⟩⟩
/-! several names at once: each its data or its new list -/
inductive Kd where | d | o | b
abbrev MW := List Sl → (List Sl → List Sl → Prop) → Prop
/-- values for names, from the left: data, new lists, new dicts -/
def Good (c : Ctx) (H0 H : Hp) : List Kd → List V → List Sl → Prop
  | [], [], [] => True
  | .d :: ks, v :: vs, .dat d :: ss => Is c.K H v d ∧ Good c H0 H ks vs ss
  | .o :: ks, v :: vs, .own ds :: ss => (∃ a xs, v = .ref a ∧ H0 a = none ∧ H a = some (.lst xs) ∧ IsAll c.K H xs ds ∧ ∀ (j : Nat) (es : List D), ss[j]? = some (.own es) → vs[j]? ≠ some (.ref a)) ∧ Good c H0 H ks vs ss
  | .b :: ks, v :: vs, .bag bs :: ss => (bs = [] ∧ ∃ a, v = .ref a ∧ H0 a = none ∧ H a = some (BagO c.w a []) ∧ (a == sysModules) = false) ∧ Good c H0 H ks vs ss
  | _, _, _ => False
def tM (c : Ctx) (ks : List Kd) (w : MW) : TA := fun σ H Q => ∃ (ρ : List Sl) (Q0 : List Sl → List Sl → Prop), En c H σ ρ ∧ w ρ Q0 ∧ ∀ ss ρ' vs H', Q0 ss ρ' → Gr c σ H H' → En c H' σ ρ' → Good c H H' ks vs ss → Q vs H'
def wMnil : MW := fun ρ Q => Q [] ρ
def wMd (wa : DW) (wr : MW) : MW := fun ρ Q => wa ρ fun d ρ1 => wr ρ1 fun ss ρ2 => Q (.dat d :: ss) ρ2
def wMo (wa : LW) (wr : MW) : MW := fun ρ Q => wa ρ fun ds ρ1 => wr ρ1 fun ss ρ2 => Q (.own ds :: ss) ρ2
theorem dm_nil : PA X [] (tM c [] wMnil) := PA.imp pa_nil fun σ H Q ⟨ρ, Q0, E, hw, k⟩ => k [] ρ [] H hw (Gr.refl H) E trivial
/-- the first of them, and the rest -/
inductive GoodC (c : Ctx) (H0 H : Hp) : Kd → List Kd → V → List V → Sl → List Sl → Prop
  | d {ks v vs d ss} : Is c.K H v d → Good c H0 H ks vs ss → GoodC c H0 H .d ks v vs (.dat d) ss
  | o {ks vs ds ss a xs} : H0 a = none → H a = some (.lst xs) → IsAll c.K H xs ds → (∀ (j : Nat) (es : List D), ss[j]? = some (.own es) → vs[j]? ≠ some (.ref a)) → Good c H0 H ks vs ss → GoodC c H0 H .o ks (.ref a) vs (.own ds) ss
  | b {ks vs ss a} : H0 a = none → H a = some (BagO c.w a []) → (a == sysModules) = false → Good c H0 H ks vs ss → GoodC c H0 H .b ks (.ref a) vs (.bag []) ss
theorem Good.cases {H0 H : Hp} {ks : List Kd} {vs : List V} {ss : List Sl} (h : Good c H0 H ks vs ss) : (ks = [] ∧ vs = [] ∧ ss = []) ∨ ∃ k ks' v vs' s ss', ks = k :: ks' ∧ vs = v :: vs' ∧ ss = s :: ss' ∧ GoodC c H0 H k ks' v vs' s ss' := by
  cases ks with
  | nil =>
    cases vs with
    | nil =>
      cases ss with
      | nil => exact .inl ⟨rfl, rfl, rfl⟩
      | cons _ _ => exact h.elim
    | cons _ _ => exact h.elim
  | cons k ks =>
    cases vs with
    | nil => cases k <;> exact h.elim
    | cons v vs =>
      cases ss with
      | nil => cases k <;> exact h.elim
      | cons s ss =>
        refine .inr ⟨k, ks, v, vs, s, ss, rfl, rfl, rfl, ?_⟩
        cases k with
        | d =>
          cases s with
          | dat d => exact .d h.1 h.2
          | _ => exact h.elim
        | o =>
          cases s with
          | own ds =>
            obtain ⟨⟨a, xs, rfl, n, ha, ix, nm⟩, r⟩ := h
            exact .o n ha ix nm r
          | _ => exact h.elim
        | b =>
          cases s with
          | bag bs =>
            obtain ⟨⟨rfl, a, rfl, n, ha, hm⟩, r⟩ := h
            exact .b n ha hm r
          | _ => exact h.elim
theorem Good.len {H0 H : Hp} : ∀ {ks : List Kd} {vs : List V} {ss : List Sl}, Good c H0 H ks vs ss → vs.length = ss.length ∧ ks.length = ss.length := by
  intro ks
  induction ks with
  | nil =>
    intro vs ss h
    rcases h.cases with ⟨_, rfl, rfl⟩ | ⟨_, _, _, _, _, _, e, _⟩
    · exact ⟨rfl, rfl⟩
    · cases e
  | cons k ks ih =>
    intro vs ss h
    rcases h.cases with ⟨e, _⟩ | ⟨k', ks', v, vs', s, ss', e1, rfl, rfl, g⟩
    · cases e
    · cases e1
      have r : Good c H0 H ks vs' ss' := by cases g <;> assumption
      obtain ⟨a, b⟩ := ih r
      exact ⟨by simp [a], by simp [b]⟩
/-- from a later heap: what is new there is new here -/
theorem Good.back {σ : Sg} {ρ : List Sl} {H H1 H2 : Hp} (g : Gr c σ H H1) (E : En c H1 σ ρ) : ∀ {ks : List Kd} {vs : List V} {ss : List Sl}, Good c H1 H2 ks vs ss → Good c H H2 ks vs ss := by
  intro ks
  induction ks with
  | nil =>
    intro vs ss h
    rcases h.cases with ⟨_, rfl, rfl⟩ | ⟨_, _, _, _, _, _, e, _⟩
    · exact trivial
    · cases e
  | cons k ks ih =>
    intro vs ss h
    rcases h.cases with ⟨e, _⟩ | ⟨k', ks', v, vs', s, ss', e1, rfl, rfl, gc⟩
    · cases e
    · cases e1
      cases gc with
      | d i r => exact ⟨i, ih r⟩
      | o n ha ix nm r => exact ⟨⟨_, _, rfl, g.free E n, ha, ix, nm⟩, ih r⟩
      | b n ha hm r => exact ⟨⟨rfl, _, rfl, g.free E n, ha, hm⟩, ih r⟩
theorem Good.apart {H1 H2 : Hp} {a : Addr} (h1 : H1 a ≠ none) : ∀ {ks : List Kd} {vs : List V} {ss : List Sl}, Good c H1 H2 ks vs ss → ∀ (j : Nat) (es : List D), ss[j]? = some (.own es) → vs[j]? ≠ some (.ref a) := by
  intro ks
  induction ks with
  | nil =>
    intro vs ss h j es e
    rcases h.cases with ⟨_, rfl, rfl⟩ | ⟨_, _, _, _, _, _, e, _⟩
    · simp at e
    · cases e
  | cons k ks ih =>
    intro vs ss h j es e
    rcases h.cases with ⟨e, _⟩ | ⟨k', ks', v, vs', s, ss', e1, rfl, rfl, gc⟩
    · cases e
    · cases e1
      cases j with
      | zero =>
        cases gc with
        | d i r => simp at e
        | b n ha hm r => simp at e
        | o n ha ix nm r =>
          intro z
          simp at z
          subst z
          exact h1 n
      | succ j =>
        have r : Good c H1 H2 ks vs' ss' := by cases gc <;> assumption
        simpa using ih r j es (by simpa using e)
theorem dm_d {wa : DW} {wr : MW} {ks : List Kd} (ha : PE X e (tD c wa)) (hr : PA X es (tM c ks wr)) (hs : starEach (e :: es) X.env = (false, eval e X.env) :: starEach es X.env := by rfl) : PA X (e :: es) (tM c (.d :: ks) (wMd wa wr)) := by
  refine PA.imp (pa_cons ha hr hs) ?_
  rintro σ H Q ⟨ρ, Q0, E, hw, k⟩
  refine ⟨ρ, _, E, hw, fun d ρ' v H' q g E1 i1 => ?_⟩
  exact ⟨ρ', _, E1, q, fun ss ρ2 vs H2 q2 g2 E2 gd => k _ ρ2 _ H2 q2 (g.trans g2) E2 ⟨Is.mono g2.fx d v i1, gd.back g E1⟩⟩
theorem dm_o {wa : LW} {wr : MW} {ks : List Kd} (ha : PE X e (tF c wa)) (hr : PA X es (tM c ks wr)) (hs : starEach (e :: es) X.env = (false, eval e X.env) :: starEach es X.env := by rfl) : PA X (e :: es) (tM c (.o :: ks) (wMo wa wr)) := by
  refine PA.imp (pa_cons ha hr hs) ?_
  rintro σ H Q ⟨ρ, Q0, E, hw, k⟩
  refine ⟨ρ, _, E, hw, fun ds ρ' a xs H' q g E1 n hl ix => ?_⟩
  refine ⟨ρ', _, E1, q, fun ss ρ2 vs H2 q2 g2 E2 gd => k _ ρ2 _ H2 q2 (g.trans g2) E2 ⟨⟨a, xs, rfl, n, g2.kp a _ hl (E.notOw n), IsAll.mono g2.fx ds xs ix, gd.apart (by rw [hl]; simp)⟩, gd.back g E1⟩⟩
/-- {} -/
theorem pe_dnewB {pos : Pos} : PE X (.Dict [] [] pos) (fun _ H Q => ∀ p, H p = none → (p == sysModules) = false → Q (.ref p) (upd H p (BagO X.w p []))) := ⟨fun pins s σ H Q I h => by
  have hm : (s.heap.objs.size == sysModules) = false := beq_eq_false_iff_ne.mpr (Nat.ne_of_gt I.big)
  refine wpAny_Dict_empty ⟨.ref s.heap.objs.size, _, I.laid (a := s.heap.objs.size) (o := BagO X.w s.heap.objs.size []) (t' := s.toks) (fun _ _ q => Heap.get?_push_of_some _ q) (Nat.le_refl _) ?_, rfl, h _ (I.hok.fresh (Nat.le_refl _)) hm⟩
  have hg := Heap.get?_push_size s.heap (o := { cls := .type "dict", data := .dict #[] }) rfl
  exact ⟨⟨_, #[], 0, hg, ⟨rfl, rfl, rfl⟩, rfl, rfl⟩, ⟨_, hg⟩, fun h1 h2 ⟨o, es, ep, e, r⟩ k => ⟨o, es, ep, k o e, r⟩⟩⟩
def wMb (wr : MW) : MW := fun ρ Q => wr ρ fun ss ρ2 => Q (.bag [] :: ss) ρ2
theorem dm_b {wr : MW} {ks : List Kd} {pos : Pos} (hr : PA X es (tM c ks wr)) (hW : c.w = X.w := by rfl) (hs : starEach (.Dict [] [] pos :: es) X.env = (false, eval (.Dict [] [] pos) X.env) :: starEach es X.env := by rfl) : PA X (.Dict [] [] pos :: es) (tM c (.b :: ks) (wMb wr)) := by
  refine PA.imp (pa_cons pe_dnewB hr hs) ?_
  rintro σ H Q ⟨ρ, Q0, E, hw, k⟩ p hp hm
  have sm := upd_same' (o := BagO X.w p []) hp
  refine ⟨ρ, _, E.same sm, hw, fun ss ρ2 vs H2 q2 g2 E2 gd => k _ ρ2 _ H2 q2 ((Gr.same sm).trans g2) E2 ⟨⟨rfl, p, rfl, hp, ?_, hm⟩, gd.back (Gr.same sm) (E.same sm)⟩⟩
  rw [hW]
  exact g2.kp p _ upd_same (E.notOw hp)
def okS (c : Ctx) (i : Nat) : Kd → Prop
  | .d => i ∉ c.M
  | _ => i ∈ c.M
/-- a slot is given what Good says -/
theorem En.setS {H0 H : Hp} {σ0 σ : Sg} {ρ0 ρ : List Sl} {i : Nat} {k : Kd} {ks : List Kd} {v : V} {vs : List V} {s : Sl} {ss : List Sl} (E0 : En c H0 σ0 ρ0) (E : En c H σ ρ) (hi : okS c i k) (hp : c.pot = none ∨ i ≠ 0) (h : GoodC c H0 H k ks v vs s ss)
    (hs : ∀ a, v = .ref a → H0 a = none → ∀ es, s = .own es → ∀ (j : Nat) (es : List D), j ≠ i → ρ[j]? = some (Sl.own es) → σ[j]? ≠ some (some (V.ref a))) (hb : ∀ bs, s = .bag bs → ∀ j ks, ρ[j]? = some (Sl.bag ks) → j = i) : En c H (σ.set i (some v)) (ρ.set i s) := by
  cases h with
  | d h1 r => exact E.setD hi hp h1
  | o n ha ix nm r => exact E.setO hi hp ha ix (E0.h0 n) (hs _ rfl n _ rfl)
  | b n ha hm r => exact E.setB (xs := []) hi hp ha hm List.nodup_nil (fun e he => by simp at he) (E0.h0 n) (hb _ rfl)
def NoBag (ρ : List Sl) : Prop := ∀ (j : Nat) (ks : List NK), ρ[j]? ≠ some (.bag ks)
/-- at most one of the names takes a dict, and none was there -/
def BagOk (ks : List Kd) (ρ : List Sl) : Prop := (.b ∈ ks → NoBag ρ)
theorem GoodC.rest {H0 H : Hp} {k : Kd} {ks : List Kd} {v : V} {vs : List V} {s : Sl} {ss : List Sl} (h : GoodC c H0 H k ks v vs s ss) : Good c H0 H ks vs ss := by cases h <;> assumption
theorem GoodC.far {H0 H : Hp} {k : Kd} {ks : List Kd} {v : V} {vs : List V} {s : Sl} {ss : List Sl} (h : GoodC c H0 H k ks v vs s ss) {a : Addr} {ds : List D} (e1 : v = .ref a) (e2 : s = .own ds) : ∀ (j : Nat) (es : List D), ss[j]? = some (.own es) → vs[j]? ≠ some (.ref a) := by
  cases h with
  | d h1 r => cases e2
  | o n ha ix nm r => cases e1; exact nm
  | b n ha hm r => cases e2
def wPar2 (i j : Nat) (w : MW) : SW := fun D ρ => w ρ fun ss ρ' => NoBag ρ' ∧ ∃ s t, ss = [s, t] ∧ D.nx ((ρ'.set i s).set j t)
theorem ds_par2 (i j : Nat) {x y : Str} {ks : List Kd} {w : MW} {px py pt : Pos} {kt k2 pt2} {k1' k2' : Kd} (hks : ks = [k1', k2'] := by rfl) (hc : X.calm = true) (hN : X.N.Nodup) (hi : X.N[i]? = some x) (hj : X.N[j]? = some y) (hij : i ≠ j)
    (hx : X.env.scope.names.lookup x = some .local) (hy : X.env.scope.names.lookup y = some .local) (oi : okS c i k1') (oj : okS c j k2') (hb1 : k1' = .b → k2' ≠ .b) (pi : c.pot = none ∨ i ≠ 0) (pj : c.pot = none ∨ j ≠ 0) (ha : PA X [a, b] (tM c ks w))
    (hw : swappedStores [.Tuple [.Name x px, .Name y py] kt pt] (.Tuple [a, b] k2 pt2) X.env = pure (some [x, y]))
    (hs : swapsWithSole [.Tuple [.Name x px, .Name y py] kt pt] (.Tuple [a, b] k2 pt2) pos.line X.env = pure false := by rfl) :
    PS X (.Assign [.Tuple [.Name x px, .Name y py] kt pt] (.Tuple [a, b] k2 pt2) pos) (sD c (wPar2 i j w)) := by
  subst hks
  refine PS.imp (ps_par hc hN hi hj hij hx hy ha hw hs) ?_
  rintro D σ H ⟨ρ, D0, E, hw, k1, k2, k3, k4⟩
  refine ⟨ρ, _, E, hw, fun ss ρ' vs H' q g E' gd => ?_⟩
  obtain ⟨nb, s, t, rfl, q⟩ := q
  obtain ⟨l1, l2⟩ := gd.len
  obtain ⟨v, u, rfl⟩ : ∃ v u, vs = [v, u] := by
    match vs, l1 with
    | [v, u], _ => exact ⟨v, u, rfl⟩
  rcases gd.cases with ⟨e, _⟩ | ⟨_, _, _, _, _, _, e1, e2, e3, g1⟩
  · cases e
  cases e1; cases e2; cases e3
  rcases g1.rest.cases with ⟨e, _⟩ | ⟨_, _, _, _, _, _, e1, e2, e3, g2⟩
  · cases e
  cases e1; cases e2; cases e3
  refine ⟨v, u, rfl, k1 _ _ H' q g.fx ?_⟩
  have E1 : En c H' (σ.set i (some v)) (ρ'.set i s) := E.setS E' oi pi g1 (fun a ea n es e j es' _ h1 h2 => E.sepN E' n j es' h1 h2) fun bs e j ks h => absurd h (nb j ks)
  refine E.setS E1 oj pj g2 (fun a ea n es e m es' hm h1 h2 => ?_) fun bs e m ks h => ?_
  · rcases getSet h1 with ⟨em, e1⟩ | ⟨nm, h1⟩
    · subst em
      rcases getSet h2 with ⟨_, e2⟩ | ⟨z, _⟩
      · cases e2
        subst e1
        exact g1.far rfl rfl 0 es (by simp [e]) (by simp [ea])
      · exact z rfl
    · rcases getSet h2 with ⟨z, _⟩ | ⟨_, h2⟩
      · exact nm z
      · exact E.sepN E' n m es' h1 h2
  · rcases getSet h with ⟨em, e1⟩ | ⟨_, h⟩
    · subst e1
      cases g1
      subst e
      cases g2
      exact absurd rfl (hb1 rfl)
    · exact absurd h (nb m ks)
end
end DL
namespace DL
open PySem PySem.Spec PyProof.Rows L2
section
variable {X : Cx} {c : Ctx} {e a b b3 l tg : Expr} {es : List Expr} {pos : Pos} {st : Stmt} {sts body : List Stmt}
def wPar3 (i j l : Nat) (w : MW) : SW := fun D ρ => w ρ fun ss ρ' => NoBag ρ' ∧ ∃ s t u, ss = [s, t, u] ∧ D.nx (((ρ'.set i s).set j t).set l u)
theorem ds_par3 (i j l : Nat) {x y z : Str} {ks : List Kd} {w : MW} {px py pz pt : Pos} {kt k2 pt2} {k1' k2' k3' : Kd} (hks : ks = [k1', k2', k3'] := by rfl) (hc : X.calm = true) (hN : X.N.Nodup) (hi : X.N[i]? = some x) (hj : X.N[j]? = some y) (hl : X.N[l]? = some z) (hij : i ≠ j) (hil : i ≠ l) (hjl : j ≠ l)
    (hx : X.env.scope.names.lookup x = some .local) (hy : X.env.scope.names.lookup y = some .local) (hz : X.env.scope.names.lookup z = some .local) (oi : okS c i k1') (oj : okS c j k2') (ol : okS c l k3') (hb : (k1' = .b → k2' ≠ .b ∧ k3' ≠ .b) ∧ (k2' = .b → k3' ≠ .b)) (pi : c.pot = none ∨ i ≠ 0) (pj : c.pot = none ∨ j ≠ 0) (pl : c.pot = none ∨ l ≠ 0) (ha : PA X [a, b, b3] (tM c ks w))
    (hw : swappedStores [.Tuple [.Name x px, .Name y py, .Name z pz] kt pt] (.Tuple [a, b, b3] k2 pt2) X.env = pure (some [x, y, z]))
    (hs : swapsWithSole [.Tuple [.Name x px, .Name y py, .Name z pz] kt pt] (.Tuple [a, b, b3] k2 pt2) pos.line X.env = pure false := by rfl) :
    PS X (.Assign [.Tuple [.Name x px, .Name y py, .Name z pz] kt pt] (.Tuple [a, b, b3] k2 pt2) pos) (sD c (wPar3 i j l w)) := by
  subst hks
  refine PS.imp (ps_par3 hc hN hi hj hl hij hil hjl hx hy hz ha hw hs) ?_
  rintro D σ H ⟨ρ, D0, E, hw, k1, k2, k3, k4⟩
  refine ⟨ρ, _, E, hw, fun ss ρ' vs H' q g E' gd => ?_⟩
  obtain ⟨nb, s, t, r, rfl, q⟩ := q
  obtain ⟨l1, l2⟩ := gd.len
  obtain ⟨v, u, m, rfl⟩ : ∃ v u m, vs = [v, u, m] := by
    match vs, l1 with
    | [v, u, m], _ => exact ⟨v, u, m, rfl⟩
  rcases gd.cases with ⟨e, _⟩ | ⟨_, _, _, _, _, _, e1, e2, e3, g1⟩
  · cases e
  cases e1; cases e2; cases e3
  rcases g1.rest.cases with ⟨e, _⟩ | ⟨_, _, _, _, _, _, e1, e2, e3, g2⟩
  · cases e
  cases e1; cases e2; cases e3
  rcases g2.rest.cases with ⟨e, _⟩ | ⟨_, _, _, _, _, _, e1, e2, e3, g3⟩
  · cases e
  cases e1; cases e2; cases e3
  refine ⟨v, u, m, rfl, k1 _ _ H' q g.fx ?_⟩
  have E1 : En c H' (σ.set i (some v)) (ρ'.set i s) := E.setS E' oi pi g1 (fun a ea n es e j es' _ h1 h2 => E.sepN E' n j es' h1 h2) fun bs e j ks h => absurd h (nb j ks)
  have E2 : En c H' ((σ.set i (some v)).set j (some u)) ((ρ'.set i s).set j t) := by
    refine E.setS E1 oj pj g2 (fun a ea n es e m es' hm h1 h2 => ?_) fun bs e m ks h => ?_
    · rcases getSet h1 with ⟨em, e1⟩ | ⟨nm, h1⟩
      · subst em
        rcases getSet h2 with ⟨_, e2⟩ | ⟨z, _⟩
        · cases e2
          subst e1
          exact g1.far rfl rfl 0 es (by simp [e]) (by simp [ea])
        · exact z rfl
      · rcases getSet h2 with ⟨z, _⟩ | ⟨_, h2⟩
        · exact nm z
        · exact E.sepN E' n m es' h1 h2
    · rcases getSet h with ⟨em, e1⟩ | ⟨_, h⟩
      · subst e1
        cases g1
        subst e
        cases g2
        exact absurd rfl (hb.1 rfl).1
      · exact absurd h (nb m ks)
  refine E.setS E2 ol pl g3 (fun a ea n es e m es' hm h1 h2 => ?_) fun bs e m ks h => ?_
  · rcases getSet h1 with ⟨em, e1⟩ | ⟨nm, h1⟩
    · subst em
      rcases getSet h2 with ⟨_, e2⟩ | ⟨z, _⟩
      · cases e2
        subst e1
        exact g2.far rfl rfl 0 es (by simp [e]) (by simp [ea])
      · exact z rfl
    · rcases getSet h2 with ⟨z, _⟩ | ⟨_, h2⟩
      · exact nm z
      · rcases getSet h1 with ⟨em, e1⟩ | ⟨nm', h1⟩
        · subst em
          rcases getSet h2 with ⟨_, e2⟩ | ⟨z, _⟩
          · cases e2
            subst e1
            exact g1.far rfl rfl 1 es (by simp [e]) (by simp [ea])
          · exact z rfl
        · rcases getSet h2 with ⟨z, _⟩ | ⟨_, h2⟩
          · exact nm' z
          · exact E.sepN E' n m es' h1 h2
  · rcases getSet h with ⟨em, e1⟩ | ⟨_, h⟩
    · subst e1
      cases g2
      subst e
      cases g3
      exact absurd rfl (hb.2 rfl)
    · rcases getSet h with ⟨em, e1⟩ | ⟨_, h⟩
      · subst e1
        cases g1
        subst e
        cases g3
        exact absurd rfl (hb.1 rfl).2
      · exact absurd h (nb m ks)

/-! ### a list's methods -/
def wApp (i : Nat) (w : DW) : DW := fun ρ Q => (∃ ds, ρ[i]? = some (.own ds)) ∧ w ρ fun d ρ1 => ∃ ds : List D, ρ1[i]? = some (.own ds) ∧ ds.length < sizeLine ∧ Q .none (ρ1.set i (.own (ds ++ [d])))
theorem de_app (i : Nat) {x : Str} {w : DW} {p2 apos : Pos} (he : PE X e (tD c w)) (hN : X.N[i]? = some x := by rfl) (hv : Vis X.env.scope x := by first | exact Or.inl rfl | exact Or.inr (Or.inl rfl) | exact Or.inr (Or.inr rfl)) (hd : (x == ("__debug__" : Str)) = false := by decide)
    (hcd : (x == ("__classdict__" : Str)) = false := by decide) (hs : starEach [e] X.env = (false, eval e X.env) :: starEach [] X.env := by rfl)
    (hbase : attributeBase (.Name x p2) "append" X.env (eval (.Name x p2) X.env) = eval (.Name x p2) X.env := by rfl) (hfew : ((backTo pos (starEach [e] X.env)).all (fun x => !x.1) && (backToKw pos (keywordEach [] X.env)).all (fun x => x.1.isSome) && decide (([e] : List Expr).length + ([] : List Keyword).length + (if ([] : List Keyword).isEmpty then 0 else 1) < 30)) = true := by rfl) (hline : (apos.endLine == pos.line) = true := by rfl) (hpl : (backTo pos (starEach [] X.env)).any (·.1) = false := by rfl) :
    PE X (.Call (.Attribute (.Name x p2) "append" apos) [e] [] pos) (tD c (wApp i w)) := by
  refine PE.imp (pe_bm PySem.F.plainAttrs_list PySem.F.slot_list_append PySem.F.type_list_append mt_append (pe_var hN hv hd hcd) (pa_cons he pa_nil hs) hbase hfew hline hs hpl) ?_
  rintro σ H Q ⟨ρ, Q0, E, ⟨⟨ds, h1⟩, hw⟩, k⟩
  obtain ⟨x, hx, a, xs, rfl, ha, ix⟩ := E.at h1
  refine ⟨_, hx, .inl ⟨rfl, xs, SqL.of ha⟩, ρ, _, E, hw, fun d ρ1 v H1 q g E1 i1 => ?_⟩
  obtain ⟨ds', h1', hz, q⟩ := q
  obtain ⟨x', hx', a', xs', e1, ha', ix'⟩ := E1.at h1'
  rw [hx] at hx'
  cases hx'
  cases e1
  refine ⟨a, xs', v, rfl, rfl, ha', by rw [ix'.length]; exact hz, ?_⟩
  exact k _ _ .non _ q (g.trans (E1.updGr h1' hx)) (E1.updO h1' hx (ix'.append (IsAll.one i1))) .non
theorem mt_extendZ : MtR X "list.extend" (fun x vs H Q => ∃ l b xs zs o, x = .ref l ∧ vs = [.ref b] ∧ H l = some (.lst xs) ∧ H b = some (.frz o (.lst zs)) ∧ xs.length + zs.length ≤ sizeLine ∧ Q .non (upd H l (.lst (xs ++ zs)))) := by
  intro pins s σ H x vs v us Q I rx rv h
  obtain ⟨l, b, xs, zs, o, rfl, rfl, hH, hB, hz, q⟩ := h
  cases rx
  obtain ⟨u, rfl, ru⟩ := rv.one
  cases ru
  obtain ⟨z, its, n, r, hl, e⟩ := I.lstM hH
  obtain ⟨z2, its2, n2, r2, hl2, e2⟩ := exact_lst I hB
  have hsz : its.toArray.size + its2.toArray.size ≤ sizeLine := by rw [List.size_toArray, List.size_toArray]; omega
  have hlong : ¬ (!its.toArray.isEmpty && Builtin.List.listTooLong (its.toArray.size + its2.toArray.size)) = true := by
    rw [notLongL hsz, Bool.and_false]
    exact Bool.false_ne_true
  refine call_meets F.slot_list_extend ⟨_, e, rfl⟩ F.entry_list_extend (F.args_list_extend_2 _ _)
    (AutoSeq1.list_extend_list_list_0 l its.toArray n b its2.toArray n2 hlong (by rw [List.size_toArray]; omega) (by omega)) ⟨e, e2, ?_⟩
  refine ⟨.non, _, I.lset (its' := its ++ its2) hH e (by simp) (r.append r2) ?_, rfl, q⟩
  rw [List.length_append]
  omega
def wExt (i : Nat) (w : DW) : DW := fun ρ Q => (∃ ds, ρ[i]? = some (.own ds)) ∧ w ρ fun d ρ1 => ∃ ds es : List D, ρ1[i]? = some (.own ds) ∧ d = .list es ∧ ds.length + es.length ≤ sizeLine ∧ Q .none (ρ1.set i (.own (ds ++ es)))
theorem de_ext (i : Nat) {x : Str} {w : DW} {p2 apos : Pos} (he : PE X e (tD c w)) (hN : X.N[i]? = some x := by rfl) (hv : Vis X.env.scope x := by first | exact Or.inl rfl | exact Or.inr (Or.inl rfl) | exact Or.inr (Or.inr rfl)) (hd : (x == ("__debug__" : Str)) = false := by decide)
    (hcd : (x == ("__classdict__" : Str)) = false := by decide) (hs : starEach [e] X.env = (false, eval e X.env) :: starEach [] X.env := by rfl)
    (hbase : attributeBase (.Name x p2) "extend" X.env (eval (.Name x p2) X.env) = eval (.Name x p2) X.env := by rfl) (hfew : ((backTo pos (starEach [e] X.env)).all (fun x => !x.1) && (backToKw pos (keywordEach [] X.env)).all (fun x => x.1.isSome) && decide (([e] : List Expr).length + ([] : List Keyword).length + (if ([] : List Keyword).isEmpty then 0 else 1) < 30)) = true := by rfl) (hline : (apos.endLine == pos.line) = true := by rfl) (hpl : (backTo pos (starEach [] X.env)).any (·.1) = false := by rfl) :
    PE X (.Call (.Attribute (.Name x p2) "extend" apos) [e] [] pos) (tD c (wExt i w)) := by
  refine PE.imp (pe_bm PySem.F.plainAttrs_list PySem.F.slot_list_extend PySem.F.type_list_extend mt_extendZ (pe_var hN hv hd hcd) (pa_cons he pa_nil hs) hbase hfew hline hs hpl) ?_
  rintro σ H Q ⟨ρ, Q0, E, ⟨⟨ds, h1⟩, hw⟩, k⟩
  obtain ⟨x, hx, a, xs, rfl, ha, ix⟩ := E.at h1
  refine ⟨_, hx, .inl ⟨rfl, xs, SqL.of ha⟩, ρ, _, E, hw, fun d ρ1 v H1 q g E1 i1 => ?_⟩
  obtain ⟨ds', es', h1', rfl, hz, q⟩ := q
  obtain ⟨x', hx', a', xs', e1, ha', ix'⟩ := E1.at h1'
  rw [hx] at hx'
  cases hx'
  cases e1
  cases i1 with
  | @lst b o zs _ g1 g2 =>
    refine ⟨a, b, xs', zs, o, rfl, rfl, ha', g1, by rw [ix'.length, g2.length]; exact hz, ?_⟩
    exact k _ _ .non _ q (g.trans (E1.updGr h1' hx)) (E1.updO h1' hx (ix'.append g2)) .non
def wPop (i : Nat) : DW := fun ρ Q => ∃ (ds : List D) (d : D), ρ[i]? = some (.own (ds ++ [d])) ∧ Q d (ρ.set i (.own ds))
theorem de_pop (i : Nat) {x : Str} {p2 apos : Pos} (hN : X.N[i]? = some x := by rfl) (hv : Vis X.env.scope x := by first | exact Or.inl rfl | exact Or.inr (Or.inl rfl) | exact Or.inr (Or.inr rfl)) (hd : (x == ("__debug__" : Str)) = false := by decide)
    (hcd : (x == ("__classdict__" : Str)) = false := by decide)
    (hbase : attributeBase (.Name x p2) "pop" X.env (eval (.Name x p2) X.env) = eval (.Name x p2) X.env := by rfl) (hline : (apos.endLine == pos.line) = true := by rfl) :
    PE X (.Call (.Attribute (.Name x p2) "pop" apos) [] [] pos) (tD c (wPop i)) := by
  refine PE.imp (pe_bm0 PySem.F.plainAttrs_list PySem.F.slot_list_pop PySem.F.type_list_pop mt_pop (pe_var hN hv hd hcd) hbase hline) ?_
  rintro σ H Q ⟨ρ, Q0, E, ⟨ds, d, h1, q⟩, k⟩
  obtain ⟨x, hx, a, xs, rfl, ha, ix⟩ := E.at h1
  have hl := ix.length
  rw [List.length_append, List.length_singleton] at hl
  obtain ⟨v, hv, iv⟩ := ix.get (i := ds.length) (d := d) (by simp)
  have ixd : IsAll c.K H xs.dropLast ds := by
    have := ix.dropLast
    rwa [List.dropLast_concat] at this
  have fx : Fx H (upd H a (.lst xs.dropLast)) := (E.updGr h1 hx).fx
  refine ⟨_, hx, .inl ⟨rfl, xs, SqL.of ha⟩, a, xs, v, rfl, rfl, ha, by rw [hl]; exact hv, ?_⟩
  exact k _ _ v _ q (E.updGr h1 hx) (E.updO h1 hx ixd) (Is.mono fx d v iv)
def wPopAt (i : Nat) (w : DW) : DW := fun ρ Q => (∃ ds, ρ[i]? = some (.own ds)) ∧ w ρ fun e ρ1 => ∃ (ds : List D) (j : Int) (m : Nat) (d : D), ρ1[i]? = some (.own ds) ∧ e = .int j ∧ -(2 ^ 63) ≤ j ∧ j < 2 ^ 63 ∧ seqIndex? j ds.length = some m ∧ ds[m]? = some d ∧ Q d (ρ1.set i (.own (ds.eraseIdx m)))
theorem de_popAt (i : Nat) {x : Str} {w : DW} {p2 apos : Pos} (he : PE X e (tD c w)) (hN : X.N[i]? = some x := by rfl) (hv : Vis X.env.scope x := by first | exact Or.inl rfl | exact Or.inr (Or.inl rfl) | exact Or.inr (Or.inr rfl)) (hd : (x == ("__debug__" : Str)) = false := by decide)
    (hcd : (x == ("__classdict__" : Str)) = false := by decide) (hs : starEach [e] X.env = (false, eval e X.env) :: starEach [] X.env := by rfl)
    (hbase : attributeBase (.Name x p2) "pop" X.env (eval (.Name x p2) X.env) = eval (.Name x p2) X.env := by rfl) (hfew : ((backTo pos (starEach [e] X.env)).all (fun x => !x.1) && (backToKw pos (keywordEach [] X.env)).all (fun x => x.1.isSome) && decide (([e] : List Expr).length + ([] : List Keyword).length + (if ([] : List Keyword).isEmpty then 0 else 1) < 30)) = true := by rfl) (hline : (apos.endLine == pos.line) = true := by rfl) (hpl : (backTo pos (starEach [] X.env)).any (·.1) = false := by rfl) :
    PE X (.Call (.Attribute (.Name x p2) "pop" apos) [e] [] pos) (tD c (wPopAt i w)) := by
  refine PE.imp (pe_bm PySem.F.plainAttrs_list PySem.F.slot_list_pop PySem.F.type_list_pop mt_popAt (pe_var hN hv hd hcd) (pa_cons he pa_nil hs) hbase hfew hline hs hpl) ?_
  rintro σ H Q ⟨ρ, Q0, E, ⟨⟨ds, h1⟩, hw⟩, k⟩
  obtain ⟨x, hx, a, xs, rfl, ha, ix⟩ := E.at h1
  refine ⟨_, hx, .inl ⟨rfl, xs, SqL.of ha⟩, ρ, _, E, hw, fun d ρ1 v H1 q g E1 i1 => ?_⟩
  obtain ⟨ds', j, m, d', h1', rfl, hj1, hj2, hsi, hm, q⟩ := q
  obtain ⟨x', hx', a', xs', e1, ha', ix'⟩ := E1.at h1'
  rw [hx] at hx'
  cases hx'
  cases e1
  cases i1
  obtain ⟨v', hv', iv'⟩ := ix'.get hm
  have gr := E1.updGr (ys := xs'.eraseIdx m) h1' hx
  refine ⟨a, xs', j, m, v', rfl, rfl, ha', hj1, hj2, by rw [ix'.length]; exact hsi, hv', ?_⟩
  exact k _ _ v' _ q (g.trans gr) (E1.updO h1' hx (ix'.eraseIdx m)) (Is.mono gr.fx d' v' iv')
/-- xs[k] = e, k written -/
def wSetIx (i : Nat) (k : Int) (w : DW) : SW := fun DD ρ => w ρ fun d ρ1 => ∃ (ds : List D) (j : Nat), ρ1[i]? = some (.own ds) ∧ ixN ds.length k = some j ∧ DD.nx (ρ1.set i (.own (ds.set j d)))
theorem ds_setIx (i : Nat) {x : Str} {k : Int} {w : DW} {p2 p3 spos : Pos} {j0} (he : PE X e (tD c w)) (hN : X.N[i]? = some x := by rfl) (hv : Vis X.env.scope x := by first | exact Or.inl rfl | exact Or.inr (Or.inl rfl) | exact Or.inr (Or.inr rfl)) (hd : (x == ("__debug__" : Str)) = false := by decide)
    (hcd : (x == ("__classdict__" : Str)) = false := by decide)
    (ha : ∀ v, assign (.Subscript (.Name x p2) (.Constant (.int k) j0 p3) spos) X.env v = (do
      let ov ← holding [v] (eval (.Name x p2) X.env)
      let iv ← holding [v, ov] (eval (.Constant (.int k) j0 p3) X.env)
      standAt spos
      holding [v, ov, iv] (setItem ov iv v)
      release [v, ov, iv] []) := by intro _; rfl)
    (hs : swapsWithSole [.Subscript (.Name x p2) (.Constant (.int k) j0 p3) spos] e pos.line X.env = pure false := by rfl) (hw : swappedStores [.Subscript (.Name x p2) (.Constant (.int k) j0 p3) spos] e X.env = pure none := by rfl)
    (h1 : (assignEach [.Subscript (.Name x p2) (.Constant (.int k) j0 p3) spos] X.env).map (·.2) = [assign (.Subscript (.Name x p2) (.Constant (.int k) j0 p3) spos) X.env] := by rfl) :
    PS X (.Assign [.Subscript (.Name x p2) (.Constant (.int k) j0 p3) spos] e pos) (sD c (wSetIx i k w)) := by
  refine PS.imp (ps_asg he (pg_sub (pe_var hN hv hd hcd) pe_int set_list ha) hs hw h1) ?_
  rintro D σ H ⟨ρ, D0, E, hw, k1, k2, k3, k4⟩
  refine ⟨ρ, _, E, hw, fun d ρ1 v H1 q g E1 i1 => ?_⟩
  obtain ⟨ds, j, h1, hj, q⟩ := q
  obtain ⟨x, hx, a, xs, rfl, ha, ix⟩ := E1.at h1
  refine ⟨_, hx, a, xs, k, j, rfl, rfl, ha, by rw [ix.length]; exact hj, ?_⟩
  exact k1 _ _ _ q (g.fx.trans (E1.updGr h1 hx).fx) (E1.updO h1 hx (ix.set i1 j))

/-! ### the dict of one's own -/
theorem cmp_bag {neg : Bool} {w : World} (hu : X.A.units + 120 < cLine) : OpR X (compareOp (if neg then .NotIn else .In)) (fun x y H Q => ∃ a xs k d, y = .ref a ∧ H a = some (BagO X.w a xs) ∧ (a == sysModules) = false ∧ (xs.map (·.1)).Nodup ∧ (∀ e ∈ xs, KeyIs X.K H e) ∧ Is X.K H x d ∧ nkOf d = some k ∧ k.depth ≤ 8 ∧ topD d = true ∧ Q (.bl (xor neg (decide (k ∈ xs.map (·.1))))) H) := by
  intro pins s σ H x y v u Q I rx ry h
  obtain ⟨a, xs, k, d, rfl, ha, hm, hn, hk, i, nk, hd, ht, q⟩ := h
  cases ry
  obtain ⟨⟨o, es, ep, ho, hc, hda, he⟩, _, _⟩ := I.hok a _ ha
  obtain ⟨as, rd⟩ := Dp.reads I d x v (Is.dp d x (nk_plain d k nk) i) rx
  have kd : KeyOk s.heap k v := ⟨nested_of d k v as rd nk, hd, topKey_of i rx ht⟩
  exact mix_in (by omega) kd hm ⟨o, es, ep, ho, hc, hda, he, fun e he => (hk e he).ok I, hn⟩ neg fun tk => ⟨.bl _, H, I.tok tk, rfl, q⟩
def wInB (neg : Bool) (i : Nat) (w : DW) : DW := fun ρ Q => w ρ fun d ρ1 => ∃ (ks : List NK) (k : NK), ρ1[i]? = some (.bag ks) ∧ nkOf d = some k ∧ k.depth ≤ 8 ∧ topD d = true ∧ Q (.bool (xor neg (decide (k ∈ ks)))) ρ1
theorem inB_imp {neg : Bool} {i : Nat} {w : DW} (hK : c.K = X.K) (hW : c.w = X.w) : ∀ σ H Q, tD c (wInB neg i w) σ H Q → tOp (fun x y H Q => ∃ a xs k d, y = .ref a ∧ H a = some (BagO X.w a xs) ∧ (a == sysModules) = false ∧ (xs.map (·.1)).Nodup ∧ (∀ e ∈ xs, KeyIs X.K H e) ∧ Is X.K H x d ∧ nkOf d = some k ∧ k.depth ≤ 8 ∧ topD d = true ∧ Q (.bl (xor neg (decide (k ∈ xs.map (·.1))))) H) (tD c w) (tVar i) σ H Q := by
  rintro σ H Q ⟨ρ, Q0, E, hw, k⟩
  refine ⟨ρ, _, E, hw, fun d ρ1 v H1 q g E1 i1 => ?_⟩
  obtain ⟨ks, nk, h1, h2, h3, h4, q⟩ := q
  obtain ⟨x, hx, a, xs, rfl, ha, hm, rfl, hn, hk⟩ := E1.at h1
  exact ⟨_, hx, a, xs, nk, d, rfl, by rw [← hW]; exact ha, hm, hn, by rw [← hK]; exact hk, by rw [← hK]; exact i1, h2, h3, h4, k _ ρ1 _ H1 q g E1 (.bl _)⟩
theorem dt_inB (i : Nat) {x : Str} {w : DW} {p2 : Pos} (hu : X.A.units + 120 < cLine) (he : PE X e (tD c w)) (hN : X.N[i]? = some x := by rfl) (hv : Vis X.env.scope x := by first | exact Or.inl rfl | exact Or.inr (Or.inl rfl) | exact Or.inr (Or.inr rfl)) (hd : (x == ("__debug__" : Str)) = false := by decide)
    (hcd : (x == ("__classdict__" : Str)) = false := by decide) (hm : behindInMarks .NotIn (.Name x p2) = false := by rfl) (hK : c.K = X.K := by rfl) (hW : c.w = X.w := by rfl) : PT X (.Compare e [.NotIn] [.Name x p2] pos) (tT c (wTst (wInB true i w))) :=
  PT.imp (pt_cmpR (cmp_bag (neg := true) (w := X.w) hu) he (pe_var hN hv hd hcd) hm) (tst_imp (inB_imp hK hW))
/-- d[k] = v for it -/
def wPutB (i : Nat) (wk wv : DW) : SW := fun D ρ => wv ρ fun _ ρ1 => (∃ ks, ρ1[i]? = some (.bag ks)) ∧ wk ρ1 fun d ρ2 => ∃ (ks : List NK) (k : NK), ρ2[i]? = some (.bag ks) ∧ nkOf d = some k ∧ k.depth ≤ 8 ∧ topD d = true ∧ ks.length < sizeLine ∧ D.nx (ρ2.set i (.bag (if k ∈ ks then ks else ks ++ [k])))
theorem putM_keys {xs : List ME} {k : NK} {v u : Value} : (putM xs k v u).map (·.1) = if k ∈ xs.map (·.1) then xs.map (·.1) else xs.map (·.1) ++ [k] := by
  unfold putM
  split
  · rw [List.map_map]
    have : (Prod.fst ∘ fun x : ME => if x.1 = k then (x.1, x.2.1, u) else x) = Prod.fst := by
      funext x
      by_cases e : x.1 = k <;> simp [e]
    rw [this]
  · rw [List.map_append]; rfl
theorem putM_mem {xs : List ME} {k : NK} {v u : Value} {e : ME} (h : e ∈ putM xs k v u) : (∃ e' ∈ xs, e.1 = e'.1 ∧ e.2.1 = e'.2.1) ∨ (e.1 = k ∧ e.2.1 = v) := by
  unfold putM at h
  split at h
  · obtain ⟨x, hx, rfl⟩ := List.mem_map.mp h
    refine .inl ⟨x, hx, ?_⟩
    by_cases e : x.1 = k <;> simp [e]
  · rcases List.mem_append.mp h with h | h
    · exact .inl ⟨e, h, rfl, rfl⟩
    · simp at h
      subst h
      exact .inr ⟨rfl, rfl⟩
theorem set_bag (hu : X.A.units + 120 < cLine) : PSet X (fun o i v H Q => ∃ a xs k d, o = .ref a ∧ H a = some (BagO X.w a xs) ∧ (xs.map (·.1)).Nodup ∧ (∀ e ∈ xs, KeyIs X.K H e) ∧ Is X.K H i d ∧ nkOf d = some k ∧ k.depth ≤ 8 ∧ topD d = true ∧ xs.length < sizeLine ∧
    ∀ ys : List ME, (ys.map (·.1)).Nodup → ys.map (·.1) = (if k ∈ xs.map (·.1) then xs.map (·.1) else xs.map (·.1) ++ [k]) → (∀ e ∈ ys, KeyIs X.K H e) → Q (upd H a (BagO X.w a ys))) := by
  intro pins s σ H o i v ov iv u Q I ro ri rv h
  obtain ⟨a, xs, k, d, rfl, ha, hn, hk, id', nk, hd, ht, hz, q⟩ := h
  cases ro
  obtain ⟨⟨ob, es, ep, ho, hc, hda, he⟩, _, _⟩ := I.hok a _ ha
  obtain ⟨as, rd⟩ := Dp.reads I d i iv (Is.dp d i (nk_plain d k nk) id') ri
  have kd : KeyOk s.heap k iv := ⟨nested_of d k iv as rd nk, hd, topKey_of id' ri ht⟩
  refine mix_put (by omega) kd ⟨ob, es, ep, ho, hc, hda, he, fun e he => (hk e he).ok I, hn⟩ hz fun h' tk hm' hn' hs => ?_
  refine ⟨_, I.write (t' := tk) (x := a) (e := a) (o := BagO X.w a (putM xs k iv u)) (by rw [ha]; exact trivial) (.inl rfl) (fun b w hb e => (hs.2 b hb).trans e) (let ⟨o, _, _, e, _⟩ := hm'; ⟨o, e⟩) ⟨hm', (let ⟨o, _, _, e, _⟩ := hm'; ⟨o, e⟩), fun h1 h2 ⟨o, es, ep, e, r⟩ k => ⟨o, es, ep, k o e, r⟩⟩, q (putM xs k iv u) hn' putM_keys fun e he => ?_⟩
  rcases putM_mem he with ⟨e', he', e1, e2⟩ | ⟨e1, e2⟩
  · obtain ⟨p1, p2, p3⟩ := hk e' he'
    exact ⟨by rw [e1]; exact p1, by rw [e2]; exact p2, by rw [e1, e2]; exact p3⟩
  · exact ⟨by rw [e1]; exact hd, by rw [e2]; exact kd.2.2, d, i, by rw [e2]; exact ri, id', by rw [e1]; exact nk⟩
theorem ds_putB (i : Nat) {x : Str} {kx vx : Expr} {wk wv : DW} {p2 spos : Pos} (hu : X.A.units + 120 < cLine) (hk : PE X kx (tD c wk)) (hvx : PE X vx (tD c wv)) (hN : X.N[i]? = some x := by rfl) (hv : Vis X.env.scope x := by first | exact Or.inl rfl | exact Or.inr (Or.inl rfl) | exact Or.inr (Or.inr rfl)) (hd : (x == ("__debug__" : Str)) = false := by decide)
    (hcd : (x == ("__classdict__" : Str)) = false := by decide) (hK : c.K = X.K := by rfl) (hW : c.w = X.w := by rfl)
    (ha : ∀ v, assign (.Subscript (.Name x p2) kx spos) X.env v = (do
      let ov ← holding [v] (eval (.Name x p2) X.env)
      let iv ← holding [v, ov] (eval kx X.env)
      standAt spos
      holding [v, ov, iv] (setItem ov iv v)
      release [v, ov, iv] []) := by intro _; rfl)
    (hs : swapsWithSole [.Subscript (.Name x p2) kx spos] vx pos.line X.env = pure false := by rfl) (hw : swappedStores [.Subscript (.Name x p2) kx spos] vx X.env = pure none := by rfl)
    (h1 : (assignEach [.Subscript (.Name x p2) kx spos] X.env).map (·.2) = [assign (.Subscript (.Name x p2) kx spos) X.env] := by rfl) :
    PS X (.Assign [.Subscript (.Name x p2) kx spos] vx pos) (sD c (wPutB i wk wv)) := by
  refine PS.imp (ps_asg hvx (pg_sub (pe_var hN hv hd hcd) hk (set_bag hu) ha) hs hw h1) ?_
  rintro D σ H ⟨ρ, D0, E, hw, k1, k2, k3, k4⟩
  refine ⟨ρ, _, E, hw, fun d ρ1 v H1 q g E1 i1 => ?_⟩
  obtain ⟨⟨ks0, h0⟩, q⟩ := q
  obtain ⟨x, hx, a, xs0, rfl, _⟩ := E1.at h0
  refine ⟨_, hx, ρ1, _, E1, q, fun kd ρ2 kv H2 q2 g2 E2 i2 => ?_⟩
  obtain ⟨ks, k, h1, h2, h3, h4, hz, q2⟩ := q2
  obtain ⟨x', hx', a', xs, e1, ha, hm, rfl, hn, hk⟩ := E2.at h1
  rw [hx] at hx'
  cases hx'
  cases e1
  refine ⟨a, xs, k, kd, rfl, by rw [← hW]; exact ha, hn, by rw [← hK]; exact hk, by rw [← hK]; exact i2, h2, h3, h4, by simpa using hz, fun ys hn' hy hk' => ?_⟩
  obtain ⟨E3, g3⟩ := E2.updB h1 hx hn' (by rw [hK]; exact hk')
  rw [← hW]
  rw [hy] at E3
  exact k1 _ _ _ q2 ((g.fx.trans g2.fx).trans g3.fx) E3
end
end DL
namespace DL
open PySem PySem.Spec PyProof.Rows L2
section
variable {X : Cx} {c : Ctx} {e a b b3 l tg : Expr} {es : List Expr} {pos : Pos} {st : Stmt} {sts body : List Stmt}
/-! ### loops -/
def wFor (wi : LW) (g : GW) (wb : SW) : SW := fun DD ρ => wi ρ fun (xs : List D) ρ1 => ∃ W : Nat → List Sl → Prop, W 0 ρ1 ∧
  (∀ (i : Nat) (x : D) (ρ2 : List Sl), xs[i]? = some x → W i ρ2 → g x ρ2 fun ρ3 => wb { DD with nx := W (i + 1), ct := W (i + 1), bk := DD.nx } ρ3) ∧ ∀ ρ2, W xs.length ρ2 → DD.nx ρ2
theorem ds_for {R : Rel} {iter : Expr} {wi : LW} {g : GW} {wb : SW} {vs : List Nat} (hp : PassesOwn (model X.prog X.w) X.A X.env X.xe) (hc : X.calm = true) (hi : PI X tg iter (iR R c wi)) (hg : PG X tg (gR R c vs g)) (hb : PSs X body (sD c wb))
    (hs : ∀ x, foldedSetIterable iter X.env x = pure x := by intro _; rfl) : PS X (.For tg iter body [] pos) (sD c (wFor wi g wb)) := by
  refine PS.imp (ps_for hp hc hi hg hb hs) ?_
  rintro DD σ H ⟨ρ, D0, E, hw, k1, k2, k3, k4⟩
  refine ⟨ρ, _, E, hw, fun xs ρ' J H1 q g1 E1 hJ => ?_⟩
  obtain ⟨W, w0, ws, wd⟩ := q
  obtain ⟨jgo, jy, jstop⟩ := hJ
  refine ⟨fun i m σ2 H2 => m = xs.length - i ∧ i ≤ xs.length ∧ ∃ ρ2, W i ρ2 ∧ En c H2 σ2 ρ2 ∧ Fx H1 H2, ⟨xs.length, by simp, Nat.zero_le _, ρ', w0, E1, Fx.refl _⟩, ?_⟩
  rintro i m σ2 H2 ⟨rfl, hi, ρ2, hW, E2, fx⟩
  by_cases hlt : i < xs.length
  · refine .inr ⟨jgo i H2 fx hlt, fun σ3 H3 => ∃ ρ3, W (i + 1) ρ3 ∧ En c H3 σ3 ρ3 ∧ Fx H1 H3, fun σ3 H3 q => ⟨xs.length - (i + 1), by omega, rfl, hlt, q⟩, fun x H3 y => ?_⟩
    have hx := List.getElem?_eq_getElem hlt
    obtain ⟨sm, rx⟩ := jy i x H2 H3 xs[i] fx hx y
    refine ⟨xs[i], ρ2, _, rx, E2.same sm, ws i xs[i] ρ2 hx hW, fun ρ3 σ3 q3 o3 E3 => ?_⟩
    refine ⟨ρ3, _, E3, q3, fun ρ4 σ4 H4 q4 f4 E4 => ⟨ρ4, q4, E4, (fx.trans (Same.fx sm)).trans f4⟩, fun r ρ4 σ4 v H4 q4 f4 E4 i4 => k2 r ρ4 σ4 v H4 q4 (((g1.fx.trans fx).trans (Same.fx sm)).trans f4) E4 i4, fun ρ4 σ4 H4 q4 f4 E4 => k1 ρ4 σ4 H4 q4 (((g1.fx.trans fx).trans (Same.fx sm)).trans f4) E4, fun ρ4 σ4 H4 q4 f4 E4 => ⟨ρ4, q4, E4, (fx.trans (Same.fx sm)).trans f4⟩⟩
  · have e : i = xs.length := by omega
    subst e
    exact .inl ⟨jstop _ H2 fx (Nat.le_refl _), k1 ρ2 σ2 H2 (wd ρ2 hW) (g1.fx.trans fx) E2⟩
def wWhile (t : BW) (wb : SW) : SW := fun DD ρ => ∃ W : Nat → List Sl → Prop, (∃ m, W m ρ) ∧ ∀ (m : Nat) (ρ1 : List Sl), W m ρ1 → t ρ1 fun b ρ2 => if b = true then wb { DD with nx := fun ρ3 => ∃ m', m' < m ∧ W m' ρ3, ct := fun ρ3 => ∃ m', m' < m ∧ W m' ρ3, bk := DD.nx } ρ2 else DD.nx ρ2
theorem ds_while {t : BW} {wb : SW} (hp : PassesOwn (model X.prog X.w) X.A X.env X.xe) (hc : PT X e (tT c t)) (hb : PSs X body (sD c wb)) : PS X (.While e body [] pos) (sD c (wWhile t wb)) := by
  refine PS.imp (ps_while hp hc hb) ?_
  rintro DD σ H ⟨ρ, D0, E, ⟨W, ⟨m0, w0⟩, ws⟩, k1, k2, k3, k4⟩
  refine ⟨fun m σ2 H2 => ∃ ρ2, W m ρ2 ∧ En c H2 σ2 ρ2 ∧ Fx H H2, ⟨m0, ρ, w0, E, Fx.refl _⟩, ?_⟩
  rintro m σ2 H2 ⟨ρ2, hW, E2, fx⟩
  refine ⟨ρ2, _, E2, ws m ρ2 hW, fun b ρ3 H3 q g3 E3 => ?_⟩
  cases b with
  | false => exact k1 ρ3 σ2 H3 q (fx.trans g3.fx) E3
  | true =>
    refine ⟨fun σ4 H4 => ∃ m', m' < m ∧ ∃ ρ2, W m' ρ2 ∧ En c H4 σ4 ρ2 ∧ Fx H H4, fun σ4 H4 q => q, ρ3, _, E3, q, fun ρ4 σ4 H4 q4 f4 E4 => ?_, fun r ρ4 σ4 v H4 q4 f4 E4 i4 => k2 r ρ4 σ4 v H4 q4 ((fx.trans g3.fx).trans f4) E4 i4, fun ρ4 σ4 H4 q4 f4 E4 => k1 ρ4 σ4 H4 q4 ((fx.trans g3.fx).trans f4) E4, fun ρ4 σ4 H4 q4 f4 E4 => ?_⟩
    · obtain ⟨m', hm, w'⟩ := q4
      exact ⟨m', hm, ρ4, w', E4, (fx.trans g3.fx).trans f4⟩
    · obtain ⟨m', hm, w'⟩ := q4
      exact ⟨m', hm, ρ4, w', E4, (fx.trans g3.fx).trans f4⟩
/-- xs != e, xs one's own -/
def wOwnNe (i : Nat) (w : DW) : DW := fun ρ Q => (∃ ds, ρ[i]? = some (.own ds)) ∧ w ρ fun d ρ1 => ∃ (ds : List D) (r : D), ρ1[i]? = some (.own ds) ∧ neD (.list ds) d = some r ∧ Q r ρ1
theorem ownNe_imp {i : Nat} {w : DW} (hK : c.K = X.K) : ∀ σ H Q, tD c (wOwnNe i w) σ H Q → tOp (rPl X.K neD) (tVar i) (tD c w) σ H Q := by
  rintro σ H Q ⟨ρ, Q0, E, ⟨⟨ds, h1⟩, hw⟩, k⟩
  obtain ⟨x, hx, a, xs, rfl, ha, ix⟩ := E.at h1
  refine ⟨_, hx, ρ, _, E, hw, fun d ρ1 v H1 q g E1 i1 => ?_⟩
  obtain ⟨ds', r, h1', hr, q⟩ := q
  obtain ⟨x', hx', a', xs', e1, ha', ix'⟩ := E1.at h1'
  rw [hx] at hx'
  cases hx'
  cases e1
  obtain ⟨p1, p2, _⟩ := pl2_of (neD_pl hr)
  refine ⟨.list ds', d, r, .lst (SqL.of ha') ?_, ?_, hr, fun z H3 sm iz => k r ρ1 z H3 q (g.trans (Gr.same sm)) (E1.same sm) (by rw [hK]; exact iz)⟩
  · rw [← hK]; exact IsAll.dp ds' xs' (by simpa only [PyData.plain] using p1) ix'
  · rw [← hK]; exact Is.dp d v p2 i1
theorem dt_ownNe (i : Nat) {x : Str} {w : DW} {p2 : Pos} (hu : X.A.units + 120 < cLine) (he : PE X e (tD c w)) (hm : behindInMarks .NotEq e = false) (hN : X.N[i]? = some x := by rfl) (hv : Vis X.env.scope x := by first | exact Or.inl rfl | exact Or.inr (Or.inl rfl) | exact Or.inr (Or.inr rfl)) (hd : (x == ("__debug__" : Str)) = false := by decide)
    (hcd : (x == ("__classdict__" : Str)) = false := by decide) (hK : c.K = X.K := by rfl) : PT X (.Compare (.Name x p2) [.NotEq] [e] pos) (tT c (wTst (wOwnNe i w))) :=
  PT.imp (pt_cmpR (op_neP hu) (pe_var hN hv hd hcd) he hm) (tst_imp (ownNe_imp hK))

/-! ### defs: what they promise -/
abbrev PN := List D → (Rv → Prop) → Prop
abbrev PP := List D → List D → (Rv → List D → Prop) → Prop
/-- a def of data -/
def spN (K : PySem.W.Frag) (n : Nat) (w : PN) : Sp := fun vs H Q _ => ∃ (ds : List D) (Q0 : Rv → Prop), IsAll K H vs ds ∧ ds.length = n ∧ w ds Q0 ∧ ∀ r v H', Q0 r → Same H H' → RvIs K H H' v r → Q v H'
/-- a def whose first argument is a list that it changes -/
def spP (K : PySem.W.Frag) (n : Nat) (w : PP) : Sp := fun vs H Q _ => ∃ (a : Addr) (vr : List V) (xs : List V) (ps ds : List D) (Q0 : Rv → List D → Prop), vs = .ref a :: vr ∧ H a = some (.lst xs) ∧ IsAll K H xs ps ∧ IsAll K H vr ds ∧ ds.length = n ∧ w ps ds Q0 ∧
  ∀ r ps' v H' xs', Q0 r ps' → (∀ b o, b ≠ a → H b = some o → H' b = some o) → H' a = some (.lst xs') → IsAll K H' xs' ps' → RvIs K H H' v r → Q v H'
/-- an own def's call -/
def wCall (n : Nat) (w : PN) (wa : LW) : DW := fun ρ Q => wa ρ fun ds ρ1 => ds.length = n ∧ w ds fun r => ∃ d, r = .d d ∧ Q d ρ1
def wCallF (n : Nat) (w : PN) (wa : LW) : LW := fun ρ Q => wa ρ fun ds ρ1 => ds.length = n ∧ w ds fun r => ∃ d, r = .f d ∧ Q d ρ1
variable {CX : CXT} {k : Nat} {f : Addr} {fd : FuncData} {ps : List Str} {x : Str} {p : Pos} {E0' : XK}
theorem call_imp {n : Nat} {w : PN} {wa : LW} {K : PySem.W.Frag} {E : XK} (hK : c.K = K) : ∀ σ H Q, tD c (wCall n w wa) σ H Q → tCall (spN K n w) [] E (tA c wa) σ H Q := by
  subst hK
  rintro σ H Q ⟨ρ, Q0, E, hw, k⟩
  refine ⟨ρ, _, E, hw, fun ds ρ1 vs H1 q g E1 i1 => ?_⟩
  refine ⟨ds, _, by rw [List.append_nil]; exact i1, q.1, q.2, fun r v H2 q2 sm rv => ?_⟩
  obtain ⟨d, rfl, q2⟩ := q2
  exact k d ρ1 v H2 q2 (g.trans (Gr.same sm)) (E1.same sm) rv
theorem callF_imp {n : Nat} {w : PN} {wa : LW} {K : PySem.W.Frag} {E : XK} (hK : c.K = K) : ∀ σ H Q, tF c (wCallF n w wa) σ H Q → tCall (spN K n w) [] E (tA c wa) σ H Q := by
  subst hK
  rintro σ H Q ⟨ρ, Q0, E, hw, k⟩
  refine ⟨ρ, _, E, hw, fun ds ρ1 vs H1 q g E1 i1 => ?_⟩
  refine ⟨ds, _, by rw [List.append_nil]; exact i1, q.1, q.2, fun r v H2 q2 sm rv => ?_⟩
  obtain ⟨d, rfl, q2⟩ := q2
  obtain ⟨a, xs, rfl, n, ha, ix⟩ := rv
  exact k d ρ1 a xs H2 q2 (g.trans (Gr.same sm)) (E1.same sm) (g.free E1 n) ha ix
theorem de_call {n : Nat} {w : PN} {wa : LW} (F : FnOk X.prog X.w X.K X.mg X.base CX k f fd ps (spN X.K n w)) (hr : Room k X.A) (hg : Gl X x) (hm : X.mg x = some (.ref f)) (hk : PySem.W.keepIn X.K (.ref f) = true) (hb : Binds X.K fd ps []) (hx : Passes CX X E0') (ha : PA X (e :: es) (tA c wa)) (hK : c.K = X.K := by rfl)
    (hdb : (x == ("__debug__" : Str)) = false := by decide) (he : starEach (e :: es) X.env = (false, eval e X.env) :: starEach es X.env := by rfl) (hpl : (backTo pos (starEach es X.env)).any (·.1) = false := by rfl) : PE X (.Call (.Name x p) (e :: es) [] pos) (tD c (wCall n w wa)) :=
  PE.imp (pe_call F hr hg hm hk hb .nil hx ha hdb he hpl) (call_imp hK)
theorem df_call {n : Nat} {w : PN} {wa : LW} (F : FnOk X.prog X.w X.K X.mg X.base CX k f fd ps (spN X.K n w)) (hr : Room k X.A) (hg : Gl X x) (hm : X.mg x = some (.ref f)) (hk : PySem.W.keepIn X.K (.ref f) = true) (hb : Binds X.K fd ps []) (hx : Passes CX X E0') (ha : PA X (e :: es) (tA c wa)) (hK : c.K = X.K := by rfl)
    (hdb : (x == ("__debug__" : Str)) = false := by decide) (he : starEach (e :: es) X.env = (false, eval e X.env) :: starEach es X.env := by rfl) (hpl : (backTo pos (starEach es X.env)).any (·.1) = false := by rfl) : PE X (.Call (.Name x p) (e :: es) [] pos) (tF c (wCallF n w wa)) :=
  PE.imp (pe_call F hr hg hm hk hb .nil hx ha hdb he hpl) (callF_imp hK)
/-- .. whose first argument is a list of one's own, in slot i -/
def wCallP (i n : Nat) (w : PP) (wa : LW) : DW := fun ρ Q => (∃ ps, ρ[i]? = some (.own ps)) ∧ wa ρ fun ds ρ1 => ∃ ps, ρ1[i]? = some (.own ps) ∧ ds.length = n ∧ w ps ds fun r ps' => ∃ d, r = .d d ∧ Q d (ρ1.set i (.own ps'))
def wCallPF (i n : Nat) (w : PP) (wa : LW) : LW := fun ρ Q => (∃ ps, ρ[i]? = some (.own ps)) ∧ wa ρ fun ds ρ1 => ∃ ps, ρ1[i]? = some (.own ps) ∧ ds.length = n ∧ w ps ds fun r ps' => ∃ d, r = .f d ∧ Q d (ρ1.set i (.own ps'))
theorem callP_imp {i n : Nat} {w : PP} {wa : LW} {K : PySem.W.Frag} {E : XK} (hK : c.K = K) : ∀ σ H Q, tD c (wCallP i n w wa) σ H Q → tCall (spP K n w) [] E (tCons (tVar i) (tA c wa)) σ H Q := by
  subst hK
  rintro σ H Q ⟨ρ, Q0, E, ⟨⟨ps0, h0⟩, hw⟩, k⟩
  obtain ⟨x0, hx, a, xs0, rfl, ha0, ix0⟩ := E.at h0
  refine ⟨_, hx, ρ, _, E, hw, fun ds ρ1 vs H1 q g E1 i1 => ?_⟩
  obtain ⟨ps, h1, hl, q⟩ := q
  obtain ⟨x1, hx1, a1, xs, e1, ha, ix⟩ := E1.at h1
  rw [hx] at hx1
  cases hx1
  cases e1
  refine ⟨a, vs, xs, ps, ds, _, by simp, ha, ix, i1, hl, q, fun r ps' v H2 xs' q2 kp ha' ix' rv => ?_⟩
  obtain ⟨d, rfl, q2⟩ := q2
  obtain ⟨E2, g2⟩ := E1.call h1 hx kp ha' ix'
  exact k d _ v H2 q2 (g.trans g2) E2 rv
theorem callPF_imp {i n : Nat} {w : PP} {wa : LW} {K : PySem.W.Frag} {E : XK} (hK : c.K = K) : ∀ σ H Q, tF c (wCallPF i n w wa) σ H Q → tCall (spP K n w) [] E (tCons (tVar i) (tA c wa)) σ H Q := by
  subst hK
  rintro σ H Q ⟨ρ, Q0, E, ⟨⟨ps0, h0⟩, hw⟩, k⟩
  obtain ⟨x0, hx, a, xs0, rfl, ha0, ix0⟩ := E.at h0
  refine ⟨_, hx, ρ, _, E, hw, fun ds ρ1 vs H1 q g E1 i1 => ?_⟩
  obtain ⟨ps, h1, hl, q⟩ := q
  obtain ⟨x1, hx1, a1, xs, e1, ha, ix⟩ := E1.at h1
  rw [hx] at hx1
  cases hx1
  cases e1
  refine ⟨a, vs, xs, ps, ds, _, by simp, ha, ix, i1, hl, q, fun r ps' v H2 xs' q2 kp ha' ix' rv => ?_⟩
  obtain ⟨d, rfl, q2⟩ := q2
  obtain ⟨b, ys, rfl, nb, hb, iy⟩ := rv
  obtain ⟨E2, g2⟩ := E1.call h1 hx kp ha' ix'
  exact k d _ b ys H2 q2 (g.trans g2) E2 (g.free E1 nb) hb iy
theorem de_callP (i : Nat) {n : Nat} {w : PP} {wa : LW} {y : Str} {py : Pos} (F : FnOk X.prog X.w X.K X.mg X.base CX k f fd ps (spP X.K n w)) (hr : Room k X.A) (hg : Gl X x) (hm : X.mg x = some (.ref f)) (hk : PySem.W.keepIn X.K (.ref f) = true) (hb : Binds X.K fd ps []) (hx : Passes CX X E0') (ha : PA X es (tA c wa))
    (hN : X.N[i]? = some y := by rfl) (hv : Vis X.env.scope y := by first | exact Or.inl rfl | exact Or.inr (Or.inl rfl) | exact Or.inr (Or.inr rfl)) (hd : (y == ("__debug__" : Str)) = false := by decide) (hcd : (y == ("__classdict__" : Str)) = false := by decide) (hK : c.K = X.K := by rfl)
    (hdb : (x == ("__debug__" : Str)) = false := by decide) (he : starEach (.Name y py :: es) X.env = (false, eval (.Name y py) X.env) :: starEach es X.env := by rfl) (hpl : (backTo pos (starEach es X.env)).any (·.1) = false := by rfl) : PE X (.Call (.Name x p) (.Name y py :: es) [] pos) (tD c (wCallP i n w wa)) :=
  PE.imp (pe_call F hr hg hm hk hb .nil hx (pa_cons (pe_var hN hv hd hcd) ha he) hdb he hpl) (callP_imp hK)
theorem df_callP (i : Nat) {n : Nat} {w : PP} {wa : LW} {y : Str} {py : Pos} (F : FnOk X.prog X.w X.K X.mg X.base CX k f fd ps (spP X.K n w)) (hr : Room k X.A) (hg : Gl X x) (hm : X.mg x = some (.ref f)) (hk : PySem.W.keepIn X.K (.ref f) = true) (hb : Binds X.K fd ps []) (hx : Passes CX X E0') (ha : PA X es (tA c wa))
    (hN : X.N[i]? = some y := by rfl) (hv : Vis X.env.scope y := by first | exact Or.inl rfl | exact Or.inr (Or.inl rfl) | exact Or.inr (Or.inr rfl)) (hd : (y == ("__debug__" : Str)) = false := by decide) (hcd : (y == ("__classdict__" : Str)) = false := by decide) (hK : c.K = X.K := by rfl)
    (hdb : (x == ("__debug__" : Str)) = false := by decide) (he : starEach (.Name y py :: es) X.env = (false, eval (.Name y py) X.env) :: starEach es X.env := by rfl) (hpl : (backTo pos (starEach es X.env)).any (·.1) = false := by rfl) : PE X (.Call (.Name x p) (.Name y py :: es) [] pos) (tF c (wCallPF i n w wa)) :=
  PE.imp (pe_call F hr hg hm hk hb .nil hx (pa_cons (pe_var hN hv hd hcd) ha he) hdb he hpl) (callPF_imp hK)
end

/-! ### a def keeps its promise -/
section
variable {P : Program} {w : World} {K : PySem.W.Frag} {mg : Str → Option Value} {base : Heap} {x qual : Str} {st : Stmt} {f : Addr} {fd : FuncData} {N ps : List Str} {k : Nat}
def slots (N : List Str) (ds : List D) : List Sl := ds.map Sl.dat ++ List.replicate (N.length - ds.length) .un
theorem start_get {vs : List V} {N : List Str} {i : Nat} {v : V} (h : (L2.start N vs)[i]? = some (some v)) : vs[i]? = some v := by
  unfold L2.start at h
  by_cases hi : i < vs.length
  · rw [List.getElem?_append_left (by simpa using hi), List.getElem?_map] at h
    cases e : vs[i]? with
    | none => rw [e] at h; cases h
    | some a => rw [e] at h; cases h; rfl
  · rw [List.getElem?_append_right (by simpa using hi), List.getElem?_replicate] at h
    split at h <;> cases h
theorem slots_get {N : List Str} {ds : List D} {i : Nat} {s : Sl} (h : (slots N ds)[i]? = some s) : (∃ d, s = .dat d ∧ ds[i]? = some d) ∨ s = .un := by
  unfold slots at h
  by_cases hi : i < ds.length
  · rw [List.getElem?_append_left (by simpa using hi), List.getElem?_map] at h
    cases e : ds[i]? with
    | none => rw [e] at h; cases h
    | some a => rw [e] at h; cases h; exact .inl ⟨a, rfl, rfl⟩
  · rw [List.getElem?_append_right (by simpa using hi), List.getElem?_replicate] at h
    split at h
    · exact .inr (Option.some.inj h).symm
    · cases h
theorem start_dat {vs : List V} {N : List Str} {i : Nat} {y : Option V} (hi : i < vs.length) (h : (L2.start N vs)[i]? = some y) : ∃ v, y = some v ∧ vs[i]? = some v := by
  unfold L2.start at h
  rw [List.getElem?_append_left (by simpa using hi), List.getElem?_map, List.getElem?_eq_getElem hi] at h
  exact ⟨_, (Option.some.inj h).symm, List.getElem?_eq_getElem hi⟩
theorem defN {n : Nat} {w' : PN} (F : Fun K x qual st f fd) (S : FnScope N ps (defScope st)) (M : List Nat) (wb : SW) (hn : ps.length = n) (hM : ∀ i, i ∈ M → n ≤ i)
    (hbody : ∀ (cdv : Value) (A : Around) (outer : List Env) (s : Shared) (H : Hp) (E : XK), Room k (A.deeper (envOfC qual (defScope st) s.heap.objs.size f cdv)) → PSs (cxOf CX0 P w K mg base N qual (defScope st) f cdv A outer s H E).nox (defBody st) (sD ⟨w, K, M, none, H⟩ wb))
    (hw : ∀ ds Q0, ds.length = n → w' ds Q0 → wb ⟨fun _ => Q0 (.d .none), fun r _ => Q0 r, fun _ => False, fun _ => False⟩ (slots N ds)) : FnOk P w K mg base CX0 (k + 1) f fd ps (spN K n w') := by
  refine F.ok S (fun vs H Q E h => ?_) (fun cdv A outer s H vs Q E hr h => ?_)
  · obtain ⟨ds, Q0, ia, hl, _⟩ := h
    rw [ia.length, hl, hn]
  · obtain ⟨ds, Q0, ia, hl, hq, k⟩ := h
    have hlv : vs.length = n := by rw [ia.length, hl]
    have hNn : n ≤ N.length := by have := congrArg List.length S.pre; rw [List.length_take] at this; omega
    refine ⟨_, hbody cdv A outer s H E hr, slots N ds, _, ?_, hw ds Q0 hl hq, fun ρ' σ' H' q fx E' => ?_, fun r ρ' σ' v H' q fx E' rv => ?_, fun _ _ _ q => q.elim, fun _ _ _ q => q.elim⟩
    · refine ⟨?_, fun i s y h1 h2 => ?_, fun i ds h1 => ?_, fun i j ds es a h1 => ?_, fun i ds a h1 => ?_, fun b o h _ => h, fun a h => ?_, fun i a hi h => ?_, fun h => absurd rfl h, fun i ks a h1 => ?_, fun i ks h1 => ?_, fun i j ks ls h1 => ?_⟩
      · unfold L2.start slots
        simp only [List.length_append, List.length_map, List.length_replicate]
        omega
      · rcases slots_get h1 with ⟨d, rfl, hd⟩ | rfl
        · obtain ⟨v, rfl, hv⟩ := start_dat (by rw [hlv, ← hl]; exact (List.getElem?_eq_some_iff.mp hd).1) h2
          obtain ⟨v', hv', iv⟩ := ia.get hd
          rw [hv] at hv'
          cases hv'
          exact ⟨v, rfl, iv⟩
        · trivial
      · rcases slots_get h1 with ⟨d, e, _⟩ | e <;> cases e
      · rcases slots_get h1 with ⟨d, e, _⟩ | e <;> cases e
      · rcases slots_get h1 with ⟨d, e, _⟩ | e <;> cases e
      · cases h
      · have := (List.getElem?_eq_some_iff.mp (start_get h)).1
        have := hM i hi
        omega
      · rcases slots_get h1 with ⟨d, e, _⟩ | e <;> cases e
      · rcases slots_get h1 with ⟨d, e, _⟩ | e <;> cases e
      · rcases slots_get h1 with ⟨d, e, _⟩ | e <;> cases e
    · exact k (.d .none) .non H' q (fun b o h => E'.keep b o h (by simp)) .non
    · exact k r v H' q (fun b o h => E'.keep b o h (by simp)) rv
/-- .. with a list that it changes first -/
def slotsP (N : List Str) (ps ds : List D) : List Sl := .own ps :: (ds.map Sl.dat ++ List.replicate (N.length - (ds.length + 1)) .un)
theorem slotsP_get {N : List Str} {ps ds : List D} {i : Nat} {s : Sl} (h : (slotsP N ps ds)[i]? = some s) : (i = 0 ∧ s = .own ps) ∨ (∃ j d, i = j + 1 ∧ s = .dat d ∧ ds[j]? = some d) ∨ s = .un := by
  cases i with
  | zero => exact .inl ⟨rfl, (Option.some.inj h).symm⟩
  | succ j =>
    have h : (ds.map Sl.dat ++ List.replicate (N.length - (ds.length + 1)) Sl.un)[j]? = some s := h
    by_cases hi : j < ds.length
    · rw [List.getElem?_append_left (by simpa using hi), List.getElem?_map] at h
      cases e : ds[j]? with
      | none => rw [e] at h; cases h
      | some a => rw [e] at h; cases h; exact .inr (.inl ⟨j, a, rfl, rfl, e⟩)
    · rw [List.getElem?_append_right (by simpa using hi), List.getElem?_replicate] at h
      split at h
      · exact .inr (.inr (Option.some.inj h).symm)
      · cases h
theorem defP {n : Nat} {w' : PP} (F : Fun K x qual st f fd) (S : FnScope N ps (defScope st)) (M : List Nat) (wb : SW) (hn : ps.length = n + 1) (hM : ∀ i, i ∈ M → i = 0 ∨ n + 1 ≤ i) (h0 : 0 ∈ M)
    (hbody : ∀ (cdv : Value) (A : Around) (outer : List Env) (s : Shared) (H : Hp) (E : XK) (a : Addr), Room k (A.deeper (envOfC qual (defScope st) s.heap.objs.size f cdv)) → PSs (cxOf CX0 P w K mg base N qual (defScope st) f cdv A outer s H E).nox (defBody st) (sD ⟨w, K, M, some a, H⟩ wb))
    (hw : ∀ ps ds Q0, ds.length = n → w' ps ds Q0 → wb ⟨fun ρ => ∃ ps', ρ[0]? = some (.own ps') ∧ Q0 (.d .none) ps', fun r ρ => ∃ ps', ρ[0]? = some (.own ps') ∧ Q0 r ps', fun _ => False, fun _ => False⟩ (slotsP N ps ds)) : FnOk P w K mg base CX0 (k + 1) f fd ps (spP K n w') := by
  refine F.ok S (fun vs H Q E h => ?_) (fun cdv A outer s H vs Q E hr h => ?_)
  · obtain ⟨a, vr, xs, ps', ds, Q0, rfl, _, _, ia, hl, _⟩ := h
    rw [List.length_cons, ia.length, hl, hn]
  · obtain ⟨a, vr, xs, pl, ds, Q0, rfl, ha, ip, ia, hl, hq, k⟩ := h
    have hlv : vr.length = n := by rw [ia.length, hl]
    have hNn : n + 1 ≤ N.length := by have := congrArg List.length S.pre; rw [List.length_take] at this; omega
    have s0 : (L2.start N (.ref a :: vr))[0]? = some (some (.ref a)) := rfl
    have fin : ∀ {ρ' : List Sl} {σ' : Sg} {H' : Hp} {v : V} {r : Rv}, (∃ ps', ρ'[0]? = some (.own ps') ∧ Q0 r ps') → En ⟨w, K, M, some a, H⟩ H' σ' ρ' → RvIs K H H' v r → Q v H' := fun {ρ' σ' H' v r} q E' rv => by
      obtain ⟨ps', h1, q⟩ := q
      obtain ⟨y, hy, b, ys, rfl, hb, iy⟩ := E'.at h1
      have e := E'.potS a rfl
      rw [hy] at e
      cases e
      exact k r ps' v H' ys q (fun b o hb h => E'.keep b o h fun z => hb (Option.some.inj z).symm) hb iy rv
    refine ⟨_, hbody cdv A outer s H E a hr, slotsP N pl ds, _, ?_, hw pl ds Q0 hl hq, fun ρ' σ' H' q fx E' => fin q E' .non, fun r ρ' σ' v H' q fx E' rv => fin q E' rv, fun _ _ _ q => q.elim, fun _ _ _ q => q.elim⟩
    refine ⟨?_, fun i s y h1 h2 => ?_, fun i fs h1 => ?_, fun i j fs gs b h1 h2 _ _ => ?_, fun i fs b h1 h2 => ?_, fun b o h _ => h, fun b h => ?_, fun i b hi h => ?_, fun _ => h0, fun i ks a h1 => ?_, fun i ks h1 => ?_, fun i j ks ls h1 => ?_⟩
    · unfold L2.start slotsP
      simp only [List.length_append, List.length_map, List.length_replicate, List.length_cons]
      omega
    · rcases slotsP_get h1 with ⟨rfl, rfl⟩ | ⟨j, d, rfl, rfl, hd⟩ | rfl
      · rw [s0] at h2
        cases h2
        exact ⟨a, xs, rfl, ha, ip⟩
      · obtain ⟨v, rfl, hv⟩ := start_dat (by rw [List.length_cons, hlv, ← hl]; have := (List.getElem?_eq_some_iff.mp hd).1; omega) h2
        obtain ⟨v', hv', iv⟩ := ia.get hd
        have hv2 : vr[j]? = some v := hv
        rw [hv2] at hv'
        cases hv'
        exact ⟨v, rfl, iv⟩
      · trivial
    · rcases slotsP_get h1 with ⟨rfl, _⟩ | ⟨j, d, _, e, _⟩ | e
      · exact h0
      · cases e
      · cases e
    · have z : ∀ {m : Nat} {l : List D}, (slotsP N pl ds)[m]? = some (Sl.own l) → m = 0 := fun {m l} h => by
        rcases slotsP_get h with ⟨rfl, _⟩ | ⟨j, d, _, e, _⟩ | e
        · rfl
        · cases e
        · cases e
      rw [z h1, z h2]
    · rcases slotsP_get h1 with ⟨rfl, _⟩ | ⟨j, d, _, e, _⟩ | e
      · rw [s0] at h2
        cases h2
        exact .inr ⟨rfl, rfl⟩
      · cases e
      · cases e
    · cases h; exact s0
    · have hlt := (List.getElem?_eq_some_iff.mp (start_get h)).1
      rw [List.length_cons] at hlt
      rcases hM i hi with rfl | h'
      · rw [s0] at h
        cases h
        rw [ha]; rfl
      · omega
    · rcases slotsP_get h1 with ⟨_, e⟩ | ⟨j, d, _, e, _⟩ | e <;> cases e
    · rcases slotsP_get h1 with ⟨_, e⟩ | ⟨j, d, _, e, _⟩ | e <;> cases e
    · rcases slotsP_get h1 with ⟨_, e⟩ | ⟨j, d, _, e, _⟩ | e <;> cases e
end
end DL
namespace DL
open PySem PySem.Spec PyProof.Rows L2
theorem hu120 {A : Around} {k : Nat} (hr : Room k A) : A.units + 120 < cLine := by have := hr.un; omega
section
variable {X : Cx} {c : Ctx} {e a b b3 l tg : Expr} {es : List Expr} {pos : Pos} {st : Stmt} {sts body : List Stmt}
/-! ### slices -/
def cutD (xs : List D) (lo hi : Option Int) : List D := (xs.drop (HT.sIx xs.length 0 lo)).take (HT.sIx xs.length xs.length hi - HT.sIx xs.length 0 lo)
theorem IsAll.cut {K : PySem.W.Frag} {H : Hp} {vs : List V} {ds : List D} (h : IsAll K H vs ds) (lo hi : Option Int) : IsAll K H (cutV vs lo hi) (cutD ds lo hi) := by
  unfold cutV cutD
  rw [h.length]
  exact (h.drop _).take _
def slD : D → Option Int → Option Int → Option D
  | .list xs, lo, hi => some (.list (cutD xs lo hi))
  | .tuple xs, lo, hi => some (.tuple (cutD xs lo hi))
  | _, _, _ => none
theorem cut_all {α : Type} (xs : List α) (lo hi : Option Int) (h : HT.sIx xs.length 0 lo = 0 ∧ HT.sIx xs.length xs.length hi = xs.length) : (xs.drop (HT.sIx xs.length 0 lo)).take (HT.sIx xs.length xs.length hi - HT.sIx xs.length 0 lo) = xs := by
  rw [h.1, h.2]; simp
def rSlD (K : PySem.W.Frag) : V → Option Int → Option Int → Hp → VK → Prop := fun x lo hi H Q => ∃ d r, Is K H x d ∧ slD d lo hi = some r ∧ ∀ v H', Same H H' → Is K H' v r → Q v H'
theorem sl_D : SlR X (rSlD X.K) := by
  intro pins s σ H x v vl vu lo hi sl Q I rx hs pl pu h
  obtain ⟨d, r, hd, hr, q⟩ := h
  cases hd with
  | @lst a o xs ds h1 h2 =>
    cases hr
    obtain ⟨T, id, e1, e2, e3⟩ := sl_list pins s σ H (.ref a) v vl vu lo hi sl (fun v H' => ∃ p, v = .ref p ∧ H p = none ∧ H' = upd H p (.lst (cutV xs lo hi))) I rx hs pl pu ⟨a, xs, rfl, .inl (.inr ⟨_, h1⟩), fun p hp => ⟨p, rfl, hp, rfl⟩⟩
    exact ⟨T, id, e1, e2, thn e3 fun u s1 ep => frzEP ep (h2.cut lo hi) q⟩
  | @tup a xs ds h1 h2 =>
    cases hr
    refine sl_tupZ pins s σ H (.ref a) v vl vu lo hi sl Q I rx hs pl pu ⟨a, xs, rfl, h1.sqT, fun hw => ?_, fun _ p o hp hd => ?_⟩
    · have e : cutD ds lo hi = ds := cut_all ds lo hi (by rw [← h2.length]; exact hw)
      rw [e] at q
      exact q _ H (Same.refl H) (.tup h1 h2)
    · have sm := upd_same' (o := .frz o (.tup (cutV xs lo hi))) hp
      exact q _ _ sm (.tup (.inl ⟨o, hd, upd_same⟩) (IsAll.mono (Same.fx sm) _ _ (h2.cut lo hi)))
  | _ => exact nomatch hr
abbrev OW := List Sl → (Option Int → List Sl → Prop) → Prop
def tO (c : Ctx) (w : OW) : L2.St → Hp → (Option Int → Hp → Prop) → Prop := fun σ H Q => ∃ (ρ : List Sl) (Q0 : Option Int → List Sl → Prop), En c H σ ρ ∧ w ρ Q0 ∧ ∀ o ρ' H', Q0 o ρ' → Gr c σ H H' → En c H' σ ρ' → Q o H'
theorem PO.imp {o : Option Expr} {t t' : TO} (h : PO X o t) (i : ∀ σ H Q, t' σ H Q → t σ H Q) : PO X o t' := ⟨fun pins s σ H Q I q => h.run pins s σ H Q I (i σ H Q q)⟩
def wNoP : OW := fun ρ Q => Q none ρ
def wP (w : DW) : OW := fun ρ Q => w ρ fun d ρ' => ∃ i, d = .int i ∧ Q (some i) ρ'
theorem dp_none : PO X none (tO c wNoP) := PO.imp po_none fun σ H Q ⟨ρ, Q0, E, hw, k⟩ => k none ρ H hw (Gr.refl H) E
theorem dp_some {w : DW} (h : PE X e (tD c w)) : PO X (some e) (tO c (wP w)) := by
  refine PO.imp (po_some h) ?_
  rintro σ H Q ⟨ρ, Q0, E, hw, k⟩
  refine ⟨ρ, _, E, hw, fun d ρ' v H' q g E1 i1 => ?_⟩
  obtain ⟨i, rfl, q⟩ := q
  cases i1
  exact ⟨i, rfl, k _ ρ' H' q g E1⟩
def wSl (w : DW) (wl wh : OW) : DW := fun ρ Q => w ρ fun d ρ1 => wl ρ1 fun lo ρ2 => wh ρ2 fun hi ρ3 => ∃ r, slD d lo hi = some r ∧ Q r ρ3
theorem de_sl {w : DW} {wl wh : OW} {lo hi : Option Expr} {p2 : Pos} (he : PE X e (tD c w)) (hl : PO X lo (tO c wl)) (hh : PO X hi (tO c wh)) (hK : c.K = X.K := by rfl) : PE X (.Subscript e (.Slice lo hi none p2) pos) (tD c (wSl w wl wh)) := by
  refine PE.imp (pe_slice sl_D he hl hh) ?_
  rintro σ H Q ⟨ρ, Q0, E, hw, k⟩
  refine ⟨ρ, _, E, hw, fun d ρ1 v H1 q g E1 i1 => ?_⟩
  refine ⟨ρ1, _, E1, q, fun lo ρ2 H2 q g2 E2 => ?_⟩
  refine ⟨ρ2, _, E2, q, fun hi ρ3 H3 q g3 E3 => ?_⟩
  obtain ⟨r, hr, q⟩ := q
  exact ⟨d, r, by rw [← hK]; exact Is.mono (g2.trans g3).fx d v i1, hr, fun z H4 sm iz => k r ρ3 z H4 q (((g.trans g2).trans g3).trans (Gr.same sm)) (E3.same sm) (by rw [hK]; exact iz)⟩

/-! ### sorted -/
def wSort (wa : LW) : LW := fun ρ Q => wa ρ fun ds ρ1 => ∃ xs, ds = [.list xs] ∧ PyData.plainAll xs = true ∧ PySem.W.AllAlike xs ∧ PySem.W.Sortable xs ∧ (∀ d, d ∈ xs → d.depth ≤ 100) ∧ Q (xs.mergeSort (PySem.W.dataLe false fun d => d)) ρ1
theorem each_of {I : V → Value → Prop} : True := trivial
theorem plain_mem : ∀ {xs : List D} {d : D}, PyData.plainAll xs = true → d ∈ xs → d.plain = true
  | x :: xs, d, h, hd => by
    simp only [PyData.plainAll, Bool.and_eq_true] at h
    rcases List.mem_cons.mp hd with e | e
    · rw [e]; exact h.1
    · exact plain_mem h.2 e
def rSort (K : PySem.W.Frag) : List V → Hp → VK → Prop := fun vs H Q => ∃ (a : Addr) (o : Obj) (xs : List V) (ds : List D), vs = [.ref a] ∧ H a = some (.frz o (.lst xs)) ∧ IsAll K H xs ds ∧ PyData.plainAll ds = true ∧ PySem.W.AllAlike ds ∧ PySem.W.Sortable ds ∧ (∀ d, d ∈ ds → d.depth ≤ 100) ∧
  ∀ p ys, H p = none → IsAll K H ys (ds.mergeSort (PySem.W.dataLe false fun d => d)) → Q (.ref p) (upd H p (.lst ys))
theorem each_vals {K : PySem.W.Frag} {H : Hp} : ∀ {xs : List V} {us : List Value} {ds : List D}, Vals xs us → IsAll K H xs ds → PySem.W.EachIs (fun u d => ∃ v, RelV v u ∧ Is K H v d) us ds
  | _, _, _, .nil, .nil => .nil
  | _, _, _, .cons r rr, .cons i ii => .cons ⟨_, r, i⟩ (each_vals rr ii)
theorem vals_each {K : PySem.W.Frag} {H : Hp} : ∀ {us : List Value} {ds : List D}, PySem.W.EachIs (fun u d => ∃ v, RelV v u ∧ Is K H v d) us ds → ∃ xs, Vals xs us ∧ IsAll K H xs ds
  | _, _, .nil => ⟨[], .nil, .nil⟩
  | _, _, .cons ⟨v, r, i⟩ t => by
    obtain ⟨xs, rr, ii⟩ := vals_each t
    exact ⟨v :: xs, .cons r rr, .cons i ii⟩
theorem each_imp {α β : Type} {R S : α → β → Prop} : ∀ {xs : List α} {ys : List β}, PySem.W.EachIs R xs ys → (∀ x y, y ∈ ys → R x y → S x y) → PySem.W.EachIs S xs ys
  | _, _, .nil, _ => .nil
  | _, _, .cons h t, f => .cons (f _ _ List.mem_cons_self h) (each_imp t fun x y hy => f x y (List.mem_cons_of_mem _ hy))
theorem cr_sortedD (hu : X.A.units + 120 < cLine) : CallR X (.builtin "sorted") (rSort X.K) := by
  intro pins s σ H vs us Q I r h
  obtain ⟨a, o, xs, ds, rfl, ha, ix, hp, hal, hso, hd, q⟩ := h
  obtain ⟨z, its, n, rv, hl, e⟩ := exact_lst I ha
  rw [Vals.ref1 r]
  have ev := each_vals rv ix
  have er : PySem.W.EachIs (fun u d => ∃ as, Reads s.heap u d as) its ds := each_imp ev fun u d hd' ⟨v, r, i⟩ => Dp.reads I d v u (Is.dp d v (plain_mem hp hd') i) r
  refine PySem.W.sorted_data (enc := fun d => d) (bs := ds) (vs := its) ⟨_, e, rfl, n, rfl⟩ ev er (by simpa using hal) (by simpa using hso) (by rw [← ix.length]; exact z) (fun d hd' => by have := hd d hd'; omega) fun out ho eo => ?_
  obtain ⟨ys, ry, iy⟩ := vals_each eo
  obtain ⟨ep, he'⟩ := PyProof.Rows.sortedAll_at s.heap its (List.toArray out)
  have hlen : ys.length ≤ sizeLine := by
    rw [ry.length, ho, ← ix.length]; exact z
  exact ⟨.ref _, upd H (s.heap.objs.size + 1) (.lst ys), I.laid (t' := s.toks) (fun _ _ => PyProof.Rows.sortedAll_old) (Nat.le_succ _) ⟨hlen, out, ep, ry, he'⟩, rfl, q _ ys (I.hok.fresh (Nat.le_succ _)) iy⟩
theorem df_sort {p : Pos} {wa : LW} (hg : Gl X "sorted") (hm : X.mg "sorted" = none) (hu : X.A.units + 120 < cLine) (ha : PA X (e :: es) (tA c wa)) (hK : c.K = X.K := by rfl) 
    (he : starEach (e :: es) X.env = (false, eval e X.env) :: starEach es X.env := by rfl) (hpl : (backTo pos (starEach es X.env)).any (·.1) = false := by rfl) : PE X (.Call (.Name "sorted" p) (e :: es) [] pos) (tF c (wSort wa)) := by
  refine PE.imp (pe_callB (cr_sortedD hu) hg hm (by decide +kernel) ha (by decide) (by decide) he hpl) ?_
  rintro σ H Q ⟨ρ, Q0, E, hw, k⟩
  refine ⟨ρ, _, E, hw, fun ds ρ' vs H' q g E1 i1 => ?_⟩
  obtain ⟨xs, rfl, h1, h2, h3, h4, q⟩ := q
  cases i1 with
  | cons i2 i3 =>
    cases i3
    cases i2 with
    | @lst a o ys _ g1 g2 =>
      refine ⟨a, o, ys, xs, rfl, g1, by rw [← hK]; exact g2, h1, h2, h3, h4, fun p zs n iz => ?_⟩
      have sm := upd_same' (o := .lst zs) n
      exact k _ ρ' p zs _ q (g.trans (Gr.same sm)) (E1.same sm) (g.free E1 n) upd_same (IsAll.mono (Same.fx sm) _ zs (by rw [hK]; exact iz))

/-! ### list of a text -/
def signsD (z : Str) : List D := z.cps.toList.map fun c => .str ⟨#[c]⟩
def lstrL : List D → Option (List D)
  | [.str z] => if z.cps.size ≤ sizeLine then some (signsD z) else none
  | _ => none
end
end DL
namespace DL
open PySem PySem.Spec PyProof.Rows L2
section
variable {X : Cx} {c : Ctx} {e a b b3 l tg : Expr} {es : List Expr} {pos : Pos} {st : Stmt} {sts body : List Stmt}
/-! ### repr of what is no object -/
def reprL : List D → Option D
  | [.int i] => if i.natAbs.log2 < 1920 then some (.str ((toString i : String) : Str)) else none
  | [.bool b] => some (.str (if b then "True" else "False"))
  | [.none] => some (.str "None")
  | _ => none
theorem cr_repr0 : CallR X (.builtin "repr") (rCl X.K reprL) := by
  intro pins s σ H xs us Q I r h
  obtain ⟨ds, r', hd, hr, q⟩ := h
  cases hd with
  | nil => exact nomatch hr
  | cons h1 h2 =>
    cases h2 with
    | cons _ _ => cases h1 <;> exact nomatch hr
    | nil =>
      obtain ⟨u, rfl, ru⟩ := vals1 r
      cases h1 with
      | int i =>
        obtain ⟨t, rfl⟩ := ru
        have hr : (if i.natAbs.log2 < 1920 then some (PyData.str ((toString i : String) : Str)) else none) = some r' := hr
        split at hr
        · rename_i hz
          cases hr
          exact P.repr_of_int hz ⟨.str _, H, I.kept (t' := s.toks + 1) fun _ _ e => e, ⟨_, rfl⟩, q _ H (Same.refl H) (.str _)⟩
        · cases hr
      | bl i =>
        cases ru
        cases hr
        exact P.repr_of_bool ⟨.str _, H, I.kept (t' := s.toks + 1) fun _ _ e => e, ⟨_, rfl⟩, q _ H (Same.refl H) (.str _)⟩
      | non =>
        cases ru
        cases hr
        exact P.repr_of_none ⟨.str _, H, I.kept (t' := s.toks + 1) fun _ _ e => e, ⟨_, rfl⟩, q _ H (Same.refl H) (.str _)⟩
      | _ => exact nomatch hr
/-! ### all, any of a list of bools -/
def bools : List D → Option (List Bool)
  | [] => some []
  | .bool b :: r => (bools r).map (b :: ·)
  | _ => none
def allL : List D → Option D
  | [.list xs] => (bools xs).map fun bs => .bool (bs.all id)
  | _ => none
def anyL : List D → Option D
  | [.list xs] => (bools xs).map fun bs => .bool (bs.any id)
  | _ => none
theorem is_bools {K : PySem.W.Frag} {H : Hp} : ∀ {vs : List V} {ds : List D} {bs : List Bool}, IsAll K H vs ds → bools ds = some bs → vs = bs.map V.bl
  | _, _, bs, .nil, e => by cases e; rfl
  | _, _, bs, .cons (d := d) (ds := ds) h t, e => by
    cases h with
    | bl b =>
      have e : (bools ds).map (b :: ·) = some bs := e
      cases q : bools ds with
      | none => rw [q] at e; cases e
      | some cs =>
        rw [q] at e
        cases e
        rw [is_bools t q]
        rfl
    | _ => exact nomatch e
theorem cr_allD (hc : X.calm = true) : CallR X (.builtin "all") (rCl X.K allL) := by
  intro pins s σ H xs us Q I r h
  obtain ⟨ds, r', hd, hr, q⟩ := h
  cases hd with
  | nil => exact nomatch hr
  | cons h1 h2 =>
    cases h2 with
    | cons _ _ => cases h1 <;> exact nomatch hr
    | nil =>
      cases h1 with
      | @lst a o ys ds g1 g2 =>
        have hr : (bools ds).map (fun bs => PyData.bool (bs.all id)) = some r' := hr
        cases hb : bools ds with
        | none => rw [hb] at hr; cases hr
        | some bs =>
          rw [hb] at hr
          cases hr
          have e := is_bools g2 hb
          subst e
          exact cr_all hc pins s σ H _ us Q I r ⟨a, bs, rfl, .inl (.inr ⟨_, g1⟩), q _ H (Same.refl H) (.bl _)⟩
      | _ => exact nomatch hr
theorem cr_anyD (hc : X.calm = true) : CallR X (.builtin "any") (rCl X.K anyL) := by
  intro pins s σ H xs us Q I r h
  obtain ⟨ds, r', hd, hr, q⟩ := h
  cases hd with
  | nil => exact nomatch hr
  | cons h1 h2 =>
    cases h2 with
    | cons _ _ => cases h1 <;> exact nomatch hr
    | nil =>
      cases h1 with
      | @lst a o ys ds g1 g2 =>
        have hr : (bools ds).map (fun bs => PyData.bool (bs.any id)) = some r' := hr
        cases hb : bools ds with
        | none => rw [hb] at hr; cases hr
        | some bs =>
          rw [hb] at hr
          cases hr
          have e := is_bools g2 hb
          subst e
          exact cr_any hc pins s σ H _ us Q I r ⟨a, bs, rfl, .inl (.inr ⟨_, g1⟩), q _ H (Same.refl H) (.bl _)⟩
      | _ => exact nomatch hr
/-! ### list of a text -/
theorem sign_vals {K : PySem.W.Frag} {H : Hp} : ∀ {cs : List Nat} {its : List Value}, its.length = cs.length → (∀ (j : Nat) (v : Value), its[j]? = some v → ∃ (c : Nat) (u : Tok), cs[j]? = some c ∧ v = Value.str ⟨#[c]⟩ u) → ∃ vs, Vals vs its ∧ IsAll K H vs (cs.map fun c => PyData.str ⟨#[c]⟩)
  | [], [], _, _ => ⟨[], .nil, .nil⟩
  | [], _ :: _, h, _ => by cases h
  | _ :: _, [], h, _ => by cases h
  | c :: cs, u :: us, h, f => by
    obtain ⟨vs, rv, iv⟩ := sign_vals (cs := cs) (its := us) (by simpa using h) fun j v e => by simpa using f (j + 1) v (by simpa using e)
    obtain ⟨c', t, e1, e2⟩ := f 0 u rfl
    cases e1
    exact ⟨.str ⟨#[c]⟩ :: vs, .cons ⟨t, e2⟩ rv, .cons (.str _) iv⟩
theorem cr_listStr (hc : X.calm = true) : CallR X (.type "list") (rClF X.K lstrL) := by
  intro pins s σ H xs us Q I r h
  obtain ⟨ds, r', hd, hr, q⟩ := h
  cases hd with
  | nil => exact nomatch hr
  | cons h1 h2 =>
    cases h2 with
    | cons _ _ => cases h1 <;> exact nomatch hr
    | nil =>
      obtain ⟨u, rfl, ru⟩ := vals1 r
      cases h1 with
      | str z =>
        obtain ⟨t, rfl⟩ := ru
        have hr : (if z.cps.size ≤ sizeLine then some (signsD z) else none) = some r' := hr
        split at hr
        · rename_i hz
          cases hr
          refine call_list_str (I.ok.hd hc) z t (fun h' tk acc' c' hk hS hacc => ?_) hz
          obtain ⟨vs, rv, iv⟩ := sign_vals (K := X.K) (H := H) (cs := z.cps.toList) (its := acc'.toList) (by simpa using hacc.1) fun j v e => by
            obtain ⟨cc, t', e1, e2⟩ := hacc.2 j v (by simpa using e)
            exact ⟨cc, t', by simpa using e1, e2⟩
          have hl : vs.length ≤ sizeLine := by rw [rv.length, Array.length_toList, hacc.1]; exact hz
          exact ⟨.ref s.heap.objs.size, upd H s.heap.objs.size (.lst vs), I.laid (t' := tk) hk (Nat.le_refl _) ⟨hl, acc'.toList, c', rv, hS⟩, rfl, q _ vs (I.hok.fresh (Nat.le_refl _)) iv⟩
        · cases hr
      | _ => exact nomatch hr
/-! ### a call by keywords alone -/
variable {CX : CXT} {k : Nat} {f : Addr} {fd : FuncData} {ps ks : List Str} {sp : Sp} {E : XK} {x : Str} {p : Pos} {kws : List Keyword} {g : List Value → List Value → List Value} {gV : List V → List V → List V} {nm : Option Str} {kpos : Pos}
def dK (c : Ctx) (w : LW) : TA := tA c w
theorem dk_nil : PK X [] (tA c wNil) := by
  refine ⟨fun pos pins s σ H Q I h => pk_nil.run pos pins s σ H Q I ?_⟩
  obtain ⟨ρ, Q0, E, hw, k⟩ := h
  exact k [] ρ [] H hw (Gr.refl H) E .nil
theorem dk_cons {wa : DW} {wr : LW} (ha : PE X e (tD c wa)) (hr : PK X kws (tA c wr)) : PK X (⟨nm, e, kpos⟩ :: kws) (tA c (wCons wa wr)) := by
  refine ⟨fun pos pins s σ H Q I h => (pk_cons ha hr).run pos pins s σ H Q I ?_⟩
  obtain ⟨ρ, Q0, E, hw, k⟩ := h
  refine ⟨ρ, _, E, hw, fun d ρ' v H' q g E1 i1 => ?_⟩
  exact ⟨ρ', _, E1, q, fun ds ρ2 vs H2 q2 g2 E2 i2 => k _ ρ2 _ H2 q2 (g.trans g2) E2 (.cons (Is.mono g2.fx d v i1) i2)⟩
theorem pe_callK0 {tk : TA} (F : FnOk X.prog X.w X.K X.mg X.base CX k f fd ps sp) (hr : Room k X.A) (hg : Gl X x) (hm : X.mg x = some (.ref f)) (hk : PySem.W.keepIn X.K (.ref f) = true) (hb : KBinds X.K fd ps ks g gV) (hx : Passes CX X E)
    (hkw : PK X kws tk) (hall : (backToKw pos (keywordEach kws X.env)).all (·.1.isSome) = true := by rfl) (hks : (backToKw pos (keywordEach kws X.env)).filterMap (·.1) = ks := by rfl)
    (hdb : (x == ("__debug__" : Str)) = false := by decide) (hpl : ((backTo pos (starEach [] X.env)).any (·.1) || (backToKw pos (keywordEach kws X.env)).any (·.1.isNone)) = false := by rfl) :
    PE X (.Call (.Name x p) [] kws pos) (fun σ H Q => tk σ H fun zs H1 => sp (gV [] zs) H1 Q E) := by
  refine ⟨fun pins s σ H Q I h => ?_⟩
  refine wpAny_Call_Name_kw (ld_glob I hg hm ?_ hdb)
  refine PySem.W.callWith_KW0 (h₀ := X.base) I.ok.mod.kin hk hall ?_ hpl
  refine thn (hkw.run pos pins s σ H _ I h) fun ws s2 ⟨zs, H2, I2, rz, q2⟩ => ⟨I2.kIn, ?_⟩
  rw [hks]
  exact run_fnk F hr hb hx I2 .nil rz q2
/-- gD puts the data of the keywords in the parameters' order -/
def wCallK (n : Nat) (w : PN) (gD' : List D → List D) (wa : LW) : DW := fun ρ Q => wa ρ fun ds ρ1 => (gD' ds).length = n ∧ w (gD' ds) fun r => ∃ d, r = .d d ∧ Q d ρ1
theorem de_callK {n : Nat} {w : PN} {wa : LW} {gD' : List D → List D} (F : FnOk X.prog X.w X.K X.mg X.base CX k f fd ps (spN X.K n w)) (hr : Room k X.A) (hg : Gl X x) (hm : X.mg x = some (.ref f)) (hk : PySem.W.keepIn X.K (.ref f) = true) (hb : KBinds X.K fd ps ks g gV) (hx : Passes CX X E)
    (hkw : PK X kws (tA c wa)) (hgd : ∀ H zs ds, IsAll X.K H zs ds → IsAll X.K H (gV [] zs) (gD' ds)) (hK : c.K = X.K := by rfl) (hall : (backToKw pos (keywordEach kws X.env)).all (·.1.isSome) = true := by rfl) (hks : (backToKw pos (keywordEach kws X.env)).filterMap (·.1) = ks := by rfl)
    (hdb : (x == ("__debug__" : Str)) = false := by decide) (hpl : ((backTo pos (starEach [] X.env)).any (·.1) || (backToKw pos (keywordEach kws X.env)).any (·.1.isNone)) = false := by rfl) :
    PE X (.Call (.Name x p) [] kws pos) (tD c (wCallK n w gD' wa)) := by
  refine PE.imp (pe_callK0 F hr hg hm hk hb hx hkw hall hks hdb hpl) ?_
  rintro σ H Q ⟨ρ, Q0, E, hw, k⟩
  refine ⟨ρ, _, E, hw, fun ds ρ1 vs H1 q g E1 i1 => ?_⟩
  refine ⟨gD' ds, _, hgd H1 vs ds (by rw [← hK]; exact i1), q.1, q.2, fun r v H2 q2 sm rv => ?_⟩
  obtain ⟨d, rfl, q2⟩ := q2
  refine k d ρ1 v H2 q2 (g.trans (Gr.same sm)) (E1.same sm) (by rw [hK]; exact rv)
/-! ### dicts of data: stored, merged -/
def putP (es : List (Key × D)) (k : Key) (d : D) : List (Key × D) := if (es.any fun p => decide (p.1 = k)) = true then es.map (fun p => if p.1 = k then (p.1, d) else p) else es ++ [(k, d)]
def mergeP (es more : List (Key × D)) : List (Key × D) := more.foldl (fun acc p => putP acc p.1 p.2) es
def kD (es : List (Key × D)) : List (D × D) := es.map fun p => (keyD p.1, p.2)
inductive IsK (K : PySem.W.Frag) (H : Hp) : List (Key × V) → List (Key × D) → Prop
  | nil : IsK K H [] []
  | cons {k : Key} {v : V} {vs : List (Key × V)} {d : D} {ds : List (Key × D)} : Is K H v d → IsK K H vs ds → IsK K H ((k, v) :: vs) ((k, d) :: ds)
theorem IsK.kv {K : PySem.W.Frag} {H : Hp} : ∀ {vs : List (Key × V)} {ds : List (Key × D)}, IsK K H vs ds → IsKv K H vs (kD ds)
  | _, _, .nil => .nil
  | _, _, .cons h t => .cons h t.kv
theorem IsK.mono {K : PySem.W.Frag} {H H' : Hp} (f : Fx H H') : ∀ {vs : List (Key × V)} {ds : List (Key × D)}, IsK K H vs ds → IsK K H' vs ds
  | _, _, .nil => .nil
  | _, _, .cons h t => .cons (Is.mono f _ _ h) (IsK.mono f t)
theorem IsK.len {K : PySem.W.Frag} {H : Hp} : ∀ {vs : List (Key × V)} {ds : List (Key × D)}, IsK K H vs ds → vs.length = ds.length
  | _, _, .nil => rfl
  | _, _, .cons h t => by rw [List.length_cons, List.length_cons, IsK.len t]
theorem IsK.snoc {K : PySem.W.Frag} {H : Hp} {k : Key} {v : V} {d : D} (i : Is K H v d) : ∀ {vs : List (Key × V)} {ds : List (Key × D)}, IsK K H vs ds → IsK K H (vs ++ [(k, v)]) (ds ++ [(k, d)])
  | _, _, .nil => .cons i .nil
  | _, _, .cons h t => .cons h (IsK.snoc i t)
theorem IsK.any {K : PySem.W.Frag} {H : Hp} (k : Key) : ∀ {vs : List (Key × V)} {ds : List (Key × D)}, IsK K H vs ds → (vs.any fun p => decide (p.1 = k)) = ds.any fun p => decide (p.1 = k)
  | _, _, .nil => rfl
  | _, _, .cons h t => by simp only [List.any_cons]; rw [IsK.any k t]
theorem IsK.repl {K : PySem.W.Frag} {H : Hp} {k : Key} {v : V} {d : D} (i : Is K H v d) : ∀ {vs : List (Key × V)} {ds : List (Key × D)}, IsK K H vs ds → IsK K H (vs.map fun p => if p.1 = k then (p.1, v) else p) (ds.map fun p => if p.1 = k then (p.1, d) else p)
  | _, _, .nil => .nil
  | _, _, @IsK.cons _ _ k' v' vs d' ds h t => by
    simp only [List.map_cons]
    by_cases e : k' = k
    · rw [if_pos e, if_pos e]; exact .cons i (IsK.repl i t)
    · rw [if_neg e, if_neg e]; exact .cons h (IsK.repl i t)
theorem IsK.put {K : PySem.W.Frag} {H : Hp} {k : Key} {v : V} {d : D} {vs : List (Key × V)} {ds : List (Key × D)} (h : IsK K H vs ds) (i : Is K H v d) : IsK K H (putK vs k v) (putP ds k d) := by
  unfold putK putP
  rw [h.any k]
  split
  · exact h.repl i
  · exact h.snoc i
theorem IsK.merge {K : PySem.W.Frag} {H : Hp} : ∀ {more : List (Key × V)} {rs : List (Key × D)} {vs : List (Key × V)} {ds : List (Key × D)}, IsK K H more rs → IsK K H vs ds → IsK K H (mergeK vs more) (mergeP ds rs)
  | _, _, _, _, .nil, q => q
  | _, _, vs, ds, @IsK.cons _ _ k v m d rs h t, q => (show IsK K H (mergeK (putK vs k v) m) (mergeP (putP ds k d) rs) from IsK.merge t (q.put h))
/-- pairs (key, value) -/
def pairD : D → Option (Key × D)
  | .tuple [k, d] => (keyOfD k).map fun k => (k, d)
  | _ => none
def pairsD : List D → Option (List (Key × D))
  | [] => some []
  | x :: r => (pairD x).bind fun p => (pairsD r).map fun es => p :: es
def dictL : List D → Option D
  | [.list xs] => (pairsD xs).map fun es => .dict (kD (mergeP [] es))
  | [.tuple xs] => (pairsD xs).map fun es => .dict (kD (mergeP [] es))
  | _ => none
theorem pairD_at {x : D} {k : Key} {d : D} (h : pairD x = some (k, d)) : x = .tuple [keyD k, d] := by
  unfold pairD at h
  split at h
  · rename_i k' d'
    cases q : keyOfD k' with
    | none => rw [q] at h; cases h
    | some j => rw [q] at h; cases h; rw [keyD_of q]
  · cases h
theorem pairs_at {K : PySem.W.Frag} {H : Hp} : ∀ {vs : List V} {ds : List D} {es : List (Key × D)}, IsAll K H vs ds → pairsD ds = some es → ∃ (as : List Addr) (kvs : List (Key × V)), vs = as.map V.ref ∧ IsK K H kvs es ∧ Paired (fun p kv => SqT K H p [kV kv.1, kv.2] ∧ TupK K H p [kV kv.1, kv.2]) as kvs
  | _, _, es, .nil, e => by cases e; exact ⟨[], [], rfl, .nil, .nil⟩
  | _, _, es, .cons (d := d) (ds := ds) h t, e => by
    have e : (pairD d).bind (fun p => (pairsD ds).map fun es => p :: es) = some es := e
    cases hp : pairD d with
    | none => rw [hp] at e; cases e
    | some p =>
      cases hq : pairsD ds with
      | none => rw [hp, hq] at e; cases e
      | some es' =>
        rw [hp, hq] at e
        cases e
        obtain ⟨as, kvs, rfl, ik, pp⟩ := pairs_at t hq
        obtain ⟨k, d'⟩ := p
        have := pairD_at hp
        subst this
        cases h with
        | @tup a ys _ g1 g2 =>
          cases g2 with
          | cons i1 g3 =>
            cases g3 with
            | cons i2 g4 =>
              cases g4
              have := is_key i1
              subst this
              exact ⟨a :: as, (k, _) :: kvs, rfl, .cons i2 ik, .cons ⟨g1.sqT, g1⟩ pp⟩
theorem paired_imp {α β : Type} {F G : α → β → Prop} (f : ∀ a b, F a b → G a b) : ∀ {xs : List α} {ys : List β}, Paired F xs ys → Paired G xs ys
  | _, _, .nil => .nil
  | _, _, .cons h t => .cons (f _ _ h) (paired_imp f t)
/-- a dict just made, frozen -/
theorem frzDEP {pins : List (Addr × Obj)} {σ : Sg} {H : Hp} {s : Shared} {Q : VK} {u : Value} {kvs : List (Key × V)} {es : List (D × D)}
    (h : EP X pins σ (fun v H' => ∃ p, v = .ref p ∧ H p = none ∧ H' = upd H p (.dK kvs)) u s) (ix : IsKv X.K H kvs es) (q : ∀ v H', Same H H' → Is X.K H' v (.dict es) → Q v H') : EP X pins σ Q u s := by
  obtain ⟨v, H', I', r, p, rfl, n, rfl⟩ := h
  obtain ⟨o, I2⟩ := Inv.freeze I' (a := p) upd_same trivial (fun _ _ _ z => by cases z) (fun _ z => by cases z)
  have e : upd (upd H p (.dK kvs)) p (.frz o (.dK kvs)) = upd H p (.frz o (.dK kvs)) := upd_upd
  rw [e] at I2
  have sm := upd_same' (o := .frz o (.dK kvs)) n
  exact ⟨.ref p, _, I2, r, q _ _ sm (.dct upd_same (IsKv.mono (Same.fx sm) es kvs ix))⟩
theorem plain_tup {pins : List (Addr × Obj)} {σ : Sg} {H : Hp} {s : Shared} {a : Addr} {xs : List V} (I : Inv X pins σ H s) (h : TupK X.K H a xs) : ∃ its : List Value, Vals xs its ∧ PlainSeq "tuple" s.heap a its.toArray ∧ its.length ≤ sizeLine := by
  rcases h with ⟨o, hd, e⟩ | ⟨o, its, n, h1, h2, h3, h4, h5, h6⟩
  · obtain ⟨h1, h2⟩ := I.hok a _ e
    obtain ⟨z, its, r, t⟩ := h2
    obtain ⟨o', e1, e2, n, e3⟩ := t
    rw [h1] at e1
    cases e1
    exact ⟨its, r, ⟨o, n, h1, e2, hd, e3⟩, by rw [← r.length]; exact z⟩
  · exact ⟨its.toList, h6, ⟨o, n, I.kIn a o h1, h2, h3, by simpa using h4⟩, by simpa using h5⟩
theorem pairs_two {pins : List (Addr × Obj)} {σ : Sg} {H : Hp} {s : Shared} (I : Inv X pins σ H s) : ∀ {ps : List Addr} {kvs : List (Key × V)}, Paired (fun p kv => SqT X.K H p [kV kv.1, kv.2]) ps kvs →
    ∃ (prs : List (Key × Value)) (zs : List (Value × Value)), KV kvs prs ∧ prs.length = ps.length ∧ zs.length = ps.length ∧ ∀ (j : Nat) (z : Value × Value), zs[j]? = some z → ∃ (b : Addr) (k : Key), ps[j]? = some b ∧ prs[j]? = some (k, z.2) ∧ IsTup s.heap b #[z.1, z.2] ∧ keyIs k z.1 = true
  | _, _, .nil => ⟨[], [], .nil, rfl, rfl, fun j q e => by simp at e⟩
  | _, _, .cons (a := p) (b := kv) h t => by
    obtain ⟨prs, zs, r, hl, hl2, hp⟩ := pairs_two I t
    obtain ⟨its, rv, ht, _⟩ := I.tuple h
    obtain ⟨u, y, ei, ru, ry⟩ := vals2 rv
    subst ei
    refine ⟨(kv.1, y) :: prs, (u, y) :: zs, .cons ⟨rfl, ry⟩ r, by simp [hl], by simp [hl2], fun j q e => ?_⟩
    cases j with
    | zero =>
      cases (Option.some.inj e)
      exact ⟨p, kv.1, rfl, rfl, ht, kV_is (P := X.prog) (w := X.w) ru⟩
    | succ j =>
      obtain ⟨b, k, e1, e2, e3⟩ := hp j q (by simpa using e)
      exact ⟨b, k, by simpa using e1, by simpa using e2, e3⟩
theorem cr_dict (hc : X.calm = true) : CallR X (.type "dict") (rCl X.K dictL) := by
  intro pins s σ H xs us Q I r h
  obtain ⟨ds, r', hd, hr, q⟩ := h
  cases hd with
  | nil => exact nomatch hr
  | cons h1 h2 =>
    cases h2 with
    | cons _ _ => cases h1 <;> exact nomatch hr
    | nil =>
      cases h1 with
      | @lst a o ys ds g1 g2 =>
        have hr : (pairsD ds).map (fun es => PyData.dict (kD (mergeP [] es))) = some r' := hr
        cases hb : pairsD ds with
        | none => rw [hb] at hr; cases hr
        | some es =>
          rw [hb] at hr
          cases hr
          obtain ⟨as, kvs, rfl, ik, pp⟩ := pairs_at g2 hb
          exact thn (call_dictP hc pins s σ H _ us (fun v H' => ∃ p, v = .ref p ∧ H p = none ∧ H' = upd H p (.dK (mergeK [] kvs))) I r ⟨a, as, kvs, rfl, .inl (.inr ⟨_, g1⟩), paired_imp (fun _ _ z => z.1) pp, fun p hp => ⟨p, rfl, hp, rfl⟩⟩) fun u s1 ep => frzDEP ep (ik.merge .nil).kv q
      | @tup a ys ds g1 g2 =>
        have hr : (pairsD ds).map (fun es => PyData.dict (kD (mergeP [] es))) = some r' := hr
        cases hb : pairsD ds with
        | none => rw [hb] at hr; cases hr
        | some es =>
          rw [hb] at hr
          cases hr
          obtain ⟨as, kvs, rfl, ik, pp⟩ := pairs_at g2 hb
          obtain ⟨its, rv, ps, hz⟩ := plain_tup I g1
          have ei := refs_at rv
          subst ei
          obtain ⟨prs, zs, rel, hl, hl2, hpr⟩ := pairs_two I (paired_imp (fun _ _ z => z.1) pp)
          rw [Vals.ref1 r]
          have hz' : as.length ≤ sizeLine := by simpa using hz
          refine thn (Q := fun u s1 => EP X pins σ (fun v H' => ∃ p, v = V.ref p ∧ H p = none ∧ H' = upd H p (.dK (mergeK [] kvs))) u s1) ?_ fun u s1 ep => frzDEP ep (ik.merge .nil).kv q
          refine PySem.call_dict_pairs (knd := mixKind X.prog X.w) (kvs := prs) (PairArg.tuple a (as.map Value.ref).toArray (fun j => as.getD j 0) zs) (I.ok.hd hc) ⟨ps, by simp [hl2], fun j k v e => ?_⟩ ⟨by rw [hl, hl2], fun j k v e => ?_⟩ (by rw [hl2]; exact hz') fun h' tk hd' k => ?_
          · obtain ⟨b, k', e1, e2, e3, e4⟩ := hpr j (k, v) e
            have e5 : as.getD j 0 = b := by rw [List.getD_eq_getElem?_getD, e1]; rfl
            show (List.map Value.ref as).toArray[j]? = some (Value.ref (as.getD j 0)) ∧ PairAt s.heap (as.getD j 0) k v
            rw [e5]
            exact ⟨by simp [e1], .inl e3⟩
          · obtain ⟨b, k', e1, e2, e3, e4⟩ := hpr j (k, v) e
            exact ⟨k', e2, e4⟩
          · have hm : (s.heap.objs.size == sysModules) = false := beq_eq_false_iff_ne.mpr (Nat.ne_of_gt I.big)
            have hlen : (mergeK [] kvs).length ≤ sizeLine := by
              refine Nat.le_trans (length_mergeK kvs []) ?_
              rw [List.length_nil, Nat.zero_add, rel.length, hl]
              exact hz'
            exact ⟨.ref s.heap.objs.size, upd H s.heap.objs.size (.dK (mergeK [] kvs)), I.laid (t' := tk) (fun b o e => k b o (by simp) e) (Nat.le_refl _) (show ObjOk X.prog X.w _ _ _ (.dK (mergeK [] kvs)) from ⟨hlen, hm, merged [] prs, KV.merge rel .nil, hd'⟩), rfl, _, rfl, I.hok.fresh (Nat.le_refl _), rfl⟩
      | _ => exact nomatch hr
end
end DL
namespace DL
open PySem PySem.Spec PyProof.Rows L2
section
variable {X : Cx} {c : Ctx} {e a b b3 l tg : Expr} {es : List Expr} {pos : Pos} {st : Stmt} {sts body : List Stmt}
/-! ### dict comprehensions -/
theorem En.updX {H : Hp} {σ : Sg} {ρ : List Sl} {D : Addr} {u u' : HO} (E : En c H σ ρ) (h : H D = some u) (hf : fixd u = false) (hl : ∀ xs, u ≠ .lst xs) (he : ∀ φ, u ≠ .ext φ) (h0 : c.H0 D = none) : En c (upd H D u') σ ρ := by
  have fx : Fx H (upd H D u') := fun b o f q => by
    by_cases e : b = D
    · subst e; rw [h] at q; cases q; rw [hf] at f; cases f
    · rw [upd_ne e]; exact q
  refine ⟨E.len, fun j s x q1 q2 => SlIs.mono fx (fun b e1 e2 o q => ?_) (E.sl j s x q1 q2), E.ownM, E.sep, E.new, fun b o q n => ?_, E.potS, fun j b hj q => ?_, E.potM, E.bagN, E.bagM, E.bag1⟩
  · have : b ≠ D := fun z => by
      subst z
      rcases e1 with ⟨ds, rfl⟩ | ⟨ks, rfl⟩
      · obtain ⟨a, xs, e, ha, _⟩ := E.sl j _ _ q1 q2
        rw [e2] at e; cases e
        rw [h] at ha; exact hl _ (Option.some.inj ha)
      · obtain ⟨a, xs, e, ha, _⟩ := E.sl j _ _ q1 q2
        rw [e2] at e; cases e
        rw [h] at ha; exact he _ (Option.some.inj ha)
    rw [upd_ne this]; exact q
  · have nb : b ≠ D := fun z => by subst z; rw [h0] at q; cases q
    rw [upd_ne nb]; exact E.keep b o q n
  · by_cases e : b = D
    · subst e; rw [upd_same]; rfl
    · rw [upd_ne e]; exact E.trk j b hj q
abbrev KW := List Sl → (List (Key × D) → List Sl → Prop) → Prop
/-- a new dict -/
def tFK (c : Ctx) (w : KW) : TE := fun σ H Q => ∃ (ρ : List Sl) (Q0 : List (Key × D) → List Sl → Prop), En c H σ ρ ∧ w ρ Q0 ∧ ∀ es ρ' a kvs H', Q0 es ρ' → Gr c σ H H' → En c H' σ ρ' → H a = none → H' a = some (.dK kvs) → IsK c.K H' kvs es → Q (.ref a) H'
def wDcK (vs : List Nat) (wi : LW) (g : GW) (wt : BW) (wk wv : DW) : KW := fun ρ Q => wi ρ fun (xs : List D) ρ1 => ∃ W : Nat → List (Key × D) → List Sl → Prop, W 0 [] (wipeS ρ1 vs) ∧
  (∀ (i : Nat) (x : D) (acc : List (Key × D)) (ρ2 : List Sl), xs[i]? = some x → W i acc ρ2 → g x (wipeS ρ2 vs) fun ρ3 => wt ρ3 fun b ρ4 => if b = true then wk ρ4 fun y ρ5 => wv ρ5 fun z ρ6 => ∃ k, keyOfD y = some k ∧ acc.length < sizeLine ∧ W (i + 1) (putP acc k z) (wipeS ρ6 vs) else W (i + 1) acc (wipeS ρ4 vs)) ∧
  ∀ acc ρ2, W xs.length acc ρ2 → Q acc ρ2
theorem dc_imp {R : Rel} {wi : LW} {g : GW} {wt : BW} {wk wv : DW} {vs : List Nat} (hM : ∀ i, i ∈ vs → i ∉ c.M) (hp : c.pot = none ∨ 0 ∉ vs) : ∀ σ H Q, tFK c (wDcK vs wi g wt wk wv) σ H Q → tDc (iR R c wi) (gR R c vs g) (tT c wt) (tD c wk) (tD c wv) vs σ H Q := by
  rintro σ H Q ⟨ρ, Q0, E, hw, k⟩
  refine ⟨ρ, _, E, hw, fun xs ρ' J H1 q gr E1 hJ => ?_⟩
  obtain ⟨W, w0, ws, wd⟩ := q
  obtain ⟨jgo, jy, jstop⟩ := hJ
  intro D hD
  have h0D : c.H0 D = none := E1.h0 hD
  have HD : H D = none := gr.free E1 hD
  refine ⟨fun i m H2 => m = xs.length - i ∧ i ≤ xs.length ∧ ∃ acc av ρ2, W i acc ρ2 ∧ En c H2 σ ρ2 ∧ Gr c σ H1 H2 ∧ H2 D = some (.dK av) ∧ IsK c.K H2 av acc, ⟨xs.length, by simp, Nat.zero_le _, [], [], wipeS ρ' vs, w0, ?_, ?_, upd_same, .nil⟩, ?_⟩
  · exact (E1.off (Off.refl vs σ) hM hp).same (upd_same' hD)
  · exact Gr.same (upd_same' hD)
  rintro i m H2 ⟨rfl, hi, acc, av, ρ2, hW, E2, g2, hav, iav⟩
  by_cases hlt : i < xs.length
  · refine .inr ⟨jgo i H2 g2.fx hlt, fun H3 => ∃ acc av ρ2, W (i + 1) acc ρ2 ∧ En c H3 σ ρ2 ∧ Gr c σ H1 H3 ∧ H3 D = some (.dK av) ∧ IsK c.K H3 av acc, fun H3 q => ⟨xs.length - (i + 1), by omega, rfl, hlt, q⟩, fun x H3 y => ?_⟩
    have hx := List.getElem?_eq_getElem hlt
    obtain ⟨sm, rx⟩ := jy i x H2 H3 xs[i] g2.fx hx y
    have E3 : En c H3 (wipe σ vs) (wipeS ρ2 vs) := (E2.same sm).off (off_wipe σ vs) hM hp
    refine ⟨xs[i], wipeS ρ2 vs, _, rx, E3, ws i xs[i] acc ρ2 hx hW, fun ρ3 σ3 q3 (o3 : Off vs (wipe σ vs) σ3) E4 => ⟨off_wipes ((off_wipe σ vs).trans o3), ?_⟩⟩
    have oσ : Off vs σ3 σ := ((off_wipe σ vs).trans o3).symm
    have gM : ∀ i, i ∈ c.M → σ[i]? = σ3[i]? := Off.M oσ hM
    have gM' : ∀ i, i ∈ c.M → σ3[i]? = σ[i]? := fun i h => (gM i h).symm
    refine ⟨ρ3, _, E4, q3, fun b ρ4 H4 q4 g4 E5 => ?_⟩
    have g24 : Gr c σ H1 H4 := (g2.trans (Gr.same sm)).trans (g4.congr gM')
    have nOw : ¬ Ow c σ3 D := fun w => E1.notOw hD ((Ow.congr gM').mp w)
    have hD4 : H4 D = some (.dK av) := g4.kp D _ (sm D _ hav) nOw
    have iav4 : IsK c.K H4 av acc := IsK.mono ((Same.fx sm).trans g4.fx) iav
    cases b with
    | false => exact ⟨acc, av, _, q4, E5.off oσ hM hp, g24, hD4, iav4⟩
    | true =>
      refine ⟨ρ4, _, E5, q4, fun y ρ5 v H5 q5 g5 E6 i6 => ?_⟩
      refine ⟨ρ5, _, E6, q5, fun z ρ6 u H6 q6 g6 E7 i7 => ?_⟩
      obtain ⟨kk, hk, hz, q6⟩ := q6
      have hD6 : H6 D = some (.dK av) := g6.kp D _ (g5.kp D _ hD4 nOw) nOw
      have E8 : En c H6 σ (wipeS ρ6 vs) := E7.off oσ hM hp
      have ek := keyD_of hk
      subst ek
      have ev := is_key i6
      subst ev
      have fxD : Fx H6 (upd H6 D (.dK (putK av kk u))) := fun b o f q => by
        by_cases e : b = D
        · subst e; rw [hD6] at q; cases q; cases f
        · rw [upd_ne e]; exact q
      have iav6 : IsK c.K H6 av acc := IsK.mono (g5.fx.trans g6.fx) iav4
      refine ⟨av, kk, rfl, hD6, by rw [iav6.len]; exact hz, putP acc kk z, putK av kk u, wipeS ρ6 vs, q6, E8.updX hD6 rfl (fun _ z => by cases z) (fun _ z => by cases z) h0D, ⟨((g24.trans (g5.congr gM')).trans (g6.congr gM')).fx.trans fxD, fun b o e w => ?_⟩, upd_same, IsK.mono fxD (iav6.put i7)⟩
      have nb : b ≠ D := fun z => by subst z; rw [hD] at e; cases e
      rw [upd_ne nb]
      exact ((g24.trans (g5.congr gM')).trans (g6.congr gM')).kp b o e w
  · have e : i = xs.length := by omega
    subst e
    exact .inl ⟨jstop _ H2 g2.fx (Nat.le_refl _), k acc ρ2 D av H2 (wd acc ρ2 hW) (gr.trans g2) E2 HD hav iav⟩
def wKD (w : KW) : DW := fun ρ Q => w ρ fun es ρ' => Q (.dict (kD es)) ρ'
theorem de_fzK {w : KW} (h : PE X e (tFK c w)) : PE X e (tD c (wKD w)) := by
  refine ⟨fun pins s σ H Q I hq => ?_⟩
  obtain ⟨ρ, Q0, E, hw, k⟩ := hq
  refine thn (h.run pins s σ H (fun v H' => ∃ es ρ' a kvs, v = .ref a ∧ Q0 (.dict (kD es)) ρ' ∧ Gr c σ H H' ∧ En c H' σ ρ' ∧ H a = none ∧ H' a = some (.dK kvs) ∧ IsK c.K H' kvs es) I
    ⟨ρ, _, E, hw, fun es ρ' a kvs H' q g E1 n ha ix => ⟨es, ρ', a, kvs, rfl, q, g, E1, n, ha, ix⟩⟩) fun u s1 ⟨v, H1, I1, r1, es, ρ', a, kvs, e1, q, g, E1, n, ha, ix⟩ => ?_
  subst e1
  obtain ⟨o, I2⟩ := Inv.freeze I1 ha trivial (fun _ _ _ z => by cases z) (fun _ z => by cases z)
  have fx : Fx H1 (upd H1 a (.frz o (.dK kvs))) := fun b o f q => by
    by_cases e : b = a
    · subst e; rw [ha] at q; cases q; cases f
    · rw [upd_ne e]; exact q
  have nb : ∀ b o, H b = some o → b ≠ a := fun b o q z => by subst z; rw [n] at q; cases q
  refine ⟨.ref a, _, I2, r1, k _ ρ' _ _ q ⟨g.fx.trans fx, fun b o q w => ?_⟩ (E1.updX ha rfl (fun _ z => by cases z) (fun _ z => by cases z) (E.h0 n)) (.dct upd_same (IsK.mono fx ix).kv)⟩
  rw [upd_ne (nb b o q)]; exact g.kp b o q w
theorem dk_dc {R : Rel} {kx vx iter : Expr} {ifs : List Expr} {scope : Scope} {own : List (Str × Nat)} {wi : LW} {g : GW} {wt : BW} {wk wv : DW} (hc : X.calm = true) (hN : X.N.Nodup) (ok : BlkOk X.N X.env.scope scope own) (hM : ∀ i, i ∈ own.map (·.2) → i ∉ c.M) (hp : c.pot = none ∨ 0 ∉ own.map (·.2))
    (hi : PI X tg iter (iR R c wi))
    (hg : ∀ (s : Shared) (H : Hp) (C : Addr) (cl : List (Str × Addr)) (fp : List Addr), PG (X.blk s H scope (compEnvC scope cl C X.env) fp) tg (gR R c (own.map (·.2)) g)) (ht : ∀ (s : Shared) (H : Hp) (C : Addr) (cl : List (Str × Addr)) (fp : List Addr), PTs (X.blk s H scope (compEnvC scope cl C X.env) fp) ifs (tT c wt))
    (hk : ∀ (s : Shared) (H : Hp) (C : Addr) (cl : List (Str × Addr)) (fp : List Addr), PE (X.blk s H scope (compEnvC scope cl C X.env) fp) kx (tD c wk)) (he : ∀ (s : Shared) (H : Hp) (C : Addr) (cl : List (Str × Addr)) (fp : List Addr), PE (X.blk s H scope (compEnvC scope cl C X.env) fp) vx (tD c wv)) (hs : ∀ x, foldedSetIterable iter X.env x = pure x := by intro _; rfl) :
    PE X (.DictComp kx vx [⟨tg, iter, ifs, 0⟩] scope pos) (tFK c (wDcK (own.map (·.2)) wi g wt wk wv)) := PE.imp (pe_dc hc hN hi ok hg ht hk he hs) (dc_imp hM hp)
/-- y = {..}, y a local that no block catches -/
theorem sw_trueD {kx vx : Expr} {gs : List Comprehension} {scope : Scope} {pos py : Pos} {y : Str} {l : Nat} {env : Env} (hk : env.scope.kind = .function) (hy : env.scope.names.lookup y = some .local) (hl : (py.line == pos.line) = true)
    (ha : (scope.names.any fun (n, k) => n == y && (k == .local || k == .cell)) = false) : swapsWith (.DictComp kx vx gs scope pos) (some (.Name y py)) l env = pure true := by
  have e1 : env.kindOf y = some .local := hy
  have e2 : env.blockKind = .function := by unfold Env.blockKind; rw [hk]; rfl
  unfold swapsWith
  simp only [e2, e1, ha, Expr.pos, hl]
  rfl
theorem ps_setDc {i : Nat} {y : Str} {py : Pos} {kx vx iter : Expr} {ifs : List Expr} {scope : Scope} {own : List (Str × Nat)} {pos spos : Pos} {wi : TI} {g : TG} {tt : TT} {tk tv : TE} (hc : X.calm = true) (hN : X.N.Nodup) (hy : X.N[i]? = some y) (hyl : X.env.scope.names.lookup y = some .local)
    (hsw : swapsWith (.DictComp kx vx [⟨tg, iter, ifs, 0⟩] scope pos) (some (.Name y py)) spos.line X.env = pure true) (hi : PI X tg iter wi) (ok : BlkOk X.N X.env.scope scope own)
    (hg : ∀ (s : Shared) (H : Hp) (C : Addr) (cl : List (Str × Addr)) (fp : List Addr), PG (X.blk s H scope (compEnvC scope cl C X.env) fp) tg g) (ht : ∀ (s : Shared) (H : Hp) (C : Addr) (cl : List (Str × Addr)) (fp : List Addr), PTs (X.blk s H scope (compEnvC scope cl C X.env) fp) ifs tt)
    (hk : ∀ (s : Shared) (H : Hp) (C : Addr) (cl : List (Str × Addr)) (fp : List Addr), PE (X.blk s H scope (compEnvC scope cl C X.env) fp) kx tk)
    (he : ∀ (s : Shared) (H : Hp) (C : Addr) (cl : List (Str × Addr)) (fp : List Addr), PE (X.blk s H scope (compEnvC scope cl C X.env) fp) vx tv) (hs : ∀ x, foldedSetIterable iter X.env x = pure x := by intro _; rfl) :
    PS X (.Assign [.Name y py] (.DictComp kx vx [⟨tg, iter, ifs, 0⟩] scope pos) spos) (tAsg (tDc wi g tt tk tv (own.map (·.2))) (gName i)) := by
  refine ⟨fun pins s σ H D I h => ?_⟩
  rw [exec_Assign_Name_used _ _ _ _ hsw]
  refine wpAny_bind (wpAny_standAt (wpAny_bind ?_))
  show wpAny _ X.A ((comprehension (.DictComp kx vx [⟨tg, iter, ifs, 0⟩] scope pos) scope X.env (firstIterPos [⟨tg, iter, ifs, 0⟩] pos) newDict false (eval iter X.env) (some (assign (.Name y py) X.env))) >>= fun _ => pure ()) _ _ s
  have h' : tDc wi g tt tk tv (own.map (·.2)) σ H (fun x H1 => gName i x σ H1 D.nx) := h
  refine wpAny_bind (thn (dc_core (Qf := fun _ s' => SP X pins D .next s') hc hN I hi ok hg ht hk he hs h' fun L C s' m H' I' q hn f => ?_) fun _ s' hq => wpAny_pure (wpAny_pure hq))
  obtain ⟨f0, f1, f2, f3, f4, f5⟩ := f
  show wpAny _ _ (assign (.Name y py) X.env (.ref L)) _ _ _
  refine wpAny_assign_Name (store_ok2 (v := V.ref L) I' hN hy (.inl hyl) rfl (fun s2 I2 ⟨a, sb, ha⟩ => ?_) (.inr hyl))
  have haC : C ≠ a := ha.elim (fun z => by rw [z]; exact f1) fun z e => f4 y a z e.symm
  exact ⟨m, hn.sameBut sb haC, fun h3 sb3 => ⟨_, H', I2.turned (t' := s2.toks) (fun b o hb e => (sb3.2 b hb).trans e) f0 f1 f3 f4 f5, q⟩⟩
end
end DL
namespace DL
open PySem PySem.Spec PyProof.Rows L2
section
variable {X : Cx} {c : Ctx} {e a b b3 l tg : Expr} {es : List Expr} {pos : Pos} {st : Stmt} {sts body : List Stmt}
theorem ds_setDc {R : Rel} (i : Nat) {y : Str} {py : Pos} {kx vx iter : Expr} {ifs : List Expr} {scope : Scope} {own : List (Str × Nat)} {pos spos : Pos} {wi : LW} {g : GW} {wt : BW} {wk wv : DW} (hc : X.calm = true) (hN : X.N.Nodup) (hy : X.N[i]? = some y) (hyl : X.env.scope.names.lookup y = some .local)
    (hsw : swapsWith (.DictComp kx vx [⟨tg, iter, ifs, 0⟩] scope pos) (some (.Name y py)) spos.line X.env = pure true) (ok : BlkOk X.N X.env.scope scope own) (hM : ∀ i, i ∈ own.map (·.2) → i ∉ c.M) (hp : c.pot = none ∨ 0 ∉ own.map (·.2)) (hiM : i ∉ c.M) (hip : c.pot = none ∨ i ≠ 0)
    (hi : PI X tg iter (iR R c wi))
    (hg : ∀ (s : Shared) (H : Hp) (C : Addr) (cl : List (Str × Addr)) (fp : List Addr), PG (X.blk s H scope (compEnvC scope cl C X.env) fp) tg (gR R c (own.map (·.2)) g)) (ht : ∀ (s : Shared) (H : Hp) (C : Addr) (cl : List (Str × Addr)) (fp : List Addr), PTs (X.blk s H scope (compEnvC scope cl C X.env) fp) ifs (tT c wt))
    (hk : ∀ (s : Shared) (H : Hp) (C : Addr) (cl : List (Str × Addr)) (fp : List Addr), PE (X.blk s H scope (compEnvC scope cl C X.env) fp) kx (tD c wk))
    (he : ∀ (s : Shared) (H : Hp) (C : Addr) (cl : List (Str × Addr)) (fp : List Addr), PE (X.blk s H scope (compEnvC scope cl C X.env) fp) vx (tD c wv)) (hs : ∀ x, foldedSetIterable iter X.env x = pure x := by intro _; rfl) :
    PS X (.Assign [.Name y py] (.DictComp kx vx [⟨tg, iter, ifs, 0⟩] scope pos) spos) (sD c (wSet i (wKD (wDcK (own.map (·.2)) wi g wt wk wv)))) := by
  refine ⟨fun pins s σ H D I h => ?_⟩
  obtain ⟨ρ, D0, E, hw, k1, k2, k3, k4⟩ := h
  refine thn ((ps_setDc hc hN hy hyl hsw hi ok hg ht hk he hs).run pins s σ H { nx := fun σ' H' => ∃ es ρ' a kvs, σ' = σ.set i (some (.ref a)) ∧ D0.nx (ρ'.set i (.dat (.dict (kD es)))) ∧ Gr c σ H H' ∧ En c H' σ ρ' ∧ H a = none ∧ H' a = some (.dK kvs) ∧ IsK c.K H' kvs es, rt := fun _ _ => False } I
    (dc_imp hM hp σ H _ ⟨ρ, _, E, hw, fun es ρ' a kvs H' q g E1 n ha ix => ⟨es, ρ', a, kvs, rfl, q, g, E1, n, ha, ix⟩⟩)) fun fl s1 sp => ?_
  cases fl with
  | next =>
    obtain ⟨σ1, H1, I1, es, ρ', a, kvs, rfl, q, gr, E1, n, ha, ix⟩ := sp
    obtain ⟨o, I2⟩ := Inv.freeze I1 ha trivial (fun _ _ _ z => by cases z) (fun _ z => by cases z)
    have fx : Fx H1 (upd H1 a (.frz o (.dK kvs))) := fun b o f q => by
      by_cases e : b = a
      · subst e; rw [ha] at q; cases q; cases f
      · rw [upd_ne e]; exact q
    have E2 := (E1.updX (u' := .frz o (.dK kvs)) ha rfl (fun _ z => by cases z) (fun _ z => by cases z) (E.h0 n)).setD hiM hip (v := .ref a) (d := .dict (kD es)) (.dct upd_same (IsK.mono fx ix).kv)
    exact ⟨_, _, I2, k1 _ _ _ q (gr.fx.trans fx) E2⟩
  | brk => obtain ⟨_, _, _, z⟩ := sp; exact z.elim
  | cont => obtain ⟨_, _, _, z⟩ := sp; exact z.elim
  | ret u => obtain ⟨_, _, _, _, _, z⟩ := sp; exact z.elim
/-- y = [..], y a local that no block catches -/
theorem ds_setLc {R : Rel} (i : Nat) {y : Str} {py : Pos} {elt iter : Expr} {ifs : List Expr} {scope : Scope} {own : List (Str × Nat)} {pos spos : Pos} {wi : LW} {g : GW} {wt : BW} {we : DW} (hc : X.calm = true) (hN : X.N.Nodup) (hy : X.N[i]? = some y) (hyl : X.env.scope.names.lookup y = some .local)
    (hsw : swapsWith (.ListComp elt [⟨tg, iter, ifs, 0⟩] scope pos) (some (.Name y py)) spos.line X.env = pure true) (ok : BlkOk X.N X.env.scope scope own) (hM : ∀ i, i ∈ own.map (·.2) → i ∉ c.M) (hp : c.pot = none ∨ 0 ∉ own.map (·.2)) (hiM : i ∉ c.M) (hip : c.pot = none ∨ i ≠ 0)
    (hi : PI X tg iter (iR R c wi))
    (hg : ∀ (s : Shared) (H : Hp) (C : Addr) (cl : List (Str × Addr)) (fp : List Addr), PG (X.blk s H scope (compEnvC scope cl C X.env) fp) tg (gR R c (own.map (·.2)) g)) (ht : ∀ (s : Shared) (H : Hp) (C : Addr) (cl : List (Str × Addr)) (fp : List Addr), PTs (X.blk s H scope (compEnvC scope cl C X.env) fp) ifs (tT c wt))
    (he : ∀ (s : Shared) (H : Hp) (C : Addr) (cl : List (Str × Addr)) (fp : List Addr), PE (X.blk s H scope (compEnvC scope cl C X.env) fp) elt (tD c we)) (hs : ∀ x, foldedSetIterable iter X.env x = pure x := by intro _; rfl) :
    PS X (.Assign [.Name y py] (.ListComp elt [⟨tg, iter, ifs, 0⟩] scope pos) spos) (sD c (wSet i (wL (wLc (own.map (·.2)) wi g wt we)))) := by
  refine ⟨fun pins s σ H D I h => ?_⟩
  obtain ⟨ρ, D0, E, hw, k1, k2, k3, k4⟩ := h
  refine thn ((ps_setLc hc hN hy hyl hsw hi ok hg ht he hs).run pins s σ H { nx := fun σ' H' => ∃ ds ρ' a xs, σ' = σ.set i (some (.ref a)) ∧ D0.nx (ρ'.set i (.dat (.list ds))) ∧ Gr c σ H H' ∧ En c H' σ ρ' ∧ H a = none ∧ H' a = some (.lst xs) ∧ IsAll c.K H' xs ds, rt := fun _ _ => False } I
    (lc_imp hM hp σ H _ ⟨ρ, _, E, hw, fun ds ρ' a xs H' q g E1 n ha ix => ⟨ds, ρ', a, xs, rfl, q, g, E1, n, ha, ix⟩⟩)) fun fl s1 sp => ?_
  cases fl with
  | next =>
    obtain ⟨σ1, H1, I1, ds, ρ', a, xs, rfl, q, gr, E1, n, ha, ix⟩ := sp
    obtain ⟨o, I2⟩ := Inv.freeze I1 ha trivial (fun _ _ _ z => by cases z) (fun _ z => by cases z)
    have fx : Fx H1 (upd H1 a (.frz o (.lst xs))) := fun b o f q => by
      by_cases e : b = a
      · subst e; rw [ha] at q; cases q; cases f
      · rw [upd_ne e]; exact q
    have E2 := (E1.frzN (o := o) ha (E.h0 n) (E.sepN E1 n)).setD hiM hip (v := .ref a) (d := .list ds) (.lst upd_same (IsAll.mono fx ds xs ix))
    exact ⟨_, _, I2, k1 _ _ _ q (gr.fx.trans fx) E2⟩
  | brk => obtain ⟨_, _, _, z⟩ := sp; exact z.elim
  | cont => obtain ⟨_, _, _, z⟩ := sp; exact z.elim
  | ret u => obtain ⟨_, _, _, _, _, z⟩ := sp; exact z.elim
/-- .. as a list of one's own -/
theorem ds_setLcO {R : Rel} (i : Nat) {y : Str} {py : Pos} {elt iter : Expr} {ifs : List Expr} {scope : Scope} {own : List (Str × Nat)} {pos spos : Pos} {wi : LW} {g : GW} {wt : BW} {we : DW} (hc : X.calm = true) (hN : X.N.Nodup) (hy : X.N[i]? = some y) (hyl : X.env.scope.names.lookup y = some .local)
    (hsw : swapsWith (.ListComp elt [⟨tg, iter, ifs, 0⟩] scope pos) (some (.Name y py)) spos.line X.env = pure true) (ok : BlkOk X.N X.env.scope scope own) (hM : ∀ i, i ∈ own.map (·.2) → i ∉ c.M) (hp : c.pot = none ∨ 0 ∉ own.map (·.2)) (hiM : i ∈ c.M) (hip : c.pot = none ∨ i ≠ 0)
    (hi : PI X tg iter (iR R c wi))
    (hg : ∀ (s : Shared) (H : Hp) (C : Addr) (cl : List (Str × Addr)) (fp : List Addr), PG (X.blk s H scope (compEnvC scope cl C X.env) fp) tg (gR R c (own.map (·.2)) g)) (ht : ∀ (s : Shared) (H : Hp) (C : Addr) (cl : List (Str × Addr)) (fp : List Addr), PTs (X.blk s H scope (compEnvC scope cl C X.env) fp) ifs (tT c wt))
    (he : ∀ (s : Shared) (H : Hp) (C : Addr) (cl : List (Str × Addr)) (fp : List Addr), PE (X.blk s H scope (compEnvC scope cl C X.env) fp) elt (tD c we)) (hs : ∀ x, foldedSetIterable iter X.env x = pure x := by intro _; rfl) :
    PS X (.Assign [.Name y py] (.ListComp elt [⟨tg, iter, ifs, 0⟩] scope pos) spos) (sD c (wSetO i (wLc (own.map (·.2)) wi g wt we))) := by
  refine PS.imp (ps_setLc hc hN hy hyl hsw hi ok hg ht he hs) ?_
  rintro D σ H ⟨ρ, D0, E, hw, k1, k2, k3, k4⟩
  exact lc_imp hM hp σ H _ ⟨ρ, _, E, hw, fun ds ρ' a xs H' q g E' n ha ix => k1 _ _ H' q g.fx (E'.setO hiM hip ha ix (E.h0 n) fun j es _ h1 h2 => E.sepN E' n j es h1 h2)⟩

/-! ### enumerate of a tuple -/
/-- the tuple at a, each item in a new pair -/
def ItTe (K : PySem.W.Frag) (a : Addr) : It :=
  ⟨fun i H => ∃ (xs : List V) (x : V), SqT K H a xs ∧ xs[i]? = some x, fun i H v H' => ∃ T x, v = .ref T ∧ H T = none ∧ H' = upd H T (.tup [.int (i : Nat), x]) ∧ ∀ xs, SqT K H a xs → xs[i]? = some x, fun i H => ∃ xs : List V, SqT K H a xs ∧ xs.length ≤ i⟩
theorem en_newT (t : Addr) (items : Array Value) (B : Begins (.ref t) { cls := .type "tuple_iterator", data := .fields #[.ref t, .int 0 0] } fun h => h.IsTuple t items) :
    Meets (Builtin.«enumerate.__new__» ⟨[.type "enumerate", .ref t], []⟩) (fun _ R s => s.heap.IsTuple t items ∧
      R (.ok (.ret (.ref (s.heap.push { cls := .type "tuple_iterator", data := .fields #[.ref t, .int 0 0] }).objs.size)))
        { s with heap := (s.heap.push { cls := .type "tuple_iterator", data := .fields #[.ref t, .int 0 0] }).push { cls := .type "enumerate", data := .fields #[.none, .bool false, .ref s.heap.objs.size, rawInt 0, .none, .none] } }) :=
  .of_wp fun prog w A R s h => by
    obtain ⟨hp, g, d, tk, os⟩ := s
    obtain ⟨hT, fin⟩ := h
    have hsub := sub_enumerate
    have it : ∀ {A' : Around} {E : Value → Shared → Prop} {Q : Value → Shared → Prop}, Q (.ref hp.objs.size) ⟨hp.push { cls := .type "tuple_iterator", data := .fields #[.ref t, .int 0 0] }, g, d, tk, os⟩ → wpAny (model prog w) A' (pyIter (.ref t)) Q E ⟨hp, g, d, tk, os⟩ :=
      fun q => B.iter prog w _ _ ⟨hp, g, d, tk, os⟩ _ hT q
    wp_walk using it
    refine wpAny_stack_any fun st => wpAny_pure ?_
    split <;> try (rename_i c _ _ _ _ _; cases (c == Value.type "enumerate"))
    all_goals (wp_walk using it; exact ⟨_, rfl, fin⟩)
theorem call_enT {prog : Program} {w : World} {A : Around} {E : Value → Shared → Prop} {s : Shared} {t : Addr} {items : Array Value} {Q : Value → Shared → Prop} (hT : s.heap.IsTuple t items)
    (h : ∀ h', IsEnum h' (s.heap.objs.size + 1) s.heap.objs.size 0 .none → h'.IsTupleIter s.heap.objs.size t 0 → (∀ b o, s.heap.get? b = some o → h'.get? b = some o) → Q (.ref (s.heap.objs.size + 1)) { s with heap := h' }) :
    wpAny (model prog w) A (call (.type "enumerate") [.ref t]) Q E s := by
  refine callType_new F.called_enumerate (by decide) (F.typeCall_enumerate_1 _) (F.newCall_enumerate_1 _) (fun obj => F.args_object_init_2 obj _) F.entry_enumerate_new (en_newT t items (begins_tuple t items)) ⟨hT, ?_⟩
  have sz : (s.heap.push { cls := .type "tuple_iterator", data := .fields #[.ref t, .int 0 0] }).objs.size = s.heap.objs.size + 1 := Heap.size_push ..
  show _ ∧ _
  rw [sz]
  have en := Heap.get?_push_size (s.heap.push { cls := .type "tuple_iterator", data := .fields #[.ref t, .int 0 0] }) (o := { cls := .type "enumerate", data := .fields #[.none, .bool false, .ref s.heap.objs.size, rawInt 0, .none, .none] }) rfl
  rw [sz] at en
  exact ⟨⟨_, en, rfl⟩, h _ en ⟨_, Heap.get?_push_of_some _ (Heap.get?_push_size _ rfl), rfl, rfl⟩ fun b o z => Heap.get?_push_of_some _ (Heap.get?_push_of_some _ z)⟩
theorem turn_enT {P : Program} {w : World} {K : PySem.W.Frag} {elts : List Expr} {kk : Nat} {tpos : Pos} (a e it : Addr) :
    Turn P w K (.Tuple elts kk tpos) (ItTe K a) [e, it] e (fun i h => (∃ old, IsEnum h e it ((i : Nat) : Int) old) ∧ h.IsTupleIter it a i ∧ e ≠ it) where
  mem := List.mem_cons_self
  obj := fun i h st b hb => by
    obtain ⟨⟨old, he⟩, ⟨o, ho, hc, hd⟩, _⟩ := st
    rcases List.mem_cons.mp hb with z | z
    · subst z; exact ⟨_, he, fun v q => nomatch q⟩
    · rw [List.mem_singleton.mp z]; exact ⟨o, ho, fun v q => by rw [hd] at q; cases q⟩
  keep := fun i h h' st k => ⟨⟨st.1.choose, k e (by simp) _ st.1.choose_spec⟩, st.2.1.at fun o q => k it (by simp) o q, st.2.2⟩
  item := by
    intro X hP hw hK hc i pins s σ H E I hf st hg
    subst hP hw hK
    obtain ⟨⟨old, he⟩, hit, hne⟩ := st
    obtain ⟨xs, x, hq, hx⟩ := hg
    obtain ⟨its, rv, p, hz⟩ := I.tuple hq
    obtain ⟨u, hu, ru⟩ := rv.get hx
    have hel : e < s.heap.objs.size := Heap.lt_size he
    have hil : it < s.heap.objs.size := by obtain ⟨_, q, _⟩ := hit; exact Heap.lt_size q
    have pT : s.heap.IsTuple a its.toArray := p
    have hae : a ≠ e := fun z => by
      subst z
      obtain ⟨o, q, c1, _⟩ := pT
      have w : s.heap.get? a = some _ := he
      rw [q] at w
      cases w
      exact absurd (show Value.type "enumerate" = .type "tuple" from c1) (by decide)
    have hai : a ≠ it := fun z => by
      subst z
      obtain ⟨o, q, c1, _⟩ := pT
      obtain ⟨o2, q2, c2, _⟩ := hit
      rw [q] at q2
      cases q2
      rw [c1] at c2
      exact absurd c2 (by decide)
    refine wpAny_pyNext_enum_itemD (Draws.tuple (A := X.A.in1) (I.ok.hd hc) it a hai its.toArray) he ⟨hit, pT⟩ (i := i) (by rw [List.size_toArray]; exact (List.getElem?_eq_some_iff.mp hu).1) hne (by simp [hne, Ne.symm hae]) fun x' h' tk px ho st' hT hsz hk => ?_
    have ex : x' = u := by
      have : its[i]? = some x' := by simpa using px
      rw [hu] at this; cases this; rfl
    subst ex
    refine ⟨_, rfl, wpAny_letOwnedTupleGo_enum (s := { s with heap := h', toks := tk + 1 }) ho fun h'' he' sb => ?_⟩
    have hT2 : h''.get? s.heap.objs.size = some { cls := .type "tuple", data := .seq #[.int i tk, x'] } := (sb.2 _ (Nat.ne_of_gt hel)).trans hT
    have new : ObjOk X.prog X.w (upd H s.heap.objs.size (.tup [.int (i : Nat), x])) h'' s.heap.objs.size (.tup [.int (i : Nat), x]) :=
      ⟨by show 2 ≤ sizeLine; decide, [.int i tk, x'], .cons ⟨_, rfl⟩ (.cons ru .nil), ⟨_, hT2, rfl, _, rfl⟩⟩
    have I1 : Inv X pins σ (upd H s.heap.objs.size (.tup [.int (i : Nat), x])) { s with heap := h'', toks := tk + 1 } :=
      I.turnedNew (ch := [e, it]) (fun b ob hb q => (sb.2 b (fun z => hb (by simp [z]))).trans (hk b ob (fun z => hb (by simp [z])) (fun z => hb (by simp [z])) q)) hf (Nat.le_refl _) new
    refine ⟨.ref s.heap.objs.size, _, I1, rfl, ⟨_, x, rfl, I.hok.fresh (Nat.le_refl _), rfl, fun ys hy => ?_⟩, ⟨⟨x', ?_⟩, st'.1.at fun o q => (sb.2 it (Ne.symm hne)).trans q, hne⟩, fun b hb => ?_⟩
    · rw [I.tuple_inj hy hq]; exact hx
    · have e1 : ((i + 1 : Nat) : Int) = (i : Int) + 1 := by omega
      rw [e1]; exact he'
    · have hb' : b < s.heap.objs.size := by
        rcases List.mem_cons.mp hb with z | z
        · rw [z]; exact hel
        · rw [List.mem_singleton.mp z]; exact hil
      rw [upd_ne (Nat.ne_of_lt hb')]
      exact (hf b hb).1
  done := by
    intro X hP hw hK hc i pins s σ H E I hf st hg
    subst hP hw hK
    obtain ⟨⟨old, he⟩, hit, hne⟩ := st
    obtain ⟨xs, hq, hx⟩ := hg
    obtain ⟨its, rv, p, hz⟩ := I.tuple hq
    obtain ⟨f0, f1, f2, f3, f4, f5⟩ := hf it (by simp)
    have pT : s.heap.IsTuple a its.toArray := p
    have hl := rv.length
    have D : Draws X.prog X.w X.A.in1 it [it, a] i (fun _ _ => True) (fun j h => j = i ∧ h.IsTupleIter it a i ∧ h.IsTuple a its.toArray) := {
      live := fun j h q => let ⟨o, ho, _⟩ := q.2.1; ⟨o, ho⟩
      frame := fun j h h' q k => ⟨q.1, q.2.1.at fun o e => k it (by simp) o e, q.2.2.at fun o e => k a (by simp) o e⟩
      item := fun j s Q E hj q _ => by have := q.1; omega
      done := fun s Q E q k => wpAny_nextOf_tuple_end (I.ok.hd hc) q.2.1 q.2.2 (by simp; omega) k }
    exact wpAny_pyNext_enum_endD D he ⟨rfl, hit, pT⟩ fun h' eb => ⟨rfl, I.turned (t' := s.toks) (fun b o hb q => eb b o hb q) f0 f1 f3 f4 f5⟩
  self := fun A i s Q E st h => wpAny_pyIter_enum st.1.choose_spec h
end
def iEnT (K : PySem.W.Frag) (ta : TA) : TI := fun σ H R => ta σ H fun vs H1 => ∃ a xs, vs = [.ref a] ∧ SqT K H1 a xs ∧ R (ItTe K a) H1
theorem pi_enT {X : Cx} {e : Expr} {ta : TA} {p pos tpos : Pos} {elts : List Expr} {kk : Nat} (hg : Gl X "enumerate") (hm : X.mg "enumerate" = none) (ha : PA X [e] ta) (hs : starEach [e] X.env = [(false, eval e X.env)] := by rfl) :
    PI X (.Tuple elts kk tpos) (.Call (.Name "enumerate" p) [e] [] pos) (iEnT X.K ta) := by
  refine ⟨fun pins s σ H R I h => Call_ (ld_blt I hg hm boot_enumerate (PyProof.Rows.callWith_type1 (thn (ha.run pos pins s σ H _ I h) fun us s1 ⟨vs, H1, I1, r1, q1⟩ => ?_) hs rfl))⟩
  obtain ⟨a, xs, ex, hq, q⟩ := q1
  subst ex
  rw [Vals.ref1 r1]
  obtain ⟨its, rv, p', hz⟩ := I1.tuple hq
  refine call_enT (show s1.heap.IsTuple a its.toArray from p') fun h' he hit hk => wpAny_pyIter_enum he ?_
  have I2 : Inv X pins σ H1 { s1 with heap := h' } := I1.kept (t' := s1.toks) hk
  refine ⟨s1.heap.objs.size + 1, [s1.heap.objs.size + 1, s1.heap.objs.size], _, _, H1, rfl, I2, turn_enT a (s1.heap.objs.size + 1) s1.heap.objs.size, ⟨⟨.none, he⟩, hit, Nat.succ_ne_self _⟩, fun b hb => ?_, q⟩
  have hle : s1.heap.objs.size ≤ b := by
    rcases List.mem_cons.mp hb with z | z
    · rw [z]; exact Nat.le_add_right _ _
    · rw [List.mem_singleton.mp z]; exact Nat.le_refl _
  exact I1.fpOk hle (I1.hok.fresh hle)
section
variable {X : Cx} {c : Ctx} {a : Expr} {pos : Pos}
def wEnumT (wa : LW) : LW := fun ρ Q => wa ρ fun ds ρ1 => ∃ xs, ds = [.tuple xs] ∧ Q (enumD xs) ρ1
theorem di_enT {p tpos : Pos} {elts : List Expr} {kk : Nat} {wa : LW} (hg : Gl X "enumerate") (hm : X.mg "enumerate" = none) (ha : PA X [a] (tA c wa)) (hs : starEach [a] X.env = [(false, eval a X.env)] := by rfl) (hK : c.K = X.K := by rfl) : PI X (.Tuple elts kk tpos) (.Call (.Name "enumerate" p) [a] [] pos) (iW c (wEnumT wa)) := by
  refine PI.imp (pi_enT hg hm ha hs) ?_
  rintro σ H Q ⟨ρ, Q0, E, hw, k⟩
  refine ⟨ρ, _, E, hw, fun ds ρ' vs H' q g E1 i1 => ?_⟩
  obtain ⟨xs, rfl, q⟩ := q
  cases i1 with
  | cons h3 h4 =>
    cases h4
    cases h3 with
    | @tup a ys ds h1 h2 =>
      have sq : ∀ H2, Fx H' H2 → SqT X.K H2 a ys := fun H2 f => by rw [← hK]; exact (f.tupK h1).sqT
      refine ⟨a, ys, rfl, sq H' (Fx.refl _), k _ ρ' _ H' q g E1 ⟨fun i H2 f hi => ?_, fun i x H2 H3 d f hd y => ?_, fun i H2 f hi => ⟨ys, sq H2 f, by rw [h2.length, ← enumD_length]; exact hi⟩⟩⟩
      · rw [enumD_length, ← h2.length] at hi
        exact ⟨ys, ys[i], sq H2 f, List.getElem?_eq_getElem hi⟩
      · obtain ⟨T, x', rfl, n, rfl, y⟩ := y
        obtain ⟨z, hz, rfl⟩ := enumD_get hd
        obtain ⟨v, hv, iv⟩ := h2.get hz
        have e := (y ys (sq _ f)).symm.trans hv
        cases e
        have sm := upd_same' (o := .tup [.int (i : Nat), x']) n
        exact ⟨sm, .inr ⟨T, _, _, rfl, rfl, SqT.of upd_same, .cons (.int _) (.cons (Is.mono (f.trans (Same.fx sm)) _ _ iv) .nil)⟩⟩
end
end DL
namespace DL
open PySem PySem.Spec PyProof.Rows L2
section
variable {X : Cx} {c : Ctx} {e a b b3 l tg : Expr} {es : List Expr} {pos : Pos} {st : Stmt} {sts body : List Stmt}
/-! ### the script: ints in a list that is only read -/
theorem ints_of {K : PySem.W.Frag} {H : Hp} {a : Addr} {ns : List Int} (hO : Only H) (h : SqL K H a (ns.map V.int)) : ∀ H', Fx H H' → SqL K H' a (ns.map V.int) := fun H' f => by
  rcases h with (h | ⟨o, h⟩) | h
  · rcases hO a with z | ⟨o, xs, z⟩ <;> rw [h] at z <;> cases z
  · exact .inl (.inr ⟨o, f _ _ rfl h⟩)
  · exact .inr h
theorem atI_map {α β : Type} {g : α → β} {xs : List α} {i : Int} {z : α} (h : L2.atI xs i = some z) : L2.atI (xs.map g) i = some (g z) := by
  unfold L2.atI at h ⊢
  rw [List.length_map]
  cases q : ixN xs.length i with
  | none => rw [q] at h; cases h
  | some j =>
    rw [q] at h
    have h : xs[j]? = some z := h
    show (xs.map g)[j]? = some (g z)
    rw [List.getElem?_map, h]; rfl
def wLenI (i : Nat) : DW := fun ρ Q => ∃ ns : List Int, ρ[i]? = some (.ints ns) ∧ Q (.int ns.length) ρ
theorem de_lenI (i : Nat) {x : Str} {p p2 : Pos} (hg : Gl X "len") (hm : X.mg "len" = none) (hN : X.N[i]? = some x := by rfl) (hv : Vis X.env.scope x := by first | exact Or.inl rfl | exact Or.inr (Or.inl rfl) | exact Or.inr (Or.inr rfl)) (hd : (x == ("__debug__" : Str)) = false := by decide)
    (hcd : (x == ("__classdict__" : Str)) = false := by decide) (hK : c.K = X.K := by rfl)
    (he : starEach [.Name x p2] X.env = (false, eval (.Name x p2) X.env) :: starEach [] X.env := by rfl) (hpl : (backTo pos (starEach [] X.env)).any (·.1) = false := by rfl) : PE X (.Call (.Name "len" p) [.Name x p2] [] pos) (tD c (wLenI i)) := by
  refine PE.imp (pe_callB call_len_seq hg hm PySem.boot_len (pa_cons (pe_var hN hv hd hcd) pa_nil he) (by decide) (by decide) he hpl) ?_
  rintro σ H Q ⟨ρ, Q0, E, ⟨ns, h1, q⟩, k⟩
  obtain ⟨x, hx, a, rfl, ha⟩ := E.at h1
  refine ⟨_, hx, a, ns.map V.int, rfl, .inl (by rw [← hK]; exact ha H (Fx.refl H)), ?_⟩
  rw [List.length_map]
  exact k _ ρ _ H q (Gr.refl H) E (.int _)
def wIxI (i : Nat) (wb : DW) : DW := fun ρ Q => (∃ ns, ρ[i]? = some (.ints ns)) ∧ wb ρ fun e ρ1 => ∃ (ns : List Int) (j z : Int), ρ1[i]? = some (.ints ns) ∧ e = .int j ∧ L2.atI ns j = some z ∧ Q (.int z) ρ1
theorem de_ixI (i : Nat) {wb : DW} {x : Str} {p2 : Pos} (hb : PE X b (tD c wb)) (hN : X.N[i]? = some x := by rfl) (hv : Vis X.env.scope x := by first | exact Or.inl rfl | exact Or.inr (Or.inl rfl) | exact Or.inr (Or.inr rfl)) (hd : (x == ("__debug__" : Str)) = false := by decide)
    (hcd : (x == ("__classdict__" : Str)) = false := by decide) (hs : PlainIx b := by exact fun _ _ => rfl) (hK : c.K = X.K := by rfl) : PE X (.Subscript (.Name x p2) b pos) (tD c (wIxI i wb)) := by
  refine PE.imp (pe_ix ix_list (pe_var hN hv hd hcd) hb hs) ?_
  rintro σ H Q ⟨ρ, Q0, E, ⟨⟨ns0, h0⟩, hw⟩, k⟩
  obtain ⟨x0, hx, a, rfl, _⟩ := E.at h0
  refine ⟨_, hx, ρ, _, E, hw, fun e ρ1 u H1 q g E1 i1 => ?_⟩
  obtain ⟨ns, j, z, h1, rfl, hz, q⟩ := q
  obtain ⟨x1, hx1, a1, e1, ha⟩ := E1.at h1
  rw [hx] at hx1
  cases hx1
  cases e1
  cases i1
  exact ⟨a, ns.map V.int, j, .int z, rfl, rfl, by rw [← hK]; exact ha H1 (Fx.refl H1), atI_map hz, k _ ρ1 _ H1 q g E1 (.int z)⟩
abbrev PI' := List Int → List D → (Rv → Prop) → Prop
def spI (K : PySem.W.Frag) (n : Nat) (w : PI') : Sp := fun vs H Q _ => ∃ (a : Addr) (vr : List V) (ns : List Int) (ds : List D) (Q0 : Rv → Prop), vs = .ref a :: vr ∧ (∀ H', Fx H H' → SqL K H' a (ns.map V.int)) ∧ IsAll K H vr ds ∧ ds.length = n ∧ w ns ds Q0 ∧ ∀ r v H', Q0 r → Same H H' → RvIs K H H' v r → Q v H'
def wCallI (i n : Nat) (w : PI') (wa : LW) : DW := fun ρ Q => (∃ ns, ρ[i]? = some (.ints ns)) ∧ wa ρ fun ds ρ1 => ∃ ns, ρ1[i]? = some (.ints ns) ∧ ds.length = n ∧ w ns ds fun r => ∃ d, r = .d d ∧ Q d ρ1
def wCallIF (i n : Nat) (w : PI') (wa : LW) : LW := fun ρ Q => (∃ ns, ρ[i]? = some (.ints ns)) ∧ wa ρ fun ds ρ1 => ∃ ns, ρ1[i]? = some (.ints ns) ∧ ds.length = n ∧ w ns ds fun r => ∃ d, r = .f d ∧ Q d ρ1
theorem callI_imp {i n : Nat} {w : PI'} {wa : LW} {K : PySem.W.Frag} {E : XK} (hK : c.K = K) : ∀ σ H Q, tD c (wCallI i n w wa) σ H Q → tCall (spI K n w) [] E (tCons (tVar i) (tA c wa)) σ H Q := by
  subst hK
  rintro σ H Q ⟨ρ, Q0, E, ⟨⟨ns0, h0⟩, hw⟩, k⟩
  obtain ⟨x0, hx, a, rfl, _⟩ := E.at h0
  refine ⟨_, hx, ρ, _, E, hw, fun ds ρ1 vs H1 q g E1 i1 => ?_⟩
  obtain ⟨ns, h1, hl, q⟩ := q
  obtain ⟨x1, hx1, a1, e1, ha⟩ := E1.at h1
  rw [hx] at hx1
  cases hx1
  cases e1
  refine ⟨a, vs, ns, ds, _, by simp, ha, i1, hl, q, fun r v H2 q2 sm rv => ?_⟩
  obtain ⟨d, rfl, q2⟩ := q2
  exact k d ρ1 v H2 q2 (g.trans (Gr.same sm)) (E1.same sm) rv
theorem callIF_imp {i n : Nat} {w : PI'} {wa : LW} {K : PySem.W.Frag} {E : XK} (hK : c.K = K) : ∀ σ H Q, tF c (wCallIF i n w wa) σ H Q → tCall (spI K n w) [] E (tCons (tVar i) (tA c wa)) σ H Q := by
  subst hK
  rintro σ H Q ⟨ρ, Q0, E, ⟨⟨ns0, h0⟩, hw⟩, k⟩
  obtain ⟨x0, hx, a, rfl, _⟩ := E.at h0
  refine ⟨_, hx, ρ, _, E, hw, fun ds ρ1 vs H1 q g E1 i1 => ?_⟩
  obtain ⟨ns, h1, hl, q⟩ := q
  obtain ⟨x1, hx1, a1, e1, ha⟩ := E1.at h1
  rw [hx] at hx1
  cases hx1
  cases e1
  refine ⟨a, vs, ns, ds, _, by simp, ha, i1, hl, q, fun r v H2 q2 sm rv => ?_⟩
  obtain ⟨d, rfl, q2⟩ := q2
  obtain ⟨b, ys, rfl, nb, hb, iy⟩ := rv
  exact k d ρ1 b ys H2 q2 (g.trans (Gr.same sm)) (E1.same sm) (g.free E1 nb) hb iy
variable {CX : CXT} {k : Nat} {f : Addr} {fd : FuncData} {ps : List Str} {x : Str} {p : Pos} {E0' : XK}
theorem de_callI (i : Nat) {n : Nat} {w : PI'} {wa : LW} {y : Str} {py : Pos} (F : FnOk X.prog X.w X.K X.mg X.base CX k f fd ps (spI X.K n w)) (hr : Room k X.A) (hg : Gl X x) (hm : X.mg x = some (.ref f)) (hk : PySem.W.keepIn X.K (.ref f) = true) (hb : Binds X.K fd ps []) (hx : Passes CX X E0') (ha : PA X es (tA c wa))
    (hN : X.N[i]? = some y := by rfl) (hv : Vis X.env.scope y := by first | exact Or.inl rfl | exact Or.inr (Or.inl rfl) | exact Or.inr (Or.inr rfl)) (hd : (y == ("__debug__" : Str)) = false := by decide) (hcd : (y == ("__classdict__" : Str)) = false := by decide) (hK : c.K = X.K := by rfl)
    (hdb : (x == ("__debug__" : Str)) = false := by decide) (he : starEach (.Name y py :: es) X.env = (false, eval (.Name y py) X.env) :: starEach es X.env := by rfl) (hpl : (backTo pos (starEach es X.env)).any (·.1) = false := by rfl) : PE X (.Call (.Name x p) (.Name y py :: es) [] pos) (tD c (wCallI i n w wa)) :=
  PE.imp (pe_call F hr hg hm hk hb .nil hx (pa_cons (pe_var hN hv hd hcd) ha he) hdb he hpl) (callI_imp hK)
theorem df_callI (i : Nat) {n : Nat} {w : PI'} {wa : LW} {y : Str} {py : Pos} (F : FnOk X.prog X.w X.K X.mg X.base CX k f fd ps (spI X.K n w)) (hr : Room k X.A) (hg : Gl X x) (hm : X.mg x = some (.ref f)) (hk : PySem.W.keepIn X.K (.ref f) = true) (hb : Binds X.K fd ps []) (hx : Passes CX X E0') (ha : PA X es (tA c wa))
    (hN : X.N[i]? = some y := by rfl) (hv : Vis X.env.scope y := by first | exact Or.inl rfl | exact Or.inr (Or.inl rfl) | exact Or.inr (Or.inr rfl)) (hd : (y == ("__debug__" : Str)) = false := by decide) (hcd : (y == ("__classdict__" : Str)) = false := by decide) (hK : c.K = X.K := by rfl)
    (hdb : (x == ("__debug__" : Str)) = false := by decide) (he : starEach (.Name y py :: es) X.env = (false, eval (.Name y py) X.env) :: starEach es X.env := by rfl) (hpl : (backTo pos (starEach es X.env)).any (·.1) = false := by rfl) : PE X (.Call (.Name x p) (.Name y py :: es) [] pos) (tF c (wCallIF i n w wa)) :=
  PE.imp (pe_call F hr hg hm hk hb .nil hx (pa_cons (pe_var hN hv hd hcd) ha he) hdb he hpl) (callIF_imp hK)
end
section
variable {P : Program} {w : World} {K : PySem.W.Frag} {mg : Str → Option Value} {base : Heap} {x qual : Str} {st : Stmt} {f : Addr} {fd : FuncData} {N ps : List Str} {k : Nat}
def slotsI (N : List Str) (ns : List Int) (ds : List D) : List Sl := .ints ns :: (ds.map Sl.dat ++ List.replicate (N.length - (ds.length + 1)) .un)
theorem slotsI_get {N : List Str} {ns : List Int} {ds : List D} {i : Nat} {s : Sl} (h : (slotsI N ns ds)[i]? = some s) : (i = 0 ∧ s = .ints ns) ∨ (∃ j d, i = j + 1 ∧ s = .dat d ∧ ds[j]? = some d) ∨ s = .un := by
  cases i with
  | zero => exact .inl ⟨rfl, (Option.some.inj h).symm⟩
  | succ j =>
    have h : (ds.map Sl.dat ++ List.replicate (N.length - (ds.length + 1)) Sl.un)[j]? = some s := h
    by_cases hi : j < ds.length
    · rw [List.getElem?_append_left (by simpa using hi), List.getElem?_map] at h
      cases e : ds[j]? with
      | none => rw [e] at h; cases h
      | some a => rw [e] at h; cases h; exact .inr (.inl ⟨j, a, rfl, rfl, e⟩)
    · rw [List.getElem?_append_right (by simpa using hi), List.getElem?_replicate] at h
      split at h
      · exact .inr (.inr (Option.some.inj h).symm)
      · cases h
/-- what a body means, as a def's promise -/
def dN (N : List Str) (wb : SW) : PN := fun ds Q => wb ⟨fun _ => Q (.d .none), fun r _ => Q r, fun _ => False, fun _ => False⟩ (slots N ds)
def dP (N : List Str) (wb : SW) : PP := fun ps ds Q => wb ⟨fun ρ => ∃ ps', ρ[0]? = some (.own ps') ∧ Q (.d .none) ps', fun r ρ => ∃ ps', ρ[0]? = some (.own ps') ∧ Q r ps', fun _ => False, fun _ => False⟩ (slotsP N ps ds)
def dI (N : List Str) (wb : SW) : PI' := fun ns ds Q => wb ⟨fun _ => Q (.d .none), fun r _ => Q r, fun _ => False, fun _ => False⟩ (slotsI N ns ds)
theorem okN {n : Nat} (F : Fun K x qual st f fd) (S : FnScope N ps (defScope st)) (M : List Nat) (wb : SW) (hn : ps.length = n) (hM : ∀ i, i ∈ M → n ≤ i)
    (hbody : ∀ (cdv : Value) (A : Around) (outer : List Env) (s : Shared) (H : Hp) (E : XK), Room k (A.deeper (envOfC qual (defScope st) s.heap.objs.size f cdv)) → PSs (cxOf CX0 P w K mg base N qual (defScope st) f cdv A outer s H E).nox (defBody st) (sD ⟨w, K, M, none, H⟩ wb)) : FnOk P w K mg base CX0 (k + 1) f fd ps (spN K n (dN N wb)) :=
  defN F S M wb hn hM hbody fun _ _ _ h => h
theorem okP {n : Nat} (F : Fun K x qual st f fd) (S : FnScope N ps (defScope st)) (M : List Nat) (wb : SW) (hn : ps.length = n + 1) (hM : ∀ i, i ∈ M → i = 0 ∨ n + 1 ≤ i) (h0 : 0 ∈ M)
    (hbody : ∀ (cdv : Value) (A : Around) (outer : List Env) (s : Shared) (H : Hp) (E : XK) (a : Addr), Room k (A.deeper (envOfC qual (defScope st) s.heap.objs.size f cdv)) → PSs (cxOf CX0 P w K mg base N qual (defScope st) f cdv A outer s H E).nox (defBody st) (sD ⟨w, K, M, some a, H⟩ wb)) : FnOk P w K mg base CX0 (k + 1) f fd ps (spP K n (dP N wb)) :=
  defP F S M wb hn hM h0 hbody fun _ _ _ _ h => h
theorem okI {n : Nat} (F : Fun K x qual st f fd) (S : FnScope N ps (defScope st)) (M : List Nat) (wb : SW) (hn : ps.length = n + 1) (hM : ∀ i, i ∈ M → n + 1 ≤ i)
    (hbody : ∀ (cdv : Value) (A : Around) (outer : List Env) (s : Shared) (H : Hp) (E : XK), Room k (A.deeper (envOfC qual (defScope st) s.heap.objs.size f cdv)) → PSs (cxOf CX0 P w K mg base N qual (defScope st) f cdv A outer s H E).nox (defBody st) (sD ⟨w, K, M, none, H⟩ wb)) : FnOk P w K mg base CX0 (k + 1) f fd ps (spI K n (dI N wb)) := by
  refine F.ok S (fun vs H Q E h => ?_) (fun cdv A outer s H vs Q E hr h => ?_)
  · obtain ⟨a, vr, ns, ds, Q0, rfl, _, ia, hl, _⟩ := h
    rw [List.length_cons, ia.length, hl, hn]
  · obtain ⟨a, vr, ns, ds, Q0, rfl, ha, ia, hl, hq, k⟩ := h
    have hlv : vr.length = n := by rw [ia.length, hl]
    have hNn : n + 1 ≤ N.length := by have := congrArg List.length S.pre; rw [List.length_take] at this; omega
    have s0 : (L2.start N (.ref a :: vr))[0]? = some (some (.ref a)) := rfl
    refine ⟨_, hbody cdv A outer s H E hr, slotsI N ns ds, _, ?_, hq, fun ρ' σ' H' q fx E' => ?_, fun r ρ' σ' v H' q fx E' rv => ?_, fun _ _ _ q => q.elim, fun _ _ _ q => q.elim⟩
    · refine ⟨?_, fun i s y h1 h2 => ?_, fun i ds h1 => ?_, fun i j ds es a h1 => ?_, fun i ds a h1 => ?_, fun b o h _ => h, fun a h => ?_, fun i a hi h => ?_, fun h => absurd rfl h, fun i ks a h1 => ?_, fun i ks h1 => ?_, fun i j ks ls h1 => ?_⟩
      · unfold L2.start slotsI
        simp only [List.length_append, List.length_map, List.length_replicate, List.length_cons]
        omega
      · rcases slotsI_get h1 with ⟨rfl, rfl⟩ | ⟨j, d, rfl, rfl, hd⟩ | rfl
        · rw [s0] at h2
          cases h2
          exact ⟨a, rfl, ha⟩
        · obtain ⟨v, rfl, hv⟩ := start_dat (by rw [List.length_cons, hlv, ← hl]; have := (List.getElem?_eq_some_iff.mp hd).1; omega) h2
          obtain ⟨v', hv', iv⟩ := ia.get hd
          have hv2 : vr[j]? = some v := hv
          rw [hv2] at hv'
          cases hv'
          exact ⟨v, rfl, iv⟩
        · trivial
      · rcases slotsI_get h1 with ⟨_, e⟩ | ⟨j, d, _, e, _⟩ | e <;> cases e
      · rcases slotsI_get h1 with ⟨_, e⟩ | ⟨j, d, _, e, _⟩ | e <;> cases e
      · rcases slotsI_get h1 with ⟨_, e⟩ | ⟨j, d, _, e, _⟩ | e <;> cases e
      · cases h
      · have hlt := (List.getElem?_eq_some_iff.mp (start_get h)).1
        rw [List.length_cons] at hlt
        have := hM i hi
        omega
      · rcases slotsI_get h1 with ⟨_, e⟩ | ⟨j, d, _, e, _⟩ | e <;> cases e
      · rcases slotsI_get h1 with ⟨_, e⟩ | ⟨j, d, _, e, _⟩ | e <;> cases e
      · rcases slotsI_get h1 with ⟨_, e⟩ | ⟨j, d, _, e, _⟩ | e <;> cases e
    · exact k (.d .none) .non H' q (fun b o h => E'.keep b o h (by simp)) .non
    · exact k r v H' q (fun b o h => E'.keep b o h (by simp)) rv
/-! ### keywords, in the parameters' order -/
def permL {α : Type} (is : List Nat) (l : List α) : List α := is.filterMap fun i => l[i]?
def kG {α : Type} (n : Nat) (is : List Nat) (us ws : List α) : List α := if us.isEmpty && ws.length == n then permL is ws else []
theorem vals_perm {zs : List V} {ws : List Value} (r : Vals zs ws) : ∀ is : List Nat, Vals (permL is zs) (permL is ws)
  | [] => .nil
  | i :: is => by
    have ih := vals_perm r is
    unfold permL at ih ⊢
    cases e : zs[i]? with
    | none =>
      have : ws[i]? = none := by rw [List.getElem?_eq_none_iff, ← r.length]; exact List.getElem?_eq_none_iff.mp e
      rw [List.filterMap_cons_none e, List.filterMap_cons_none this]; exact ih
    | some v =>
      obtain ⟨u, hu, ru⟩ := r.get e
      rw [List.filterMap_cons_some e, List.filterMap_cons_some hu]; exact .cons ru ih
theorem all_perm {H : Hp} {zs : List V} {ds : List D} (r : IsAll K H zs ds) : ∀ is : List Nat, IsAll K H (permL is zs) (permL is ds)
  | [] => .nil
  | i :: is => by
    have ih := all_perm r is
    unfold permL at ih ⊢
    cases e : ds[i]? with
    | none =>
      have : zs[i]? = none := by rw [List.getElem?_eq_none_iff, r.length]; exact List.getElem?_eq_none_iff.mp e
      rw [List.filterMap_cons_none e, List.filterMap_cons_none this]; exact ih
    | some v =>
      obtain ⟨u, hu, ru⟩ := r.get e
      rw [List.filterMap_cons_some e, List.filterMap_cons_some hu]; exact .cons ru ih
theorem kG_all {H : Hp} {zs : List V} {ds : List D} {n : Nat} {is : List Nat} (r : IsAll K H zs ds) : IsAll K H (kG n is [] zs) (kG n is [] ds) := by
  show IsAll K H (if (true && zs.length == n) = true then permL is zs else []) (if (true && ds.length == n) = true then permL is ds else [])
  rw [r.length]
  by_cases e : (true && ds.length == n) = true
  · rw [if_pos e, if_pos e]; exact all_perm r is
  · rw [if_neg e, if_neg e]; exact .nil
theorem Fun.kb (F : Fun K x qual st f fd) {ks : List Str} {is : List Nat} (h0 : ps ≠ [])
    (h : ∀ (kV doc pm : Value) (an : Option Addr) (cdv ct : Value) (ws : List Value), ws.length = ks.length → bindArgs (PySem.W.fnOf x qual (defArgs st) (defBody st) (defScope st) .none kV doc pm an cdv ct) ⟨[], ks.zip ws⟩ = pure (ps.zip (permL is ws))) : KBinds K fd ps ks (kG ks.length is) (kG ks.length is) := by
  obtain ⟨oc, od, kV, doc, pm, an, cdv, ct, osl, rfl, lk, hcd⟩ := F.ex
  refine ⟨fun s us ws _ hl => ?_, fun {vs us zs ws} r1 r2 => ?_⟩
  · unfold kG at hl ⊢
    split at hl
    · rename_i hc
      rw [if_pos hc]
      simp only [Bool.and_eq_true, List.isEmpty_iff, beq_iff_eq] at hc
      rw [hc.1]
      exact .of_eq (h kV doc pm an cdv ct ws hc.2)
    · exact absurd (List.length_eq_zero_iff.mp hl.symm) h0
  · unfold kG
    have e1 : vs.isEmpty = us.isEmpty := by cases r1 <;> rfl
    rw [e1, r2.length]
    split
    · exact vals_perm r2 is
    · exact .nil
end
end DL
namespace DL
open PySem PySem.Spec PyProof.Rows L2
/-! ### where nothing is being shown: defs that use repr -/
def Gd (A : Around) : Prop := A.guards = some []
structure FnG (P : Program) (w : World) (K : PySem.W.Frag) (mg : Str → Option Value) (base : Heap) (CX : CXT) (k : Nat) (f : Addr) (fd : FuncData) (ps : List Str) (sp : Sp) : Prop where
  ln : ∀ vs H Q E, sp vs H Q E → vs.length = ps.length
  go : ∀ (A : Around) (st : List Env) (s : Shared) (H : Hp) (args : Args) (us : List Value) (vs : List V) (Q : VK) (E : XK), Gd A → Room k A → Env0 P w K mg base A st s H → BindsTo s fd args (ps.zip us) → Vals vs us → sp vs H Q E → codeAny (model P w) A (.call (.ref f) args) (CR CX st P w H s Q E) s
theorem FnG.of {P : Program} {w : World} {K : PySem.W.Frag} {mg : Str → Option Value} {base : Heap} {CX : CXT} {k : Nat} {f : Addr} {fd : FuncData} {ps : List Str} {sp : Sp} (F : FnOk P w K mg base CX k f fd ps sp) : FnG P w K mg base CX k f fd ps sp :=
  ⟨F.len, fun A st s H args us vs Q E _ hr => F.run A st s H args us vs Q E hr⟩
section
variable {X : Cx} {c : Ctx} {e a b b3 l tg : Expr} {es : List Expr} {pos : Pos}
variable {CX : CXT} {k : Nat} {f : Addr} {fd : FuncData} {ps : List Str} {sp : Sp} {x : Str} {p : Pos} {E0' : XK} {t : TA}
theorem pg_call (F : FnG X.prog X.w X.K X.mg X.base CX k f fd ps sp) (hg : Gd X.A) (hr : Room k X.A) (gl : Gl X x) (hm : X.mg x = some (.ref f)) (hk : PySem.W.keepIn X.K (.ref f) = true) (hb : Binds X.K fd ps []) (hx : Passes CX X E0') (ha : PA X (e :: es) t)
    (hdb : (x == ("__debug__" : Str)) = false := by decide) (he : starEach (e :: es) X.env = (false, eval e X.env) :: starEach es X.env := by rfl) (hpl : (backTo pos (starEach es X.env)).any (·.1) = false := by rfl) : PE X (.Call (.Name x p) (e :: es) [] pos) (tCall sp [] E0' t) := by
  refine ⟨fun pins s σ H Q I h => wpAny_Call_Name_kw (ld_glob I gl hm (PySem.W.callWith_K (h₀ := X.base) I.ok.mod.kin hk (thn (ha.run pos pins s σ H _ I h) fun us s1 ⟨vs, H1, I1, r, q⟩ => ⟨I1.kIn, ?_⟩) he hpl) hdb)⟩
  have q : sp vs H1 Q E0' := by
    have z : sp (vs ++ []) H1 Q E0' := q
    rwa [List.append_nil] at z
  have hl : us.length = ps.length := r.length ▸ F.ln _ _ _ _ q
  have bt : BindsTo s1 fd ⟨us, []⟩ (ps.zip us) := by
    have z := hb s1 us I1.kIn (by rw [List.append_nil]; exact hl)
    rw [List.append_nil] at z
    exact z
  refine wpAny_call (codeAny_mono (F.go X.A X.stack s1 H1 ⟨us, []⟩ us vs Q E0' hg hr I1.env0 bt r q) fun out s' z => ?_)
  match out, z with
  | .error x, z => exact hx pins σ H1 s1 x s' I1 z
  | .ok (.ret u), z => exact I1.after z
theorem de_callG {n : Nat} {w : PN} {wa : LW} (F : FnG X.prog X.w X.K X.mg X.base CX k f fd ps (spN X.K n w)) (hg : Gd X.A) (hr : Room k X.A) (gl : Gl X x) (hm : X.mg x = some (.ref f)) (hk : PySem.W.keepIn X.K (.ref f) = true) (hb : Binds X.K fd ps []) (hx : Passes CX X E0') (ha : PA X (e :: es) (tA c wa)) (hK : c.K = X.K := by rfl)
    (hdb : (x == ("__debug__" : Str)) = false := by decide) (he : starEach (e :: es) X.env = (false, eval e X.env) :: starEach es X.env := by rfl) (hpl : (backTo pos (starEach es X.env)).any (·.1) = false := by rfl) : PE X (.Call (.Name x p) (e :: es) [] pos) (tD c (wCall n w wa)) :=
  PE.imp (pg_call F hg hr gl hm hk hb hx ha hdb he hpl) (call_imp hK)
/-! ### repr -/
mutual
theorem plain_noDict : ∀ d : D, d.plain = true → d.hasDict = false
  | .none, _ => rfl
  | .bool _, _ => rfl
  | .int _, _ => rfl
  | .str _, _ => rfl
  | .list ds, h => by
    simp only [PyData.plain] at h
    simp only [PyData.hasDict]
    exact plain_noDicts ds h
  | .tuple ds, h => by
    simp only [PyData.plain] at h
    simp only [PyData.hasDict]
    exact plain_noDicts ds h
  | .dict es, h => (plain_dict_false h).elim
theorem plain_noDicts : ∀ ds : List D, PyData.plainAll ds = true → PyData.hasDictAll ds = false
  | [], _ => rfl
  | d :: ds, h => by
    simp only [PyData.plainAll, Bool.and_eq_true] at h
    simp only [PyData.hasDictAll, plain_noDict d h.1, plain_noDicts ds h.2, Bool.or_self]
end
def reprD (d : D) : Option D := if (d.showable && d.plain && decide (d.depth ≤ 100) && decide (d.shown.length ≤ sizeLine)) = true then some (.str d.shown) else none
def reprA : List D → Option D
  | [d] => reprD d
  | _ => none
theorem cr_repr (hg : Gd X.A) (hu : X.A.units + 120 < cLine) : CallR X (.builtin "repr") (rCl X.K reprA) := by
  intro pins s σ H xs us Q I r h
  obtain ⟨ds, r', hd, hr, q⟩ := h
  cases hd with
  | nil => exact nomatch hr
  | @cons v vs d ds h1 h2 =>
    cases h2 with
    | cons _ _ => exact nomatch hr
    | nil =>
      obtain ⟨u, rfl, ru⟩ := vals1 r
      have hr : (if (d.showable && d.plain && decide (d.depth ≤ 100) && decide (d.shown.length ≤ sizeLine)) = true then some (PyData.str d.shown) else none) = some r' := hr
      split at hr
      · rename_i hz
        simp only [Bool.and_eq_true, decide_eq_true_eq] at hz
        obtain ⟨⟨⟨z1, z2⟩, z3⟩, z4⟩ := hz
        cases hr
        have obj : ∀ a, v = .ref a → wpAny (model X.prog X.w) X.A (call (.builtin "repr") [u]) (EP X pins σ Q) X.xe s := fun a e => by
          subst e
          cases ru
          obtain ⟨as, rd⟩ := Dp.reads I d (.ref a) _ (Is.dp d _ z2 h1) rfl
          refine repr_of_reads' (h₀ := s.heap) rd z1 (fun z => ?_) hg (by omega) (fun _ _ z => z) (fun h' u' tk hk => ⟨.str _, H, I.kept (t' := tk) hk, ⟨_, rfl⟩, q _ H (Same.refl H) (.str _)⟩) z4
          exact absurd z (by rw [plain_noDict d z2]; decide)
        cases h1 with
        | non => cases ru; exact P.repr_of_none ⟨.str _, H, I.kept (t' := s.toks + 1) fun _ _ e => e, ⟨_, rfl⟩, q _ H (Same.refl H) (.str _)⟩
        | bl i => cases ru; exact P.repr_of_bool ⟨.str _, H, I.kept (t' := s.toks + 1) fun _ _ e => e, ⟨_, rfl⟩, q _ H (Same.refl H) (.str _)⟩
        | int i =>
          obtain ⟨t, rfl⟩ := ru
          exact P.repr_of_int (of_decide_eq_true z1) ⟨.str _, H, I.kept (t' := s.toks + 1) fun _ _ e => e, ⟨_, rfl⟩, q _ H (Same.refl H) (.str _)⟩
        | str i =>
          obtain ⟨t, rfl⟩ := ru
          exact P.repr_of_str ⟨.str _, H, I.kept (t' := s.toks + 1) fun _ _ e => e, ⟨_, rfl⟩, q _ H (Same.refl H) (.str _)⟩ z4
        | lst _ _ => exact obj _ rfl
        | tup _ _ => exact obj _ rfl
        | dct _ _ => exact obj _ rfl
      · cases hr
end
end DL
namespace DL
open PySem PySem.Spec PyProof.Rows L2
section
variable {P : Program} {w : World} {K : PySem.W.Frag} {mg : Str → Option Value} {base : Heap} {x qual : Str} {st : Stmt} {f : Addr} {fd : FuncData} {N ps : List Str} {k : Nat} {sp : Sp}
/-- a def by its body, where nothing is being shown -/
theorem fnG_of (F : Fun K x qual st f fd) (S : FnScope N ps (defScope st)) (ln : ∀ vs H Q E, sp vs H Q E → vs.length = ps.length)
    (body : ∀ (cdv : Value) (A : Around) (stk : List Env) (s : Shared) (H : Hp) (vs : List V) (Q : VK) (E : XK), Gd A → Room k (A.deeper (envOfC qual (defScope st) s.heap.objs.size f cdv)) → sp vs H Q E →
      ∃ t, PSs (cxOf CX0 P w K mg base N qual (defScope st) f cdv A stk s H E).nox (defBody st) t ∧ t { nx := fun _ H' => Q .non H', rt := Q } (L2.start N vs) H) : FnG P w K mg base CX0 (k + 1) f fd ps sp := by
  obtain ⟨oc, od, kV, doc, pm, an, cdv, ct, osl, rfl, lk, code⟩ := F.ex
  refine ⟨ln, fun A stk s H args us vs Q E gd room env bind rel want => ?_⟩
  have long := ln _ _ _ _ want
  have old : ∀ b o, base.get? b = some o → s.heap.get? b = some o := fun b o e => (env.bs b o e).1
  have kinds : ∀ y ∈ ps.zip us, (defScope st).names.lookup y.1 = some .local ∨ ((defScope st).names.lookup y.1 = some .cell ∧ ((cellsFrom (s.heap.objs.size + 1) (defScope st).names []).lookup y.1).isSome = true) := by
    rintro ⟨n, v⟩ hy
    exact (S.par n (List.of_mem_zip hy).1).imp id fun q => ⟨q, PySem.W.cellsFrom_some _ _ _ (.inl q)⟩
  refine codeAny_call_function room.depth (env.mod.kin.keeps old _ _ lk) rfl S.co S.gen rfl (PySem.W.codeRec_of (env.mod.kin.keeps old) code) (bind _ _ _ _ (wpAny_newFunctionEnv_cells S.kind kinds fun e1 he s1 call => ?_))
  subst he
  refine ⟨(env.mod.nolimit.keeps old).keeps call.toInCall.keep, codeAny_func ?_⟩
  obtain ⟨t, run, reads⟩ := body cdv A stk s H vs Q E gd (room.deeper _) want
  refine wpAny_mono (run.nox.run [] s1 (L2.start N vs) H _ (inv_start S room.hd env long rel call) reads) (fun out s' z => ?_) fun _ _ z => z
  have done : ∀ {σ' : L2.St} {H' : Hp} {v : V} {u : Value}, Inv (cxOf CX0 P w K mg base N qual (defScope st) f cdv A stk s H E) [] σ' H' s' → RelV v u → Q v H' → CE stk P w H s Q u s' := fun J rv q => ⟨_, _, J.os, J.bare, J.base, J.hok, rv, q⟩
  cases out with
  | ret u => let ⟨_, _, _, J, rv, q⟩ := z; exact done J rv q
  | next => let ⟨_, _, J, q⟩ := z; exact done (v := .non) (u := .none) J rfl q
  | brk => let ⟨_, _, _, q⟩ := z; exact q.elim
  | cont => let ⟨_, _, _, q⟩ := z; exact q.elim
/-- the law's def, called at the end of the top -/
theorem law_goG {mb : Str → Option Value} {fa a : Addr} {s₁ : Shared} {vs : List Value} {ns : List Int} (kin : K.In s₁.heap) (glob : s₁.heap.Ns mainGlobals mg) (blt : s₁.heap.Ns builtinsNs mb) (boot : ∀ x : Str, x ≠ "__name__" → mb x = bootBuiltins x) (lim : s₁.heap.NoLimit) (gens : s₁.gens = #[])
    (obj : s₁.heap.get? a = some { cls := .type "list", data := .seq vs.toArray }) (whole : IntsAre vs ns) (short : ns.length ≤ sizeLine) (room : Room k callerA)
    (F : ∀ base : Heap, K.In base → base.Ns mainGlobals mg → FnG P w K mg base CX0 k fa fd [x] sp) (bind : ∀ (s : Shared) (u : Value), BindsTo s fd ⟨[u], []⟩ [(x, u)])
    (true_ : ∀ H : Hp, Only H → SqL K H a (ns.map V.int) → sp [.ref a] H (fun v _ => v = .bl true) fun _ _ _ => False) :
    codeAny (model P w) callerA (.call (.ref fa) ⟨[.ref a], []⟩) (fun r s' => r = .ok (.ret (.bool true)) ∧ OldK s₁.heap s'.heap ∧ s'.os = s₁.os ∧ AllBare s'.gens) s₁ := by
  have rv := vals_ints whole
  have step : ∀ H : Hp, Only H → SqL K H a (ns.map V.int) → HOk P w H s₁.heap → (∀ b, H b ≠ none → b = a ∧ K.lookup a = none) →
      codeAny (model P w) callerA (.call (.ref fa) ⟨[.ref a], []⟩) (fun r s' => r = .ok (.ret (.bool true)) ∧ OldK s₁.heap s'.heap ∧ s'.os = s₁.os ∧ AllBare s'.gens) s₁ := by
    intro H only seq hok alone
    have dicts : ∀ {b : Addr} {o : Obj} {es : Array DictEntry} {ep : Nat}, s₁.heap.get? b = some o → o.data = .dict es ep → H b = none := fun {b o es ep} e d => by
      cases q : H b with
      | none => rfl
      | some u =>
        obtain ⟨rfl, _⟩ := alone b (by rw [q]; exact fun z => by cases z)
        rw [obj] at e; cases e
        exact absurd d fun z => by cases z
    have ns' : ∀ {b : Addr} {m : Str → Option Value}, s₁.heap.Ns b m → (hidT s₁.heap H).Ns b m := fun ⟨o, es, ep, e, d, r⟩ => ⟨o, es, ep, hidT_get e (dicts e d), d, r⟩
    have kin' : K.In (hidT s₁.heap H) := fun b o e => hidT_get (kin b o e) (by
      cases q : H b with
      | none => rfl
      | some u =>
        obtain ⟨rfl, z⟩ := alone b (by rw [q]; exact fun z => by cases z)
        rw [z] at e; cases e)
    have md : Mod K mg (hidT s₁.heap H) := ⟨kin', ns' glob, ⟨mb, ns' blt, boot⟩, let ⟨mc, h1, h2⟩ := lim; ⟨mc, ns' h1, h2⟩⟩
    have env : Env0 P w K mg (hidT s₁.heap H) callerA [] s₁ H := ⟨rfl, md, fun b o e => of_hidT e, Nat.le_of_eq (hidT_size _ _), trivial, fun b hb => absurd (show b ∈ ([] : List Addr) from hb) (by simp), hok, .of_eq gens⟩
    refine codeAny_mono ((F _ kin' (ns' glob)).go callerA [] s₁ H ⟨[.ref a], []⟩ [.ref a] [.ref a] _ _ rfl room env (bind s₁ (.ref a)) (.cons rfl .nil) (true_ H only seq)) fun r s' h => ?_
    obtain ⟨u, rfl, h⟩ : ∃ u, r = .ok (.ret u) ∧ CE [] P w H s₁ (fun v _ => v = .bl true) u s' := by
      cases r with
      | error e => exact h.elim
      | ok fl =>
        cases fl with
        | ret u => exact ⟨u, rfl, h⟩
        | _ => exact h.elim
    · obtain ⟨v, H', os, bare, un, hok', r', q⟩ := h
      have q' : v = .bl true := q
      subst q'
      obtain rfl : u = Value.bool true := r'
      refine ⟨rfl, OldK.of_keep fun b o e => ?_, os, bare⟩
      cases q : H b with
      | none => exact un.keep b o e q (fun z => absurd (show b ∈ ([] : List Addr) from z) (by simp)) (by simp)
      | some u =>
        rcases only b with z | ⟨ob, xs, z⟩
        · rw [q] at z; cases z
        · have e1 := (hok b _ z).1
          have e2 := (hok' b _ (un.frzs b ob _ z)).1
          rw [e] at e1; cases e1
          exact e2
  cases hk : K.lookup a with
  | some o =>
    have e := kin a o hk
    rw [obj] at e
    cases e
    exact step (fun _ => none) (fun _ => .inl rfl) (.inr ⟨_, vs.toArray, _, hk, rfl, rfl, rfl, by rw [List.size_toArray, whole.length]; exact short, by simpa using rv⟩) (fun b u z => (nomatch z)) fun b z => absurd rfl z
  | none =>
    refine step (fun b => if b = a then some (.frz { cls := .type "list", data := .seq vs.toArray } (.lst (ns.map V.int))) else none) (fun b => ?_) (.inl (.inr ⟨{ cls := .type "list", data := .seq vs.toArray }, if_pos rfl⟩)) (fun b u z => ?_) (fun b z => ?_)
    · exact (Decidable.em (b = a)).elim (fun h => .inr ⟨_, _, if_pos h⟩) fun h => .inl (if_neg h)
    · by_cases hb : b = a
      · subst hb
        have z' := (if_pos rfl).symm.trans z
        cases z'
        exact ⟨obj, by rw [List.length_map]; exact short, vs, _, rv, obj⟩
      · exact nomatch (if_neg hb).symm.trans z
    · exact ⟨Decidable.byContradiction fun hb => absurd (if_neg hb) z, hk⟩
theorem defNG {n : Nat} {w' : PN} (F : Fun K x qual st f fd) (S : FnScope N ps (defScope st)) (M : List Nat) (wb : SW) (hn : ps.length = n) (hM : ∀ i, i ∈ M → n ≤ i)
    (hbody : ∀ (cdv : Value) (A : Around) (outer : List Env) (s : Shared) (H : Hp) (E : XK), Gd A → Room k (A.deeper (envOfC qual (defScope st) s.heap.objs.size f cdv)) → PSs (cxOf CX0 P w K mg base N qual (defScope st) f cdv A outer s H E).nox (defBody st) (sD ⟨w, K, M, none, H⟩ wb))
    (hw : ∀ ds Q0, ds.length = n → w' ds Q0 → wb ⟨fun _ => Q0 (.d .none), fun r _ => Q0 r, fun _ => False, fun _ => False⟩ (slots N ds)) : FnG P w K mg base CX0 (k + 1) f fd ps (spN K n w') := by
  refine fnG_of F S (fun vs H Q E h => ?_) (fun cdv A outer s H vs Q E gd hr h => ?_)
  · obtain ⟨ds, Q0, ia, hl, _⟩ := h
    rw [ia.length, hl, hn]
  · obtain ⟨ds, Q0, ia, hl, hq, k⟩ := h
    have hlv : vs.length = n := by rw [ia.length, hl]
    have hNn : n ≤ N.length := by have := congrArg List.length S.pre; rw [List.length_take] at this; omega
    refine ⟨_, hbody cdv A outer s H E gd hr, slots N ds, _, ?_, hw ds Q0 hl hq, fun ρ' σ' H' q fx E' => ?_, fun r ρ' σ' v H' q fx E' rv => ?_, fun _ _ _ q => q.elim, fun _ _ _ q => q.elim⟩
    · refine ⟨?_, fun i s y h1 h2 => ?_, fun i ds h1 => ?_, fun i j ds es a h1 => ?_, fun i ds a h1 => ?_, fun b o h _ => h, fun a h => ?_, fun i a hi h => ?_, fun h => absurd rfl h, fun i ks a h1 => ?_, fun i ks h1 => ?_, fun i j ks ls h1 => ?_⟩
      · unfold L2.start slots
        simp only [List.length_append, List.length_map, List.length_replicate]
        omega
      · rcases slots_get h1 with ⟨d, rfl, hd⟩ | rfl
        · obtain ⟨v, rfl, hv⟩ := start_dat (by rw [hlv, ← hl]; exact (List.getElem?_eq_some_iff.mp hd).1) h2
          obtain ⟨v', hv', iv⟩ := ia.get hd
          rw [hv] at hv'
          cases hv'
          exact ⟨v, rfl, iv⟩
        · trivial
      · rcases slots_get h1 with ⟨d, e, _⟩ | e <;> cases e
      · rcases slots_get h1 with ⟨d, e, _⟩ | e <;> cases e
      · rcases slots_get h1 with ⟨d, e, _⟩ | e <;> cases e
      · cases h
      · have := (List.getElem?_eq_some_iff.mp (start_get h)).1
        have := hM i hi
        omega
      · rcases slots_get h1 with ⟨d, e, _⟩ | e <;> cases e
      · rcases slots_get h1 with ⟨d, e, _⟩ | e <;> cases e
      · rcases slots_get h1 with ⟨d, e, _⟩ | e <;> cases e
    · exact k (.d .none) .non H' q (fun b o h => E'.keep b o h (by simp)) .non
    · exact k r v H' q (fun b o h => E'.keep b o h (by simp)) rv
theorem defPG {n : Nat} {w' : PP} (F : Fun K x qual st f fd) (S : FnScope N ps (defScope st)) (M : List Nat) (wb : SW) (hn : ps.length = n + 1) (hM : ∀ i, i ∈ M → i = 0 ∨ n + 1 ≤ i) (h0 : 0 ∈ M)
    (hbody : ∀ (cdv : Value) (A : Around) (outer : List Env) (s : Shared) (H : Hp) (E : XK) (a : Addr), Gd A → Room k (A.deeper (envOfC qual (defScope st) s.heap.objs.size f cdv)) → PSs (cxOf CX0 P w K mg base N qual (defScope st) f cdv A outer s H E).nox (defBody st) (sD ⟨w, K, M, some a, H⟩ wb))
    (hw : ∀ ps ds Q0, ds.length = n → w' ps ds Q0 → wb ⟨fun ρ => ∃ ps', ρ[0]? = some (.own ps') ∧ Q0 (.d .none) ps', fun r ρ => ∃ ps', ρ[0]? = some (.own ps') ∧ Q0 r ps', fun _ => False, fun _ => False⟩ (slotsP N ps ds)) : FnG P w K mg base CX0 (k + 1) f fd ps (spP K n w') := by
  refine fnG_of F S (fun vs H Q E h => ?_) (fun cdv A outer s H vs Q E gd hr h => ?_)
  · obtain ⟨a, vr, xs, ps', ds, Q0, rfl, _, _, ia, hl, _⟩ := h
    rw [List.length_cons, ia.length, hl, hn]
  · obtain ⟨a, vr, xs, pl, ds, Q0, rfl, ha, ip, ia, hl, hq, k⟩ := h
    have hlv : vr.length = n := by rw [ia.length, hl]
    have hNn : n + 1 ≤ N.length := by have := congrArg List.length S.pre; rw [List.length_take] at this; omega
    have s0 : (L2.start N (.ref a :: vr))[0]? = some (some (.ref a)) := rfl
    have fin : ∀ {ρ' : List Sl} {σ' : Sg} {H' : Hp} {v : V} {r : Rv}, (∃ ps', ρ'[0]? = some (.own ps') ∧ Q0 r ps') → En ⟨w, K, M, some a, H⟩ H' σ' ρ' → RvIs K H H' v r → Q v H' := fun {ρ' σ' H' v r} q E' rv => by
      obtain ⟨ps', h1, q⟩ := q
      obtain ⟨y, hy, b, ys, rfl, hb, iy⟩ := E'.at h1
      have e := E'.potS a rfl
      rw [hy] at e
      cases e
      exact k r ps' v H' ys q (fun b o hb h => E'.keep b o h fun z => hb (Option.some.inj z).symm) hb iy rv
    refine ⟨_, hbody cdv A outer s H E a gd hr, slotsP N pl ds, _, ?_, hw pl ds Q0 hl hq, fun ρ' σ' H' q fx E' => fin q E' .non, fun r ρ' σ' v H' q fx E' rv => fin q E' rv, fun _ _ _ q => q.elim, fun _ _ _ q => q.elim⟩
    refine ⟨?_, fun i s y h1 h2 => ?_, fun i fs h1 => ?_, fun i j fs gs b h1 h2 _ _ => ?_, fun i fs b h1 h2 => ?_, fun b o h _ => h, fun b h => ?_, fun i b hi h => ?_, fun _ => h0, fun i ks a h1 => ?_, fun i ks h1 => ?_, fun i j ks ls h1 => ?_⟩
    · unfold L2.start slotsP
      simp only [List.length_append, List.length_map, List.length_replicate, List.length_cons]
      omega
    · rcases slotsP_get h1 with ⟨rfl, rfl⟩ | ⟨j, d, rfl, rfl, hd⟩ | rfl
      · rw [s0] at h2
        cases h2
        exact ⟨a, xs, rfl, ha, ip⟩
      · obtain ⟨v, rfl, hv⟩ := start_dat (by rw [List.length_cons, hlv, ← hl]; have := (List.getElem?_eq_some_iff.mp hd).1; omega) h2
        obtain ⟨v', hv', iv⟩ := ia.get hd
        have hv2 : vr[j]? = some v := hv
        rw [hv2] at hv'
        cases hv'
        exact ⟨v, rfl, iv⟩
      · trivial
    · rcases slotsP_get h1 with ⟨rfl, _⟩ | ⟨j, d, _, e, _⟩ | e
      · exact h0
      · cases e
      · cases e
    · have z : ∀ {m : Nat} {l : List D}, (slotsP N pl ds)[m]? = some (Sl.own l) → m = 0 := fun {m l} h => by
        rcases slotsP_get h with ⟨rfl, _⟩ | ⟨j, d, _, e, _⟩ | e
        · rfl
        · cases e
        · cases e
      rw [z h1, z h2]
    · rcases slotsP_get h1 with ⟨rfl, _⟩ | ⟨j, d, _, e, _⟩ | e
      · rw [s0] at h2
        cases h2
        exact .inr ⟨rfl, rfl⟩
      · cases e
      · cases e
    · cases h; exact s0
    · have hlt := (List.getElem?_eq_some_iff.mp (start_get h)).1
      rw [List.length_cons] at hlt
      rcases hM i hi with rfl | h'
      · rw [s0] at h
        cases h
        rw [ha]; rfl
      · omega
    · rcases slotsP_get h1 with ⟨_, e⟩ | ⟨j, d, _, e, _⟩ | e <;> cases e
    · rcases slotsP_get h1 with ⟨_, e⟩ | ⟨j, d, _, e, _⟩ | e <;> cases e
    · rcases slotsP_get h1 with ⟨_, e⟩ | ⟨j, d, _, e, _⟩ | e <;> cases e
theorem okIG {n : Nat} (F : Fun K x qual st f fd) (S : FnScope N ps (defScope st)) (M : List Nat) (wb : SW) (hn : ps.length = n + 1) (hM : ∀ i, i ∈ M → n + 1 ≤ i)
    (hbody : ∀ (cdv : Value) (A : Around) (outer : List Env) (s : Shared) (H : Hp) (E : XK), Gd A → Room k (A.deeper (envOfC qual (defScope st) s.heap.objs.size f cdv)) → PSs (cxOf CX0 P w K mg base N qual (defScope st) f cdv A outer s H E).nox (defBody st) (sD ⟨w, K, M, none, H⟩ wb)) : FnG P w K mg base CX0 (k + 1) f fd ps (spI K n (dI N wb)) := by
  refine fnG_of F S (fun vs H Q E h => ?_) (fun cdv A outer s H vs Q E gd hr h => ?_)
  · obtain ⟨a, vr, ns, ds, Q0, rfl, _, ia, hl, _⟩ := h
    rw [List.length_cons, ia.length, hl, hn]
  · obtain ⟨a, vr, ns, ds, Q0, rfl, ha, ia, hl, hq, k⟩ := h
    have hlv : vr.length = n := by rw [ia.length, hl]
    have hNn : n + 1 ≤ N.length := by have := congrArg List.length S.pre; rw [List.length_take] at this; omega
    have s0 : (L2.start N (.ref a :: vr))[0]? = some (some (.ref a)) := rfl
    refine ⟨_, hbody cdv A outer s H E gd hr, slotsI N ns ds, _, ?_, hq, fun ρ' σ' H' q fx E' => ?_, fun r ρ' σ' v H' q fx E' rv => ?_, fun _ _ _ q => q.elim, fun _ _ _ q => q.elim⟩
    · refine ⟨?_, fun i s y h1 h2 => ?_, fun i ds h1 => ?_, fun i j ds es a h1 => ?_, fun i ds a h1 => ?_, fun b o h _ => h, fun a h => ?_, fun i a hi h => ?_, fun h => absurd rfl h, fun i ks a h1 => ?_, fun i ks h1 => ?_, fun i j ks ls h1 => ?_⟩
      · unfold L2.start slotsI
        simp only [List.length_append, List.length_map, List.length_replicate, List.length_cons]
        omega
      · rcases slotsI_get h1 with ⟨rfl, rfl⟩ | ⟨j, d, rfl, rfl, hd⟩ | rfl
        · rw [s0] at h2
          cases h2
          exact ⟨a, rfl, ha⟩
        · obtain ⟨v, rfl, hv⟩ := start_dat (by rw [List.length_cons, hlv, ← hl]; have := (List.getElem?_eq_some_iff.mp hd).1; omega) h2
          obtain ⟨v', hv', iv⟩ := ia.get hd
          have hv2 : vr[j]? = some v := hv
          rw [hv2] at hv'
          cases hv'
          exact ⟨v, rfl, iv⟩
        · trivial
      · rcases slotsI_get h1 with ⟨_, e⟩ | ⟨j, d, _, e, _⟩ | e <;> cases e
      · rcases slotsI_get h1 with ⟨_, e⟩ | ⟨j, d, _, e, _⟩ | e <;> cases e
      · rcases slotsI_get h1 with ⟨_, e⟩ | ⟨j, d, _, e, _⟩ | e <;> cases e
      · cases h
      · have hlt := (List.getElem?_eq_some_iff.mp (start_get h)).1
        rw [List.length_cons] at hlt
        have := hM i hi
        omega
      · rcases slotsI_get h1 with ⟨_, e⟩ | ⟨j, d, _, e, _⟩ | e <;> cases e
      · rcases slotsI_get h1 with ⟨_, e⟩ | ⟨j, d, _, e, _⟩ | e <;> cases e
      · rcases slotsI_get h1 with ⟨_, e⟩ | ⟨j, d, _, e, _⟩ | e <;> cases e
    · exact k (.d .none) .non H' q (fun b o h => E'.keep b o h (by simp)) .non
    · exact k r v H' q (fun b o h => E'.keep b o h (by simp)) rv
theorem okNG {n : Nat} (F : Fun K x qual st f fd) (S : FnScope N ps (defScope st)) (M : List Nat) (wb : SW) (hn : ps.length = n) (hM : ∀ i, i ∈ M → n ≤ i)
    (hbody : ∀ (cdv : Value) (A : Around) (outer : List Env) (s : Shared) (H : Hp) (E : XK), Gd A → Room k (A.deeper (envOfC qual (defScope st) s.heap.objs.size f cdv)) → PSs (cxOf CX0 P w K mg base N qual (defScope st) f cdv A outer s H E).nox (defBody st) (sD ⟨w, K, M, none, H⟩ wb)) : FnG P w K mg base CX0 (k + 1) f fd ps (spN K n (dN N wb)) :=
  defNG F S M wb hn hM hbody fun _ _ _ h => h
theorem okPG {n : Nat} (F : Fun K x qual st f fd) (S : FnScope N ps (defScope st)) (M : List Nat) (wb : SW) (hn : ps.length = n + 1) (hM : ∀ i, i ∈ M → i = 0 ∨ n + 1 ≤ i) (h0 : 0 ∈ M)
    (hbody : ∀ (cdv : Value) (A : Around) (outer : List Env) (s : Shared) (H : Hp) (E : XK) (a : Addr), Gd A → Room k (A.deeper (envOfC qual (defScope st) s.heap.objs.size f cdv)) → PSs (cxOf CX0 P w K mg base N qual (defScope st) f cdv A outer s H E).nox (defBody st) (sD ⟨w, K, M, some a, H⟩ wb)) : FnG P w K mg base CX0 (k + 1) f fd ps (spP K n (dP N wb)) :=
  defPG F S M wb hn hM h0 hbody fun _ _ _ _ h => h
/-- the end: where the law's def keeps its promise, with nothing being shown -/
theorem walkG {l : PySem.W.OpenLaw} {n k : Nat} {q : Program} {loose : List Str} {XP : (Str → Option Value) → Heap → Prop} {YP : World → Heap → Prop} {d : DefRec} {K : Params → PySem.W.Frag} {x : Str} {sp : World → Sp} (most : l.most = some n) (fits : n ≤ sizeLine) (plain : d.params.defaults = []) (room : Room k callerA)
    (hY : ∀ (w : World) (h : Heap), YP w h → (K w.params).In h)
    (F : ∀ (w : World) (mg : Str → Option Value) (fa : Addr) (h : Heap), (K w.params).In h → h.Ns mainGlobals mg → mg d.name = some (.ref fa) →
      ∃ fd : FuncData, (∀ (s : Shared) (u : Value), BindsTo s fd ⟨[u], []⟩ [(x, u)]) ∧ ∀ base : Heap, (K w.params).In base → base.Ns mainGlobals mg → FnG l.prog w (K w.params) mg base CX0 k fa fd [x] (sp w))
    (hsp : ∀ (w : World) (H : Hp) (a : Addr) (ns : List Int), ns.length ≤ n → Only H → SqL (K w.params) H a (ns.map V.int) → sp w [.ref a] H (fun v _ => v = .bl true) fun _ _ _ => False) : PySem.W.WalkO q loose XP YP l.row.toRowW d [] (fun f vs => PySem.call f vs) := by
  refine Att.attach_call most plain fun w _ s₁ mg mb fa o pm cd doc a vs ns G Y _ _ _ named obj whole short gens => ?_
  obtain ⟨fd, bind, keeps⟩ := F w mg fa _ (hY w _ Y) G.T.g named
  exact law_goG (hY w _ Y) G.T.g G.T.b G.T.builtins G.T.nolimit gens obj whole (Nat.le_trans short fits) room keeps bind fun H only seq => hsp w H a ns short only seq
end
end DL
namespace DL
open PySem PySem.Spec PyProof.Rows L2 RT
section
variable {X : Cx} {c : Ctx} {e a b b3 l tg tg1 : Expr} {es : List Expr} {pos : Pos} {st : Stmt} {sts body : List Stmt}
/-! ### comprehensions of two clauses -/
def wLc2 (vs vs1 : List Nat) (wi : LW) (g : GW) (wt : BW) (wi1 : LW) (g1 : GW) (wt1 : BW) (we : DW) : LW := fun ρ Q => wi ρ fun (xs : List D) ρ1 => ∃ W : Nat → List D → List Sl → Prop, W 0 [] (wipeS ρ1 vs) ∧
  (∀ (i : Nat) (x : D) (acc : List D) (ρ2 : List Sl), xs[i]? = some x → W i acc ρ2 → g x (wipeS ρ2 vs) fun ρ3 => wt ρ3 fun b ρ4 => if b = true then wi1 ρ4 fun (ys : List D) ρ5 => ∃ W1 : Nat → List D → List Sl → Prop, W1 0 acc ρ5 ∧
    (∀ (j : Nat) (y : D) (acc1 : List D) (ρ6 : List Sl), ys[j]? = some y → W1 j acc1 ρ6 → g1 y (wipeS ρ6 vs1) fun ρ7 => wt1 ρ7 fun b1 ρ8 => if b1 = true then we ρ8 fun z ρ9 => acc1.length < sizeLine ∧ W1 (j + 1) (acc1 ++ [z]) (wipeS ρ9 vs1) else W1 (j + 1) acc1 (wipeS ρ8 vs1)) ∧
    ∀ acc1 ρ6, W1 ys.length acc1 ρ6 → W (i + 1) acc1 (wipeS ρ6 vs)
    else W (i + 1) acc (wipeS ρ4 vs)) ∧
  ∀ acc ρ2, W xs.length acc ρ2 → Q acc ρ2
theorem lc2_imp {R R1 : Rel} {wi wi1 : LW} {g g1 : GW} {wt wt1 : BW} {we : DW} {vs vs1 : List Nat} (hM : ∀ i, i ∈ vs → i ∉ c.M) (hp : c.pot = none ∨ 0 ∉ vs) (hv : ∀ i, i ∈ vs1 → i ∈ vs) : ∀ σ H Q, tF c (wLc2 vs vs1 wi g wt wi1 g1 wt1 we) σ H Q → tLc2 (iR R c wi) (gR R c vs g) (tT c wt) (iR R1 c wi1) (gR R1 c vs1 g1) (tT c wt1) (tD c we) vs vs1 σ H Q := by
  rintro σ H Q ⟨ρ, Q0, E, hw, k⟩
  have hM1 : ∀ i, i ∈ vs1 → i ∉ c.M := fun i h => hM i (hv i h)
  have hp1 : c.pot = none ∨ 0 ∉ vs1 := hp.imp id fun h z => h (hv 0 z)
  refine ⟨ρ, _, E, hw, fun xs ρ' J H1 q gr E1 hJ => ?_⟩
  obtain ⟨W, w0, ws, wd⟩ := q
  obtain ⟨jgo, jy, jstop⟩ := hJ
  intro D hD
  have h0D : c.H0 D = none := E1.h0 hD
  have HD : H D = none := gr.free E1 hD
  refine ⟨fun i m H2 => m = xs.length - i ∧ i ≤ xs.length ∧ ∃ acc av ρ2, W i acc ρ2 ∧ En c H2 σ ρ2 ∧ Gr c σ H1 H2 ∧ H2 D = some (.lst av) ∧ IsAll c.K H2 av acc, ⟨xs.length, by simp, Nat.zero_le _, [], [], wipeS ρ' vs, w0, ?_, ?_, upd_same, .nil⟩, ?_⟩
  · exact (E1.off (Off.refl vs σ) hM hp).same (upd_same' hD)
  · exact Gr.same (upd_same' hD)
  rintro i m H2 ⟨rfl, hi, acc, av, ρ2, hW, E2, g2, hav, iav⟩
  by_cases hlt : i < xs.length
  · refine .inr ⟨jgo i H2 g2.fx hlt, fun H3 => ∃ acc av ρ2, W (i + 1) acc ρ2 ∧ En c H3 σ ρ2 ∧ Gr c σ H1 H3 ∧ H3 D = some (.lst av) ∧ IsAll c.K H3 av acc, fun H3 q => ⟨xs.length - (i + 1), by omega, rfl, hlt, q⟩, fun x H3 y => ?_⟩
    have hx := List.getElem?_eq_getElem hlt
    obtain ⟨sm, rx⟩ := jy i x H2 H3 xs[i] g2.fx hx y
    have E3 : En c H3 (wipe σ vs) (wipeS ρ2 vs) := (E2.same sm).off (off_wipe σ vs) hM hp
    refine ⟨xs[i], wipeS ρ2 vs, _, rx, E3, ws i xs[i] acc ρ2 hx hW, fun ρ3 σ3 q3 (o3 : Off vs (wipe σ vs) σ3) E4 => ⟨off_wipes ((off_wipe σ vs).trans o3), ?_⟩⟩
    have oσ : Off vs σ3 σ := ((off_wipe σ vs).trans o3).symm
    have gM : ∀ i, i ∈ c.M → σ[i]? = σ3[i]? := Off.M oσ hM
    have gM' : ∀ i, i ∈ c.M → σ3[i]? = σ[i]? := fun i h => (gM i h).symm
    refine ⟨ρ3, _, E4, q3, fun b ρ4 H4 q4 g4 E5 => ?_⟩
    have g24 : Gr c σ H1 H4 := (g2.trans (Gr.same sm)).trans (g4.congr gM')
    have nOw : ¬ Ow c σ3 D := fun w => E1.notOw hD ((Ow.congr gM').mp w)
    have hD4 : H4 D = some (.lst av) := g4.kp D _ (sm D _ hav) nOw
    have iav4 : IsAll c.K H4 av acc := IsAll.mono ((Same.fx sm).trans g4.fx) acc av iav
    cases b with
    | false => exact ⟨acc, av, _, q4, E5.off oσ hM hp, g24, hD4, iav4⟩
    | true =>
      refine ⟨ρ4, _, E5, q4, fun ys ρ5 J1 H5 q5 g5 E6 hJ1 => ?_⟩
      obtain ⟨W1, w10, ws1, wd1⟩ := q5
      obtain ⟨jgo1, jy1, jstop1⟩ := hJ1
      have g25 : Gr c σ H1 H5 := g24.trans (g5.congr gM')
      refine ⟨fun j k Hx => k = ys.length - j ∧ j ≤ ys.length ∧ ∃ acc1 av1 ρ6, W1 j acc1 ρ6 ∧ En c Hx σ3 ρ6 ∧ Gr c σ H1 Hx ∧ Fx H5 Hx ∧ Hx D = some (.lst av1) ∧ IsAll c.K Hx av1 acc1, ⟨ys.length, by simp, Nat.zero_le _, acc, av, ρ5, w10, E6, g25, Fx.refl _, g5.kp D _ hD4 nOw, IsAll.mono g5.fx _ _ iav4⟩, ?_⟩
      rintro j k Hx ⟨rfl, hj, acc1, av1, ρ6, hW1, E7, g7, f7, hav1, iav1⟩
      by_cases hjl : j < ys.length
      · refine .inr ⟨jgo1 j Hx f7 hjl, fun Hn => ∃ acc1 av1 ρ6, W1 (j + 1) acc1 ρ6 ∧ En c Hn σ3 ρ6 ∧ Gr c σ H1 Hn ∧ Fx H5 Hn ∧ Hn D = some (.lst av1) ∧ IsAll c.K Hn av1 acc1, fun Hn q => ⟨ys.length - (j + 1), by omega, rfl, hjl, q⟩, fun x1 Hy y1 => ?_⟩
        have hy := List.getElem?_eq_getElem hjl
        obtain ⟨sm1, ry⟩ := jy1 j x1 Hx Hy ys[j] f7 hy y1
        have E8 : En c Hy (wipe σ3 vs1) (wipeS ρ6 vs1) := (E7.same sm1).off (off_wipe σ3 vs1) hM1 hp1
        refine ⟨ys[j], wipeS ρ6 vs1, _, ry, E8, ws1 j ys[j] acc1 ρ6 hy hW1, fun ρ7 σ4 q7 (o4 : Off vs1 (wipe σ3 vs1) σ4) E9 => ⟨off_wipes ((off_wipe σ3 vs1).trans o4), ?_⟩⟩
        have oσ4 : Off vs1 σ4 σ3 := ((off_wipe σ3 vs1).trans o4).symm
        have gN : ∀ i, i ∈ c.M → σ4[i]? = σ3[i]? := fun i h => (Off.M oσ4 hM1 i h).symm
        have gN' : ∀ i, i ∈ c.M → σ4[i]? = σ[i]? := fun i h => (gN i h).trans (gM' i h)
        refine ⟨ρ7, _, E9, q7, fun b1 ρ8 H8 q8 g8 E10 => ?_⟩
        have g28 : Gr c σ H1 H8 := (g7.trans (Gr.same sm1)).trans (g8.congr gN')
        have f58 : Fx H5 H8 := (f7.trans (Same.fx sm1)).trans g8.fx
        have nOw1 : ¬ Ow c σ4 D := fun w => E1.notOw hD ((Ow.congr gN').mp w)
        have hD8 : H8 D = some (.lst av1) := g8.kp D _ (sm1 D _ hav1) nOw1
        have iav8 : IsAll c.K H8 av1 acc1 := IsAll.mono ((Same.fx sm1).trans g8.fx) acc1 av1 iav1
        cases b1 with
        | false => exact ⟨acc1, av1, _, q8, E10.off oσ4 hM1 hp1, g28, f58, hD8, iav8⟩
        | true =>
          refine ⟨ρ8, _, E10, q8, fun d ρ9 v H9 q9 g9 E11 i11 => ?_⟩
          have hD9 : H9 D = some (.lst av1) := g9.kp D _ hD8 nOw1
          have E12 : En c H9 σ3 (wipeS ρ9 vs1) := E11.off oσ4 hM1 hp1
          have sep3 : ∀ (m : Nat) (fs : List PyData), (wipeS ρ9 vs1)[m]? = some (Sl.own fs) → σ3[m]? ≠ some (some (V.ref D)) := fun m fs h1 h2 => by
            have mM := E12.ownM m fs h1
            rw [gM' m mM] at h2
            have z := E1.trk m D mM h2
            rw [hD] at z; cases z
          have fxD : Fx H9 (upd H9 D (.lst (av1 ++ [v]))) := fun b o f q => by
            by_cases e : b = D
            · subst e; rw [hD9] at q; cases q; cases f
            · rw [upd_ne e]; exact q
          refine ⟨av1, hD9, by rw [iav8.length]; exact q9.1, acc1 ++ [d], av1 ++ [v], wipeS ρ9 vs1, q9.2, E12.updN hD9 h0D sep3, ⟨(g28.trans (g9.congr gN')).fx.trans fxD, fun b o e w => ?_⟩, (f58.trans g9.fx).trans fxD, upd_same, IsAll.mono fxD _ _ ((IsAll.mono g9.fx _ _ iav8).append (IsAll.one i11))⟩
          have nb : b ≠ D := fun z => by subst z; rw [hD] at e; cases e
          rw [upd_ne nb]
          exact (g28.trans (g9.congr gN')).kp b o e w
      · have e : j = ys.length := by omega
        subst e
        exact .inl ⟨jstop1 _ Hx f7 (Nat.le_refl _), acc1, av1, _, wd1 acc1 ρ6 hW1, E7.off oσ hM hp, g7, hav1, iav1⟩
  · have e : i = xs.length := by omega
    subst e
    exact .inl ⟨jstop _ H2 g2.fx (Nat.le_refl _), k acc ρ2 D av H2 (wd acc ρ2 hW) (gr.trans g2) E2 HD hav iav⟩
theorem df_lc2 {R R1 : Rel} {elt iter iter1 : Expr} {ifs ifs1 : List Expr} {scope : Scope} {own : List (Str × Nat)} {vs1 : List Nat} {wi wi1 : LW} {g g1 : GW} {wt wt1 : BW} {we : DW} (hc : X.calm = true) (hN : X.N.Nodup) (ok : BlkOk X.N X.env.scope scope own) (hM : ∀ i, i ∈ own.map (·.2) → i ∉ c.M) (hp : c.pot = none ∨ 0 ∉ own.map (·.2)) (hv : ∀ i, i ∈ vs1 → i ∈ own.map (·.2))
    (hi : PI X tg iter (iR R c wi))
    (hg : ∀ (s : Shared) (H : Hp) (C : Addr) (cl : List (Str × Addr)) (fp : List Addr), PG (X.blk s H scope (compEnvC scope cl C X.env) fp) tg (gR R c (own.map (·.2)) g)) (ht : ∀ (s : Shared) (H : Hp) (C : Addr) (cl : List (Str × Addr)) (fp : List Addr), PTs (X.blk s H scope (compEnvC scope cl C X.env) fp) ifs (tT c wt))
    (hi1 : ∀ (s : Shared) (H : Hp) (C : Addr) (cl : List (Str × Addr)) (fp : List Addr), PI (X.blk s H scope (compEnvC scope cl C X.env) fp) tg1 iter1 (iR R1 c wi1))
    (hg1 : ∀ (s : Shared) (H : Hp) (C : Addr) (cl : List (Str × Addr)) (fp : List Addr), PG (X.blk s H scope (compEnvC scope cl C X.env) fp) tg1 (gR R1 c vs1 g1)) (ht1 : ∀ (s : Shared) (H : Hp) (C : Addr) (cl : List (Str × Addr)) (fp : List Addr), PTs (X.blk s H scope (compEnvC scope cl C X.env) fp) ifs1 (tT c wt1))
    (he : ∀ (s : Shared) (H : Hp) (C : Addr) (cl : List (Str × Addr)) (fp : List Addr), PE (X.blk s H scope (compEnvC scope cl C X.env) fp) elt (tD c we)) (hs : ∀ x, foldedSetIterable iter X.env x = pure x := by intro _; rfl) (hs1 : ∀ env x, foldedSetIterable iter1 env x = pure x := by intro _ _; rfl) :
    PE X (.ListComp elt [⟨tg, iter, ifs, 0⟩, ⟨tg1, iter1, ifs1, 0⟩] scope pos) (tF c (wLc2 (own.map (·.2)) vs1 wi g wt wi1 g1 wt1 we)) := PE.imp (pe_lc2 hc hN hi ok hv hg ht hi1 hg1 ht1 he hs hs1) (lc2_imp hM hp hv)
theorem ds_setLc2 {R R1 : Rel} (i : Nat) {y : Str} {py : Pos} {elt iter iter1 : Expr} {ifs ifs1 : List Expr} {scope : Scope} {own : List (Str × Nat)} {vs1 : List Nat} {pos spos : Pos} {wi wi1 : LW} {g g1 : GW} {wt wt1 : BW} {we : DW} (hc : X.calm = true) (hN : X.N.Nodup) (hy : X.N[i]? = some y) (hyl : X.env.scope.names.lookup y = some .local)
    (hsw : swapsWith (.ListComp elt [⟨tg, iter, ifs, 0⟩, ⟨tg1, iter1, ifs1, 0⟩] scope pos) (some (.Name y py)) spos.line X.env = pure true) (ok : BlkOk X.N X.env.scope scope own) (hM : ∀ i, i ∈ own.map (·.2) → i ∉ c.M) (hp : c.pot = none ∨ 0 ∉ own.map (·.2)) (hiM : i ∉ c.M) (hip : c.pot = none ∨ i ≠ 0) (hv : ∀ i, i ∈ vs1 → i ∈ own.map (·.2))
    (hi : PI X tg iter (iR R c wi))
    (hg : ∀ (s : Shared) (H : Hp) (C : Addr) (cl : List (Str × Addr)) (fp : List Addr), PG (X.blk s H scope (compEnvC scope cl C X.env) fp) tg (gR R c (own.map (·.2)) g)) (ht : ∀ (s : Shared) (H : Hp) (C : Addr) (cl : List (Str × Addr)) (fp : List Addr), PTs (X.blk s H scope (compEnvC scope cl C X.env) fp) ifs (tT c wt))
    (hi1 : ∀ (s : Shared) (H : Hp) (C : Addr) (cl : List (Str × Addr)) (fp : List Addr), PI (X.blk s H scope (compEnvC scope cl C X.env) fp) tg1 iter1 (iR R1 c wi1))
    (hg1 : ∀ (s : Shared) (H : Hp) (C : Addr) (cl : List (Str × Addr)) (fp : List Addr), PG (X.blk s H scope (compEnvC scope cl C X.env) fp) tg1 (gR R1 c vs1 g1)) (ht1 : ∀ (s : Shared) (H : Hp) (C : Addr) (cl : List (Str × Addr)) (fp : List Addr), PTs (X.blk s H scope (compEnvC scope cl C X.env) fp) ifs1 (tT c wt1))
    (he : ∀ (s : Shared) (H : Hp) (C : Addr) (cl : List (Str × Addr)) (fp : List Addr), PE (X.blk s H scope (compEnvC scope cl C X.env) fp) elt (tD c we)) (hs : ∀ x, foldedSetIterable iter X.env x = pure x := by intro _; rfl) (hs1 : ∀ env x, foldedSetIterable iter1 env x = pure x := by intro _ _; rfl) :
    PS X (.Assign [.Name y py] (.ListComp elt [⟨tg, iter, ifs, 0⟩, ⟨tg1, iter1, ifs1, 0⟩] scope pos) spos) (sD c (wSet i (wL (wLc2 (own.map (·.2)) vs1 wi g wt wi1 g1 wt1 we)))) := by
  refine ⟨fun pins s σ H D I h => ?_⟩
  obtain ⟨ρ, D0, E, hw, k1, k2, k3, k4⟩ := h
  refine thn ((ps_setLc2 hc hN hy hyl hsw hi ok hv hg ht hi1 hg1 ht1 he hs hs1).run pins s σ H { nx := fun σ' H' => ∃ ds ρ' a xs, σ' = σ.set i (some (.ref a)) ∧ D0.nx (ρ'.set i (.dat (.list ds))) ∧ Gr c σ H H' ∧ En c H' σ ρ' ∧ H a = none ∧ H' a = some (.lst xs) ∧ IsAll c.K H' xs ds, rt := fun _ _ => False } I
    (lc2_imp hM hp hv σ H _ ⟨ρ, _, E, hw, fun ds ρ' a xs H' q g E1 n ha ix => ⟨ds, ρ', a, xs, rfl, q, g, E1, n, ha, ix⟩⟩)) fun fl s1 sp => ?_
  cases fl with
  | next =>
    obtain ⟨σ1, H1, I1, ds, ρ', a, xs, rfl, q, gr, E1, n, ha, ix⟩ := sp
    obtain ⟨o, I2⟩ := Inv.freeze I1 ha trivial (fun _ _ _ z => by cases z) (fun _ z => by cases z)
    have fx : Fx H1 (upd H1 a (.frz o (.lst xs))) := fun b o f q => by
      by_cases e : b = a
      · subst e; rw [ha] at q; cases q; cases f
      · rw [upd_ne e]; exact q
    have E2 := (E1.frzN (o := o) ha (E.h0 n) (E.sepN E1 n)).setD hiM hip (v := .ref a) (d := .list ds) (.lst upd_same (IsAll.mono fx ds xs ix))
    exact ⟨_, _, I2, k1 _ _ _ q (gr.fx.trans fx) E2⟩
  | brk => obtain ⟨_, _, _, z⟩ := sp; exact z.elim
  | cont => obtain ⟨_, _, _, z⟩ := sp; exact z.elim
  | ret u => obtain ⟨_, _, _, _, _, z⟩ := sp; exact z.elim
/-! ### reversed -/
theorem rev_get {ds : List D} {i : Nat} {d : D} (h : ds.reverse[i]? = some d) : ds[ds.length - 1 - i]? = some d := by
  have hi := (List.getElem?_eq_some_iff.mp h).1
  rw [List.length_reverse] at hi
  rw [List.getElem?_reverse hi] at h
  exact h
theorem walk_rl {K : PySem.W.Frag} {H : Hp} {a : Addr} {o : Obj} {xs : List V} {ds : List D} (h1 : H a = some (.frz o (.lst xs))) (h2 : IsAll K H xs ds) : Walk K (Itv K a xs.length) H ds.reverse := by
  have sq : ∀ H', Fx H H' → SqL K H' a xs := fun H' f => .inl (.inr ⟨o, f _ _ rfl h1⟩)
  refine ⟨fun i H' f hi => ?_, fun i x H' H'' d f hd y => ?_, fun i H' f hi => ?_⟩
  · rw [List.length_reverse, ← h2.length] at hi
    exact ⟨hi, xs, xs[xs.length - 1 - i], sq H' f, List.getElem?_eq_getElem (by omega)⟩
  · obtain ⟨rfl, y⟩ := y
    have hd := rev_get hd
    rw [← h2.length] at hd
    obtain ⟨v, hv, iv⟩ := h2.get hd
    have e := (y xs (sq _ f)).symm.trans hv
    cases e
    exact ⟨Same.refl _, Is.mono f d _ iv⟩
  · rw [List.length_reverse, ← h2.length] at hi
    exact hi
theorem walk_rt {K : PySem.W.Frag} {H : Hp} {a : Addr} {xs : List V} {ds : List D} (h1 : TupK K H a xs) (h2 : IsAll K H xs ds) : Walk K (ItvT K a xs.length) H ds.reverse := by
  have sq : ∀ H', Fx H H' → SqT K H' a xs := fun H' f => (f.tupK h1).sqT
  refine ⟨fun i H' f hi => ?_, fun i x H' H'' d f hd y => ?_, fun i H' f hi => ?_⟩
  · rw [List.length_reverse, ← h2.length] at hi
    exact ⟨hi, xs, xs[xs.length - 1 - i], sq H' f, List.getElem?_eq_getElem (by omega)⟩
  · obtain ⟨rfl, y⟩ := y
    have hd := rev_get hd
    rw [← h2.length] at hd
    obtain ⟨v, hv, iv⟩ := h2.get hd
    have e := (y xs (sq _ f)).symm.trans hv
    cases e
    exact ⟨Same.refl _, Is.mono f d _ iv⟩
  · rw [List.length_reverse, ← h2.length] at hi
    exact hi
def wRevs (w : DW) : LW := fun ρ Q => w ρ fun d ρ1 => ∃ xs, itemsD d = some xs ∧ Q xs.reverse ρ1
theorem di_rev {w : DW} {p : Pos} (hg : Gl X "reversed") (hm : X.mg "reversed" = none) (h : PE X e (tD c w)) (hK : c.K = X.K := by rfl) (hs : starEach [e] X.env = (false, eval e X.env) :: starEach [] X.env := by rfl) : PI X tg (.Call (.Name "reversed" p) [e] [] pos) (iD c (wRevs w)) := by
  refine PI.imp (pi_revA hg hm h hs) ?_
  rintro σ H R ⟨ρ, Q0, E, hw, k⟩
  refine ⟨ρ, _, E, hw, fun d ρ' v H' q g E1 i1 => ?_⟩
  obtain ⟨xs, e, q⟩ := q
  cases i1 with
  | @lst a o ys ds h1 h2 =>
    cases e
    exact ⟨a, ys, rfl, .inl ⟨.inl (.inr ⟨_, h1⟩), k _ ρ' _ H' q g E1 (by rw [← hK]; exact walk_rl h1 h2)⟩⟩
  | @tup a ys ds h1 h2 =>
    cases e
    exact ⟨a, ys, rfl, .inr ⟨by rw [← hK]; exact h1.sqT, k _ ρ' _ H' q g E1 (by rw [← hK]; exact walk_rt h1 h2)⟩⟩
  | _ => exact nomatch e
end
end DL
namespace DL
open PySem PySem.Spec PyProof.Rows L2
section
variable {X : Cx} {c : Ctx} {e a b : Expr} {es : List Expr} {pos : Pos}
/-! ### isinstance of a built-in type -/
def tyN : D → String
  | .none => "NoneType"
  | .bool _ => "bool"
  | .int _ => "int"
  | .str _ => "str"
  | .list _ => "list"
  | .tuple _ => "tuple"
  | .dict _ => "dict"
def isiB (a T : String) : Bool := a == T || (a == "bool" && T == "int")
theorem is_tyx {K : PySem.W.Frag} {H : Hp} {v : V} {d : D} (h : Is K H v d) : TyX K H v (.type (tyN d)) := by
  cases h with
  | non => exact .base .non
  | bl b => exact .base (.bl b)
  | int i => exact .base (.int i)
  | str x => exact .base (.str x)
  | lst h1 _ => exact .base (.frz h1)
  | tup h1 _ =>
    rcases h1 with ⟨o, _, e⟩ | ⟨o, its, n, e, c, _⟩
    · exact .fTuple e
    · exact .kTuple e c
  | dct h1 _ => exact .fDict h1
theorem pe_bty {x : Str} {T : String} (hg : Gl X x) (hm : X.mg x = none) (hv : bootBuiltins x = some (.type T)) (hn : x ≠ "__name__" := by decide) (hd : (x == ("__debug__" : Str)) = false := by decide) : PE X (.Name x pos) (tC (.ty T)) :=
  ⟨fun pins s σ H Q I h => ld_blt I hg hm hv ⟨.ty T, H, I, rfl, h⟩ hn hd⟩
def wIsi (T : String) (w : DW) : DW := fun ρ Q => w ρ fun d ρ1 => Q (.bool (isiB (tyN d) T)) ρ1
theorem de_isi {x : Str} {T : String} {w : DW} {p p2 : Pos} (he : PE X e (tD c w)) (hg : Gl X "isinstance") (hm : X.mg "isinstance" = none) (gx : Gl X x) (mx : X.mg x = none) (hv : bootBuiltins x = some (.type T)) (hT : ∀ d, kitB (tyN d) T = some (isiB (tyN d) T)) (hK : c.K = X.K := by rfl)
    (hn : x ≠ "__name__" := by decide) (hd : (x == ("__debug__" : Str)) = false := by decide) (h1 : starEach [e, .Name x p2] X.env = (false, eval e X.env) :: starEach [.Name x p2] X.env := by rfl) (h2 : starEach [.Name x p2] X.env = (false, eval (.Name x p2) X.env) :: starEach [] X.env := by rfl)
    (hpl : (backTo pos (starEach [.Name x p2] X.env)).any (·.1) = false := by rfl) : PE X (.Call (.Name "isinstance" p) [e, .Name x p2] [] pos) (tD c (wIsi T w)) := by
  refine PE.imp (pe_callB call_isi hg hm (by decide +kernel) (pa_cons he (pa_cons (pe_bty gx mx hv hn hd) pa_nil h2) h1) (by decide) (by decide) h1 hpl) ?_
  rintro σ H Q ⟨ρ, Q0, E, hw, k⟩
  refine ⟨ρ, _, E, hw, fun d ρ' v H' q g E1 i1 => ?_⟩
  exact ⟨v, .ty T, .type (tyN d), .type T, _, rfl, .ty T, by rw [← hK]; exact is_tyx i1, kit_ty (hT d), k _ ρ' _ H' q g E1 (.bl _)⟩
theorem isi_tuple (d : D) : kitB (tyN d) "tuple" = some (isiB (tyN d) "tuple") := by cases d <;> simp only [tyN] <;> decide +kernel
theorem isi_str (d : D) : kitB (tyN d) "str" = some (isiB (tyN d) "str") := by cases d <;> simp only [tyN] <;> decide +kernel
theorem isi_int (d : D) : kitB (tyN d) "int" = some (isiB (tyN d) "int") := by cases d <;> simp only [tyN] <;> decide +kernel
theorem isi_bool (d : D) : kitB (tyN d) "bool" = some (isiB (tyN d) "bool") := by cases d <;> simp only [tyN] <;> decide +kernel
theorem isi_list (d : D) : kitB (tyN d) "list" = some (isiB (tyN d) "list") := by cases d <;> simp only [tyN] <;> decide +kernel
theorem isi_dict (d : D) : kitB (tyN d) "dict" = some (isiB (tyN d) "dict") := by cases d <;> simp only [tyN] <;> decide +kernel
/-! ### {} as data -/
theorem de_dnew : PE X (.Dict [] [] pos) (tD c (wC (.dict []))) := by
  refine ⟨fun pins s σ H Q I ⟨ρ, Q0, E, hw, k⟩ => ?_⟩
  refine thn (pe_dnewK.run pins s σ H (fun v H' => ∃ p, v = .ref p ∧ H p = none ∧ H' = upd H p (.dK [])) I fun p hp => ⟨p, rfl, hp, rfl⟩) fun u s1 ⟨v, H1, I1, r1, p, e1, n, e2⟩ => ?_
  subst e1 e2
  obtain ⟨o, I2⟩ := Inv.freeze I1 (a := p) upd_same trivial (fun _ _ _ z => by cases z) (fun _ z => by cases z)
  have eu : upd (upd H p (.dK [])) p (.frz o (.dK [])) = upd H p (.frz o (.dK [])) := upd_upd
  rw [eu] at I2
  have sm := upd_same' (o := .frz o (.dK [])) n
  exact ⟨.ref p, _, I2, r1, k _ ρ _ _ hw (Gr.same sm) (E.same sm) (.dct upd_same .nil)⟩
end
end DL
namespace DL
open PySem PySem.Spec PyProof.Rows L2
section
variable {prog : Program} {w : World} {A : Around} {E : Value → Shared → Prop} {s : Shared}
/-! ### a tuple backwards: xs[::-1] -/
theorem sliced_back {sl : Addr} {vl vu vs : Value} {n : Nat} {Q : Int × Int × Nat → Shared → Prop} (hs : s.heap.IsSliceOf sl vl vu vs) (pl : IsPart vl none) (pu : IsPart vu none) (ps : IsPart vs (some (-1))) (h : Q ((n : Int) - 1, -1, n) s) :
    wpAny (model prog w) A (Builtin.Slice.sliceApplied (.ref sl) (pure (n : Int))) Q E s := by
  obtain ⟨o, at_, cls, dat⟩ := id hs
  unfold Builtin.Slice.sliceApplied Builtin.Slice.sliceFields
  refine wpAny_bind (wpAny_bind (wpAny_field at_ dat (x := vl) rfl (wpAny_bind (wpAny_field at_ dat (x := vu) rfl (wpAny_bind (wpAny_field at_ dat (x := vs) rfl (wpAny_pure ?_)))))))
  refine wpAny_bind (HT.slicePart_ ps ?_)
  show wpAny _ _ (if ((-1 : Int) == 0) = true then _ else _) _ _ s
  rw [if_neg (by decide)]
  refine wpAny_bind (HT.slicePart_ pl (wpAny_bind (HT.slicePart_ pu (wpAny_bind (wpAny_pure ?_)))))
  have places : Builtin.Slice.slicePlaces ((n : Int) - 1) (-1) (-1) = n := by
    unfold Builtin.Slice.slicePlaces
    rw [if_neg (by decide)]
    by_cases h0 : (n : Int) - 1 > -1
    · rw [if_pos h0]
      have e : ((n : Int) - 1 - -1 - 1) / (- -1) = (n : Int) - 1 := by
        have : (- -1 : Int) = 1 := by decide
        rw [this, Int.ediv_one]; omega
      rw [e]; omega
    · rw [if_neg h0]; omega
  show wpAny _ _ (pure ((n : Int) - 1, (-1 : Int), Builtin.Slice.slicePlaces ((n : Int) - 1) (-1) (-1))) _ _ s
  rw [places]
  exact wpAny_pure h
theorem fm_congr {α β : Type} {f g : α → Option β} : ∀ {l : List α}, (∀ x ∈ l, f x = g x) → l.filterMap f = l.filterMap g
  | [], _ => rfl
  | x :: l, h => by
    have ih := fm_congr (l := l) fun y hy => h y (List.mem_cons_of_mem _ hy)
    have hx := h x List.mem_cons_self
    cases e : g x with
    | none => rw [List.filterMap_cons_none (hx.trans e), List.filterMap_cons_none e, ih]
    | some b => rw [List.filterMap_cons_some (hx.trans e), List.filterMap_cons_some e, ih]
theorem pick_back (xs : Array Value) : ((List.range xs.size).filterMap fun (k : Nat) => xs[(((xs.size : Nat) : Int) - 1 + (k : Int) * (-1)).toNat]?).toArray = xs.toList.reverse.toArray := by
  have e : (List.range xs.size).filterMap (fun (k : Nat) => xs[(((xs.size : Nat) : Int) - 1 + (k : Int) * (-1)).toNat]?) = (List.range xs.size).filterMap (fun k => xs[xs.size - 1 - k]?) := by
    refine fm_congr fun k hk => ?_
    have hk := List.mem_range.mp hk
    have : (((xs.size : Nat) : Int) - 1 + (k : Int) * (-1)).toNat = xs.size - 1 - k := by omega
    rw [this]
  rw [e]
  have z : (List.range xs.size).filterMap (fun k => xs[xs.size - 1 - k]?) = ((List.range xs.size).map fun k => xs.size - 1 - k).filterMap (xs[·]?) := by rw [List.filterMap_map]; rfl
  rw [z, PySem.W.krv_range, List.filterMap_reverse, PySem.W.krv_all]
theorem get_back {t sl : Addr} {items : Array Value} {vl vu vs : Value} {Q : Value → Shared → Prop} (ht : IsTup s.heap t items) (hs : s.heap.IsSliceOf sl vl vu vs) (pl : IsPart vl none) (pu : IsPart vu none) (ps : IsPart vs (some (-1)))
    (h : Q (.ref s.heap.objs.size) { s with heap := s.heap.push { cls := .type "tuple", data := .seq items.toList.reverse.toArray } }) (hsz : items.size ≤ sizeLine) : wpAny (model prog w) A (getItem (.ref t) (.ref sl)) Q E s := by
  have fits : sizeOk (.seq items.toList.reverse.toArray) := by
    show items.toList.reverse.toArray.size ≤ sizeLine
    rw [List.size_toArray, List.length_reverse, Array.length_toList]; exact hsz
  obtain ⟨o, at_, cls, dat⟩ := id hs
  have isSl : s.TypeIs (.ref sl) "slice" := ⟨o, at_, cls⟩
  unfold getItem
  try with_reducible refine wpAny_holding ?_
  first | refine wpAny_bind (wpAny_pure ?_) | skip
  refine wpAny_bind (wpAny_sequenceKey ht.typeIs (by decide) (wpAny_bind (wpAny_callSpecial?_slot (name := Str.ofString "__getitem__") ht.typeIs PyProof.Rows.slot_tuple_getitem (wpAny_call_entry PyProof.Rows.slot_tuple_getitem ht.typeIs entry_tuple_getitem ?_ (args_tuple_getitem _ _)))))
  show wpAny _ _ (Builtin.Tuple.tupleItemsOf (.ref t) >>= _) _ _ s
  refine wpAny_bind (tupleItemsOf_ ht (wpAny_bind (wpAny_typeOf isSl ?_)))
  rw [if_pos (by decide)]
  refine wpAny_bind (sliced_back hs pl pu ps ?_)
  have no : ¬ ((((items.size : Nat) : Int) - 1 == 0 && (-1 : Int) == 1 && items.size == items.size) = true) := by
    intro q
    rw [Bool.and_eq_true, Bool.and_eq_true] at q
    exact absurd q.1.2 (by decide)
  show wpAny _ _ (if (((items.size : Nat) : Int) - 1 == 0 && (-1 : Int) == 1 && items.size == items.size) = true then _ else _) _ _ s
  rw [if_neg no, pick_back]
  first
    | exact wpAny_bind (m := Builtin.Tuple.tupleExact _) (wpAny_newObj_type (wpAny_pure ⟨_, rfl, wpAny_pure h⟩) fits)
    | exact wpAny_bind (wpAny_bind (m := Builtin.Tuple.tupleExact _) (wpAny_newObj_type (wpAny_pure (wpAny_pure ⟨_, rfl, wpAny_pure h⟩)) fits))
    | exact wpAny_bind (wpAny_bind (m := Builtin.Tuple.tupleExact _) (wpAny_newObj_type (wpAny_pure ⟨_, rfl, wpAny_pure h⟩) fits))
end
section
variable {X : Cx} {c : Ctx} {e : Expr} {pos : Pos}
def tBack (K : PySem.W.Frag) (te : TE) : TE := fun σ H Q => te σ H fun x H1 => ∃ a xs, x = .ref a ∧ SqT K H1 a xs ∧ ∀ (p : Addr) (o : Obj), H1 p = none → o.dict = none → Q (.ref p) (upd H1 p (.frz o (.tup xs.reverse)))
theorem pe_back {te : TE} {k : Nat} {p1 p2 p3 : Pos} (he : PE X e te) : PE X (.Subscript e (.Slice none none (some (.UnaryOp .USub (.Constant (.int 1) k p1) p2)) p3) pos) (tBack X.K te) := by
  refine ⟨fun pins s σ H Q I h => Subscript_ (thn (he.run pins s σ H _ I h) fun v s1 ⟨x, H1, I1, r1, a, xs, ex, hx, q⟩ => ?_)⟩
  subst ex
  cases r1
  have minus : PO X (some (.UnaryOp .USub (.Constant (.int 1) k p1) p2)) (tPart (tUn (rU fun i => .int (-i)) (tC (.int 1)))) := po_some (pe_un un_neg pe_int)
  refine wpAny_Slice (thn (po_none.run pins s1 σ H1 (fun o H2 => o = none ∧ H2 = H1) I1 ⟨rfl, rfl⟩) fun vl s2 ⟨l, H2, I2, pl, el, e2⟩ => ?_)
  subst el e2
  refine thn (po_none.run pins s2 σ H2 (fun o H3 => o = none ∧ H3 = H2) I2 ⟨rfl, rfl⟩) fun vu s3 ⟨u, H3, I3, pu, eu, e3⟩ => ?_
  subst eu e3
  refine thn (minus.run pins s3 σ H3 (fun o H4 => o = some (-1) ∧ H4 = H3) I3 ⟨1, rfl, -1, rfl, rfl, rfl⟩) fun vs s4 ⟨o, H4, I4, ps, eo, e4⟩ => ?_
  subst eo e4
  have I5 : Inv X pins σ H4 { s4 with heap := s4.heap.push { cls := .type "slice", data := .fields #[vl, vu, vs] } } := I4.kept (t' := s4.toks) fun b ob q => Heap.get?_push_of_some _ q
  obtain ⟨its, r, ht, hz⟩ := I5.tuple hx
  have size : its.toArray.size ≤ sizeLine := by rw [List.size_toArray, ← r.length]; exact hz
  show wpAny (model X.prog X.w) X.A (subscriptTail e (.Slice none none (some (.UnaryOp .USub (.Constant (.int 1) k p1) p2)) p3) (.ref a) (.ref s4.heap.objs.size)) _ X.xe _
  refine tail_any (ops := [.ref a, .ref s4.heap.objs.size]) ht.typeIs (PyProof.Rows.slot_tuple_getitem.lookup) ?_ (by with_unfolding_all rfl)
  refine get_back ht (Heap.IsSliceOf.new _ vl vu vs) pl pu ps ?_ size
  obtain ⟨o, d, n, I6⟩ := Inv.newTup I5 r.reverse (by rw [List.length_reverse]; exact hz) s4.toks
  exact ⟨.ref _, _, I6, rfl, q _ o n d⟩
def wBack (w : DW) : DW := fun ρ Q => w ρ fun d ρ1 => ∃ xs, d = .tuple xs ∧ Q (.tuple xs.reverse) ρ1
theorem IsAll.reverse {K : PySem.W.Frag} {H : Hp} : ∀ {vs : List V} {ds : List D}, IsAll K H vs ds → IsAll K H vs.reverse ds.reverse
  | _, _, .nil => .nil
  | _, _, .cons h t => by rw [List.reverse_cons, List.reverse_cons]; exact t.reverse.append (IsAll.one h)
theorem de_rev {w : DW} {k : Nat} {p1 p2 p3 : Pos} (he : PE X e (tD c w)) (hK : c.K = X.K := by rfl) : PE X (.Subscript e (.Slice none none (some (.UnaryOp .USub (.Constant (.int 1) k p1) p2)) p3) pos) (tD c (wBack w)) := by
  refine PE.imp (pe_back he) ?_
  rintro σ H Q ⟨ρ, Q0, E, hw, k⟩
  refine ⟨ρ, _, E, hw, fun d ρ' v H' q g E1 i1 => ?_⟩
  obtain ⟨xs, rfl, q⟩ := q
  cases i1 with
  | @tup a ys ds h1 h2 =>
    refine ⟨a, ys, rfl, by rw [← hK]; exact h1.sqT, fun p o n hd => ?_⟩
    have sm := upd_same' (o := .frz o (.tup ys.reverse)) n
    exact k _ ρ' _ _ q (g.trans (Gr.same sm)) (E1.same sm) (.tup (.inl ⟨o, hd, upd_same⟩) (IsAll.mono (Same.fx sm) _ _ h2.reverse))
/-! ### repr, of {} too -/
def reprE : List D → Option D
  | [.dict []] => some (.str "{}")
  | [d] => reprD d
  | _ => none
theorem cr_reprE (hg : Gd X.A) (hu : X.A.units + 120 < cLine) : CallR X (.builtin "repr") (rCl X.K reprE) := by
  intro pins s σ H xs us Q I r h
  obtain ⟨ds, r', hd, hr, q⟩ := h
  by_cases hs : ds = [.dict []]
  · subst hs
    cases hr
    cases hd with
    | cons h1 h2 =>
      cases h2
      obtain ⟨u, rfl, ru⟩ := vals1 r
      cases h1 with
      | @dct a o kvs _ h1 h2 =>
        cases h2
        cases ru
        obtain ⟨e0, ok⟩ := I.hok a _ h1
        obtain ⟨_, hm, vs, rel, dd⟩ := ok
        cases rel
        obtain ⟨o2, es, ep, g1, g2, g3⟩ := dd
        have es0 : es.toList = [] := by
          have p := g3.2.2.1
          generalize es.toList = l at p ⊢
          cases p
          rfl
        have rd : Reads s.heap (.ref a) (.dict []) (a :: [] ++ []) := .dict g1 g2.1 g3.1 (by rw [es0]; exact .nil) (by rw [es0]; exact .nil)
        refine repr_of_reads' (h₀ := s.heap) rd rfl (fun _ => ?_) hg (show X.A.units + ((PyData.dict []).depth + 1) < cLine by simp only [PyData.depth, PyData.depthKv]; omega) (fun _ _ z => z) (fun h' u' tk hk => ⟨.str _, H, I.kept (t' := tk) hk, ⟨_, rfl⟩, q _ H (Same.refl H) (.str _)⟩) (by decide +kernel)
        intro z
        have z : a = sysModules ∨ False := by
          rcases List.mem_cons.mp (show sysModules ∈ a :: [] from z) with e | e
          · exact .inl e.symm
          · simp at e
        rcases z with rfl | z
        · simp at hm
        · exact z
  · refine cr_repr hg hu pins s σ H xs us Q I r ⟨ds, r', hd, ?_, q⟩
    unfold reprE at hr
    split at hr
    · exact absurd rfl hs
    · exact hr
    · cases hr
end
end DL
namespace DL
open PySem PySem.Spec PyProof.Rows L2
section
variable {X : Cx} {c : Ctx} {e : Expr} {pos : Pos}
/-! ### n += e -/
def wAugI (i : Nat) (w : DW) : SW := fun DD ρ => (∃ n, ρ[i]? = some (.dat (.int n))) ∧ w ρ fun d ρ' => ∃ n m : Int, ρ'[i]? = some (.dat (.int n)) ∧ d = .int m ∧ DD.nx (ρ'.set i (.dat (.int (n + m))))
theorem ds_augI (i : Nat) {x : Str} {w : DW} {pos' : Pos} (hN : X.N.Nodup) (hi : X.N[i]? = some x) (hx : Loc X.env.scope x) (hM : i ∉ c.M) (hp : c.pot = none ∨ i ≠ 0) (he : PE X e (tD c w)) (hf : X.fn x = true ∨ X.env.scope.names.lookup x = some .local := by first | exact .inl rfl | exact .inr rfl | assumption) :
    PS X (.AugAssign (.Name x pos') .Add e pos) (sD c (wAugI i w)) := by
  refine PS.imp (ps_aug hN hi hx he ip_add hf) ?_
  rintro DD σ H ⟨ρ, D0, E, ⟨⟨n0, h0⟩, hw⟩, k1, k2, k3, k4⟩
  obtain ⟨x0, e0, v, rfl, iv⟩ := E.at h0
  cases iv
  refine ⟨_, e0, ρ, _, E, hw, fun d ρ' v H' q g E' i' => ?_⟩
  obtain ⟨n, m, h1, rfl, q⟩ := q
  obtain ⟨x1, e1, v1, rfl, iv1⟩ := E'.at h1
  rw [e0] at e1
  cases e1
  cases iv1
  cases i'
  exact ⟨n0, m, rfl, rfl, k1 _ _ H' q g.fx (E'.setD hM hp (.int _))⟩
end
end DL
/-! Sets of ints and texts, that can be walked. -/
namespace DL
open PySem PySem.Spec PyProof.Rows L2

def keyRow (e : Int × Value) : Key := match e.2 with
  | .int i _ => .inl i
  | .str x _ => .inr x
  | _ => .inl 0
def RowOk (w : World) (e : Int × Value) : Prop := ∃ k : Key, RelV (kV k) e.2 ∧ e.1 = keyH w k
theorem keyRow_of {e : Int × Value} {k : Key} (r : RelV (kV k) e.2) : keyRow e = k := by
  unfold keyRow
  cases k with
  | inl i => obtain ⟨t, h⟩ := r; rw [h]
  | inr x => obtain ⟨t, h⟩ := r; rw [h]
theorem RowOk.rel {w : World} {e : Int × Value} (g : RowOk w e) : RelV (kV (keyRow e)) e.2 ∧ e.1 = keyH w (keyRow e) := by
  obtain ⟨k, r, h⟩ := g
  rw [keyRow_of r]
  exact ⟨r, h⟩
/-- what a walk of the set at a needs: its values, in whatever order -/
def Members (w : World) (h : Heap) (a : Addr) (es : Array (Int × Value)) : Prop :=
  ∃ (o : Obj) (ep : Nat) (t : SetTable), h.get? a = some o ∧ o.ExactSet ∧ o.data = .set es ep t ∧ es.size < scanBound ∧ t.fits es.size = true ∧ Ris t.place.toList ∧ (w.params.followText "set-order" = true ∨ t.led = true)
/-- the set of keys at a -/
def SetQ (w : World) (h : Heap) (a : Addr) (ks : List Key) : Prop :=
  ∃ es, Members w h a es ∧ (∀ e ∈ es.toList, RowOk w e) ∧ (es.toList.map keyRow).Perm ks ∧ ks.Nodup
def hasK (ks : List Key) (k : Key) : Bool := ks.any fun j => decide (j = k)
theorem hasK_iff {ks : List Key} {k : Key} : hasK ks k = true ↔ k ∈ ks := by
  unfold hasK
  rw [List.any_eq_true]
  constructor
  · rintro ⟨j, hj, e⟩
    exact of_decide_eq_true e ▸ hj
  · exact fun h => ⟨k, h, decide_eq_true rfl⟩
def addK (ks : List Key) (k : Key) : List Key := if hasK ks k = true then ks else ks ++ [k]
theorem addK_nodup {ks : List Key} {k : Key} (h : ks.Nodup) : (addK ks k).Nodup := by
  unfold addK
  split
  · exact h
  · rename_i n
    exact List.nodup_append.mpr ⟨h, List.nodup_cons.mpr ⟨List.not_mem_nil, List.nodup_nil⟩, fun a ha b hb => by
      rw [List.mem_singleton.mp hb]
      intro e
      exact n (hasK_iff.mpr (e ▸ ha))⟩
section
variable {P : Program} {w : World} {A : Around} {E : Value → Shared → Prop} {s : Shared} {a : Addr}
theorem rows_elems {l : List (Int × Value)} (g : ∀ e ∈ l, RowOk w e) : ElemsOf (mixKind P w) l := fun e he => by
  obtain ⟨r, h⟩ := (g e he).rel
  exact ⟨⟨keyRow e, kV_is r, h⟩, key_scan r⟩
theorem row_is {e : Int × Value} (g : RowOk w e) (k : Key) : (mixKind P w).is k e.2 = true ↔ keyRow e = k := by
  obtain ⟨r, h⟩ := g.rel
  constructor
  · intro q
    exact ((mixKind P w).inj e.2 _ _ (kV_is r) q)
  · intro q
    rw [← q]
    exact kV_is r
theorem Members.at {h h' : Heap} {es : Array (Int × Value)} (m : Members w h a es) (k : ∀ o, h.get? a = some o → h'.get? a = some o) : Members w h' a es := by
  obtain ⟨o, ep, t, ho, r⟩ := m
  exact ⟨o, ep, t, k o ho, r⟩
theorem SetQ.at {h h' : Heap} {ks : List Key} (m : SetQ w h a ks) (k : ∀ o, h.get? a = some o → h'.get? a = some o) : SetQ w h' a ks := by
  obtain ⟨es, m, r⟩ := m
  exact ⟨es, m.at k, r⟩
/-- behind the search: the new row is laid -/
theorem lay_tail {gw : Bool → Sem Unit} (hgw : ∀ (b : Bool) (s₁ : Shared) (Q' : Unit → Shared → Prop), Q' () s₁ → wpAny (model P w) A (gw b) Q' E s₁)
    {o : Obj} {es rows : Array (Int × Value)} {ep : Nat} {t tab : SetTable} (ho : s.heap.get? a = some o) (hx : o.ExactSet) (hd : o.data = .set es ep t)
    (few : rows.size < scanBound) (fit : tab.fits rows.size = true) (ris : Ris tab.place.toList) (led : w.params.followText "set-order" = true ∨ tab.led = true) {wasDummy : Bool} {R : Option Bool → Shared → Prop}
    (fin : ∀ h' rows', Heap.SameBut a s.heap h' → rows'.toList.Perm rows.toList → Members w h' a rows' → R (some true) { s with heap := h' }) :
    wpAny (model P w) A (do
        storeSet a rows tab
        if (!wasDummy && tab.tooFull) = true then do
            gw (relayAll tab rows (SetTable.grown rows.size)).2.2
            storeSet a (relayAll tab rows (SetTable.grown rows.size)).1 (relayAll tab rows (SetTable.grown rows.size)).2.1
            pure (some true)
          else pure (some true)) R E s := by
  refine wpAny_bind (wpAny_storeSet_of ho hd ?_ (fits_of_scanBound few))
  have at1 := store_at (es' := rows) (t' := tab) ho hd
  have same1 := Heap.SameBut.update s.heap a (Obj.putSet rows tab)
  split
  · have p3 := relayAll_perm tab rows (SetTable.grown rows.size)
    have f3 := relayAll_fits tab rows (SetTable.grown rows.size)
    have r3 := relayAll_ris tab rows (SetTable.grown rows.size)
    have l3 := relayAll_led tab rows (SetTable.grown rows.size)
    generalize relayAll tab rows (SetTable.grown rows.size) = Z at p3 f3 r3 l3 ⊢
    obtain ⟨rows2, tab3, gave⟩ := Z
    dsimp only at p3 f3 r3 l3 ⊢
    have z2 : rows2.size = rows.size := by rw [← Array.length_toList, p3.length_eq, Array.length_toList]
    have few2 : rows2.size < scanBound := by rw [z2]; exact few
    refine wpAny_bind (hgw _ _ _ ?_)
    refine wpAny_bind (wpAny_storeSet_of at1 rfl ?_ (fits_of_scanBound few2))
    have at2 := store_at (es' := rows2) (t' := tab3) at1 rfl
    refine wpAny_pure (fin _ rows2 (same1.trans (Heap.SameBut.update _ a _)) p3 ?_)
    exact ⟨_, _, tab3, at2, hx, rfl, few2, f3, r3, led.imp id fun z => by rw [l3]; exact z⟩
  · exact wpAny_pure (fin _ rows same1 (List.Perm.refl _) ⟨_, _, tab, at1, hx, rfl, few, fit, ris, led⟩)
/-- a key is added to a set of keys -/
theorem setQ_put {k : Key} {u : Value} {ks : List Key} {Q : Bool → Shared → Prop} (ru : RelV (kV k) u) (R : SetQ w s.heap a ks) (room : ks.length + 1 < scanBound)
    (hQ : ∀ h', Heap.SameBut a s.heap h' → SetQ w h' a (addK ks k) → ∀ b, Q b { s with heap := h' }) :
    wpAny (model P w) A (setAddHashed a u ((mixKind P w).hash k)) Q E s := by
  obtain ⟨es, ⟨o, ep, t, ho, hx, hd, few, fit, ris, led⟩, good, pm, nd⟩ := R
  have ku : (mixKind P w).is k u = true := kV_is ru
  have su : u.scannable = true := key_scan ru
  have elems : ElemsOf (mixKind P w) es.toList := rows_elems good
  unfold setAddHashed setAddHashedIn
  refine wpAny_holding (wpAny_bind (wpAny_setState_of ho hd fit ?_))
  dsimp only
  rw [byScan_of su few elems]
  simp only [↓reduceIte]
  unfold setAddByScan
  refine wpAny_bind ?_
  refine wpAny_bind (wpAny_rule ?_)
  refine wpAny_bind (wpAny_setScan_of ku ho hd fit elems ?_)
  cases fi : List.findIdx? (fun e => (mixKind P w).is k e.2) es.toList with
  | some j =>
    dsimp only
    obtain ⟨hj, pj, _⟩ := List.findIdx?_eq_some_iff_getElem.mp fi
    have mem : k ∈ ks := pm.mem_iff.mp (List.mem_map.mpr ⟨es.toList[j], List.getElem_mem hj, (row_is (P := P) (good _ (List.getElem_mem hj)) k).mp pj⟩)
    refine wpAny_pure (wpAny_pure ?_)
    refine hQ s.heap (Heap.SameBut.refl a s.heap) ⟨es, ⟨o, ep, t, ho, hx, hd, few, fit, ris, led⟩, good, ?_, ?_⟩ _
    · unfold addK; rw [if_pos (hasK_iff.mpr mem)]; exact pm
    · exact addK_nodup nd
  | none =>
    dsimp only
    have nmem : k ∉ ks := fun z => by
      obtain ⟨e, he, q⟩ := List.mem_map.mp (pm.mem_iff.mpr z)
      have c := List.findIdx?_eq_none_iff.mp fi e he
      rw [(row_is (P := P) (good e he) k).mpr q] at c
      cases c
    have rules : ∀ (b : Bool) {s₁ : Shared} {Q' : Unit → Shared → Prop}, Q' () s₁ → wpAny (model P w) A (match b with | true => rule "set.scan.the-table-gave-way" | false => pure ()) Q' E s₁ :=
      fun b s₁ Q' q => by cases b <;> first | exact wpAny_pure q | exact wpAny_rule q
    have p1 := layNew_perm t es ((mixKind P w).hash k) u
    have f1 := layNew_fits t es ((mixKind P w).hash k) u
    have r1 := layNew_ris t es ((mixKind P w).hash k) u ris
    have l1 := layNew_led t es ((mixKind P w).hash k) u
    generalize layNew t es ((mixKind P w).hash k) u = Z at p1 f1 r1 l1 ⊢
    obtain ⟨es1, t1, wasDummy, gave⟩ := Z
    dsimp only at p1 f1 r1 l1 ⊢
    rw [Array.toList_push] at p1
    have pc : es1.toList.Perm (((mixKind P w).hash k, u) :: es.toList) := p1.trans (List.perm_append_singleton _ _)
    have kk : keyRow ((mixKind P w).hash k, u) = k := keyRow_of ru
    have good1 : ∀ e ∈ es1.toList, RowOk w e := fun e he => by
      rcases List.mem_cons.mp (pc.mem_iff.mp he) with z | z
      · rw [z]; exact ⟨k, ru, rfl⟩
      · exact good e z
    have pk : (es1.toList.map keyRow).Perm (addK ks k) := by
      unfold addK
      rw [if_neg fun z => nmem (hasK_iff.mp z)]
      refine (pc.map keyRow).trans ?_
      rw [List.map_cons, kk]
      exact ((List.Perm.cons k pm).trans (List.perm_append_singleton _ _).symm)
    have z1 : es1.size = ks.length + 1 := by
      rw [← Array.length_toList, pc.length_eq, List.length_cons, ← pm.length_eq, List.length_map]
    have few1 : es1.size < scanBound := by rw [z1]; exact room
    have led1 : w.params.followText "set-order" = true ∨ t1.led = true := led.imp id fun z => by rw [l1]; exact z
    have fin : ∀ h' rows', Heap.SameBut a s.heap h' → rows'.toList.Perm es1.toList → Members w h' a rows' → ∀ b, Q b { s with heap := h' } := fun h' rows' sb p m b =>
      hQ h' sb ⟨rows', m, fun e he => good1 e (p.mem_iff.mp he), (p.map keyRow).trans pk, addK_nodup nd⟩ b
    refine wpAny_bind (rules _ ?_)
    split
    · refine wpAny_bind ?_
      rw [hashByValue_scannable 8 su]
      refine wpAny_pure ?_
      refine lay_tail ?_ ho hx hd few1 ?_ ?_ ?_ ?_
      · intro b s₁ Q' q; cases b <;> first | exact wpAny_pure q | exact wpAny_rule q
      · first | (split <;> first | exact f1 | exact SetTable.fits_plain_off f1) | exact f1
      · first | (split <;> exact r1) | exact r1
      · first | (split <;> exact led1) | exact led1
      · intro h' rows' sb p m; dsimp only; exact wpAny_pure (fin h' rows' sb p m _)
    · refine wpAny_bind (wpAny_pure ?_)
      simp only [↓reduceIte]
      refine lay_tail ?_ ho hx hd few1 f1 r1 led1 ?_
      · intro b s₁ Q' q; cases b <;> first | exact wpAny_pure q | exact wpAny_rule q
      · intro h' rows' sb p m; dsimp only; exact wpAny_pure (fin h' rows' sb p m _)
/-- .. by its value -/
theorem setQ_add {k : Key} {u : Value} {ks : List Key} {Q : Bool → Shared → Prop} (ru : RelV (kV k) u) (R : SetQ w s.heap a ks) (room : ks.length + 1 < scanBound)
    (hQ : ∀ h', Heap.SameBut a s.heap h' → SetQ w h' a (addK ks k) → ∀ b, Q b { s with heap := h', toks := s.toks + 1 }) : wpAny (model P w) A (setAdd a u) Q E s := by
  unfold setAdd
  refine wpAny_holding ?_
  refine wpAny_bind ((mixKind P w).pyHash (kV_is ru) ?_)
  exact setQ_put (s := { s with toks := s.toks + 1 }) ru R room hQ
theorem setQ_new {h : Heap} (w : World) : SetQ w (h.push { cls := .type "set", dict := none, data := .set #[] 0 (.fresh 0 0 (!w.params.followText "set-order")) }) h.objs.size [] :=
  ⟨#[], ⟨_, 0, _, Heap.get?_push_size _ rfl, ⟨rfl, rfl, rfl⟩, rfl, by decide, by rfl, List.Pairwise.nil, by
    show _ ∨ (!w.params.followText "set-order") = true
    cases w.params.followText "set-order"
    · exact .inr rfl
    · exact .inl rfl⟩, (fun e he => by simp at he), List.Perm.refl _, List.nodup_nil⟩
end
end DL
/-! set(xs): the loop, by what adding one does. -/
namespace DL
open PySem PySem.Spec PyProof.Rows L2
section
variable {P : Program} {w : World} {A : Around} {R : Result → Shared → Prop} {I : Addr} {fp wr : List Addr} {G : Array GenState → Array GenState → Prop} {n : Nat} {Pv : Nat → Value → Prop} {St : Nat → Shared → Prop}
theorem upd_loop (W : WalksS P w A.in1 I fp wr G n Pv St) (S : Addr) (out : S ∉ fp) (Ok : Nat → Heap → Prop)
    (keep : ∀ (i : Nat) (h h' : Heap), Ok i h → (∀ b o, b ∉ wr → h.get? b = some o → h'.get? b = some o) → Ok i h')
    (step : ∀ (i : Nat) (v : Value) (s : Shared) (Q : Bool → Shared → Prop) (E : Value → Shared → Prop), i < n → Pv i v → Ok i s.heap →
      (∀ (h' : Heap) (tk : Nat) (b : Bool), Heap.SameBut S s.heap h' → s.toks ≤ tk → Ok (i + 1) h' → Q b { s with heap := h', toks := tk }) → wpAny (model P w) A.in1 (setAdd S v) Q E s) :
    ∀ (k i : Nat) (s : Shared), n - i = k → i ≤ n → St i s → Ok i s.heap → (∀ s', Moved (S :: wr) G s s' → Ok n s'.heap → R (.ok (.ret .none)) s') →
      codeAny (model P w) A (.builtin "set.update.loop" ⟨[.ref S, .ref I], []⟩) R s := by
  have more : ∀ b ∈ wr, b ∈ S :: wr := fun b hb => .tail _ hb
  intro k
  induction k with
  | zero =>
    intro i s hk hi st ok fin
    obtain rfl : i = n := Nat.le_antisymm hi (Nat.le_of_sub_eq_zero hk)
    refine codeAny_builtin F.entry_set_update_loop ?_
    rw [Around.under_plainId F.plain_set_update_loop _]
    refine (show wpAny (model P w) A.in1 (pyNext (.ref I) >>= _) _ _ s from wpAny_bind (W.done s _ _ st fun s1 mv => ?_))
    refine (show wpAny (model P w) A.in1 (ret Value.none) _ _ s1 from wpAny_pure (fin s1 (mv.mono more) (keep _ _ _ ok fun b o nb e => mv.heap b o nb e)))
  | succ k ih =>
    intro i s hk hi st ok fin
    have lt : i < n := Nat.lt_of_sub_eq_succ hk
    refine codeAny_builtin F.entry_set_update_loop ?_
    rw [Around.under_plainId F.plain_set_update_loop _]
    refine (show wpAny (model P w) A.in1 (pyNext (.ref I) >>= _) _ _ s from wpAny_bind (W.item i s _ _ lt st fun v s1 pv st1 mv => ?_))
    refine (show wpAny (model P w) A.in1 (holding [v] (setAdd S v) >>= _) _ _ s1 from wpAny_bind (wpAny_holding ?_))
    refine step i v s1 _ _ lt pv (keep _ _ _ ok fun b o nb e => mv.heap b o nb e) fun h' tk b sb le ok1 => ?_
    have other : ∀ c o, c ≠ S → s1.heap.get? c = some o → h'.get? c = some o := fun c o nc e => by rw [sb.2 c nc]; exact e
    refine wpAny_pure ⟨plainId_quiet F.plain_set_update_loop _, ih (i + 1) _ (by omega) lt (W.frame _ s1 _ _ st1 le fun c hc o e => other c o (fun z => out (z ▸ hc)) e) ok1 fun s2 mv2 ok2 => fin s2 ?_ ok2⟩
    exact Moved.trans W.gtrans ((mv.mono more).then_heap le fun c o nc e => other c o (fun z => nc (z ▸ List.mem_cons_self)) e) mv2
end
section
variable {P : Program} {w : World} {A : Around} {E : Value → Shared → Prop} {s : Shared}
/-- the new, empty set -/
abbrev emptySet (w : World) : Obj := { cls := .type "set", dict := none, data := .set #[] 0 (.fresh 0 0 (!w.params.followText "set-order")) }
set_option maxHeartbeats 3200000 in
/-- set(xs) of a list or a tuple -/
theorem set_of {l : Addr} {tn : String} {items : Array Value} {Q : Value → Shared → Prop} (calm : A.handled = none) (hl : (tn = "list" ∧ s.heap.IsList l items) ∨ (tn = "tuple" ∧ s.heap.IsTuple l items)) (Ok : Nat → Heap → Prop) (o0 : ∀ h : Heap, h.get? s.heap.objs.size = some (emptySet w) → (∀ b o, s.heap.get? b = some o → h.get? b = some o) → Ok 0 h)
    (keep : ∀ (i : Nat) (h h' : Heap), Ok i h → (∀ b o, b ≠ s.heap.objs.size + 1 → h.get? b = some o → h'.get? b = some o) → Ok i h')
    (step : ∀ (A' : Around), A'.units ≤ A.units + 4 → ∀ (i : Nat) (v : Value) (s1 : Shared) (Q : Bool → Shared → Prop) (E : Value → Shared → Prop), i < items.size → items[i]? = some v → Ok i s1.heap →
      (∀ (h' : Heap) (tk : Nat) (b : Bool), Heap.SameBut s.heap.objs.size s1.heap h' → s1.toks ≤ tk → Ok (i + 1) h' → Q b { s1 with heap := h', toks := tk }) → wpAny (model P w) A' (setAdd s.heap.objs.size v) Q E s1)
    (fin : ∀ (h' : Heap) (tk : Nat), Ok items.size h' → (∀ b o, s.heap.get? b = some o → h'.get? b = some o) → Q (.ref s.heap.objs.size) { s with heap := h', toks := tk }) :
    wpAny (model P w) A (call (.type "set") [.ref l]) Q E s := by
  obtain ⟨cc, tl, mro⟩ := F.called_set.mro
  have made := F.called_set.made
  have sub := F.called_set.sub
  refine wpAny_call (codeAny_of_tree (show wpAny _ _ (callAny (.type "set") _) _ _ _ from ?_))
  refine wpAny_pure (And.intro (Code.quiet_builtin _ (by decide +kernel)) (codeAny_builtin F.entry_type_call ?_))
  rw [Around.under_plain (weight_type_call_type "set" [.ref l] []) rfl]
  have n1 := F.called_set.notType
  have n2 := F.called_set.canCreate
  have n3 := F.typeCall_set_1 (.ref l)
  repeat (any_goals (first | assumption | wp_step))
  refine codeAny_mono (code_set_led1 (.ref l) (E := E) (Q₁ := fun obj t => obj = .ref s.heap.objs.size ∧ t = { s with heap := s.heap.push (emptySet w) }) ⟨rfl, rfl⟩) fun res t hr => ?_
  cases res with
  | error e => exact hr
  | ok fl =>
    cases fl with
    | ret obj =>
      obtain ⟨rfl, rfl⟩ := hr
      have atS : (s.heap.push (emptySet w)).get? s.heap.objs.size = some (emptySet w) := Heap.get?_push_size _ rfl
      have tyS : Shared.TypeIs { s with heap := s.heap.push (emptySet w) } (.ref s.heap.objs.size) "set" := ⟨_, atS, rfl⟩
      have i1 := F.called_set.init.lookup
      have i2 := F.called_set.init.bind (.ref s.heap.objs.size)
      repeat (any_goals (first | assumption | wp_step))
      refine codeAny_mono (codeAny_call_builtin (R := wants (fun r t => r = .none ∧ ∃ h' tk, t = { s with heap := h', toks := tk } ∧ Ok items.size h' ∧ (∀ b o, s.heap.get? b = some o → h'.get? b = some o)) E) F.called_set.init.plain F.entry_set_init (check_set_init_1 tyS ?_)) fun r2 s2 hr2 => ?_
      · have lS : l < s.heap.objs.size := by
          rcases hl with ⟨_, o, e, _⟩ | ⟨_, o, e, _⟩ <;> exact Heap.lt_size e
        have calm3 : A.in1.in1.in1.handled = none := by simp [calm]
        have z1 : (s.heap.push (emptySet w)).objs.size = s.heap.objs.size + 1 := Heap.size_push ..
        have ne : l ≠ (s.heap.push (emptySet w)).objs.size := by rw [z1]; exact Nat.ne_of_lt (Nat.lt_succ_of_lt lS)
        have out : s.heap.objs.size ∉ [(s.heap.push (emptySet w)).objs.size, l] := by
          rw [z1]
          simp only [List.mem_cons, List.not_mem_nil, or_false, not_or]
          exact ⟨Nat.ne_of_lt (Nat.lt_succ_self _), (Nat.ne_of_lt lS).symm⟩
        have old : ∀ (x y : Obj) b o, s.heap.get? b = some o → ((s.heap.push x).push y).get? b = some o := fun x y b o e => Heap.get?_push_of_some _ (Heap.get?_push_of_some _ e)
        rcases hl with ⟨rfl, hl⟩ | ⟨rfl, hl⟩
        · have s1 := F.sub_list_set
          have s2 := F.sub_list_frozenset
          have s3 : (Value.type "list" == Value.type "dict") = false := by decide
          obtain ⟨⟨oc, od, oda, osl⟩, hol, hcl, nl, hdl⟩ := id hl
          simp only at hcl hdl
          subst hcl hdl
          have hol2 := Heap.get?_push_of_some (emptySet w) hol
          have hl1 : (s.heap.push (emptySet w)).IsList l items := ⟨_, hol2, rfl, nl, rfl⟩
          unfold Builtin.«set.__init__» noKeywords Builtin.Frozenset.updateFrom
          generalize hPI : pyIter = PI
          wp_walk
          subst hPI
          refine wpAny_pyIter_list hl1 (wpAny_bind (wpAny_runValue ?_))
          refine upd_loop ((Walks.list calm3 _ l ne items).toS) s.heap.objs.size out Ok (fun i h h' ok k => keep i h h' ok fun b o nb => k b o (by rw [z1]; simpa using nb)) (fun i v s1 Q E hi hv ok q => step _ (by simp [Around.in1]) i v s1 Q E hi hv ok q) (items.size - 0) 0 _ (by omega) (Nat.zero_le _)
            ⟨⟨_, Heap.get?_push_size _ rfl, rfl, rfl⟩, hl1.push _⟩ (o0 _ (Heap.get?_push_of_some _ atS) (old _ _)) ?_
          rintro ⟨h', g', d', tk', os'⟩ mv ok
          obtain rfl : g' = s.gens := mv.gens
          obtain rfl : d' = s.drawn := mv.drawn
          obtain rfl : os' = s.os := mv.os
          refine (show wpAny _ _ _ _ _ _ from wpAny_pure (show wpAny _ _ (ret Value.none) _ _ _ from wpAny_pure ⟨rfl, h', tk', rfl, ok, fun b o e => ?_⟩))
          have lb := Heap.lt_size e
          exact mv.heap b o (by rw [z1]; simp only [List.mem_cons, List.not_mem_nil, or_false, not_or]; exact ⟨Nat.ne_of_lt lb, Nat.ne_of_lt (Nat.lt_succ_of_lt lb)⟩) (old _ _ b o e)
        · have s1 := F.sub_tuple_set
          have s2 := F.sub_tuple_frozenset
          have s3 : (Value.type "tuple" == Value.type "dict") = false := by decide
          obtain ⟨⟨oc, od, oda, osl⟩, hol, hcl, nl, hdl⟩ := id hl
          simp only at hcl hdl
          subst hcl hdl
          have hol2 := Heap.get?_push_of_some (emptySet w) hol
          have hl1 : (s.heap.push (emptySet w)).IsTuple l items := ⟨_, hol2, rfl, nl, rfl⟩
          unfold Builtin.«set.__init__» noKeywords Builtin.Frozenset.updateFrom
          generalize hPI : pyIter = PI
          wp_walk
          subst hPI
          refine wpAny_pyIter_tuple hl1 (wpAny_bind (wpAny_runValue ?_))
          refine upd_loop ((Walks.tuple calm3 _ l ne items).toS) s.heap.objs.size out Ok (fun i h h' ok k => keep i h h' ok fun b o nb => k b o (by rw [z1]; simpa using nb)) (fun i v s1 Q E hi hv ok q => step _ (by simp [Around.in1]) i v s1 Q E hi hv ok q) (items.size - 0) 0 _ (by omega) (Nat.zero_le _)
            ⟨⟨_, Heap.get?_push_size _ rfl, rfl, rfl⟩, hl1.push _⟩ (o0 _ (Heap.get?_push_of_some _ atS) (old _ _)) ?_
          rintro ⟨h', g', d', tk', os'⟩ mv ok
          obtain rfl : g' = s.gens := mv.gens
          obtain rfl : d' = s.drawn := mv.drawn
          obtain rfl : os' = s.os := mv.os
          refine (show wpAny _ _ _ _ _ _ from wpAny_pure (show wpAny _ _ (ret Value.none) _ _ _ from wpAny_pure ⟨rfl, h', tk', rfl, ok, fun b o e => ?_⟩))
          have lb := Heap.lt_size e
          exact mv.heap b o (by rw [z1]; simp only [List.mem_cons, List.not_mem_nil, or_false, not_or]; exact ⟨Nat.ne_of_lt lb, Nat.ne_of_lt (Nat.lt_succ_of_lt lb)⟩) (old _ _ b o e)
      · cases r2 with
        | error e => exact hr2
        | ok fl2 =>
          cases fl2 with
          | ret r =>
            obtain ⟨rfl, h', tk, rfl, ok, kp⟩ := hr2
            repeat (any_goals (first | assumption | wp_step))
            exact fin _ _ ok kp
          | _ => exact hr2.elim
    | _ => exact hr.elim
end
end DL
/-! {elt for tg in iter if ..}, of one clause and of two, over any way to add. -/
namespace DL
open PySem PySem.Spec PyProof.Rows L2
/-- two clauses: a turn of the first -/
theorem twoTurn_out (elt t0 i0 t1 i1 : Expr) (fs0 fs1 : List Expr) (scope : Scope) (pos : Pos) (it acc : Value) (env : Env) :
    compTurn (.SetComp elt [⟨t0, i0, fs0, 0⟩, ⟨t1, i1, fs1, 0⟩] scope pos) 0 it acc env = (do
      standAt i0.pos
      match ← pyNext it with
      | none => pure (.done .next)
      | some v =>
        letOwnedTupleGo t0 it v
        assign t0 env v
        let mut ok := true
        for c in fs0 do
          if ok then ok ← isTrue c env (eval c env)
        if ok then
          let x ← eval i1 env
          standAt i1.pos
          let x ← foldedSetIterable i1 env x
          let _ ← runOwn (.compStart (.SetComp elt [⟨t0, i0, fs0, 0⟩, ⟨t1, i1, fs1, 0⟩] scope pos) 1 (← holding [x] (pyIter x)) acc env) env
        again (.compLoop (.SetComp elt [⟨t0, i0, fs0, 0⟩, ⟨t1, i1, fs1, 0⟩] scope pos) 0 it acc env)) := by rfl
theorem twoTurn_in (elt t0 i0 t1 i1 : Expr) (fs0 fs1 : List Expr) (scope : Scope) (pos : Pos) (it acc : Value) (env : Env) :
    compTurn (.SetComp elt [⟨t0, i0, fs0, 0⟩, ⟨t1, i1, fs1, 0⟩] scope pos) 1 it acc env = (do
      standAt i1.pos
      match ← pyNext it with
      | none => pure (.done .next)
      | some v =>
        letOwnedTupleGo t1 it v
        assign t1 env v
        let mut ok := true
        for c in fs1 do
          if ok then ok ← isTrue c env (eval c env)
        if ok then
          (do let v ← eval elt env; standAt elt.pos; let _ ← call (.builtin "set.add") [acc, v])
        again (.compLoop (.SetComp elt [⟨t0, i0, fs0, 0⟩, ⟨t1, i1, fs1, 0⟩] scope pos) 1 it acc env)) := by rfl
section
variable {prog : Program} {w : World} {A : Around} {R : Result → Shared → Prop} {s : Shared} {elt t0 i0 t1 i1 : Expr} {fs0 fs1 : List Expr} {scope : Scope} {pos : Pos} {it acc : Value} {env : Env}
abbrev Noted (prog : Program) (w : World) (A : Around) (env : Env) (R : Result → Shared → Prop) : Value → Shared → Prop := notedBy (model prog w) A env fun e s' => R (.error e) s'
theorem twoLoop_out (folded : ∀ x, foldedSetIterable i1 env x = pure x) (I : Nat → Shared → Prop)
    (turn : ∀ n s, I n s → wpAny (model prog w) A (pyNext it) (fun r sa => match r with
      | none => R (.ok .next) sa
      | some v => wpAny (model prog w) A (letOwnedTupleGo t0 it v) (fun _ sb => wpAny (model prog w) A (assign t0 env v) (fun _ sc =>
          wpAny (model prog w) A (forIn fs0 true fun c r => if r = true then do let ok ← isTrue c env (eval c env); pure (ForInStep.yield ok) else pure (ForInStep.yield r)) (fun ok sd =>
            if ok = true then wpAny (model prog w) A (eval i1 env) (fun x se => wpAny (model prog w) A (pyIter x) (fun it1 sf =>
              codeAny (model prog w) A (.compStart (.SetComp elt [⟨t0, i0, fs0, 0⟩, ⟨t1, i1, fs1, 0⟩] scope pos) 1 it1 acc env) (fun r s' => match r with
                | .ok _ => ∃ m, m < n ∧ I m s'
                | .error _ => False) sf) (Noted prog w A env R) se) (Noted prog w A env R) sd
            else ∃ m, m < n ∧ I m sd) (Noted prog w A env R) sc) (Noted prog w A env R) sb) (Noted prog w A env R) sa) (Noted prog w A env R) s)
    (n : Nat) (h : I n s) :
    codeAny (model prog w) A (.compLoop (.SetComp elt [⟨t0, i0, fs0, 0⟩, ⟨t1, i1, fs1, 0⟩] scope pos) 0 it acc env) R s := by
  refine codeAny_loop rfl I (fun n s hI => ?_) n h
  refine (show wpAny _ A ((compTurn (.SetComp elt [⟨t0, i0, fs0, 0⟩, ⟨t1, i1, fs1, 0⟩] scope pos) 0 it acc env).onRaise (fun x => do noteFrame x env; theTreesLotGoes x)) _ _ s from wpAny_noted ?_)
  rw [twoTurn_out]
  refine wpAny_bind (wpAny_standAt (wpAny_bind (wpAny_mono (turn n s hI) (fun r sa ha => ?_) fun _ _ z => z)))
  cases r with
  | none => exact wpAny_pure ha
  | some v =>
    refine wpAny_bind (wpAny_mono ha (fun _ sb hb => wpAny_bind (wpAny_mono hb (fun _ sc hc => wpAny_bind (wpAny_mono hc (fun ok sd hd => ?_) fun _ _ z => z)) fun _ _ z => z)) fun _ _ z => z)
    cases ok with
    | false => exact wpAny_pure (And.intro rfl hd)
    | true =>
      refine wpAny_bind (wpAny_mono hd (fun x se he => ?_) fun _ _ z => z)
      refine wpAny_bind (wpAny_standAt (wpAny_bind (wpAny_of_eq (folded x) (wpAny_bind (wpAny_holding (wpAny_mono he (fun it1 sf hf => ?_) fun _ _ z => z))))))
      refine wpAny_bind (wpAny_runOwn ?_)
      rw [Around.mark_none]
      refine codeAny_mono hf fun r s' hr => ?_
      cases r with
      | ok f =>
        first
          | exact wpAny_pure (And.intro rfl hr)
          | exact wpAny_bind (wpAny_pure (wpAny_pure (And.intro rfl hr)))
      | error e => exact hr.elim
theorem twoLoop_in (I : Nat → Shared → Prop)
    (turn : ∀ n s, I n s → wpAny (model prog w) A (pyNext it) (fun r sa => match r with
      | none => R (.ok .next) sa
      | some v => wpAny (model prog w) A (letOwnedTupleGo t1 it v) (fun _ sb => wpAny (model prog w) A (assign t1 env v) (fun _ sc =>
          wpAny (model prog w) A (forIn fs1 true fun c r => if r = true then do let ok ← isTrue c env (eval c env); pure (ForInStep.yield ok) else pure (ForInStep.yield r)) (fun ok sd =>
            if ok = true then wpAny (model prog w) A (eval elt env) (fun x se =>
              wpAny (model prog w) A (call (.builtin "set.add") [acc, x]) (fun _ sf => ∃ m, m < n ∧ I m sf) (Noted prog w A env R) se) (Noted prog w A env R) sd
            else ∃ m, m < n ∧ I m sd) (Noted prog w A env R) sc) (Noted prog w A env R) sb) (Noted prog w A env R) sa) (Noted prog w A env R) s)
    (n : Nat) (h : I n s) :
    codeAny (model prog w) A (.compLoop (.SetComp elt [⟨t0, i0, fs0, 0⟩, ⟨t1, i1, fs1, 0⟩] scope pos) 1 it acc env) R s := by
  refine codeAny_loop rfl I (fun n s hI => ?_) n h
  refine (show wpAny _ A ((compTurn (.SetComp elt [⟨t0, i0, fs0, 0⟩, ⟨t1, i1, fs1, 0⟩] scope pos) 1 it acc env).onRaise (fun x => do noteFrame x env; theTreesLotGoes x)) _ _ s from wpAny_noted ?_)
  rw [twoTurn_in]
  refine wpAny_bind (wpAny_standAt (wpAny_bind (wpAny_mono (turn n s hI) (fun r sa ha => ?_) fun _ _ z => z)))
  cases r with
  | none => exact wpAny_pure ha
  | some v =>
    refine wpAny_bind (wpAny_mono ha (fun _ sb hb => wpAny_bind (wpAny_mono hb (fun _ sc hc => wpAny_bind (wpAny_mono hc (fun ok sd hd => ?_) fun _ _ z => z)) fun _ _ z => z)) fun _ _ z => z)
    cases ok with
    | false => exact wpAny_pure (And.intro rfl hd)
    | true =>
      exact wpAny_bind (wpAny_bind (wpAny_mono hd (fun x se he => wpAny_bind (wpAny_standAt (wpAny_bind (wpAny_mono he (fun _ sf hf => wpAny_pure (wpAny_pure (And.intro rfl hf))) fun _ _ z => z)))) fun _ _ z => z))
theorem twoStart (h0 : codeAny (model prog w) A (.compLoop (.SetComp elt [⟨t0, i0, fs0, 0⟩, ⟨t1, i1, fs1, 0⟩] scope pos) 1 it acc env) R s)
    (h : wpAny (model prog w) A (pyIter it) (fun it' s' => codeAny (model prog w) A (.compLoop (.SetComp elt [⟨t0, i0, fs0, 0⟩, ⟨t1, i1, fs1, 0⟩] scope pos) 1 it' acc env) R s') (Noted prog w A env R) s) :
    codeAny (model prog w) A (.compStart (.SetComp elt [⟨t0, i0, fs0, 0⟩, ⟨t1, i1, fs1, 0⟩] scope pos) 1 it acc env) R s := by
  refine codeAny_of_tree (show wpAny _ _ ((compStart (.SetComp elt [⟨t0, i0, fs0, 0⟩, ⟨t1, i1, fs1, 0⟩] scope pos) 1 it acc env).onRaise (fun x => do noteFrame x env; standAt theWindowsPlace)) _ _ s from wpAny_notedAt ?_)
  unfold compStart
  refine (show wpAny _ _ (ask >>= _) _ _ s from wpAny_bind (wpAny_askSetting (wpAny_ite ?_)))
  split
  · first
      | exact wpAny_bind (wpAny_pure (wpAny_pure ⟨rfl, h0⟩))
      | exact wpAny_pure ⟨rfl, h0⟩
  · first
      | exact wpAny_bind (wpAny_rule (wpAny_bind (wpAny_standAt (wpAny_bind (wpAny_mono h (fun it' s' z => wpAny_pure ⟨rfl, z⟩) fun _ _ x => x)))))
      | (refine wpAny_bind (wpAny_rule ?_); show wpAny _ _ (standAt i1.pos >>= _) _ _ s; exact wpAny_bind (wpAny_standAt (wpAny_bind (wpAny_mono h (fun it' s' z => wpAny_pure ⟨rfl, z⟩) fun _ _ x => x))))
end
/-- a way to gather members: what is tracked at the set, and what adding a value asks -/
structure Gather (P : Program) (w : World) (K : PySem.W.Frag) (A : Around) (β : Type) where
  ob : Addr → β → HO
  none : β
  puts : Hp → V → β → β → Prop
  new : ∀ (H : Hp) (h : Heap) (a : Addr), h.get? a = some (emptySet w) → ObjOk P w H h a (ob a none)
  add : ∀ (X : Cx), X.prog = P → X.w = w → X.K = K → X.A = A → ∀ (pins : List (Addr × Obj)) (σ : L2.St) (H : Hp) (s : Shared) (E : Value → Shared → Prop) (D : Addr) (b b' : β) (y : V) (v : Value) (Q : Value → Shared → Prop),
    Inv X pins σ H s → H D = some (ob D b) → RelV y v → puts H y b b' → (∀ s', Inv X pins σ (upd H D (ob D b')) s' → Q .none s') → wpAny (model X.prog X.w) X.A (call (.builtin "set.add") [.ref D, v]) Q E s
section
variable {X : Cx} {β : Type}
def tSet1 (Gt : Gather X.prog X.w X.K X.A β) (wi : TI) (g : TG) (tt : TT) (te : TE) (vs : List Nat) : TE := fun σ H Q => wi σ H fun J H1 => ∀ D, H1 D = none → ∃ W : Nat → Nat → Hp → Prop, (∃ m, W 0 m (upd H1 D (Gt.ob D Gt.none))) ∧ ∀ i m H, W i m H →
  (J.stop i H ∧ Q (.ref D) H) ∨ (J.go i H ∧ ∃ Nx : Hp → Prop, (∀ H', Nx H' → ∃ m', m' < m ∧ W (i + 1) m' H') ∧ ∀ x H', J.yld i H x H' → g x (wipe σ vs) H' fun σ2 H2 => wipe σ2 vs = wipe σ vs ∧ tt σ2 H2 fun b H3 =>
    if b = true then te σ2 H3 fun y H4 => ∃ b b', H4 D = some (Gt.ob D b) ∧ Gt.puts H4 y b b' ∧ Nx (upd H4 D (Gt.ob D b')) else Nx H3)
def tSet2 (Gt : Gather X.prog X.w X.K X.A β) (wi : TI) (g : TG) (tt : TT) (wi1 : TI) (g1 : TG) (tt1 : TT) (te : TE) (vs vs1 : List Nat) : TE := fun σ H Q => wi σ H fun J H1 => ∀ D, H1 D = none → ∃ W : Nat → Nat → Hp → Prop, (∃ m, W 0 m (upd H1 D (Gt.ob D Gt.none))) ∧ ∀ i m H, W i m H →
  (J.stop i H ∧ Q (.ref D) H) ∨ (J.go i H ∧ ∃ Nx : Hp → Prop, (∀ H', Nx H' → ∃ m', m' < m ∧ W (i + 1) m' H') ∧ ∀ x H', J.yld i H x H' → g x (wipe σ vs) H' fun σ2 H2 => wipe σ2 vs = wipe σ vs ∧ tt σ2 H2 fun b H3 =>
    if b = true then wi1 σ2 H3 fun J1 H4 => ∃ W1 : Nat → Nat → Hp → Prop, (∃ m, W1 0 m H4) ∧ ∀ j k H, W1 j k H →
      (J1.stop j H ∧ Nx H) ∨ (J1.go j H ∧ ∃ Nx1 : Hp → Prop, (∀ H', Nx1 H' → ∃ k', k' < k ∧ W1 (j + 1) k' H') ∧ ∀ x H', J1.yld j H x H' → g1 x (wipe σ2 vs1) H' fun σ3 H5 => wipe σ3 vs1 = wipe σ2 vs1 ∧ tt1 σ3 H5 fun b H6 =>
        if b = true then te σ3 H6 fun y H7 => ∃ b b', H7 D = some (Gt.ob D b) ∧ Gt.puts H7 y b b' ∧ Nx1 (upd H7 D (Gt.ob D b')) else Nx1 H6)
    else Nx H3)
abbrev InBlk (X : Cx) (scope : Scope) (F : Cx → Prop) : Prop := ∀ (s : Shared) (H : Hp) (C : Addr) (cl : List (Str × Addr)) (fp : List Addr), F (X.blk s H scope (compEnvC scope cl C X.env) fp)
theorem set1_core (Gt : Gather X.prog X.w X.K X.A β) {pins : List (Addr × Obj)} {s : Shared} {σ : L2.St} {H : Hp} {Q : VK} {elt tg iter : Expr} {ifs : List Expr} {scope : Scope} {own : List (Str × Nat)} {pos pos' : Pos} {wi : TI} {g : TG} {tt : TT} {te : TE} {use : Option (Value → Sem Unit)} {Qf : Value → Shared → Prop}
    (hc : X.calm = true) (hN : X.N.Nodup) (I : Inv X pins σ H s) (hi : PI X tg iter wi) (ok : BlkOk X.N X.env.scope scope own)
    (hg : InBlk X scope fun Y => PG Y tg g) (ht : InBlk X scope fun Y => PTs Y ifs tt) (he : InBlk X scope fun Y => PE Y elt te) (hs : ∀ x, foldedSetIterable iter X.env x = pure x)
    (h : tSet1 Gt wi g tt te (own.map (·.2)) σ H Q)
    (ret : ∀ D C s' m H', Inv X pins σ H' s' → Q (.ref D) H' → s'.heap.Ns C m → FpOk X pins H' C → compPost (model X.prog X.w) X.A X.xe use Qf (.ref D) C (.ok .next) s') :
    wpAny (model X.prog X.w) X.A (comprehension (.SetComp elt [⟨tg, iter, ifs, 0⟩] scope pos) scope X.env pos' (newSet (.type "set")) false (eval iter X.env) use) Qf X.xe s := by
  have free : ∀ y ∈ scope.names, y.2 = .free → ∃ c, X.env.cells.lookup y.1 = some c := fun y hy e => (ok.free y hy e).elim (fun k => I.ok.has _ (.inl k)) fun k => I.ok.has _ (.inr k)
  refine wpAny_comprehension_free (use := use) rfl hs (closure_ok free) ok.kind (fun y hy e => by rw [ok.uniq y hy, e]) (thn (hi.run pins s σ H _ I h) fun xv sa hx => thn hx fun itv sb hb => ?_)
  obtain ⟨it, fp, tn, J, H2, e, I2, T, st2, f2, q⟩ := hb
  subst e
  refine PpSet.newSet_ok (newEnv_comp ?_)
  generalize hD : sb.heap.objs.size = D
  have nD : H2 D = none := I2.hok.fresh (Nat.le_of_eq hD)
  obtain ⟨W, ⟨m0, w0⟩, turn⟩ := q D nD
  generalize hsc : ({ sb with heap := sb.heap.push (emptySet X.w) } : Shared) = sc
  have I3 : Inv X pins σ (upd H2 D (Gt.ob D Gt.none)) sc := by
    rw [← hsc]
    refine I2.laid (t' := sb.toks) (fun b o e => Heap.get?_push_of_some _ e) (Nat.le_of_eq hD) (Gt.new _ _ _ ?_)
    rw [← hD]
    exact Heap.get?_push_size _ rfl
  have h3 : sc.heap = sb.heap.push (emptySet X.w) := by rw [← hsc]
  have sz : ∀ b ∈ fp, b < sb.heap.objs.size := fun b hb => let ⟨o, e, _⟩ := T.obj _ _ st2 b hb; Heap.lt_size e
  have f3 : ∀ b ∈ fp, FpOk X pins (upd H2 D (Gt.ob D Gt.none)) b ∧ b < sc.heap.objs.size := fun b hb => by
    have lt := sz b hb
    refine ⟨⟨?_, (f2 b hb).2⟩, by rw [h3, Heap.size_push]; exact Nat.lt_succ_of_lt lt⟩
    rw [upd_ne (by rw [← hD]; exact Nat.ne_of_lt lt)]
    exact (f2 b hb).1
  have st3 : tn 0 sc.heap := T.keep _ _ _ st2 fun b _ o e => by rw [h3]; exact Heap.get?_push_of_some _ e
  have I4 := block_start I3 ok hN f3
  have pg := hg sc (upd H2 D (Gt.ob D Gt.none)) sc.heap.objs.size (cellsFrom (sc.heap.objs.size + 1) scope.names (cloFrom X.env.cells scope.names [])) fp
  have pt := ht sc (upd H2 D (Gt.ob D Gt.none)) sc.heap.objs.size (cellsFrom (sc.heap.objs.size + 1) scope.names (cloFrom X.env.cells scope.names [])) fp
  have pe := he sc (upd H2 D (Gt.ob D Gt.none)) sc.heap.objs.size (cellsFrom (sc.heap.objs.size + 1) scope.names (cloFrom X.env.cells scope.names [])) fp
  show codeAny _ _ (.compStart (.SetComp elt [⟨tg, iter, ifs, 0⟩] scope pos) 0 (.ref it) (.ref D) (compEnvC scope (cellsFrom (sc.heap.objs.size + 1) scope.names (cloFrom X.env.cells scope.names [])) sc.heap.objs.size X.env)) (compPost (model X.prog X.w) X.A X.xe use Qf (.ref D) sc.heap.objs.size) { sc with heap := pushCells (sc.heap.push { cls := .type "dict", data := .dict #[] }) scope.names }
  have nfp : ∀ b ∈ fp, (upd H2 D (Gt.ob D Gt.none)) b = none := fun b hb => (f3 b hb).1.1
  generalize hce : compEnvC scope (cellsFrom (sc.heap.objs.size + 1) scope.names (cloFrom X.env.cells scope.names [])) sc.heap.objs.size X.env = ce at I4 pg pt pe ⊢
  have cL : ce.locals = sc.heap.objs.size := by subst hce; rfl
  generalize hH3 : upd H2 D (Gt.ob D Gt.none) = H3 at I3 I4 pg pt pe w0 nfp f3
  generalize hsd : ({ sc with heap := pushCells (sc.heap.push { cls := .type "dict", data := .dict #[] }) scope.names } : Shared) = sd at I4 ⊢
  have st4 : tn 0 sd.heap := T.keep _ _ _ st3 fun b _ o e => by rw [← hsd]; exact pushCells_keeps _ _ _ _ (Heap.get?_push_of_some _ e)
  have stat : ∀ {σ' : L2.St} {H' : Hp} {s' : Shared}, Inv (X.blk sc H3 scope ce fp) [] σ' H' s' → (∀ b ∈ fp, H' b = none) → ∀ b ∈ fp, FpOk (X.blk sc H3 scope ce fp) [] H' b := fun {σ' H' s'} J' hn b hb =>
    ⟨hn b hb, (J'.ok.exf b hb).1, J'.ok.exfs b hb, .inl hb, fun x c e => (J'.ok.exf b hb).2 x c e, fun p hp => absurd (show p ∈ ([] : List (Addr × Obj)) ++ [] from hp) (by simp)⟩
  have loop : codeAny (model X.prog X.w) X.A (.compLoop (.SetComp elt [⟨tg, iter, ifs, 0⟩] scope pos) 0 (.ref it) (.ref D) ce) (compPost (model X.prog X.w) X.A X.xe use Qf (.ref D) sc.heap.objs.size) sd := by
    refine PpSet.compLoopS_any (fun n s' => ∃ i H', Inv (X.blk sc H3 scope ce fp) [] (wipe σ (own.map (·.2))) H' s' ∧ tn i s'.heap ∧ (∀ b ∈ fp, H' b = none) ∧ W i n H') ?_ m0 ⟨0, H3, I4, st4, nfp, w0⟩
    rintro n s5 ⟨i, H5, I5, st5, n5, w5⟩
    rcases turn i n H5 w5 with ⟨stop, qq⟩ | ⟨go, Nx, hNx, step⟩
    · have td := T.done (X.blk sc H3 scope ce fp) rfl rfl rfl hc i [] s5 _ H5 (fun _ _ => False) I5 (stat I5 n5) st5 stop
      refine thnF td fun r s6 ⟨hr, I6⟩ => ?_
      subst hr
      have I7 : Inv X pins σ H5 s6 := I3.call' (ch := fp) I6.os I6.base I6.hok I6.bare fun b hb => let z := (f3 b hb).1.2; ⟨z.2.2.1, z.1, z.2.2.2.1, z.2.2.2.2⟩
      have nC : H5 sc.heap.objs.size = none := by rw [← cL]; exact I6.free
      obtain ⟨m, ns, _⟩ := I6.loc
      have ns2 : s6.heap.Ns ce.locals m := ns
      rw [cL] at ns2
      exact ret D sc.heap.objs.size s6 m H5 I7 qq ns2 (I3.fpOk (Nat.le_refl _) nC)
    · have ti := T.item (X.blk sc H3 scope ce fp) rfl rfl rfl hc i [] s5 _ H5 (fun _ _ => False) I5 (stat I5 n5) st5 go
      refine thnF ti fun r s6 ⟨u, hr, h6⟩ => ?_
      subst hr
      refine thnF h6 fun _ s7 ⟨x, H7, I7, r7, y7, st7, n7⟩ => ?_
      have I7p := I7.pinned (stat I7 n7) (T.obj _ _ st7)
      refine thnF (pg.run _ s7 _ H7 x u _ I7p r7 (step x H7 y7)) fun _ s8 ⟨σ8, H8, I8, hw8, q8⟩ => ?_
      refine thnF (pt.run _ s8 σ8 H8 _ I8 q8) fun b s9 ⟨H9, I9, q9⟩ => ?_
      have fin : ∀ {s' : Shared} {H' : Hp}, Inv (X.blk sc H3 scope ce fp) ([] ++ pinsAt fp s7.heap) σ8 H' s' → Nx H' → ∃ m, m < n ∧ ∃ i H', Inv (X.blk sc H3 scope ce fp) [] (wipe σ (own.map (·.2))) H' s' ∧ tn i s'.heap ∧ (∀ b ∈ fp, H' b = none) ∧ W i m H' := fun {s' H'} J' nx => by
        obtain ⟨m', hm, w'⟩ := hNx H' nx
        have pinned : ∀ b ∈ fp, ∀ o, s7.heap.get? b = some o → s'.heap.get? b = some o ∧ H' b = none := fun b hb o e =>
          let z := J'.pin (b, o) (List.mem_append_right _ (List.mem_append_right _ (mem_pinsAt hb e))); ⟨z.1, z.2.1⟩
        refine ⟨m', hm, i + 1, H', (J'.unpinned (pins := [])).weak (by rw [← hw8, wipe_length]) (fun j v e => by rw [← hw8] at e; exact (wipe_some e).1), T.keep _ _ _ st7 fun b hb o e => (pinned b hb o e).1, fun b hb => let ⟨o, e, _⟩ := T.obj _ _ st7 b hb; (pinned b hb o e).2, w'⟩
      cases b with
      | false =>
        simp only [Bool.false_eq_true, if_false] at q9 ⊢
        exact fin I9 q9
      | true =>
        simp only [if_true] at q9 ⊢
        refine thnF (pe.run _ s9 σ8 H9 _ I9 q9) fun z s10 ⟨yv, H10, I10, r10, b0, b1, atD, pb, nx⟩ => ?_
        exact Gt.add (X.blk sc H3 scope ce fp) rfl rfl rfl rfl _ _ _ _ _ _ _ _ _ _ _ I10 atD r10 pb fun s11 I11 => fin I11 nx
  exact PpSet.codeAny_compStart_set loop (T.self X.A 0 _ _ _ st4 loop)
theorem pe_set1 (Gt : Gather X.prog X.w X.K X.A β) {elt tg iter : Expr} {ifs : List Expr} {scope : Scope} {own : List (Str × Nat)} {pos : Pos} {wi : TI} {g : TG} {tt : TT} {te : TE} (hc : X.calm = true) (hN : X.N.Nodup) (hi : PI X tg iter wi) (ok : BlkOk X.N X.env.scope scope own)
    (hg : InBlk X scope fun Y => PG Y tg g) (ht : InBlk X scope fun Y => PTs Y ifs tt) (he : InBlk X scope fun Y => PE Y elt te) (hs : ∀ x, foldedSetIterable iter X.env x = pure x := by intro _; rfl) :
    PE X (.SetComp elt [⟨tg, iter, ifs, 0⟩] scope pos) (tSet1 Gt wi g tt te (own.map (·.2))) := by
  refine ⟨fun pins s σ H Q I h => ?_⟩
  rw [PpSet.eval_SetComp]
  refine set1_core Gt hc hN I hi ok hg ht he hs h fun D C s' m H' J' q hn f => ⟨m, hn, fun h'' sb => ?_⟩
  obtain ⟨f0, f1, f2, f3, f4, f5⟩ := f
  exact ⟨.ref D, H', J'.turned (t' := s'.toks) (fun b o hb e => (sb.2 b hb).trans e) f0 f1 f3 f4 f5, rfl, q⟩
end
end DL
namespace DL
open PySem PySem.Spec PyProof.Rows L2
section
variable {X : Cx} {β : Type}
theorem set2_core (Gt : Gather X.prog X.w X.K X.A β) {pins : List (Addr × Obj)} {s : Shared} {σ : L2.St} {H : Hp} {Q : VK} {elt tg iter tg1 iter1 : Expr} {ifs ifs1 : List Expr} {scope : Scope} {own : List (Str × Nat)} {vs1 : List Nat} {pos pos' : Pos} {wi wi1 : TI} {g g1 : TG} {tt tt1 : TT} {te : TE} {use : Option (Value → Sem Unit)} {Qf : Value → Shared → Prop}
    (hc : X.calm = true) (hN : X.N.Nodup) (I : Inv X pins σ H s) (hi : PI X tg iter wi) (ok : BlkOk X.N X.env.scope scope own) (hv : ∀ i ∈ vs1, i ∈ own.map (·.2))
    (hg : InBlk X scope fun Y => PG Y tg g) (ht : InBlk X scope fun Y => PTs Y ifs tt) (he : InBlk X scope fun Y => PE Y elt te) (hs : ∀ x, foldedSetIterable iter X.env x = pure x)
    (hi1 : InBlk X scope fun Y => PI Y tg1 iter1 wi1) (hg1 : InBlk X scope fun Y => PG Y tg1 g1) (ht1 : InBlk X scope fun Y => PTs Y ifs1 tt1) (hs1 : ∀ env x, foldedSetIterable iter1 env x = pure x)
    (h : tSet2 Gt wi g tt wi1 g1 tt1 te (own.map (·.2)) vs1 σ H Q)
    (ret : ∀ D C s' m H', Inv X pins σ H' s' → Q (.ref D) H' → s'.heap.Ns C m → FpOk X pins H' C → compPost (model X.prog X.w) X.A X.xe use Qf (.ref D) C (.ok .next) s') :
    wpAny (model X.prog X.w) X.A (comprehension (.SetComp elt [⟨tg, iter, ifs, 0⟩, ⟨tg1, iter1, ifs1, 0⟩] scope pos) scope X.env pos' (newSet (.type "set")) false (eval iter X.env) use) Qf X.xe s := by
  have free : ∀ y ∈ scope.names, y.2 = .free → ∃ c, X.env.cells.lookup y.1 = some c := fun y hy e => (ok.free y hy e).elim (fun k => I.ok.has _ (.inl k)) fun k => I.ok.has _ (.inr k)
  refine wpAny_comprehension_free (use := use) rfl hs (closure_ok free) ok.kind (fun y hy e => by rw [ok.uniq y hy, e]) (thn (hi.run pins s σ H _ I h) fun xv sa hx => thn hx fun itv sb hb => ?_)
  obtain ⟨it, fp, tn, J, H2, e, I2, T, st2, f2, q⟩ := hb
  subst e
  refine PpSet.newSet_ok (newEnv_comp ?_)
  generalize hD : sb.heap.objs.size = D
  have nD : H2 D = none := I2.hok.fresh (Nat.le_of_eq hD)
  obtain ⟨W, ⟨m0, w0⟩, turn⟩ := q D nD
  generalize hsc : ({ sb with heap := sb.heap.push (emptySet X.w) } : Shared) = sc
  have I3 : Inv X pins σ (upd H2 D (Gt.ob D Gt.none)) sc := by
    rw [← hsc]
    refine I2.laid (t' := sb.toks) (fun b o e => Heap.get?_push_of_some _ e) (Nat.le_of_eq hD) (Gt.new _ _ _ ?_)
    rw [← hD]
    exact Heap.get?_push_size _ rfl
  have h3 : sc.heap = sb.heap.push (emptySet X.w) := by rw [← hsc]
  have sz : ∀ b ∈ fp, b < sb.heap.objs.size := fun b hb => let ⟨o, e, _⟩ := T.obj _ _ st2 b hb; Heap.lt_size e
  have f3 : ∀ b ∈ fp, FpOk X pins (upd H2 D (Gt.ob D Gt.none)) b ∧ b < sc.heap.objs.size := fun b hb => by
    have lt := sz b hb
    refine ⟨⟨?_, (f2 b hb).2⟩, by rw [h3, Heap.size_push]; exact Nat.lt_succ_of_lt lt⟩
    rw [upd_ne (by rw [← hD]; exact Nat.ne_of_lt lt)]
    exact (f2 b hb).1
  have st3 : tn 0 sc.heap := T.keep _ _ _ st2 fun b _ o e => by rw [h3]; exact Heap.get?_push_of_some _ e
  have I4 := block_start I3 ok hN f3
  have pg := hg sc (upd H2 D (Gt.ob D Gt.none)) sc.heap.objs.size (cellsFrom (sc.heap.objs.size + 1) scope.names (cloFrom X.env.cells scope.names [])) fp
  have pt := ht sc (upd H2 D (Gt.ob D Gt.none)) sc.heap.objs.size (cellsFrom (sc.heap.objs.size + 1) scope.names (cloFrom X.env.cells scope.names [])) fp
  have pe := he sc (upd H2 D (Gt.ob D Gt.none)) sc.heap.objs.size (cellsFrom (sc.heap.objs.size + 1) scope.names (cloFrom X.env.cells scope.names [])) fp
  have pi1 := hi1 sc (upd H2 D (Gt.ob D Gt.none)) sc.heap.objs.size (cellsFrom (sc.heap.objs.size + 1) scope.names (cloFrom X.env.cells scope.names [])) fp
  have pg1 := hg1 sc (upd H2 D (Gt.ob D Gt.none)) sc.heap.objs.size (cellsFrom (sc.heap.objs.size + 1) scope.names (cloFrom X.env.cells scope.names [])) fp
  have pt1 := ht1 sc (upd H2 D (Gt.ob D Gt.none)) sc.heap.objs.size (cellsFrom (sc.heap.objs.size + 1) scope.names (cloFrom X.env.cells scope.names [])) fp
  show codeAny _ _ (.compStart (.SetComp elt [⟨tg, iter, ifs, 0⟩, ⟨tg1, iter1, ifs1, 0⟩] scope pos) 0 (.ref it) (.ref D) (compEnvC scope (cellsFrom (sc.heap.objs.size + 1) scope.names (cloFrom X.env.cells scope.names [])) sc.heap.objs.size X.env)) (compPost (model X.prog X.w) X.A X.xe use Qf (.ref D) sc.heap.objs.size) { sc with heap := pushCells (sc.heap.push { cls := .type "dict", data := .dict #[] }) scope.names }
  have nfp : ∀ b ∈ fp, (upd H2 D (Gt.ob D Gt.none)) b = none := fun b hb => (f3 b hb).1.1
  generalize hce : compEnvC scope (cellsFrom (sc.heap.objs.size + 1) scope.names (cloFrom X.env.cells scope.names [])) sc.heap.objs.size X.env = ce at I4 pg pt pe pi1 pg1 pt1 ⊢
  have cL : ce.locals = sc.heap.objs.size := by subst hce; rfl
  generalize hH3 : upd H2 D (Gt.ob D Gt.none) = H3 at I3 I4 pg pt pe pi1 pg1 pt1 w0 nfp f3
  generalize hsd : ({ sc with heap := pushCells (sc.heap.push { cls := .type "dict", data := .dict #[] }) scope.names } : Shared) = sd at I4 ⊢
  have st4 : tn 0 sd.heap := T.keep _ _ _ st3 fun b _ o e => by rw [← hsd]; exact pushCells_keeps _ _ _ _ (Heap.get?_push_of_some _ e)
  have stat : ∀ {σ' : L2.St} {H' : Hp} {s' : Shared}, Inv (X.blk sc H3 scope ce fp) [] σ' H' s' → (∀ b ∈ fp, H' b = none) → ∀ b ∈ fp, FpOk (X.blk sc H3 scope ce fp) [] H' b := fun {σ' H' s'} J' hn b hb =>
    ⟨hn b hb, (J'.ok.exf b hb).1, J'.ok.exfs b hb, .inl hb, fun x c e => (J'.ok.exf b hb).2 x c e, fun p hp => absurd (show p ∈ ([] : List (Addr × Obj)) ++ [] from hp) (by simp)⟩
  have loop : codeAny (model X.prog X.w) X.A (.compLoop (.SetComp elt [⟨tg, iter, ifs, 0⟩, ⟨tg1, iter1, ifs1, 0⟩] scope pos) 0 (.ref it) (.ref D) ce) (compPost (model X.prog X.w) X.A X.xe use Qf (.ref D) sc.heap.objs.size) sd := by
    refine twoLoop_out (hs1 ce) (fun n s' => ∃ i H', Inv (X.blk sc H3 scope ce fp) [] (wipe σ (own.map (·.2))) H' s' ∧ tn i s'.heap ∧ (∀ b ∈ fp, H' b = none) ∧ W i n H') ?_ m0 ⟨0, H3, I4, st4, nfp, w0⟩
    rintro n s5 ⟨i, H5, I5, st5, n5, w5⟩
    rcases turn i n H5 w5 with ⟨stop, qq⟩ | ⟨go, Nx, hNx, step⟩
    · have td := T.done (X.blk sc H3 scope ce fp) rfl rfl rfl hc i [] s5 _ H5 (fun _ _ => False) I5 (stat I5 n5) st5 stop
      refine thnF td fun r s6 ⟨hr, I6⟩ => ?_
      subst hr
      have I7 : Inv X pins σ H5 s6 := I3.call' (ch := fp) I6.os I6.base I6.hok I6.bare fun b hb => let z := (f3 b hb).1.2; ⟨z.2.2.1, z.1, z.2.2.2.1, z.2.2.2.2⟩
      have nC : H5 sc.heap.objs.size = none := by rw [← cL]; exact I6.free
      obtain ⟨m, ns, _⟩ := I6.loc
      have ns2 : s6.heap.Ns ce.locals m := ns
      rw [cL] at ns2
      exact ret D sc.heap.objs.size s6 m H5 I7 qq ns2 (I3.fpOk (Nat.le_refl _) nC)
    · have ti := T.item (X.blk sc H3 scope ce fp) rfl rfl rfl hc i [] s5 _ H5 (fun _ _ => False) I5 (stat I5 n5) st5 go
      refine thnF ti fun r s6 ⟨u, hr, h6⟩ => ?_
      subst hr
      refine thnF h6 fun _ s7 ⟨x, H7, I7, r7, y7, st7, n7⟩ => ?_
      have I7p := I7.pinned (stat I7 n7) (T.obj _ _ st7)
      refine thnF (pg.run _ s7 _ H7 x u _ I7p r7 (step x H7 y7)) fun _ s8 ⟨σ8, H8, I8, hw8, q8⟩ => ?_
      refine thnF (pt.run _ s8 σ8 H8 _ I8 q8) fun b s9 ⟨H9, I9, q9⟩ => ?_
      have fin : ∀ {σ9 : L2.St} {s' : Shared} {H' : Hp}, Inv (X.blk sc H3 scope ce fp) ([] ++ pinsAt fp s7.heap) σ9 H' s' → (wipe σ (own.map (·.2))).length = σ9.length → (∀ (j : Nat) v, (wipe σ (own.map (·.2)))[j]? = some (some v) → σ9[j]? = some (some v)) → Nx H' →
          ∃ m, m < n ∧ ∃ i H', Inv (X.blk sc H3 scope ce fp) [] (wipe σ (own.map (·.2))) H' s' ∧ tn i s'.heap ∧ (∀ b ∈ fp, H' b = none) ∧ W i m H' := fun {σ9 s' H'} J' hl hk nx => by
        obtain ⟨m', hm, w'⟩ := hNx H' nx
        have pinned : ∀ b ∈ fp, ∀ o, s7.heap.get? b = some o → s'.heap.get? b = some o ∧ H' b = none := fun b hb o e =>
          let z := J'.pin (b, o) (List.mem_append_right _ (List.mem_append_right _ (mem_pinsAt hb e))); ⟨z.1, z.2.1⟩
        exact ⟨m', hm, i + 1, H', (J'.unpinned (pins := [])).weak hl hk, T.keep _ _ _ st7 fun b hb o e => (pinned b hb o e).1, fun b hb => let ⟨o, e, _⟩ := T.obj _ _ st7 b hb; (pinned b hb o e).2, w'⟩
      have l8 : (wipe σ (own.map (·.2))).length = σ8.length := by rw [← hw8, wipe_length]
      have k8 : ∀ (j : Nat) v, (wipe σ (own.map (·.2)))[j]? = some (some v) → σ8[j]? = some (some v) := fun j v e => by rw [← hw8] at e; exact (wipe_some e).1
      have k9 : ∀ (j : Nat) v, (wipe σ (own.map (·.2)))[j]? = some (some v) → (wipe σ8 vs1)[j]? = some (some v) := fun j v e => by
        rw [← hw8] at e
        obtain ⟨e1, e2⟩ := wipe_some e
        exact (wipe_out fun z => e2 (hv j z)).trans e1
      cases b with
      | false =>
        simp only [Bool.false_eq_true, if_false] at q9 ⊢
        exact fin I9 l8 k8 q9
      | true =>
        simp only [if_true] at q9 ⊢
        refine thnF (pi1.run _ s9 σ8 H9 _ I9 q9) fun xv s10 hx => thnF hx fun itv s11 h11 => ?_
        obtain ⟨it1, fp1, tn1, J1, H11, e1, I11, T1, st11, f11, W1, ⟨m1, w1⟩, turn1⟩ := h11
        subst e1
        have stat1 : ∀ {H' : Hp}, (∀ b ∈ fp1, H' b = none) → ∀ b ∈ fp1, FpOk (X.blk sc H3 scope ce fp) ([] ++ pinsAt fp s7.heap) H' b := fun hn b hb => ⟨hn b hb, (f11 b hb).2⟩
        have loop1 : codeAny (model X.prog X.w) X.A (.compLoop (.SetComp elt [⟨tg, iter, ifs, 0⟩, ⟨tg1, iter1, ifs1, 0⟩] scope pos) 1 (.ref it1) (.ref D) ce)
            (fun r s' => match r with
              | .ok _ => ∃ m, m < n ∧ ∃ i H', Inv (X.blk sc H3 scope ce fp) [] (wipe σ (own.map (·.2))) H' s' ∧ tn i s'.heap ∧ (∀ b ∈ fp, H' b = none) ∧ W i m H'
              | .error _ => False) s11 := by
          refine twoLoop_in (fun k s' => ∃ j H', Inv (X.blk sc H3 scope ce fp) ([] ++ pinsAt fp s7.heap) (wipe σ8 vs1) H' s' ∧ tn1 j s'.heap ∧ (∀ b ∈ fp1, H' b = none) ∧ W1 j k H') ?_ m1 ⟨0, H11, I11.weak (wipe_length _ _) (fun j v e => (wipe_some e).1), st11, fun b hb => (f11 b hb).1, w1⟩
          rintro k s12 ⟨j, H12, I12, st12, n12, w12⟩
          rcases turn1 j k H12 w12 with ⟨stop1, nx1⟩ | ⟨go1, Nx1, hNx1, step1⟩
          · refine thnF (T1.done (X.blk sc H3 scope ce fp) rfl rfl rfl hc j _ s12 (wipe σ8 vs1) H12 (fun _ _ => False) I12 (stat1 n12) st12 stop1) fun r s13 ⟨hr, I13⟩ => ?_
            subst hr
            exact fin I13 (l8.trans (wipe_length σ8 vs1).symm) k9 nx1
          · refine thnF (T1.item (X.blk sc H3 scope ce fp) rfl rfl rfl hc j _ s12 (wipe σ8 vs1) H12 (fun _ _ => False) I12 (stat1 n12) st12 go1) fun r s13 ⟨u1, hr, h13⟩ => ?_
            subst hr
            refine thnF h13 fun _ s14 ⟨x1, H14, I14, r14, y14, st14, n14⟩ => ?_
            have I14p := I14.pinned (stat1 n14) (T1.obj _ _ st14)
            refine thnF (pg1.run _ s14 (wipe σ8 vs1) H14 x1 u1 _ I14p r14 (step1 x1 H14 y14)) fun _ s15 ⟨σ15, H15, I15, hw15, q15⟩ => ?_
            refine thnF (pt1.run _ s15 σ15 H15 _ I15 q15) fun b1 s16 ⟨H16, I16, q16⟩ => ?_
            have fin1 : ∀ {s' : Shared} {H' : Hp}, Inv (X.blk sc H3 scope ce fp) (([] ++ pinsAt fp s7.heap) ++ pinsAt fp1 s14.heap) σ15 H' s' → Nx1 H' → ∃ m, m < k ∧ ∃ j H', Inv (X.blk sc H3 scope ce fp) ([] ++ pinsAt fp s7.heap) (wipe σ8 vs1) H' s' ∧ tn1 j s'.heap ∧ (∀ b ∈ fp1, H' b = none) ∧ W1 j m H' := fun {s' H'} J' nx => by
              obtain ⟨m', hm, w'⟩ := hNx1 H' nx
              have pinned : ∀ b ∈ fp1, ∀ o, s14.heap.get? b = some o → s'.heap.get? b = some o ∧ H' b = none := fun b hb o e =>
                let z := J'.pin (b, o) (List.mem_append_right _ (List.mem_append_right _ (mem_pinsAt hb e))); ⟨z.1, z.2.1⟩
              exact ⟨m', hm, j + 1, H', J'.unpinned.weak (by rw [← hw15, wipe_length]) (fun j v e => by rw [← hw15] at e; exact (wipe_some e).1), T1.keep _ _ _ st14 fun b hb o e => (pinned b hb o e).1, fun b hb => let ⟨o, e, _⟩ := T1.obj _ _ st14 b hb; (pinned b hb o e).2, w'⟩
            cases b1 with
            | false =>
              simp only [Bool.false_eq_true, if_false] at q16 ⊢
              exact fin1 I16 q16
            | true =>
              simp only [if_true] at q16 ⊢
              refine thnF (pe.run _ s16 σ15 H16 _ I16 q16) fun z s17 ⟨yv, H17, I17, r17, b0, b2, atD, pb, nx⟩ => ?_
              exact Gt.add (X.blk sc H3 scope ce fp) rfl rfl rfl rfl _ _ _ _ _ _ _ _ _ _ _ I17 atD r17 pb fun s18 I18 => fin1 I18 nx
        exact twoStart loop1 (T1.self X.A 0 _ _ _ st11 loop1)
  exact PpSet.codeAny_compStart_set loop (T.self X.A 0 _ _ _ st4 loop)
theorem pe_set2 (Gt : Gather X.prog X.w X.K X.A β) {elt tg iter tg1 iter1 : Expr} {ifs ifs1 : List Expr} {scope : Scope} {own : List (Str × Nat)} {vs1 : List Nat} {pos : Pos} {wi wi1 : TI} {g g1 : TG} {tt tt1 : TT} {te : TE} (hc : X.calm = true) (hN : X.N.Nodup) (hi : PI X tg iter wi) (ok : BlkOk X.N X.env.scope scope own) (hv : ∀ i ∈ vs1, i ∈ own.map (·.2))
    (hg : InBlk X scope fun Y => PG Y tg g) (ht : InBlk X scope fun Y => PTs Y ifs tt) (hi1 : InBlk X scope fun Y => PI Y tg1 iter1 wi1) (hg1 : InBlk X scope fun Y => PG Y tg1 g1) (ht1 : InBlk X scope fun Y => PTs Y ifs1 tt1) (he : InBlk X scope fun Y => PE Y elt te)
    (hs : ∀ x, foldedSetIterable iter X.env x = pure x := by intro _; rfl) (hs1 : ∀ env x, foldedSetIterable iter1 env x = pure x := by intro _ _; rfl) :
    PE X (.SetComp elt [⟨tg, iter, ifs, 0⟩, ⟨tg1, iter1, ifs1, 0⟩] scope pos) (tSet2 Gt wi g tt wi1 g1 tt1 te (own.map (·.2)) vs1) := by
  refine ⟨fun pins s σ H Q I h => ?_⟩
  rw [PpSet.eval_SetComp]
  refine set2_core Gt hc hN I hi ok hv hg ht he hs hi1 hg1 ht1 hs1 h fun D C s' m H' J' q hn f => ⟨m, hn, fun h'' sb => ?_⟩
  obtain ⟨f0, f1, f2, f3, f4, f5⟩ := f
  exact ⟨.ref D, H', J'.turned (t' := s'.toks) (fun b o hb e => (sb.2 b hb).trans e) f0 f1 f3 f4 f5, rfl, q⟩
end
end DL
/-! sorted(..) and len(..) of a set of keys; the keys' way to gather. -/
namespace DL
open PySem PySem.Spec PyProof.Rows L2
/-- each once, as first met -/
def ded {α : Type} [DecidableEq α] (l : List α) : List α := l.foldl (fun a x => if x ∈ a then a else a ++ [x]) []
def dedK (ks : List Key) : List Key := ks.foldl addK []
section
variable {α : Type} [DecidableEq α]
theorem ded_go (l : List α) : ∀ acc : List α, acc.Nodup → (l.foldl (fun a x => if x ∈ a then a else a ++ [x]) acc).Nodup ∧ ∀ y, y ∈ l.foldl (fun a x => if x ∈ a then a else a ++ [x]) acc ↔ y ∈ acc ∨ y ∈ l := by
  induction l with
  | nil => intro acc h; exact ⟨h, fun y => by simp⟩
  | cons x l ih =>
    intro acc h
    rw [List.foldl_cons]
    by_cases hx : x ∈ acc
    · rw [if_pos hx]
      obtain ⟨a, b⟩ := ih acc h
      exact ⟨a, fun y => by rw [b y, List.mem_cons]; exact ⟨fun z => z.elim .inl fun z => .inr (.inr z), fun z => z.elim .inl fun z => z.elim (fun e => .inl (e ▸ hx)) .inr⟩⟩
    · rw [if_neg hx]
      obtain ⟨a, b⟩ := ih (acc ++ [x]) (List.nodup_append.mpr ⟨h, List.nodup_cons.mpr ⟨List.not_mem_nil, List.nodup_nil⟩, fun p hp q hq => by
        rw [List.mem_singleton.mp hq]; exact fun e => hx (e ▸ hp)⟩)
      exact ⟨a, fun y => by rw [b y, List.mem_append, List.mem_singleton, List.mem_cons, or_assoc]⟩
theorem ded_nodup (l : List α) : (ded l).Nodup := (ded_go l [] List.nodup_nil).1
theorem mem_ded {l : List α} {y : α} : y ∈ ded l ↔ y ∈ l := by
  rw [show (y ∈ ded l) = _ from rfl]
  unfold ded
  rw [(ded_go l [] List.nodup_nil).2 y]
  simp
theorem ded_snoc (l : List α) (x : α) : ded (l ++ [x]) = if x ∈ ded l then ded l else ded l ++ [x] := by
  unfold ded
  rw [List.foldl_append]
  rfl
theorem ded_perm {l m : List α} (h : ∀ y, y ∈ l ↔ y ∈ m) : (ded l).Perm (ded m) :=
  (List.perm_ext_iff_of_nodup (ded_nodup l) (ded_nodup m)).mpr fun y => by rw [mem_ded, mem_ded, h y]
/-- what has no doubles and lies within another list is no longer -/
theorem nodup_le : ∀ {l m : List α}, l.Nodup → (∀ y ∈ l, y ∈ m) → l.length ≤ m.length
  | [], _, _, _ => Nat.zero_le _
  | x :: l, m, h, s => by
    obtain ⟨h1, h2⟩ := List.nodup_cons.mp h
    have hx : x ∈ m := s x List.mem_cons_self
    have q := nodup_le (l := l) (m := m.erase x) h2 fun y hy => (List.mem_erase_of_ne fun e => h1 (by rw [← e]; exact hy)).mpr (s y (.tail _ hy))
    rw [List.length_erase_of_mem hx] at q
    have : 0 < m.length := List.length_pos_of_mem hx
    rw [List.length_cons]
    omega
end
theorem dedK_snoc (ks : List Key) (k : Key) : dedK (ks ++ [k]) = addK (dedK ks) k := by
  unfold dedK
  rw [List.foldl_append]
  rfl
theorem dedK_go {α : Type} [DecidableEq α] (f : α → Key) (hf : ∀ a b, f a = f b → a = b) (l : List α) : ∀ acc : List α, (l.map f).foldl addK (acc.map f) = (l.foldl (fun a x => if x ∈ a then a else a ++ [x]) acc).map f := by
  induction l with
  | nil => intro acc; rfl
  | cons x l ih =>
    intro acc
    rw [List.map_cons, List.foldl_cons, List.foldl_cons]
    have e : addK (acc.map f) (f x) = (if x ∈ acc then acc else acc ++ [x]).map f := by
      unfold addK
      by_cases hx : x ∈ acc
      · rw [if_pos (hasK_iff.mpr (List.mem_map.mpr ⟨x, hx, rfl⟩)), if_pos hx]
      · rw [if_neg fun z => hx (by obtain ⟨y, hy, e⟩ := List.mem_map.mp (hasK_iff.mp z); exact hf _ _ e ▸ hy), if_neg hx, List.map_append] <;> rfl
    rw [e]
    exact ih _
theorem dedK_ints (is : List Int) : dedK (is.map .inl) = (ded is).map .inl := dedK_go .inl (fun _ _ e => Sum.inl.inj e) is []
theorem dedK_strs (xs : List Str) : dedK (xs.map .inr) = (ded xs).map .inr := dedK_go .inr (fun _ _ e => Sum.inr.inj e) xs []
def leI (a b : Int) : Bool := decide (a ≤ b)
def leS (a b : Str) : Bool := decide (a.cps.toList ≤ b.cps.toList)
def srtI (is : List Int) : List Int := is.mergeSort leI
def srtS (xs : List Str) : List Str := xs.mergeSort leS
theorem str_ext {x y : Str} (h : x.cps.toList = y.cps.toList) : x = y := by
  cases x; cases y
  simp only at h
  rw [Array.toList_inj.mp h]
theorem leI_anti {a b : Int} (h1 : leI a b = true) (h2 : leI b a = true) : a = b := Int.le_antisymm (of_decide_eq_true h1) (of_decide_eq_true h2)
theorem leS_anti {a b : Str} (h1 : leS a b = true) (h2 : leS b a = true) : a = b := str_ext (List.le_antisymm (of_decide_eq_true h1) (of_decide_eq_true h2))
theorem srtI_pair (a : List Int) : (srtI a).Pairwise fun a b => leI a b = true :=
  List.pairwise_mergeSort (le := leI) (fun a b c h1 h2 => decide_eq_true (Int.le_trans (of_decide_eq_true h1) (of_decide_eq_true h2))) (fun a b => by
    unfold leI
    rcases Int.le_total a b with h | h <;> simp [h]) a
theorem srtS_pair (a : List Str) : (srtS a).Pairwise fun a b => leS a b = true :=
  List.pairwise_mergeSort (le := leS) (fun a b c h1 h2 => decide_eq_true (List.le_trans (of_decide_eq_true h1) (of_decide_eq_true h2))) (fun a b => by
    unfold leS
    rcases List.le_total a.cps.toList b.cps.toList with h | h <;> simp [h]) a
theorem srtI_perm {a b : List Int} (p : a.Perm b) : srtI a = srtI b :=
  List.Perm.eq_of_pairwise (le := fun a b => leI a b = true) (fun x y _ _ h1 h2 => leI_anti h1 h2) (srtI_pair a) (srtI_pair b) (((List.mergeSort_perm a _).trans p).trans (List.mergeSort_perm b _).symm)
theorem srtS_perm {a b : List Str} (p : a.Perm b) : srtS a = srtS b :=
  List.Perm.eq_of_pairwise (le := fun a b => leS a b = true) (fun x y _ _ h1 h2 => leS_anti h1 h2) (srtS_pair a) (srtS_pair b) (((List.mergeSort_perm a _).trans p).trans (List.mergeSort_perm b _).symm)
/-- lists of keys of one kind, sorted -/
theorem sort_ints {bs : List Key} {is : List Int} (p : bs.Perm (is.map .inl)) : bs.mergeSort (PySem.W.dataLe false keyD) = (srtI is).map .inl := by
  let f : Key → Int := fun k => match k with | .inl i => i | .inr _ => 0
  have e1 : bs = (bs.map f).map .inl := by
    rw [List.map_map]
    conv => lhs; rw [← List.map_id bs]
    refine List.map_congr_left fun k hk => ?_
    obtain ⟨i, _, rfl⟩ := List.mem_map.mp (p.mem_iff.mp hk)
    rfl
  have e2 : (bs.map f).Perm is := by
    have q := p.map f
    rw [List.map_map, show (f ∘ Sum.inl : Int → Int) = id from rfl, List.map_id] at q
    exact q
  rw [e1, ← srtI_perm e2]
  unfold srtI
  refine (List.map_mergeSort fun a _ b _ => ?_).symm
  exact (congrFun (congrFun (PySem.W.dataLe_int fun i : Int => i) a) b).symm
theorem sort_strs {bs : List Key} {xs : List Str} (p : bs.Perm (xs.map .inr)) : bs.mergeSort (PySem.W.dataLe false keyD) = (srtS xs).map .inr := by
  let f : Key → Str := fun k => match k with | .inl i => ⟨#[]⟩ | .inr x => x
  have e1 : bs = (bs.map f).map .inr := by
    rw [List.map_map]
    conv => lhs; rw [← List.map_id bs]
    refine List.map_congr_left fun k hk => ?_
    obtain ⟨i, _, rfl⟩ := List.mem_map.mp (p.mem_iff.mp hk)
    rfl
  have e2 : (bs.map f).Perm xs := by
    have q := p.map f
    rw [List.map_map, show (f ∘ Sum.inr : Str → Str) = id from rfl, List.map_id] at q
    exact q
  rw [e1, ← srtS_perm e2]
  unfold srtS
  refine (List.map_mergeSort fun a _ b _ => ?_).symm
  exact (congrFun (congrFun (PySem.W.dataLe_str fun x : Str => x) a) b).symm
/-- the set of keys, tracked -/
def SetQO (w : World) (a : Addr) (ks : List Key) : HO := .ext fun h => SetQ w h a ks
theorem setQO_new {P : Program} {w : World} {H : Hp} {h : Heap} {a : Addr} {ks : List Key} (R : SetQ w h a ks) : ObjOk P w H h a (SetQO w a ks) := by
  have ⟨es, ⟨o, _, _, ho, _⟩, _⟩ := R
  exact ⟨R, ⟨o, ho⟩, fun h1 h2 p k => SetQ.at p k⟩
theorem setQO_get {X : Cx} {pins : List (Addr × Obj)} {σ : L2.St} {H : Hp} {s : Shared} {a : Addr} {ks : List Key} (I : Inv X pins σ H s) (ha : H a = some (SetQO X.w a ks)) : SetQ X.w s.heap a ks := (I.hok a _ ha).1
theorem setQ_at {w : World} {h : Heap} {a : Addr} (e : h.get? a = some (emptySet w)) : SetQ w h a [] :=
  ⟨#[], ⟨_, 0, _, e, ⟨rfl, rfl, rfl⟩, rfl, by decide, by rfl, List.Pairwise.nil, by
    show _ ∨ (!w.params.followText "set-order") = true
    cases w.params.followText "set-order"
    · exact .inr rfl
    · exact .inl rfl⟩, (fun e he => by simp at he), List.Perm.refl _, List.nodup_nil⟩
def gatherK (P : Program) (w : World) (K : PySem.W.Frag) (A : Around) : Gather P w K A (List Key) where
  ob := SetQO w
  none := []
  puts := fun _ y ks ks' => ∃ k, y = kV k ∧ ks.length + 1 < scanBound ∧ ks' = addK ks k
  new := fun H h a e => setQO_new (setQ_at e)
  add := by
    rintro X rfl rfl rfl rfl pins σ H s E D b b' y v Q I hD r ⟨k, rfl, room, rfl⟩ q
    have R := setQO_get I hD
    have ⟨es, ⟨o0, _, _, ho0, hx0, _⟩, _⟩ := R
    refine wpAny_call_entry F.slot_set_add ⟨o0, ho0, hx0.1⟩ F.entry_set_add ?_ (F.args_set_add_2 _ _)
    unfold Builtin.«set.add» Builtin.Frozenset.oneOther
    simp only [List.isEmpty_nil, bind_assoc]
    unfold Builtin.Frozenset.addrOf
    refine wpAny_bind (wpAny_pure ?_)
    try dsimp only
    refine wpAny_bind (wpAny_pure ?_)
    try dsimp only
    refine wpAny_bind (setQ_add r R room fun h' sb new b => ?_)
    have he : ∃ u, h'.get? D = some u := by
      have ⟨_, ⟨o, _, _, ho, _⟩, _⟩ := new
      exact ⟨o, ho⟩
    exact (show wpAny _ _ (ret Value.none) _ _ _ from wpAny_pure ⟨_, rfl, q _ (I.write (e := D) (t' := s.toks + 1) (by rw [hD]; trivial) (.inl rfl) (fun b u hb hu => (sb.2 b hb).trans hu) he (setQO_new new))⟩)
/-- set(xs) -/
def rSetQ (K : PySem.W.Frag) (w : World) : List V → Hp → VK → Prop := fun vs H Q => ∃ (a : Addr) (ks : List Key), vs = [.ref a] ∧ (SqL K H a (ks.map kV) ∨ SqT K H a (ks.map kV)) ∧ (dedK ks).length + 1 < scanBound ∧ ∀ p, H p = none → Q (.ref p) (upd H p (SetQO w p (dedK ks)))
theorem relV_keys : ∀ {ks : List Key} {us : List Value} {i : Nat} {v : Value}, Vals (ks.map kV) us → us[i]? = some v → ∃ k, ks[i]? = some k ∧ RelV (kV k) v
  | [], _, i, v, .nil, e => by simp at e
  | k :: ks, _, 0, v, .cons r _, e => by simp at e; subst e; exact ⟨k, rfl, r⟩
  | k :: ks, _, i + 1, v, .cons _ t, e => by
    obtain ⟨j, h1, h2⟩ := relV_keys (i := i) t (by simpa using e)
    exact ⟨j, by simpa using h1, h2⟩
theorem dedK_take_le (ks : List Key) (i : Nat) : (dedK (ks.take i)).length ≤ (dedK ks).length := by
  have mono : ∀ (l acc : List Key), acc.length ≤ (l.foldl addK acc).length := fun l => by
    induction l with
    | nil => intro acc; exact Nat.le_refl _
    | cons x l ih =>
      intro acc
      refine Nat.le_trans ?_ (ih _)
      unfold addK
      split
      · exact Nat.le_refl _
      · rw [List.length_append]; exact Nat.le_add_right _ _
  conv => rhs; rw [← List.take_append_drop i ks]
  unfold dedK
  rw [List.foldl_append]
  exact mono _ _
theorem cr_setQ {X : Cx} (hc : X.calm = true) : CallR X (.type "set") (rSetQ X.K X.w) := by
  intro pins s σ H vs us Q I r h
  obtain ⟨a, ks, rfl, hl, room, q⟩ := h
  rw [Vals.ref1 r]
  have go : ∀ (its : List Value) (tn : String), Vals (ks.map kV) its → ((tn = "list" ∧ s.heap.IsList a its.toArray) ∨ (tn = "tuple" ∧ s.heap.IsTuple a its.toArray)) → wpAny (model X.prog X.w) X.A (call (.type "set") [.ref a]) (EP X pins σ Q) X.xe s := fun its tn rv hh => by
    have hz : its.toArray.size = ks.length := by rw [List.size_toArray, ← rv.length, List.length_map]
    refine set_of (I.ok.hd hc) hh (fun i h => SetQ X.w h s.heap.objs.size (dedK (ks.take i))) (fun h e _ => by rw [List.take_zero]; exact setQ_at e) (fun i h h' ok k => ok.at fun o e => k _ o (Nat.ne_of_lt (Nat.lt_succ_self _)) e) (fun A' _ i v s1 Q' E hi hv ok fin => ?_) fun h' tk ok kp => ?_
    · obtain ⟨k, hk, rk⟩ := relV_keys rv (by rw [← hv, List.getElem?_toArray])
      have lk : i < ks.length := (List.getElem?_eq_some_iff.mp hk).1
      have nx : dedK (ks.take (i + 1)) = addK (dedK (ks.take i)) k := by rw [List.take_succ, hk]; exact dedK_snoc _ _
      refine setQ_add rk ok (by have := dedK_take_le ks i; omega) fun h' sb new b => fin h' _ b sb (Nat.le_succ _) (by rw [nx]; exact new)
    · rw [hz, List.take_length] at ok
      refine ⟨.ref s.heap.objs.size, upd H s.heap.objs.size (SetQO X.w s.heap.objs.size (dedK ks)), I.laid (t' := tk) kp (Nat.le_refl _) (setQO_new ok), rfl, q _ (I.hok.fresh (Nat.le_refl _))⟩
  rcases hl with hl | hl
  · obtain ⟨its, rv, pl, _⟩ := I.list hl
    exact go its "list" rv (.inl ⟨rfl, pl.isList⟩)
  · obtain ⟨its, rv, pl, _⟩ := I.tuple hl
    exact go its "tuple" rv (.inr ⟨rfl, pl⟩)
def keyVal (v : Value) : Key := match v with
  | .int i _ => .inl i
  | .str x _ => .inr x
  | _ => .inl 0
/-- sorted(a set) -/
def rSortQ (w : World) : List V → Hp → VK → Prop := fun vs H Q => ∃ (a : Addr) (ks : List Key), vs = [.ref a] ∧ H a = some (SetQO w a ks) ∧ ((∃ is : List Int, ks = is.map .inl) ∨ ∃ xs : List Str, ks = xs.map .inr) ∧
  ∀ p, H p = none → Q (.ref p) (upd H p (.lst ((ks.mergeSort (PySem.W.dataLe false keyD)).map kV)))
theorem each_keys : ∀ {out : List Value} {ks : List Key}, PySem.W.EachIs (fun v k => RelV (kV k) v) out ks → Vals (ks.map kV) out
  | _, _, .nil => .nil
  | _, _, .cons r t => .cons r (each_keys t)
theorem cr_sortQ {X : Cx} (hc : X.calm = true) (hu : X.A.units + 120 < cLine) : CallR X (.builtin "sorted") (rSortQ X.w) := by
  intro pins s σ H vs us Q I r h
  obtain ⟨a, ks, rfl, ha, kinds, q⟩ := h
  rw [Vals.ref1 r]
  obtain ⟨es, ⟨o, ep, t, ho, hx, hd, few, fit, ris, led⟩, good, pm, nd⟩ := setQO_get I ha
  refine Calls.call_function_entry kind_sorted plain_sorted entry_sorted (args_sorted1 _) ?_
  unfold Builtin.«sorted»
  refine wpAny_bind (m := checkCount "sorted" 1 1 _) (wpAny_pure ?_)
  refine wpAny_bind (collect_set (A := X.A.in1) (I.ok.hd hc) ⟨o, ho, hx.1, hd⟩ fit few ris led fun s1 ms k1 z1 g1 o1 pv => ?_)
  have each : ∀ v ∈ ms, RelV (kV (keyVal v)) v ∧ ∃ e ∈ es.toList, keyRow e = keyVal v := fun v hv => by
    obtain ⟨e, he, ee⟩ := List.mem_map.mp (pv.mem_iff.mp hv)
    subst ee
    have g := (good e he).rel
    have kk : keyRow e = keyVal e.2 := by unfold keyRow keyVal; cases e.2 <;> rfl
    rw [kk] at g
    exact ⟨g.1, e, he, kk⟩
  have pk : (ms.map keyVal).Perm ks := by
    refine ((pv.map keyVal).trans ?_).trans pm
    rw [List.map_map]
    exact List.Perm.of_eq (List.map_congr_left fun e he => by
      show keyVal e.2 = keyRow e
      unfold keyRow keyVal; cases e.2 <;> rfl)
  have lms : ms.length = es.size := by rw [pv.length_eq, List.length_map, Array.length_toList]
  have lz : ms.length ≤ sizeLine := by rw [lms]; exact fits_of_scanBound few
  refine wpAny_bind (wpAny_newList ?_ lz)
  have at1 : (s1.heap.push (seqObj "list" ms.toArray 0)).get? s1.heap.objs.size = some (seqObj "list" ms.toArray 0) := Heap.get?_push_size _ rfl
  have ev : ∀ l : List Value, (∀ v ∈ l, RelV (kV (keyVal v)) v) → PySem.W.EachIs (fun v k => RelV (kV k) v) l (l.map keyVal) := fun l => by
    induction l with
    | nil => intro _; exact .nil
    | cons v l ih => intro hl; exact .cons (hl v List.mem_cons_self) (ih fun u hu => hl u (.tail _ hu))
  have er : ∀ l : List Value, (∀ v ∈ l, RelV (kV (keyVal v)) v) → PySem.W.EachIs (fun v k => ∃ as, Reads (s1.heap.push (seqObj "list" ms.toArray 0)) v (keyD k) as ∧ s1.heap.objs.size ∉ as) l (l.map keyVal) := fun l => by
    induction l with
    | nil => intro _; exact .nil
    | cons v l ih =>
      intro hl
      refine .cons ?_ (ih fun u hu => hl u (.tail _ hu))
      have rv := hl v List.mem_cons_self
      cases e : keyVal v with
      | inl i => rw [e] at rv; obtain ⟨t, rfl⟩ := rv; exact ⟨[], .int i t, List.not_mem_nil⟩
      | inr x => rw [e] at rv; obtain ⟨t, rfl⟩ := rv; exact ⟨[], .str x t, List.not_mem_nil⟩
  have kindOf : ∀ k ∈ ms.map keyVal, k ∈ ks := fun k hk => pk.mem_iff.mp hk
  have alike : PySem.W.AllAlike ((ms.map keyVal).map keyD) := by
    intro d hd d' hd'
    obtain ⟨k, hk, rfl⟩ := List.mem_map.mp hd
    obtain ⟨k', hk', rfl⟩ := List.mem_map.mp hd'
    have m1 := kindOf k hk
    have m2 := kindOf k' hk'
    rcases kinds with ⟨is, rfl⟩ | ⟨xs, rfl⟩
    · obtain ⟨i, _, rfl⟩ := List.mem_map.mp m1
      obtain ⟨j, _, rfl⟩ := List.mem_map.mp m2
      rfl
    · obtain ⟨i, _, rfl⟩ := List.mem_map.mp m1
      obtain ⟨j, _, rfl⟩ := List.mem_map.mp m2
      rfl
  have sortable : PySem.W.Sortable ((ms.map keyVal).map keyD) := .inr fun d hd => by
    obtain ⟨k, hk, rfl⟩ := List.mem_map.mp hd
    cases k with
    | inl i => exact ⟨PyData.noConfusion, fun xs => PyData.noConfusion⟩
    | inr i => exact ⟨PyData.noConfusion, fun xs => PyData.noConfusion⟩
  have dep : ∀ k : Key, (keyD k).depth ≤ 1 := fun k => by cases k <;> exact Nat.zero_le _
  refine wpAny_bind (wpAny_holding (PySem.W.list_sort_data (A := X.A.in1) (s := { s1 with heap := s1.heap.push (seqObj "list" ms.toArray 0) }) at1 (ev ms fun v hv => (each v hv).1) (er ms fun v hv => (each v hv).1) alike sortable (by rw [List.length_map]; exact lz) (fun k _ => by have := dep k; simp [Around.in1]; omega) fun out lo eo => ?_))
  obtain ⟨c, hc'⟩ := sortedHeap_at (vs := ms) (out := List.toArray out) at1
  have same : (ms.map keyVal).mergeSort (PySem.W.dataLe false keyD) = ks.mergeSort (PySem.W.dataLe false keyD) := by
    rcases kinds with ⟨is, rfl⟩ | ⟨xs, rfl⟩
    · rw [sort_ints pk, sort_ints (List.Perm.refl _)]
    · rw [sort_strs pk, sort_strs (List.Perm.refl _)]
  rw [same] at eo
  have rv := each_keys eo
  have n1 : H s1.heap.objs.size = none := I.hok.fresh z1
  have keep : ∀ b u, s.heap.get? b = some u → (sortedHeap (s1.heap.push (seqObj "list" ms.toArray 0)) s1.heap.objs.size ms (List.toArray out)).get? b = some u := fun b u e => by
    have q1 := k1 b u e
    have lt := Heap.lt_size q1
    rw [sortedHeap_old (Nat.ne_of_lt lt) (by rw [size_push']; exact Nat.lt_succ_of_lt lt)]
    exact Heap.get?_push_of_some _ q1
  have hlen : ((ks.mergeSort (PySem.W.dataLe false keyD)).map kV).length ≤ sizeLine := by
    rw [rv.length, lo, List.length_map]; exact lz
  refine wpAny_pure ⟨_, rfl, .ref s1.heap.objs.size, upd H s1.heap.objs.size (.lst ((ks.mergeSort (PySem.W.dataLe false keyD)).map kV)), ?_, rfl, q _ n1⟩
  refine I.call' (ch := []) o1 (Un.laid keep z1 n1) (I.hok.laid keep z1 ⟨hlen, out, c, rv, hc'⟩) (by rw [show ({ s1 with heap := _ } : Shared).gens = s1.gens from rfl, g1]; exact I.bare) (fun _ z => nomatch z)
end DL
/-! Rules over data for sets of keys. -/
namespace DL
open PySem PySem.Spec PyProof.Rows L2
section
variable {X : Cx} {c : Ctx} {e a b l tg tg1 : Expr} {es : List Expr} {pos : Pos}
def accK (acc : List D) : List Key := acc.filterMap keyOfD
theorem accK_snoc {acc : List D} {d : D} {k : Key} (h : keyOfD d = some k) : accK (acc ++ [d]) = accK acc ++ [k] := by
  unfold accK
  rw [List.filterMap_append]
  simp [h]
theorem accK_ints (is : List Int) : accK (is.map .int) = is.map .inl := by
  unfold accK
  rw [List.filterMap_map]
  exact (List.filterMap_eq_map (f := (Sum.inl : Int → Key))).symm ▸ rfl
theorem accK_strs (xs : List Str) : accK (xs.map .str) = xs.map .inr := by
  unfold accK
  rw [List.filterMap_map]
  exact (List.filterMap_eq_map (f := (Sum.inr : Str → Key))).symm ▸ rfl
/-- e is a set, met by these members -/
def tQ (c : Ctx) (w : LW) : TE := fun σ H Q => ∃ ρ Q0, En c H σ ρ ∧ w ρ Q0 ∧ ∀ acc ρ' a H', Q0 acc ρ' → Gr c σ H H' → En c H' σ ρ' → H a = none → H' a = some (SetQO c.w a (dedK (accK acc))) → Q (.ref a) H'
/-- an object that no slot holds is changed -/
theorem En.updS {H : Hp} {σ : Sg} {ρ : List Sl} {P : Addr} {u u' : HO} (E : En c H σ ρ) (h : H P = some u) (hf : fixd u = false) (h0 : c.H0 P = none)
    (hs : ∀ (j : Nat), j ∈ c.M → σ[j]? ≠ some (some (V.ref P))) : En c (upd H P u') σ ρ := by
  have fx : Fx H (upd H P u') := fun b o f q => by
    by_cases e : b = P
    · subst e; rw [h] at q; cases q; rw [hf] at f; cases f
    · rw [upd_ne e]; exact q
  refine ⟨E.len, fun j s x q1 q2 => SlIs.mono fx (fun b e1 e2 o q => ?_) (E.sl j s x q1 q2), E.ownM, E.sep, E.new, fun b o q n => ?_, E.potS, fun j b hj q => ?_, E.potM, E.bagN, E.bagM, E.bag1⟩
  · subst e2
    have jM : j ∈ c.M := by
      rcases e1 with ⟨ds, rfl⟩ | ⟨ks, rfl⟩
      · exact E.ownM j ds q1
      · exact E.bagM j ks q1
    have nb : b ≠ P := fun z => hs j jM (z ▸ q2)
    rw [upd_ne nb]; exact q
  · have nb : b ≠ P := fun z => by subst z; rw [h0] at q; cases q
    rw [upd_ne nb]; exact E.keep b o q n
  · by_cases e : b = P
    · subst e; rw [upd_same]; rfl
    · rw [upd_ne e]; exact E.trk j b hj q
/-- a list comprehension's words, where each entry is a key -/
def wSc (vs : List Nat) (wi : LW) (g : GW) (wt : BW) (we : DW) : LW := fun ρ Q => wi ρ fun (xs : List D) ρ1 => ∃ W : Nat → List D → List Sl → Prop, W 0 [] (wipeS ρ1 vs) ∧
  (∀ (i : Nat) (x : D) (acc : List D) (ρ2 : List Sl), xs[i]? = some x → W i acc ρ2 → g x (wipeS ρ2 vs) fun ρ3 => wt ρ3 fun b ρ4 => if b = true then we ρ4 fun y ρ5 => (∃ k, keyOfD y = some k) ∧ (dedK (accK acc)).length + 1 < scanBound ∧ W (i + 1) (acc ++ [y]) (wipeS ρ5 vs) else W (i + 1) acc (wipeS ρ4 vs)) ∧
  ∀ acc ρ2, W xs.length acc ρ2 → Q acc ρ2
def wSc2 (vs vs1 : List Nat) (wi : LW) (g : GW) (wt : BW) (wi1 : LW) (g1 : GW) (wt1 : BW) (we : DW) : LW := fun ρ Q => wi ρ fun (xs : List D) ρ1 => ∃ W : Nat → List D → List Sl → Prop, W 0 [] (wipeS ρ1 vs) ∧
  (∀ (i : Nat) (x : D) (acc : List D) (ρ2 : List Sl), xs[i]? = some x → W i acc ρ2 → g x (wipeS ρ2 vs) fun ρ3 => wt ρ3 fun b ρ4 => if b = true then wi1 ρ4 fun (ys : List D) ρ5 => ∃ W1 : Nat → List D → List Sl → Prop, W1 0 acc ρ5 ∧
    (∀ (j : Nat) (y : D) (acc1 : List D) (ρ6 : List Sl), ys[j]? = some y → W1 j acc1 ρ6 → g1 y (wipeS ρ6 vs1) fun ρ7 => wt1 ρ7 fun b1 ρ8 => if b1 = true then we ρ8 fun z ρ9 => (∃ k, keyOfD z = some k) ∧ (dedK (accK acc1)).length + 1 < scanBound ∧ W1 (j + 1) (acc1 ++ [z]) (wipeS ρ9 vs1) else W1 (j + 1) acc1 (wipeS ρ8 vs1)) ∧
    ∀ acc1 ρ6, W1 ys.length acc1 ρ6 → W (i + 1) acc1 (wipeS ρ6 vs)
    else W (i + 1) acc (wipeS ρ4 vs)) ∧
  ∀ acc ρ2, W xs.length acc ρ2 → Q acc ρ2
theorem is_key' {K : PySem.W.Frag} {H : Hp} {v : V} {d : D} {k : Key} (h : Is K H v d) (e : keyOfD d = some k) : v = kV k := is_key (keyD_of e ▸ h)
theorem sc_imp {R : Rel} {A : Around} {P : Program} {w : World} {K : PySem.W.Frag} {wi : LW} {g : GW} {wt : BW} {we : DW} {vs : List Nat} (hW : c.w = w) (hM : ∀ i, i ∈ vs → i ∉ c.M) (hp : c.pot = none ∨ 0 ∉ vs) (X : Cx) (h1 : X.prog = P) (h2 : X.w = w) (h3 : X.K = K) (h4 : X.A = A) :
    ∀ σ H Q, tQ c (wSc vs wi g wt we) σ H Q → tSet1 (X := X) (gatherK X.prog X.w X.K X.A) (iR R c wi) (gR R c vs g) (tT c wt) (tD c we) vs σ H Q := by
  subst h2
  rintro σ H Q ⟨ρ, Q0, E, hw, k⟩
  refine ⟨ρ, _, E, hw, fun xs ρ' J H1 q gr E1 hJ => ?_⟩
  obtain ⟨W, w0, ws, wd⟩ := q
  obtain ⟨jgo, jy, jstop⟩ := hJ
  intro Pa hPa
  have h0P : c.H0 Pa = none := E1.h0 hPa
  have HP : H Pa = none := gr.free E1 hPa
  have slotN : ∀ {σ' : Sg}, (∀ i, i ∈ c.M → σ'[i]? = σ[i]?) → ∀ j, j ∈ c.M → σ'[j]? ≠ some (some (V.ref Pa)) := fun gM j hj h2 => by
    rw [gM j hj] at h2
    have z := E1.trk j Pa hj h2
    rw [hPa] at z; cases z
  refine ⟨fun i m H2 => m = xs.length - i ∧ i ≤ xs.length ∧ ∃ acc ρ2, W i acc ρ2 ∧ En c H2 σ ρ2 ∧ Gr c σ H1 H2 ∧ H2 Pa = some (SetQO X.w Pa (dedK (accK acc))), ⟨xs.length, by simp, Nat.zero_le _, [], wipeS ρ' vs, w0, ?_, ?_, upd_same⟩, ?_⟩
  · exact (E1.off (Off.refl vs σ) hM hp).same (upd_same' hPa)
  · exact Gr.same (upd_same' hPa)
  rintro i m H2 ⟨rfl, hi, acc, ρ2, hW2, E2, g2, hav⟩
  by_cases hlt : i < xs.length
  · refine .inr ⟨jgo i H2 g2.fx hlt, fun H3 => ∃ acc ρ2, W (i + 1) acc ρ2 ∧ En c H3 σ ρ2 ∧ Gr c σ H1 H3 ∧ H3 Pa = some (SetQO X.w Pa (dedK (accK acc))), fun H3 q => ⟨xs.length - (i + 1), by omega, rfl, hlt, q⟩, fun x H3 y => ?_⟩
    have hx := List.getElem?_eq_getElem hlt
    obtain ⟨sm, rx⟩ := jy i x H2 H3 xs[i] g2.fx hx y
    have E3 : En c H3 (wipe σ vs) (wipeS ρ2 vs) := (E2.same sm).off (off_wipe σ vs) hM hp
    refine ⟨xs[i], wipeS ρ2 vs, _, rx, E3, ws i xs[i] acc ρ2 hx hW2, fun ρ3 σ3 q3 (o3 : Off vs (wipe σ vs) σ3) E4 => ⟨off_wipes ((off_wipe σ vs).trans o3), ?_⟩⟩
    have oσ : Off vs σ3 σ := ((off_wipe σ vs).trans o3).symm
    have gM' : ∀ i, i ∈ c.M → σ3[i]? = σ[i]? := fun i h => (Off.M oσ hM i h).symm
    refine ⟨ρ3, _, E4, q3, fun b ρ4 H4 q4 g4 E5 => ?_⟩
    have g24 : Gr c σ H1 H4 := (g2.trans (Gr.same sm)).trans (g4.congr gM')
    have nOw : ¬ Ow c σ3 Pa := fun w => E1.notOw hPa ((Ow.congr gM').mp w)
    have hD4 := g4.kp Pa _ (sm Pa _ hav) nOw
    cases b with
    | false => exact ⟨acc, _, q4, E5.off oσ hM hp, g24, hD4⟩
    | true =>
      refine ⟨ρ4, _, E5, q4, fun d ρ5 v H5 q5 g5 E6 i6 => ?_⟩
      obtain ⟨⟨kk, hk⟩, room, w5⟩ := q5
      have hD5 := g5.kp Pa _ hD4 nOw
      have E7 : En c H5 σ (wipeS ρ5 vs) := E6.off oσ hM hp
      have fxD : Fx H5 (upd H5 Pa (SetQO X.w Pa (dedK (accK (acc ++ [d]))))) := fun b o f q => by
        by_cases e : b = Pa
        · subst e; rw [hD5] at q; cases q; cases f
        · rw [upd_ne e]; exact q
      have g25 := g24.trans (g5.congr gM')
      refine ⟨_, dedK (accK (acc ++ [d])), hD5, ⟨kk, is_key' i6 hk, room, by rw [accK_snoc hk, dedK_snoc]⟩, acc ++ [d], wipeS ρ5 vs, w5, E7.updS hD5 rfl h0P (slotN fun _ _ => rfl), ⟨g25.fx.trans fxD, fun b o e w => ?_⟩, upd_same⟩
      have nb : b ≠ Pa := fun z => by subst z; rw [hPa] at e; cases e
      rw [upd_ne nb]
      exact g25.kp b o e w
  · have e : i = xs.length := by omega
    subst e
    exact .inl ⟨jstop _ H2 g2.fx (Nat.le_refl _), k acc ρ2 Pa H2 (wd acc ρ2 hW2) (gr.trans g2) E2 HP (by rw [hW]; exact hav)⟩
theorem sc2_imp {R R1 : Rel} {w : World} {wi wi1 : LW} {g g1 : GW} {wt wt1 : BW} {we : DW} {vs vs1 : List Nat} (hM : ∀ i, i ∈ vs → i ∉ c.M) (hp : c.pot = none ∨ 0 ∉ vs) (hv : ∀ i, i ∈ vs1 → i ∈ vs) (X : Cx) (hW : c.w = X.w) :
    ∀ σ H Q, tQ c (wSc2 vs vs1 wi g wt wi1 g1 wt1 we) σ H Q → tSet2 (X := X) (gatherK X.prog X.w X.K X.A) (iR R c wi) (gR R c vs g) (tT c wt) (iR R1 c wi1) (gR R1 c vs1 g1) (tT c wt1) (tD c we) vs vs1 σ H Q := by
  rintro σ H Q ⟨ρ, Q0, E, hw, k⟩
  have hM1 : ∀ i, i ∈ vs1 → i ∉ c.M := fun i h => hM i (hv i h)
  have hp1 : c.pot = none ∨ 0 ∉ vs1 := hp.imp id fun h z => h (hv 0 z)
  refine ⟨ρ, _, E, hw, fun xs ρ' J H1 q gr E1 hJ => ?_⟩
  obtain ⟨W, w0, ws, wd⟩ := q
  obtain ⟨jgo, jy, jstop⟩ := hJ
  intro Pa hPa
  have h0P : c.H0 Pa = none := E1.h0 hPa
  have HP : H Pa = none := gr.free E1 hPa
  have slotN : ∀ {σ' : Sg}, (∀ i, i ∈ c.M → σ'[i]? = σ[i]?) → ∀ j, j ∈ c.M → σ'[j]? ≠ some (some (V.ref Pa)) := fun gM j hj h2 => by
    rw [gM j hj] at h2
    have z := E1.trk j Pa hj h2
    rw [hPa] at z; cases z
  refine ⟨fun i m H2 => m = xs.length - i ∧ i ≤ xs.length ∧ ∃ acc ρ2, W i acc ρ2 ∧ En c H2 σ ρ2 ∧ Gr c σ H1 H2 ∧ H2 Pa = some (SetQO X.w Pa (dedK (accK acc))), ⟨xs.length, by simp, Nat.zero_le _, [], wipeS ρ' vs, w0, ?_, ?_, upd_same⟩, ?_⟩
  · exact (E1.off (Off.refl vs σ) hM hp).same (upd_same' hPa)
  · exact Gr.same (upd_same' hPa)
  rintro i m H2 ⟨rfl, hi, acc, ρ2, hW2, E2, g2, hav⟩
  by_cases hlt : i < xs.length
  · refine .inr ⟨jgo i H2 g2.fx hlt, fun H3 => ∃ acc ρ2, W (i + 1) acc ρ2 ∧ En c H3 σ ρ2 ∧ Gr c σ H1 H3 ∧ H3 Pa = some (SetQO X.w Pa (dedK (accK acc))), fun H3 q => ⟨xs.length - (i + 1), by omega, rfl, hlt, q⟩, fun x H3 y => ?_⟩
    have hx := List.getElem?_eq_getElem hlt
    obtain ⟨sm, rx⟩ := jy i x H2 H3 xs[i] g2.fx hx y
    have E3 : En c H3 (wipe σ vs) (wipeS ρ2 vs) := (E2.same sm).off (off_wipe σ vs) hM hp
    refine ⟨xs[i], wipeS ρ2 vs, _, rx, E3, ws i xs[i] acc ρ2 hx hW2, fun ρ3 σ3 q3 (o3 : Off vs (wipe σ vs) σ3) E4 => ⟨off_wipes ((off_wipe σ vs).trans o3), ?_⟩⟩
    have oσ : Off vs σ3 σ := ((off_wipe σ vs).trans o3).symm
    have gM' : ∀ i, i ∈ c.M → σ3[i]? = σ[i]? := fun i h => (Off.M oσ hM i h).symm
    refine ⟨ρ3, _, E4, q3, fun b ρ4 H4 q4 g4 E5 => ?_⟩
    have g24 : Gr c σ H1 H4 := (g2.trans (Gr.same sm)).trans (g4.congr gM')
    have nOw : ¬ Ow c σ3 Pa := fun w => E1.notOw hPa ((Ow.congr gM').mp w)
    have hD4 := g4.kp Pa _ (sm Pa _ hav) nOw
    cases b with
    | false => exact ⟨acc, _, q4, E5.off oσ hM hp, g24, hD4⟩
    | true =>
      refine ⟨ρ4, _, E5, q4, fun ys ρ5 J1 H5 q5 g5 E6 hJ1 => ?_⟩
      obtain ⟨W1, w10, ws1, wd1⟩ := q5
      obtain ⟨jgo1, jy1, jstop1⟩ := hJ1
      have g25 : Gr c σ H1 H5 := g24.trans (g5.congr gM')
      refine ⟨fun j k Hx => k = ys.length - j ∧ j ≤ ys.length ∧ ∃ acc1 ρ6, W1 j acc1 ρ6 ∧ En c Hx σ3 ρ6 ∧ Gr c σ H1 Hx ∧ Fx H5 Hx ∧ Hx Pa = some (SetQO X.w Pa (dedK (accK acc1))), ⟨ys.length, by simp, Nat.zero_le _, acc, ρ5, w10, E6, g25, Fx.refl _, g5.kp Pa _ hD4 nOw⟩, ?_⟩
      rintro j k Hx ⟨rfl, hj, acc1, ρ6, hW1, E7, g7, f7, hav1⟩
      by_cases hjl : j < ys.length
      · refine .inr ⟨jgo1 j Hx f7 hjl, fun Hn => ∃ acc1 ρ6, W1 (j + 1) acc1 ρ6 ∧ En c Hn σ3 ρ6 ∧ Gr c σ H1 Hn ∧ Fx H5 Hn ∧ Hn Pa = some (SetQO X.w Pa (dedK (accK acc1))), fun Hn q => ⟨ys.length - (j + 1), by omega, rfl, hjl, q⟩, fun x1 Hy y1 => ?_⟩
        have hy := List.getElem?_eq_getElem hjl
        obtain ⟨sm1, ry⟩ := jy1 j x1 Hx Hy ys[j] f7 hy y1
        have E8 : En c Hy (wipe σ3 vs1) (wipeS ρ6 vs1) := (E7.same sm1).off (off_wipe σ3 vs1) hM1 hp1
        refine ⟨ys[j], wipeS ρ6 vs1, _, ry, E8, ws1 j ys[j] acc1 ρ6 hy hW1, fun ρ7 σ4 q7 (o4 : Off vs1 (wipe σ3 vs1) σ4) E9 => ⟨off_wipes ((off_wipe σ3 vs1).trans o4), ?_⟩⟩
        have oσ4 : Off vs1 σ4 σ3 := ((off_wipe σ3 vs1).trans o4).symm
        have gN' : ∀ i, i ∈ c.M → σ4[i]? = σ[i]? := fun i h => ((Off.M oσ4 hM1 i h).symm).trans (gM' i h)
        refine ⟨ρ7, _, E9, q7, fun b1 ρ8 H8 q8 g8 E10 => ?_⟩
        have g28 : Gr c σ H1 H8 := (g7.trans (Gr.same sm1)).trans (g8.congr gN')
        have f58 : Fx H5 H8 := (f7.trans (Same.fx sm1)).trans g8.fx
        have nOw1 : ¬ Ow c σ4 Pa := fun w => E1.notOw hPa ((Ow.congr gN').mp w)
        have hD8 := g8.kp Pa _ (sm1 Pa _ hav1) nOw1
        cases b1 with
        | false => exact ⟨acc1, _, q8, E10.off oσ4 hM1 hp1, g28, f58, hD8⟩
        | true =>
          refine ⟨ρ8, _, E10, q8, fun d ρ9 v H9 q9 g9 E11 i11 => ?_⟩
          obtain ⟨⟨kk, hk⟩, room, w9⟩ := q9
          have hD9 := g9.kp Pa _ hD8 nOw1
          have E12 : En c H9 σ3 (wipeS ρ9 vs1) := E11.off oσ4 hM1 hp1
          have fxD : Fx H9 (upd H9 Pa (SetQO X.w Pa (dedK (accK (acc1 ++ [d]))))) := fun b o f q => by
            by_cases e : b = Pa
            · subst e; rw [hD9] at q; cases q; cases f
            · rw [upd_ne e]; exact q
          have g29 := g28.trans (g9.congr gN')
          refine ⟨_, dedK (accK (acc1 ++ [d])), hD9, ⟨kk, is_key' i11 hk, room, by rw [accK_snoc hk, dedK_snoc]⟩, acc1 ++ [d], wipeS ρ9 vs1, w9, E12.updS hD9 rfl h0P (slotN gM'), ⟨g29.fx.trans fxD, fun b o e w => ?_⟩, (f58.trans g9.fx).trans fxD, upd_same⟩
          have nb : b ≠ Pa := fun z => by subst z; rw [hPa] at e; cases e
          rw [upd_ne nb]
          exact g29.kp b o e w
      · have e : j = ys.length := by omega
        subst e
        exact .inl ⟨jstop1 _ Hx f7 (Nat.le_refl _), acc1, _, wd1 acc1 ρ6 hW1, E7.off oσ hM hp, g7, hav1⟩
  · have e : i = xs.length := by omega
    subst e
    exact .inl ⟨jstop _ H2 g2.fx (Nat.le_refl _), k acc ρ2 Pa H2 (wd acc ρ2 hW2) (gr.trans g2) E2 HP (by rw [hW]; exact hav)⟩
theorem dq_sc {R : Rel} {elt iter : Expr} {ifs : List Expr} {scope : Scope} {own : List (Str × Nat)} {wi : LW} {g : GW} {wt : BW} {we : DW} (hc : X.calm = true) (hN : X.N.Nodup) (ok : BlkOk X.N X.env.scope scope own) (hM : ∀ i, i ∈ own.map (·.2) → i ∉ c.M) (hp : c.pot = none ∨ 0 ∉ own.map (·.2))
    (hi : PI X tg iter (iR R c wi)) (hg : InBlk X scope fun Y => PG Y tg (gR R c (own.map (·.2)) g)) (ht : InBlk X scope fun Y => PTs Y ifs (tT c wt)) (he : InBlk X scope fun Y => PE Y elt (tD c we)) (hW : c.w = X.w := by rfl) (hs : ∀ x, foldedSetIterable iter X.env x = pure x := by intro _; rfl) :
    PE X (.SetComp elt [⟨tg, iter, ifs, 0⟩] scope pos) (tQ c (wSc (own.map (·.2)) wi g wt we)) := PE.imp (pe_set1 (gatherK X.prog X.w X.K X.A) hc hN hi ok hg ht he hs) (sc_imp hW hM hp X rfl rfl rfl rfl)
theorem dq_sc2 {R R1 : Rel} {elt iter iter1 : Expr} {ifs ifs1 : List Expr} {scope : Scope} {own : List (Str × Nat)} {vs1 : List Nat} {wi wi1 : LW} {g g1 : GW} {wt wt1 : BW} {we : DW} (hc : X.calm = true) (hN : X.N.Nodup) (ok : BlkOk X.N X.env.scope scope own) (hM : ∀ i, i ∈ own.map (·.2) → i ∉ c.M) (hp : c.pot = none ∨ 0 ∉ own.map (·.2)) (hv : ∀ i, i ∈ vs1 → i ∈ own.map (·.2))
    (hi : PI X tg iter (iR R c wi)) (hg : InBlk X scope fun Y => PG Y tg (gR R c (own.map (·.2)) g)) (ht : InBlk X scope fun Y => PTs Y ifs (tT c wt))
    (hi1 : InBlk X scope fun Y => PI Y tg1 iter1 (iR R1 c wi1)) (hg1 : InBlk X scope fun Y => PG Y tg1 (gR R1 c vs1 g1)) (ht1 : InBlk X scope fun Y => PTs Y ifs1 (tT c wt1)) (he : InBlk X scope fun Y => PE Y elt (tD c we))
    (hW : c.w = X.w := by rfl) (hs : ∀ x, foldedSetIterable iter X.env x = pure x := by intro _; rfl) (hs1 : ∀ env x, foldedSetIterable iter1 env x = pure x := by intro _ _; rfl) :
    PE X (.SetComp elt [⟨tg, iter, ifs, 0⟩, ⟨tg1, iter1, ifs1, 0⟩] scope pos) (tQ c (wSc2 (own.map (·.2)) vs1 wi g wt wi1 g1 wt1 we)) := PE.imp (pe_set2 (gatherK X.prog X.w X.K X.A) hc hN hi ok hv hg ht hi1 hg1 ht1 he hs hs1) (sc2_imp (w := X.w) hM hp hv X hW)
/-- set(xs) -/
def wSetOf (w : LW) : LW := fun ρ Q => w ρ fun ds ρ1 => ∃ acc, (ds = [.list acc] ∨ ds = [.tuple acc]) ∧ (∀ d ∈ acc, ∃ k, keyOfD d = some k) ∧ (dedK (accK acc)).length + 1 < scanBound ∧ Q acc ρ1
theorem keys_all {K : PySem.W.Frag} {H : Hp} : ∀ {vs : List V} {ds : List D}, IsAll K H vs ds → (∀ d ∈ ds, ∃ k, keyOfD d = some k) → vs = (accK ds).map kV
  | _, _, .nil, _ => rfl
  | _, _, .cons (d := d) (ds := ds) i t, h => by
    obtain ⟨k, hk⟩ := h d List.mem_cons_self
    rw [keys_all t fun x hx => h x (.tail _ hx), is_key' i hk]
    unfold accK
    rw [List.filterMap_cons, hk] <;> rfl
theorem dq_set {p : Pos} {w : LW} (hc : X.calm = true) (hg : Gl X "set") (hm : X.mg "set" = none) (ha : PA X (e :: es) (tA c w)) (hK : c.K = X.K := by rfl) (hW : c.w = X.w := by rfl)
    (he : starEach (e :: es) X.env = (false, eval e X.env) :: starEach es X.env := by rfl) (hpl : (backTo pos (starEach es X.env)).any (·.1) = false := by rfl) : PE X (.Call (.Name "set" p) (e :: es) [] pos) (tQ c (wSetOf w)) := by
  refine PE.imp (pe_callTy (cr_setQ hc) hg hm (by decide +kernel) ha (by decide) (by decide) he hpl) ?_
  rintro σ H Q ⟨ρ, Q0, E, hw, k⟩
  refine ⟨ρ, _, E, hw, fun ds ρ' vs H' q g E1 i1 => ?_⟩
  obtain ⟨acc, hd, hk, room, q⟩ := q
  have fin : ∀ (p : Addr), H' p = none → Q (.ref p) (upd H' p (SetQO X.w p (dedK (accK acc)))) := fun p n => by
    have sm := upd_same' (o := SetQO X.w p (dedK (accK acc))) n
    exact k acc ρ' p _ q (g.trans (Gr.same sm)) (E1.same sm) (g.free E1 n) (by rw [hW]; exact upd_same)
  rcases hd with rfl | rfl
  · cases i1 with
    | cons i2 i3 =>
      cases i3
      cases i2 with
      | lst g1 g2 =>
        rw [keys_all g2 hk] at g1
        exact ⟨_, accK acc, rfl, .inl (.inl (.inr ⟨_, g1⟩)), room, fin⟩
  · cases i1 with
    | cons i2 i3 =>
      cases i3
      cases i2 with
      | tup g1 g2 =>
        rw [keys_all g2 hk] at g1
        exact ⟨_, accK acc, rfl, .inr (by rw [← hK]; exact g1.sqT), room, fin⟩
/-- sorted(a set) -/
def wSortQ (w : LW) : LW := fun ρ Q => w ρ fun acc ρ1 => (∃ is : List Int, acc = is.map .int ∧ Q ((srtI (ded is)).map .int) ρ1) ∨ ∃ xs : List Str, acc = xs.map .str ∧ Q ((srtS (ded xs)).map .str) ρ1
theorem all_keyD {K : PySem.W.Frag} {H : Hp} : ∀ ks : List Key, IsAll K H (ks.map kV) (ks.map keyD)
  | [] => .nil
  | .inl i :: ks => .cons (.int i) (all_keyD ks)
  | .inr x :: ks => .cons (.str x) (all_keyD ks)
theorem df_sortQ {p : Pos} {w : LW} (hc : X.calm = true) (hg : Gl X "sorted") (hm : X.mg "sorted" = none) (hu : X.A.units + 120 < cLine) (ha : PE X e (tQ c w)) (hW : c.w = X.w := by rfl)
    (he : starEach [e] X.env = (false, eval e X.env) :: starEach [] X.env := by rfl) (hpl : (backTo pos (starEach [] X.env)).any (·.1) = false := by rfl) : PE X (.Call (.Name "sorted" p) [e] [] pos) (tF c (wSortQ w)) := by
  refine PE.imp (pe_callB (cr_sortQ hc hu) hg hm (by decide +kernel) (pa_cons ha pa_nil he) (by decide) (by decide) he hpl) ?_
  rintro σ H Q ⟨ρ, Q0, E, hw, k⟩
  refine ⟨ρ, _, E, hw, fun acc ρ' a H' q g E1 n hS => ?_⟩
  have all : ∀ (ys : List D) (ks : List Key), ((dedK (accK acc)).mergeSort (PySem.W.dataLe false keyD)) = ks → ys = ks.map keyD → Q0 ys ρ' → ∀ p, H' p = none → Q (.ref p) (upd H' p (.lst (((dedK (accK acc)).mergeSort (PySem.W.dataLe false keyD)).map kV))) := fun ys ks e1 e2 q p n => by
    subst e2
    rw [e1]
    have sm := upd_same' (o := .lst (ks.map kV)) n
    exact k _ ρ' p _ _ q (g.trans (Gr.same sm)) (E1.same sm) (g.free E1 n) upd_same (all_keyD ks)
  rw [hW] at hS
  rcases q with ⟨is, rfl, q⟩ | ⟨xs, rfl, q⟩
  · have e := accK_ints is
    refine ⟨a, dedK (accK (is.map .int)), rfl, hS, .inl ⟨ded is, by rw [e, dedK_ints]⟩, all _ ((srtI (ded is)).map .inl) ?_ ?_ q⟩
    · rw [e, dedK_ints]; exact sort_ints (List.Perm.refl _)
    · rw [List.map_map] <;> rfl
  · have e := accK_strs xs
    refine ⟨a, dedK (accK (xs.map .str)), rfl, hS, .inr ⟨ded xs, by rw [e, dedK_strs]⟩, all _ ((srtS (ded xs)).map .inr) ?_ ?_ q⟩
    · rw [e, dedK_strs]; exact sort_strs (List.Perm.refl _)
    · rw [List.map_map] <;> rfl
/-- len(a set) -/
def wLenQ (w : LW) : DW := fun ρ Q => w ρ fun acc ρ1 => Q (.int (dedK (accK acc)).length) ρ1
def rLenQ (w : World) : List V → Hp → VK → Prop := fun vs H Q => ∃ (a : Addr) (ks : List Key), vs = [.ref a] ∧ H a = some (SetQO w a ks) ∧ Q (.int ks.length) H
theorem cr_lenQ : CallR X (.builtin "len") (rLenQ X.w) := by
  intro pins s σ H vs us Q I r h
  obtain ⟨a, ks, rfl, ha, q⟩ := h
  rw [Vals.ref1 r]
  obtain ⟨es, ⟨o, ep, t, ho, hx, hd, few, fit, _⟩, _, pm, _⟩ := setQO_get I ha
  have z : es.size = ks.length := by rw [← pm.length_eq, List.length_map, Array.length_toList]
  have := (by decide : scanBound < 2 ^ 62)
  refine call_len_set ho hx hd fit (by omega) ⟨.int ks.length, H, I.tok _, ⟨_, by rw [z]⟩, q⟩
theorem de_lenQ {p : Pos} {w : LW} (hg : Gl X "len") (hm : X.mg "len" = none) (ha : PE X e (tQ c w)) (hW : c.w = X.w := by rfl)
    (he : starEach [e] X.env = (false, eval e X.env) :: starEach [] X.env := by rfl) (hpl : (backTo pos (starEach [] X.env)).any (·.1) = false := by rfl) : PE X (.Call (.Name "len" p) [e] [] pos) (tD c (wLenQ w)) := by
  refine PE.imp (pe_callB cr_lenQ hg hm PySem.boot_len (pa_cons ha pa_nil he) (by decide) (by decide) he hpl) ?_
  rintro σ H Q ⟨ρ, Q0, E, hw, k⟩
  refine ⟨ρ, _, E, hw, fun acc ρ' a H' q g E1 n hS => ?_⟩
  exact ⟨a, dedK (accK acc), rfl, by rw [← hW]; exact hS, k _ ρ' _ H' q g E1 (.int _)⟩
end
end DL
/-! sum and max of a list of ints. -/
namespace DL
open PySem PySem.Spec PyProof.Rows L2
def intsD : List D → Option (List Int)
  | [] => some []
  | .int i :: ds => (intsD ds).map (i :: ·)
  | _ => none
theorem intsD_map (is : List Int) : intsD (is.map .int) = some is := by
  induction is with
  | nil => rfl
  | cons i is ih => show (intsD (is.map .int)).map (i :: ·) = _; rw [ih] <;> rfl
theorem is_ints {K : PySem.W.Frag} {H : Hp} : ∀ {vs : List V} {ds : List D} {is : List Int}, IsAll K H vs ds → intsD ds = some is → vs = is.map V.int
  | _, _, is, .nil, e => by cases e; rfl
  | _, _, is, .cons (d := d) (ds := ds) h t, e => by
    cases h with
    | int i =>
      have e : (intsD ds).map (i :: ·) = some is := e
      cases q : intsD ds with
      | none => rw [q] at e; cases e
      | some js =>
        rw [q] at e
        cases e
        rw [is_ints t q] <;> rfl
    | _ => exact nomatch e
/-- the greatest -/
def topI : List Int → Int
  | [] => 0
  | [i] => i
  | i :: js => max i (topI js)
theorem topI_mem : ∀ {is : List Int}, is ≠ [] → topI is ∈ is
  | [], h => absurd rfl h
  | [i], _ => by simp [topI]
  | i :: j :: js, _ => by
    have q := topI_mem (is := j :: js) (by simp)
    show max i (topI (j :: js)) ∈ _
    rcases Int.le_total i (topI (j :: js)) with h | h
    · rw [Int.max_eq_right h]; exact .tail _ q
    · rw [Int.max_eq_left h]; exact .head _
theorem topI_ge : ∀ {is : List Int} {y : Int}, y ∈ is → y ≤ topI is
  | [i], y, h => by rw [List.mem_singleton.mp h]; exact Int.le_refl _
  | i :: j :: js, y, h => by
    show y ≤ max i (topI (j :: js))
    rcases List.mem_cons.mp h with e | e
    · rw [e]; exact Int.le_max_left _ _
    · exact Int.le_trans (topI_ge e) (Int.le_max_right _ _)
theorem topI_is {is : List Int} {m : Int} (h1 : m ∈ is) (h2 : ∀ y, y ∈ is → y ≤ m) : m = topI is :=
  Int.le_antisymm (topI_ge h1) (h2 _ (topI_mem fun e => by rw [e] at h1; cases h1))
def sumL : List D → Option D
  | [.list xs] => (intsD xs).map fun is => .int is.sum
  | _ => none
def topL : List D → Option D
  | [.list xs] => (intsD xs).bind fun is => if is = [] then none else some (.int (topI is))
  | _ => none
section
variable {X : Cx}
theorem cr_sumD (hc : X.calm = true) : CallR X (.builtin "sum") (rCl X.K sumL) := by
  intro pins s σ H xs us Q I r h
  obtain ⟨ds, r', hd, hr, q⟩ := h
  cases hd with
  | nil => exact nomatch hr
  | cons h1 h2 =>
    cases h2 with
    | cons _ _ => cases h1 <;> exact nomatch hr
    | nil =>
      cases h1 with
      | @lst a o ys ds g1 g2 =>
        have hr : (intsD ds).map (fun is => PyData.int is.sum) = some r' := hr
        cases hb : intsD ds with
        | none => rw [hb] at hr; cases hr
        | some is =>
          rw [hb] at hr
          cases hr
          have e := is_ints g2 hb
          subst e
          exact cr_sum hc pins s σ H _ us Q I r ⟨a, is, rfl, .inl (.inr ⟨_, g1⟩), q _ H (Same.refl H) (.int _)⟩
      | _ => exact nomatch hr
theorem cr_topD (hc : X.calm = true) : CallR X (.builtin "max") (rCl X.K topL) := by
  intro pins s σ H xs us Q I r h
  obtain ⟨ds, r', hd, hr, q⟩ := h
  cases hd with
  | nil => exact nomatch hr
  | cons h1 h2 =>
    cases h2 with
    | cons _ _ => cases h1 <;> exact nomatch hr
    | nil =>
      cases h1 with
      | @lst a o ys ds g1 g2 =>
        have hr : ((intsD ds).bind fun is => if is = [] then none else some (PyData.int (topI is))) = some r' := hr
        cases hb : intsD ds with
        | none => rw [hb] at hr; cases hr
        | some is =>
          rw [hb] at hr
          have hr : (if is = [] then none else some (PyData.int (topI is))) = some r' := hr
          by_cases hz : is = []
          · rw [if_pos hz] at hr; cases hr
          rw [if_neg hz] at hr
          cases hr
          have e := is_ints g2 hb
          subst e
          exact cr_max hc pins s σ H _ us Q I r ⟨a, is, rfl, .inl (.inr ⟨_, g1⟩), List.length_pos_iff.mpr hz, fun m m1 m2 => by rw [topI_is m1 m2]; exact q _ H (Same.refl H) (.int _)⟩
      | _ => exact nomatch hr
end
end DL
/-! a tuple times an int. -/
namespace DL
open PySem PySem.Spec PyProof.Rows L2
set_option maxHeartbeats 4000000 in
theorem mul_one (l : Addr) (items : Array Value) (n : Nat) (dd : Option Addr) (sl : Array (Option Value)) (u : Tok) :
    Meets (Builtin.«tuple.__mul__» ⟨[.ref l, .int 1 u], []⟩) (fun _ R s => s.heap.get? l = some { cls := .type "tuple", dict := dd, data := .seq items n, slots := sl } ∧ R (.ok (.ret (Value.ref l))) s) :=
  .of_wp fun prog w A R s h => by
    obtain ⟨hp, g, d, tk, os⟩ := s
    obtain ⟨hl, h⟩ := h
    have f1 := AutoSeq1.idx_int
    have c1 : (items.isEmpty || ((1 : Int) == 1)) = true := by rw [beq_self_eq_true, Bool.or_true]
    wp_walk using wpAny_loadPart' hl
    repeat (first
      | (refine wpAny_ite_true (decide_eq_true c1) ?_; wp_walk using wpAny_loadPart' hl)
      | (refine wpAny_ite_false (by decide) ?_; wp_walk using wpAny_loadPart' hl))
    exact ⟨_, rfl, h⟩
def repL (k : Nat) (xs : List D) : List D := (List.replicate k xs).flatten
def mulTD : D → D → Option D
  | .tuple xs, .int k => if xs ≠ [] ∧ 1 ≤ k ∧ k ≤ 1000 ∧ xs.length ≤ 1000 then some (.tuple (repL k.toNat xs)) else none
  | _, _ => none
theorem IsAll.rep {K : PySem.W.Frag} {H : Hp} {vs : List V} {ds : List D} (h : IsAll K H vs ds) : ∀ k : Nat, IsAll K H (List.replicate k vs).flatten (repL k ds)
  | 0 => .nil
  | k + 1 => by
    unfold repL
    rw [List.replicate_succ, List.replicate_succ, List.flatten_cons, List.flatten_cons]
    exact h.append (IsAll.rep h k)
theorem op_mulTD {X : Cx} : OpR X (binaryOp .Mult) (rB X.K mulTD) := by
  intro pins s σ H x y v u Q I rx ry h
  obtain ⟨d, e, r, hd, he, hr, q⟩ := h
  cases hd with
  | @tup l xs ds g1 g2 =>
    cases he with
    | int k =>
      have hr : (if ds ≠ [] ∧ 1 ≤ k ∧ k ≤ 1000 ∧ ds.length ≤ 1000 then some (PyData.tuple (repL k.toNat ds)) else none) = some r := hr
      split at hr
      · rename_i c
        cases hr
        obtain ⟨ne, k1, k2, dl⟩ := c
        cases rx
        obtain ⟨t, rfl⟩ := ry
        obtain ⟨its, rv, ⟨⟨cls, dd, data, sl⟩, ho, hc, n, hdt⟩, hs⟩ := I.tuple g1.sqT
        simp only at hc hdt
        subst hc hdt
        have len : its.length = xs.length := rv.length.symm
        have len2 : xs.length = ds.length := g2.length
        have pos : 0 < ds.length := List.length_pos_iff.mpr ne
        have em : its.toArray.isEmpty = false := by
          cases its with
          | nil => simp at len; omega
          | cons a b => rfl
        by_cases one : k = 1
        · subst one
          refine wpAny_binaryOp_repeat_ref (T := "tuple") (U := "int") (by decide) ⟨_, ho, rfl⟩ (fun s' => typeIs_int s' 1 t) noFill_tuple_mul F.fills_int_mul F.slot_int_rmul repeat_tuple F.slot_int_index.lookup
            (call_meets F.slot_int_rmul (typeIs_int s 1 t) F.entry_int_rmul (F.args_int_rmul_2 _ _) (int_rmul_tuple 1 t l its.toArray n dd sl)
              ⟨ho, rfl, ⟨_, ho, rfl⟩, call_meets F.slot_tuple_mul ⟨_, ho, rfl⟩ F.entry_tuple_mul (F.args_tuple_mul_2 _ _) (mul_one l its.toArray n dd sl t) ⟨ho, .ref l, H, I, rfl, q _ H (Same.refl H) ?_⟩⟩)
          have e1 : repL (1 : Int).toNat ds = ds := by show (List.replicate 1 ds).flatten = ds; simp
          rw [e1]
          exact .tup g1 g2
        · have z0 : its.toArray.size = ds.length := by rw [List.size_toArray, len, len2]
          have big : ((its.toArray.size : Nat) : Int) * k ≤ 1000000 := by
            rw [z0]
            have a1 : ((ds.length : Nat) : Int) * k ≤ 1000 * k := Int.mul_le_mul_of_nonneg_right (by omega) (by omega)
            omega
          have many : k.toNat * xs.length ≤ 1000 * 1000 := Nat.mul_le_mul (by omega) (by omega)
          have fl : (List.replicate k.toNat its).flatten.length ≤ sizeLine := by
            rw [PyProof.Rows.lm_len_rep_flat, len, sizeLine_eq]; omega
          have fl2 : (List.replicate k.toNat xs).flatten.length ≤ sizeLine := by
            rw [PyProof.Rows.lm_len_rep_flat, sizeLine_eq]; omega
          have d0 : (decide (k < -(2 ^ 63)) || decide (k ≥ 2 ^ 63)) = false := by
            rw [decide_eq_false (show ¬ k < -(2 ^ 63) by omega), decide_eq_false (show ¬ k ≥ 2 ^ 63 by omega)]; rfl
          have d1 : (its.toArray.isEmpty || k == 1) = false := by
            rw [em, Bool.false_or]; exact beq_eq_false_iff_ne.mpr one
          have d2 : (decide (k ≤ 0) || its.toArray.isEmpty) = false := by
            rw [em, Bool.or_false]; exact decide_eq_false (by omega)
          have d4 : Builtin.Tuple.tupleTooMany (((its.toArray.size : Nat) : Int) * k) = false := by
            unfold Builtin.Tuple.tupleTooMany
            rw [sizeLine_eq]; exact decide_eq_false (by omega)
          refine wpAny_binaryOp_repeat_ref (T := "tuple") (U := "int") (by decide) ⟨_, ho, rfl⟩ (fun s' => typeIs_int s' k t) noFill_tuple_mul F.fills_int_mul F.slot_int_rmul repeat_tuple F.slot_int_index.lookup
            (call_meets F.slot_int_rmul (typeIs_int s k t) F.entry_int_rmul (F.args_int_rmul_2 _ _) (int_rmul_tuple k t l its.toArray n dd sl)
              ⟨ho, rfl, ⟨_, ho, rfl⟩, call_meets F.slot_tuple_mul ⟨_, ho, rfl⟩ F.entry_tuple_mul (F.args_tuple_mul_2 _ _) (tuple_mulW l its.toArray n dd sl k t d0 d1 d2 (by omega) d4 (by rw [size_rep, List.size_toArray]; exact fl)) ⟨ho, ?_⟩⟩)
          rw [size_rep]
          obtain ⟨o, hod, nn, I2⟩ := Inv.newTup I (rv.rep k.toNat) fl2 s.toks
          have sm := upd_same' (o := .frz o (.tup (List.replicate k.toNat xs).flatten)) nn
          exact ⟨.ref s.heap.objs.size, _, I2, rfl, q _ _ sm (.tup (.inl ⟨o, hod, upd_same⟩) (IsAll.mono (Same.fx sm) _ _ (g2.rep k.toNat)))⟩
      · cases hr
    | _ => exact nomatch hr
  | _ => cases he <;> exact nomatch hr
end DL
/-! a text against anything, dicts too; one of a list of texts. -/
namespace DL
open PySem PySem.Spec PyProof.Rows L2
open PySem.SeqAt PySem.MeetsSeq
section
variable {A : Around} {s : Shared}
theorem str_eq_declines_dict (b : Str) (u : Tok) (l : Addr) (c : Value) (es : Array DictEntry) (n : Nat) (dd : Option Addr) (sl : Array (Option Value)) :
    Meets (Builtin.«str.__eq__» ⟨[.str b u, .ref l], []⟩) (fun _ R s => s.heap.get? l = some { cls := c, dict := dd, data := .dict es n, slots := sl } ∧ R (.ok (.ret .notImplemented)) s) :=
  .of_wp fun prog w A R s h => by obtain ⟨hp, g, d, tk, os⟩ := s; obtain ⟨hl, h⟩ := h; wp_walk using AutoSeq1.wpAny_loadPart' hl, wpAny_load hl; exact ⟨_, rfl, h⟩
theorem dict_eq_declines_str {prog : Program} {w : World} {E : Value → Shared → Prop} {Q : Value → Shared → Prop} {b : Str} {u : Tok} {l : Addr} {o : Obj} (ho : s.heap.get? l = some o) (hc : o.cls = .type "dict") (hq : Q .notImplemented s) :
    wpAny (model prog w) A (call (.builtin "dict.__eq__") [.ref l, .str b u]) Q E s := by
  refine wpAny_call_entry PySem.F.slot_dict_eq (show s.TypeIs (.ref l) "dict" from ⟨_, ho, hc⟩) PySem.F.entry_dict_eq ?_ (PySem.F.args_dict_eq_2 _ _)
  show wpAny _ _ (Builtin.Dict.dictSlotArgs "__eq__" ⟨[.ref l, .str b u], []⟩ >>= _) _ _ s
  refine wpAny_bind ?_
  unfold Builtin.Dict.dictSlotArgs
  refine wpAny_bind (wpAny_notOrdered_dict (show s.TypeIs (.ref l) "dict" from ⟨_, ho, hc⟩) ?_)
  show wpAny _ _ (pure (Value.ref l, Value.str b u)) _ _ s
  refine wpAny_pure ?_
  refine wpAny_bind (wpAny_isInstance (T := "str") (typeIs_str s b u) PySem.F.sub_str_dict ?_)
  simp only [Bool.not_false, if_true]
  refine wpAny_bind (wpAny_rule ?_)
  exact wpAny_bind (wpAny_pure (wpAny_pure ⟨_, rfl, hq⟩))
theorem RcAt.dict_str {l : Addr} {c : Value} {es : Array DictEntry} {n : Nat} {dd : Option Addr} {sl : Array (Option Value)} (ho : s.heap.get? l = some ⟨.type "dict", dd, .dict es n, sl⟩) (b : Str) (u : Tok) (hu : A.units < cLine) : RcAt A s (.ref l) (.str b u) false := fun prog w E Q h =>
  rc_eq_decline_or (k := false) ⟨_, ho, rfl⟩ (typeIs_str s b u) (by decide) F.sub_str_dict F.slot_dict_eq F.slot_str_eq_refl
    (fun _ hq => dict_eq_declines_str ho rfl hq)
    (fun _ hq => call_meets F.slot_str_eq_refl (typeIs_str s b u) F.entry_str_eq (F.args_str_eq_2 _ _) (str_eq_declines_dict b u l (.type "dict") es n dd sl) ⟨ho, hq⟩)
    (fun _ hq => wpAny_of_eq (rfl : isSame (.ref l) (.str b u) = pure false) hq) (.inr hu) h
theorem RcAt.str_dict {l : Addr} {es : Array DictEntry} {n : Nat} {dd : Option Addr} {sl : Array (Option Value)} (ho : s.heap.get? l = some ⟨.type "dict", dd, .dict es n, sl⟩) (b : Str) (u : Tok) (hu : A.units < cLine) : RcAt A s (.str b u) (.ref l) false := fun prog w E Q h =>
  rc_eq_decline_or (k := false) (typeIs_str s b u) ⟨_, ho, rfl⟩ (by decide) F.sub_dict_str F.slot_str_eq F.slot_dict_eq_refl
    (fun _ hq => call_meets F.slot_str_eq (typeIs_str s b u) F.entry_str_eq (F.args_str_eq_2 _ _) (str_eq_declines_dict b u l (.type "dict") es n dd sl) ⟨ho, hq⟩)
    (fun _ hq => dict_eq_declines_str ho rfl hq)
    (fun _ hq => wpAny_of_eq (rfl : isSame (.str b u) (.ref l) = pure false) hq) (.inr hu) h
theorem EqAt.str_dict {l : Addr} {es : Array DictEntry} {n : Nat} {dd : Option Addr} {sl : Array (Option Value)} (ho : s.heap.get? l = some ⟨.type "dict", dd, .dict es n, sl⟩) (b : Str) (u : Tok) (hu : A.units < cLine) : EqAt A s (.str b u) (.ref l) false := fun prog w E Q h => by
  unfold eqBool
  refine wpAny_holding ?_
  refine wpAny_ite_split (fun hab => absurd (eq_of_beq hab) nofun) (fun _ => ?_)
  exact wpAny_bind (DL.RcAt.str_dict ho b u hu prog w E _ (wpAny_truthy_bool h))
end

/-- any data against a text -/
def eqS : D → Str → Bool
  | .str x, b => x == b
  | _, _ => false
section
variable {X : Cx} {pins : List (Addr × Obj)} {σ : Sg} {H : Hp} {s : Shared}
theorem rc_any {A : Around} (I : Inv X pins σ H s) {x : V} {v : Value} {d : D} (hd : Is X.K H x d) (rx : RelV x v) (b : Str) (u : Tok) (hu : A.units < cLine) : RcAt A s v (.str b u) (eqS d b) := by
  cases hd with
  | non => cases rx; exact RcAt.none_str b u
  | bl c => cases rx; exact RcAt.bool_str c b u
  | int i => obtain ⟨t, rfl⟩ := rx; exact RcAt.int_str i t b u
  | str z => obtain ⟨t, rfl⟩ := rx; exact RcAt.str_str z t b u
  | lst h1 h2 =>
    cases rx
    obtain ⟨its, r, pl, hz⟩ := I.list (.inl (.inr ⟨_, h1⟩))
    exact RcAt.list_str b u pl.isList hu
  | tup h1 h2 =>
    cases rx
    obtain ⟨its, r, pl, hz⟩ := I.tuple h1.sqT
    exact RcAt.tuple_str b u pl hu
  | dct h1 h2 =>
    cases rx
    obtain ⟨_, _, vs, _, ⟨⟨c, dd, dt, sl⟩, es, ep, ho, ⟨hc, _⟩, hdt, _⟩⟩ := dk_rd I.hok (.inr ⟨_, h1⟩)
    simp only at hc hdt
    subst hc hdt
    exact DL.RcAt.dict_str (c := .type "dict") ho b u hu
theorem eqAt_any {A : Around} (I : Inv X pins σ H s) {x : V} {v : Value} {d : D} (hd : Is X.K H x d) (rx : RelV x v) (b : Str) (u : Tok) (hu : A.units < cLine) : EqAt A s (.str b u) v (eqS d b) := by
  cases hd with
  | non => cases rx; exact EqAt.str_none b u
  | bl c => cases rx; exact EqAt.str_bool b u c
  | int i => obtain ⟨t, rfl⟩ := rx; exact EqAt.str_int b u i t
  | str z => obtain ⟨t, rfl⟩ := rx; show EqAt A s _ _ (z == b); rw [BEq.comm]; exact EqAt.str_str b u z t
  | lst h1 h2 =>
    cases rx
    obtain ⟨its, r, pl, hz⟩ := I.list (.inl (.inr ⟨_, h1⟩))
    exact EqAt.str_list b u pl.isList hu
  | tup h1 h2 =>
    cases rx
    obtain ⟨its, r, pl, hz⟩ := I.tuple h1.sqT
    exact EqAt.str_tuple b u pl hu
  | dct h1 h2 =>
    cases rx
    obtain ⟨_, _, vs, _, ⟨⟨c, dd, dt, sl⟩, es, ep, ho, ⟨hc, _⟩, hdt, _⟩⟩ := dk_rd I.hok (.inr ⟨_, h1⟩)
    simp only at hc hdt
    subst hc hdt
    exact DL.EqAt.str_dict ho b u hu
end
section
variable {X : Cx}
def eqE : D → D → Option D
  | d, .str b => some (.bool (eqS d b))
  | .tuple xs, .tuple [] => some (.bool xs.isEmpty)
  | d, e => eqD d e
theorem op_eqE (hu : X.A.units + 120 < cLine) : OpR X (compareOp .Eq) (rB X.K eqE) := by
  intro pins s σ H x y v u Q I rx ry h
  obtain ⟨d, e, r, hd, he, hr, q⟩ := h
  have hd0 := hd
  have he0 := he
  cases he with
  | str b =>
    obtain ⟨t, rfl⟩ := ry
    have hr : (some (PyData.bool (eqS d b)) : Option D) = some r := by cases d <;> exact hr
    cases hr
    exact rc_any I hd rx b t (by omega) _ _ _ _ ⟨.bl _, H, I, rfl, q _ H (Same.refl H) (.bl _)⟩
  | @tup a' ys es k1 k2 =>
    cases es with
    | nil =>
      cases hd with
      | @tup a xs ds h1 h2 =>
        have hr : (some (PyData.bool ds.isEmpty) : Option D) = some r := hr
        cases hr
        cases rx
        cases ry
        cases k2
        obtain ⟨its, r1, pl, hz⟩ := I.tuple h1.sqT
        obtain ⟨its2, r2, pl2, hz2⟩ := I.tuple k1.sqT
        cases r2
        refine RcAt.tuples (e := fun _ => true) pl pl2 (by omega) (fun j _ h2 => absurd h2 (by simp)) _ _ _ _ ⟨.bl ds.isEmpty, H, I, ?_, q _ H (Same.refl H) (.bl _)⟩
        have n1 := r1.length
        have n2 := h2.length
        show Value.bool _ = Value.bool _
        cases ds <;> cases its <;> simp_all
      | _ => exact op_eqD' hu pins s σ H _ _ v u Q I rx ry ⟨_, _, r, hd0, he0, hr, q⟩
    | cons y ys' => exact op_eqD' hu pins s σ H _ _ v u Q I rx ry ⟨_, _, r, hd, .tup k1 k2, by cases d <;> exact hr, q⟩
  | _ => exact op_eqD' hu pins s σ H _ _ v u Q I rx ry ⟨_, _, r, hd0, he0, by cases d <;> exact hr, q⟩
/-- a list's texts -/
def txts : List D → Option (List Str)
  | [] => some []
  | .str b :: ds => (txts ds).map (b :: ·)
  | _ :: _ => none
def inE (d e : D) : Option D := match e with
  | .list xs => match txts xs with
    | some bs => some (.bool (bs.any fun b => eqS d b))
    | none => inD d (.list xs)
  | e => inD d e
def eqU' (d : D) : Value → Bool
  | .str z _ => eqS d z
  | _ => false
theorem any_txts {K : PySem.W.Frag} {H : Hp} {d : D} : ∀ {xs : List V} {ds : List D} {its : List Value} {bs : List Str}, IsAll K H xs ds → Vals xs its → txts ds = some bs → its.any (eqU' d) = bs.any (fun b => eqS d b) ∧ ∀ u ∈ its, ∃ b t, u = .str b t
  | _, _, _, _, .nil, .nil, e => by cases e; exact ⟨rfl, fun _ h => nomatch h⟩
  | _, _, _, _, .cons h1 h2, .cons r1 r2, e => by
    cases h1 with
    | str b =>
      obtain ⟨t, rfl⟩ := r1
      simp only [txts, Option.map_eq_some_iff] at e
      obtain ⟨bs, e, rfl⟩ := e
      obtain ⟨a1, a2⟩ := any_txts (d := d) h2 r2 e
      refine ⟨by rw [List.any_cons, List.any_cons, a1]; rfl, fun u hu => ?_⟩
      rcases List.mem_cons.mp hu with rfl | hu
      · exact ⟨_, _, rfl⟩
      · exact a2 u hu
    | _ => cases e
theorem op_inE (hu : X.A.units + 120 < cLine) : OpR X (compareOp .In) (rB X.K inE) := by
  intro pins s σ H x y v u Q I rx ry h
  obtain ⟨d, e, r, hd, he, hr, q⟩ := h
  have hd0 := hd
  have he0 := he
  cases he with
  | @lst a o xs ds h1 h2 =>
    cases ht : txts ds with
    | none => exact op_inD hu pins s σ H _ _ v u Q I rx ry ⟨_, _, r, hd, .lst h1 h2, by simpa only [inE, ht] using hr, q⟩
    | some bs =>
      have hr : (some (PyData.bool (bs.any fun b => eqS d b)) : Option D) = some r := by simpa only [inE, ht] using hr
      cases hr
      cases ry
      obtain ⟨its, r1, pl, hz⟩ := I.list (.inl (.inr ⟨_, h1⟩))
      obtain ⟨a1, a2⟩ := any_txts (d := d) h2 r1 ht
      refine SeqAt.in_listAt (eqU' d) pl.isList (fun w hw => ?_) ⟨.bl (bs.any fun b => eqS d b), H, I, ?_, q _ H (Same.refl H) (.bl _)⟩
      · obtain ⟨b, t, rfl⟩ := a2 w (by simpa using hw)
        exact eqAt_any I hd rx b t (by show X.A.units + 1 < cLine; omega)
      · show Value.bool _ = Value.bool _
        rw [show its.toArray.any (eqU' d) = its.any (eqU' d) by simp, a1]
  | _ => exact op_inD hu pins s σ H _ _ v u Q I rx ry ⟨_, _, r, hd0, he0, hr, q⟩
end
end DL
/-! sum and max of a tuple of ints. -/
namespace DL
open PySem PySem.Spec PyProof.Rows L2 PySem.SeqAt PySem.W
section
variable {prog : Program} {w : World} {A : Around} {E : Value → Shared → Prop} {s : Shared} {xs : Array (Int × Tok)} {l : Addr}
theorem sum_tup {Q : Value → Shared → Prop} (hh : A.handled = none) (hl : s.heap.IsTuple l (intItems xs))
    (h : ∀ h' tk t', (∀ b o, s.heap.get? b = some o → h'.get? b = some o) → Q (.int (preSum (numAt xs) xs.size) t') { s with heap := h', toks := tk }) :
    wpAny (model prog w) A (call (.builtin "sum") [.ref l]) Q E s := by
  refine call_sum_walkAnyS (iter_tupleW (A := A.in1) hh hl fun s₂ e W st hfp hw hk => ?_)
  refine ⟨_, _, _, _, _, _, _, numAt xs, rfl, W, st, hfp, fun i v hv => intItems_at hv, fun s' t' m => ?_⟩
  obtain ⟨h', tk, rfl, hk'⟩ := moved_old e rfl m
  have := h h' tk t' hk'
  simpa [intItems] using this
end
section
variable {X : Cx}
def sumTL : List D → Option D
  | [.tuple xs] => (intsD xs).map fun is => .int is.sum
  | _ => none
def topTL : List D → Option D
  | [.tuple xs] => match intsD xs with
    | some (i :: is) => some (.int (is.foldl max i))
    | _ => none
  | _ => none
theorem cr_sumTD (hc : X.calm = true) : CallR X (.builtin "sum") (rCl X.K sumTL) := by
  intro pins s σ H xs us Q I r h
  obtain ⟨ds, r', hd, hr, q⟩ := h
  cases hd with
  | nil => exact nomatch hr
  | cons h1 h2 =>
    cases h2 with
    | cons _ _ => cases h1 <;> exact nomatch hr
    | nil =>
      cases h1 with
      | @tup a ys ds g1 g2 =>
        have hr : (intsD ds).map (fun is => PyData.int is.sum) = some r' := hr
        cases hb : intsD ds with
        | none => rw [hb] at hr; cases hr
        | some is =>
          rw [hb] at hr
          cases hr
          have e := is_ints g2 hb
          subst e
          obtain ⟨its, rv, hl, _⟩ := I.tuple g1.sqT
          rw [Vals.ref1 r]
          have hi := rv.ints
          obtain ⟨zs, e⟩ := hi.allInts.items
          have hn : numsOf (intItems zs).toList = is := by rw [← e]; exact hi.numsOf
          rw [nums_intItems] at hn
          rw [e] at hl
          refine sum_tup (I.ok.hd hc) hl fun h' tk t' hk => ?_
          rw [preSum_eq, List.take_of_length_le (by simp), hn]
          exact ⟨.int _, H, I.kept hk, ⟨_, rfl⟩, q _ H (Same.refl H) (.int _)⟩
      | _ => exact nomatch hr
theorem alike_ints (is : List Int) : AlikeAll (is.map PyData.int) := by
  refine ⟨fun x hx y hy => ?_, fun x hx => ?_⟩
  · obtain ⟨i, _, rfl⟩ := List.mem_map.mp hx
    obtain ⟨j, _, rfl⟩ := List.mem_map.mp hy
    rfl
  · obtain ⟨i, _, rfl⟩ := List.mem_map.mp hx
    exact nofun
theorem intsD_eq : ∀ {ds : List D} {is : List Int}, intsD ds = some is → ds = is.map .int
  | [], is, e => by cases e; rfl
  | d :: ds, is, e => by
    cases d with
    | int i =>
      have e : (intsD ds).map (i :: ·) = some is := e
      cases q : intsD ds with
      | none => rw [q] at e; cases e
      | some js => rw [q] at e; cases e; rw [intsD_eq q]; rfl
    | _ => exact nomatch e
theorem depth_ints (is : List Int) : PyData.depthAll (is.map PyData.int) ≤ 1 := by
  induction is with
  | nil => exact Nat.zero_le _
  | cons i is ih => show max _ _ ≤ 1; exact Nat.max_le.mpr ⟨by show (0 : Nat) ≤ 1; omega, ih⟩
theorem plain_ints (is : List Int) : PyData.plainAll (is.map PyData.int) = true := by
  induction is with
  | nil => rfl
  | cons i is ih => show (true && _) = true; exact ih
theorem cr_topTD (hu : X.A.units + 120 < cLine) (hc : X.calm = true) : CallR X (.builtin "max") (rCl X.K topTL) := by
  intro pins s σ H xs us Q I r h
  obtain ⟨ds, r', hd, hr, q⟩ := h
  cases hd with
  | nil => exact nomatch hr
  | cons h1 h2 =>
    cases h2 with
    | cons _ _ => cases h1 <;> exact nomatch hr
    | nil =>
      cases h1 with
      | @tup a ys ds g1 g2 =>
        have hr : (match intsD ds with | some (i :: is) => some (PyData.int (is.foldl max i)) | _ => none) = some r' := hr
        cases hb : intsD ds with
        | none => rw [hb] at hr; cases hr
        | some js =>
          rw [hb] at hr
          cases js with
          | nil => cases hr
          | cons i is =>
            cases hr
            have e := intsD_eq hb
            subst e
            obtain ⟨its, rv, hl, _⟩ := I.tuple g1.sqT
            rw [Vals.ref1 r]
            obtain ⟨as, rs⟩ := Dp.readsAll I _ _ _ (IsAll.dp _ ys (plain_ints (i :: is)) g2) rv
            refine max_tuple_data (x := .int i) (xs := is.map .int) (I.ok.hd hc) hl (by simpa using rs) (alike_ints (i :: is)) ?_ fun j v h' tk bs e rd hk => ?_
            · have := depth_ints (i :: is); show X.A.units + 1 + PyData.depthAll ((i :: is).map .int) < cLine; omega
            · rw [maxD_ints] at rd
              cases rd
              exact ⟨.int _, H, I.kept hk, ⟨_, rfl⟩, q _ H (Same.refl H) (.int _)⟩
      | _ => exact nomatch hr
end
end DL
/-! repr of data with {} at any depth. -/
namespace DL
open PySem PySem.Spec PyProof.Rows L2
mutual
/-- its dicts are empty -/
def emp : D → Bool
  | .list xs => empAll xs
  | .tuple xs => empAll xs
  | .dict es => es.isEmpty
  | _ => true
def empAll : List D → Bool
  | [] => true
  | d :: ds => emp d && empAll ds
end
/-- what is shown of one value -/
def Shw (P : Program) (w : World) (h : Heap) (v : Value) (d : D) : Prop := ∃ as bs, Reads h v d as ∧ ReadAtMost h d.depth bs ∧ ReprK P w bs h d.depth v d.shown
def ShwAll (P : Program) (w : World) (h : Heap) (vs : List Value) (ds : List D) : Prop := ∃ as bs, ReadsAll h vs ds as ∧ ReadAtMost h (PyData.depthAll ds) bs ∧ ReprAllK P w bs h (PyData.depthAll ds) vs (PyData.shownAll ds)
section
variable {X : Cx} {pins : List (Addr × Obj)} {σ : Sg} {H : Hp} {s : Shared}
theorem dict_at (I : Inv X pins σ H s) {a : Addr} {o : Obj} {kvs : List (Key × V)} (h1 : H a = some (.frz o (.dK kvs))) (h2 : IsKv X.K H kvs []) : (a == sysModules) = false ∧ ∃ o2 es ep, s.heap.get? a = some o2 ∧ o2.cls = .type "dict" ∧ o2.data = .dict es ep ∧ es.toList = [] := by
  cases h2
  obtain ⟨e0, ok⟩ := I.hok a _ h1
  obtain ⟨_, hm, vs, rel, dd⟩ := ok
  cases rel
  obtain ⟨o2, es, ep, g1, g2, g3⟩ := dd
  refine ⟨hm, o2, es, ep, g1, g2.1, g3.1, ?_⟩
  have p := g3.2.2.1
  generalize es.toList = l at p ⊢
  cases p
  rfl
mutual
theorem shw_of (I : Inv X pins σ H s) : ∀ (d : D) (v : V) (u : Value), Is X.K H v d → RelV v u → emp d = true → d.showable = true → d.shown.length ≤ sizeLine → Shw X.prog X.w s.heap u d
  | .none, _, _, h, r, _, _, _ => by
    cases h; cases r
    exact ⟨_, [], .none, (fun _ z => nomatch z), by simp only [PyData.shown]; exact .of_is ReprIs.none _ _ _⟩
  | .bool b, _, _, h, r, _, _, _ => by
    cases h; cases r
    exact ⟨_, [], .bool b, (fun _ z => nomatch z), by simp only [PyData.shown]; exact .of_is (ReprIs.bool b) _ _ _⟩
  | .int i, _, _, h, r, _, hs, _ => by
    cases h; obtain ⟨t, rfl⟩ := r
    exact ⟨_, [], .int i t, (fun _ z => nomatch z), by simp only [PyData.shown]; exact .of_is (ReprIs.int t (by simpa only [PyData.showable, decide_eq_true_eq] using hs)) _ _ _⟩
  | .str x, _, _, h, r, _, _, hz => by
    cases h; obtain ⟨t, rfl⟩ := r
    exact ⟨_, [], .str x t, (fun _ z => nomatch z), by simp only [PyData.shown]; exact .of_is (ReprIs.str x t (by simpa only [PyData.shown] using hz)) _ _ _⟩
  | .list ds, _, _, h, r, he, hs, hz => by
    cases h with
    | lst h1 h2 =>
      cases r
      obtain ⟨its, rv, ⟨o, n, ho, hc, _, hd⟩, _⟩ := I.list (.inl (.inr ⟨_, h1⟩))
      have hz1 : (listText (PyData.shownAll ds)).length ≤ sizeLine := by simpa only [PyData.shown] using hz
      obtain ⟨as, bs, rd, hb, hk⟩ := shwAll_of I ds _ its h2 rv (by simpa only [emp] using he) (by simpa only [PyData.showable] using hs) fun t ht => Nat.le_trans (listText_mem_le ht) hz1
      have rr : Reads s.heap (.ref _) (.list ds) _ := .list ho hc hd rd
      have na := not_mem_of_deeper rr (by simp only [PyData.depth]; omega) hb
      refine ⟨_, _ :: bs, rr, ReadAtMost.cons rr (by simp only [PyData.depth]; omega) hb, ?_⟩
      simp only [PyData.depth, PyData.shown]
      cases its with
      | nil =>
        cases rd
        simp only [PyData.shownAll, listText_nil]
        exact ReprK.listEmpty ho hc hd
      | cons y l => exact ReprK.list ho hc hd na (by simpa using hk.length_eq) fun i y e => hk.item i y (by simpa using e)
  | .tuple ds, _, _, h, r, he, hs, hz => by
    cases h with
    | tup h1 h2 =>
      cases r
      obtain ⟨its, rv, ⟨o, ho, hc, n, hd⟩, _⟩ := I.tuple h1.sqT
      have hz1 : (tupleText (PyData.shownAll ds)).length ≤ sizeLine := by simpa only [PyData.shown] using hz
      obtain ⟨as, bs, rd, hb, hk⟩ := shwAll_of I ds _ its h2 rv (by simpa only [emp] using he) (by simpa only [PyData.showable] using hs) fun t ht => Nat.le_trans (tupleText_mem_le ht) hz1
      have rr : Reads s.heap (.ref _) (.tuple ds) _ := .tuple ho hc hd rd
      have na := not_mem_of_deeper rr (by simp only [PyData.depth]; omega) hb
      refine ⟨_, _ :: bs, rr, ReadAtMost.cons rr (by simp only [PyData.depth]; omega) hb, ?_⟩
      simp only [PyData.depth, PyData.shown]
      exact ReprK.tuple ho hc hd na hk
  | .dict es, _, _, h, r, he, _, _ => by
    cases es with
    | cons _ _ => exact absurd he (by simp [emp])
    | nil =>
      cases h with
      | dct h1 h2 =>
        cases r
        obtain ⟨hm, o2, es, ep, g1, g2, g3, g4⟩ := dict_at I h1 h2
        have rr : Reads s.heap (.ref _) (.dict []) _ := .dict g1 g2 g3 (by rw [g4]; exact .nil) (by rw [g4]; exact .nil)
        refine ⟨_, _, rr, ReadAtMost.cons (n := 0) (bs := []) rr (Nat.zero_le _) (fun _ z => nomatch z), ?_⟩
        simp only [PyData.depth, PyData.shown, PyData.shownKv]
        exact ReprK.dict g1 g2 g3 hm (List.not_mem_nil) (by rw [g4]; exact .nil)
theorem shwAll_of (I : Inv X pins σ H s) : ∀ (ds : List D) (vs : List V) (us : List Value), IsAll X.K H vs ds → Vals vs us → empAll ds = true → PyData.showableAll ds = true → (∀ t ∈ PyData.shownAll ds, t.length ≤ sizeLine) → ShwAll X.prog X.w s.heap us ds
  | [], _, _, h, r, _, _, _ => by
    cases h; cases r
    exact ⟨_, [], .nil, (fun _ z => nomatch z), by simp only [PyData.shownAll]; exact .nil⟩
  | d :: ds, _, _, h, r, he, hs, hz => by
    cases h with
    | cons h1 h2 =>
      cases r with
      | cons r1 r2 =>
        have he1 : emp d = true ∧ empAll ds = true := by simpa only [empAll, Bool.and_eq_true] using he
        have hs1 : d.showable = true ∧ PyData.showableAll ds = true := by simpa only [PyData.showableAll, Bool.and_eq_true] using hs
        obtain ⟨as, bs, k1, k2, k3⟩ := shw_of I d _ _ h1 r1 he1.1 hs1.1 (hz _ (by simp only [PyData.shownAll]; exact .head _))
        obtain ⟨as', bs', l1, l2, l3⟩ := shwAll_of I ds _ _ h2 r2 he1.2 hs1.2 fun t ht => hz t (by simp only [PyData.shownAll]; exact .tail _ ht)
        refine ⟨_, bs ++ bs', .cons k1 l1, (k2.mono (by simp only [PyData.depthAll]; omega)).append (l2.mono (by simp only [PyData.depthAll]; omega)), ?_⟩
        simp only [PyData.depthAll, PyData.shownAll]
        exact .cons ((k3.more fun b hb => List.mem_append.mpr (.inl hb)).level_le (Nat.le_max_left ..)) (l3.more_le (fun b hb => List.mem_append.mpr (.inr hb)) (Nat.le_max_right ..))
end
end
section
variable {X : Cx}
def reprNL : List D → Option D
  | [d] => if (emp d && d.showable && decide (d.depth ≤ 100) && decide (d.shown.length ≤ sizeLine)) = true then some (.str d.shown) else none
  | _ => none
theorem cr_reprN (hg : Gd X.A) (hu : X.A.units + 120 < cLine) : CallR X (.builtin "repr") (rCl X.K reprNL) := by
  intro pins s σ H xs us Q I r h
  obtain ⟨ds, r', hd, hr, q⟩ := h
  cases hd with
  | nil => exact nomatch hr
  | @cons v vs d ds h1 h2 =>
    cases h2 with
    | cons _ _ => exact nomatch hr
    | nil =>
      obtain ⟨u, rfl, ru⟩ := vals1 r
      have hr : (if (emp d && d.showable && decide (d.depth ≤ 100) && decide (d.shown.length ≤ sizeLine)) = true then some (PyData.str d.shown) else none) = some r' := hr
      split at hr
      · rename_i hz
        simp only [Bool.and_eq_true, decide_eq_true_eq] at hz
        obtain ⟨⟨⟨z2, z1⟩, z3⟩, z4⟩ := hz
        cases hr
        have fin : ∀ h' u' tk, (∀ b o, s.heap.get? b = some o → h'.get? b = some o) → EP X pins σ Q (.str d.shown u') { s with heap := h', toks := tk } := fun h' u' tk hk => ⟨.str _, H, I.kept (t' := tk) hk, ⟨_, rfl⟩, q _ H (Same.refl H) (.str _)⟩
        cases h1 with
        | non => cases ru; exact P.repr_of_none (fin _ _ (s.toks + 1) fun _ _ e => e)
        | bl i => cases ru; exact P.repr_of_bool (fin _ _ (s.toks + 1) fun _ _ e => e)
        | int i =>
          obtain ⟨t, rfl⟩ := ru
          exact P.repr_of_int (of_decide_eq_true z1) (fin _ _ (s.toks + 1) fun _ _ e => e)
        | str i =>
          obtain ⟨t, rfl⟩ := ru
          exact P.repr_of_str (fin _ _ (s.toks + 1) fun _ _ e => e) z4
        | @lst a o xs ds g1 g2 =>
          cases ru
          obtain ⟨its, rv, ⟨o, n, ho, hc, _, hd⟩, _⟩ := I.list (.inl (.inr ⟨_, g1⟩))
          have hz1 : (listText (PyData.shownAll ds)).length ≤ sizeLine := by simpa only [PyData.shown] using z4
          obtain ⟨as, bs, rd, hb, hk⟩ := shwAll_of I ds _ its g2 rv (by simpa only [emp] using z2) (by simpa only [PyData.showable] using z1) fun t ht => Nat.le_trans (listText_mem_le ht) hz1
          have rr : Reads s.heap (.ref a) (.list ds) _ := .list ho hc hd rd
          have na := not_mem_of_deeper rr (by simp only [PyData.depth]; omega) hb
          have hdp : 1 + PyData.depthAll ds ≤ 100 := by have := z3; simp only [PyData.depth] at this; omega
          simp only [PyData.shown] at fin
          refine call_repr_slot (by omega) (show s.TypeIs (.ref a) "list" from ⟨o, ho, hc⟩) F.slot_list_repr.toG ?_
          cases its with
          | nil =>
            cases rd
            simp only [PyData.shownAll, listText_nil] at fin
            exact call_list_repr_empty ⟨o, ho, hc⟩ ho hd ⟨_, _, rfl, fin _ _ _ fun _ _ e => e⟩
          | cons y l => exact call_list_reprK ho hc hd na (by simpa using hk.length_eq) (fun i y e => hk.item i y (by simpa using e)) hg (fun b _ => Clear.nil b) (by show X.A.units + 1 + _ < _; omega) (fun _ _ e => e) (fun h' u tk hk => ⟨_, _, rfl, fin h' u tk hk⟩) hz1
        | @tup a xs ds g1 g2 =>
          cases ru
          obtain ⟨its, rv, ⟨o, ho, hc, n, hd⟩, _⟩ := I.tuple g1.sqT
          have hz1 : (tupleText (PyData.shownAll ds)).length ≤ sizeLine := by simpa only [PyData.shown] using z4
          obtain ⟨as, bs, rd, hb, hk⟩ := shwAll_of I ds _ its g2 rv (by simpa only [emp] using z2) (by simpa only [PyData.showable] using z1) fun t ht => Nat.le_trans (tupleText_mem_le ht) hz1
          have rr : Reads s.heap (.ref a) (.tuple ds) _ := .tuple ho hc hd rd
          have na := not_mem_of_deeper rr (by simp only [PyData.depth]; omega) hb
          have hdp : 1 + PyData.depthAll ds ≤ 100 := by have := z3; simp only [PyData.depth] at this; omega
          simp only [PyData.shown] at fin
          refine call_repr_slot (by omega) (show s.TypeIs (.ref a) "tuple" from ⟨o, ho, hc⟩) F.slot_tuple_repr ?_
          exact call_tuple_reprK ho hc hd na hk hg (fun b _ => Clear.nil b) (by show X.A.units + 1 + _ < _; omega) (fun _ _ e => e) (fun h' u tk hk => ⟨_, _, rfl, fin h' u tk hk⟩) hz1
        | @dct a o kvs es g1 g2 =>
          cases es with
          | cons _ _ => exact absurd z2 (by simp [emp])
          | nil =>
            cases ru
            obtain ⟨hm, o2, es, ep, k1, k2, k3, k4⟩ := dict_at I g1 g2
            simp only [PyData.shown, PyData.shownKv] at fin z4
            refine call_repr_slot (by omega) (show s.TypeIs (.ref a) "dict" from ⟨o2, k1, k2⟩) F.slot_dict_repr ?_
            exact call_dict_reprK (d := 0) (as := []) (ps := []) k1 k2 k3 hm (List.not_mem_nil) (by rw [k4]; exact .nil) hg (fun b _ => Clear.nil b) (by show X.A.units + 1 + 1 < _; omega) (fun _ _ e => e) (fun h' u tk hk => ⟨_, _, rfl, fin h' u tk hk⟩) z4
      · cases hr
end
end DL
/-! the letters of a text, one after the other. -/
namespace DL
open PySem PySem.Spec PyProof.Rows L2
section
variable {X : Cx} {c : Ctx} {l tg : Expr}
theorem signs_len (x : Str) : (signsD x).length = x.cps.size := by simp [signsD]
theorem signs_get {x : Str} {i : Nat} {d : D} (h : (signsD x)[i]? = some d) : ∃ k, x.cps[i]? = some k ∧ d = .str ⟨#[k]⟩ := by
  unfold signsD at h
  rw [List.getElem?_map] at h
  cases e : x.cps[i]? with
  | none => rw [Array.getElem?_toList, e] at h; cases h
  | some k => rw [Array.getElem?_toList, e] at h; cases h; exact ⟨k, rfl, rfl⟩
theorem walk_s {K : PySem.W.Frag} {H : Hp} (x : Str) : Walk K (Its x) H (signsD x) := by
  refine ⟨fun i H' f hi => by rw [signs_len] at hi; exact hi, fun i v H' H'' d f hd y => ?_, fun i H' f hi => by rw [signs_len] at hi; exact hi⟩
  obtain ⟨rfl, k, e1, rfl⟩ := y
  obtain ⟨k2, e2, rfl⟩ := signs_get hd
  rw [e1] at e2
  cases e2
  exact ⟨Same.refl _, .str _⟩
def wSigns (w : DW) : LW := fun ρ Q => w ρ fun d ρ1 => ∃ x, d = .str x ∧ Q (signsD x) ρ1
theorem di_signs {w : DW} (h : PE X l (tD c w)) : PI X tg l (iD c (wSigns w)) := by
  refine PI.imp (pi_str h) ?_
  rintro σ H Q ⟨ρ, Q0, E, hw, k⟩
  refine ⟨ρ, _, E, hw, fun d ρ' v H' q g E1 i1 => ?_⟩
  obtain ⟨x, rfl, q⟩ := q
  cases i1
  exact ⟨x, rfl, k _ ρ' _ H' q g E1 (walk_s x)⟩
end
end DL
/-! Sets of (nested) tuples of texts: small questions asked of their members. -/
namespace DL
open PySem PySem.Spec PyProof.Rows L2
theorem nest_mem {h : Heap} : ∀ {ks : List NK} {vs : List Value}, NestedAll h ks vs → ∀ v ∈ vs, ∃ k ∈ ks, NestedIs h k v
  | _, _, .nil, _, hv => nomatch hv
  | _, _, .cons a b, v, hv => by
    rcases List.mem_cons.mp hv with rfl | hv
    · exact ⟨_, .head _, a⟩
    · obtain ⟨k, h1, h2⟩ := nest_mem b v hv
      exact ⟨k, .tail _ h1, h2⟩
theorem nest_depth {k : NK} : ∀ {ks : List NK}, k ∈ ks → k.depth ≤ NestedKey.depthAll ks
  | _ :: _, .head _ => Nat.le_max_left ..
  | _ :: _, .tail _ h => Nat.le_trans (nest_depth h) (Nat.le_max_right ..)
section
variable {P : Program} {w : World} {A : Around} {E : Value → Shared → Prop} {s : Shared}
/-- whether its hash is told by its value: some answer, and nothing has changed -/
theorem byVal_any : ∀ (n : Nat) (k : NK) (v : Value) {Q : Bool → Shared → Prop}, NestedIs s.heap k v → (∀ b, Q b s) → wpAny (model P w) A (hashByValue n v) Q E s
  | n, _, _, Q, .none, h => by cases n <;> exact wpAny_pure (h _)
  | n, _, _, Q, .bool _, h => by cases n <;> exact wpAny_pure (h _)
  | n, _, _, Q, .int _ _, h => by cases n <;> exact wpAny_pure (h _)
  | n, _, _, Q, .text _ _, h => by cases n <;> exact wpAny_pure (h _)
  | 0, _, _, Q, .tup _ _ _ _, h => wpAny_pure (h _)
  | n + 1, _, _, Q, .tup (a := a) (vs := vs) (ks := ks) ho hc hd hi, h => by
    unfold hashByValue
    refine wpAny_bind (wpAny_specialOf (show s.TypeIs (.ref a) "tuple" from ⟨_, ho, hc⟩) F.slot_tuple_hash.lookup ?_)
    show wpAny _ _ (seqItems? (.ref a) >>= _) _ _ s
    refine wpAny_bind (wpAny_seqItems ho hd ?_)
    refine wpAny_bind ?_
    show wpAny _ _ (forIn vs _ _) _ _ s
    rw [← Array.forIn_toList]
    refine wpAny_forIn_list _ (fun rest r s' => r = (none, ()) ∧ s' = s ∧ ∀ u ∈ rest, ∃ k, NestedIs s.heap k u) _ ?_ ?_ _ _ ⟨rfl, rfl, fun u hu => let ⟨k, _, x⟩ := nest_mem hi u hu; ⟨k, x⟩⟩
    · rintro u rest r s' ⟨rfl, es, all⟩
      rw [es]
      obtain ⟨k, x⟩ := all u (.head _)
      refine wpAny_bind (byVal_any n k u x fun b => ?_)
      cases b with
      | true =>
        simp only [Bool.not_true, Bool.false_eq_true, if_false]
        exact wpAny_pure ⟨rfl, rfl, fun y hy => all y (.tail _ hy)⟩
      | false =>
        simp only [Bool.not_false, if_true]
        exact wpAny_pure (wpAny_pure (h _))
    · rintro r s' ⟨rfl, es, _⟩
      rw [es]
      exact wpAny_pure (h _)
/-- no class statement among it -/
theorem noClass : ∀ (n : Nat) (k : NK) (v : Value) {Q : Bool → Shared → Prop}, NestedIs s.heap k v → k.depth ≤ n → Q false s → wpAny (model P w) A (ofAClassStatement n v) Q E s
  | n, _, _, Q, .none, _, h => by cases n <;> exact wpAny_pure h
  | n, _, _, Q, .bool _, _, h => by cases n <;> exact wpAny_pure h
  | n, _, _, Q, .int _ _, _, h => by cases n <;> exact wpAny_pure h
  | n, _, _, Q, .text _ _, _, h => by cases n <;> exact wpAny_pure h
  | 0, _, _, Q, .tup _ _ _ _, hn, _ => absurd hn (by simp [NestedKey.depth])
  | n + 1, _, _, Q, .tup (a := a) (vs := vs) (ks := ks) ho hc hd hi, hn, h => by
    have hn : NestedKey.depthAll ks ≤ n := by simp only [NestedKey.depth] at hn; omega
    unfold ofAClassStatement
    refine wpAny_bind (wpAny_typeOf (show s.TypeIs (.ref a) "tuple" from ⟨_, ho, hc⟩) ?_)
    dsimp only
    rw [if_pos (by decide)]
    refine wpAny_bind (wpAny_pure ?_)
    simp only [Bool.not_true, Bool.false_eq_true, if_false]
    show wpAny _ _ (seqItems? (.ref a) >>= _) _ _ s
    refine wpAny_bind (wpAny_seqItems ho hd ?_)
    dsimp only
    refine wpAny_bind ?_
    show wpAny _ _ (forIn vs _ _) _ _ s
    rw [← Array.forIn_toList]
    refine wpAny_forIn_list _ (fun rest r s' => r = (none, ()) ∧ s' = s ∧ ∀ u ∈ rest, ∃ k ∈ ks, NestedIs s.heap k u) _ ?_ ?_ _ _ ⟨rfl, rfl, fun u hu => nest_mem hi u hu⟩
    · rintro u rest r s' ⟨rfl, es, all⟩
      rw [es]
      obtain ⟨k, hk, x⟩ := all u (.head _)
      refine wpAny_bind (noClass n k u x (Nat.le_trans (nest_depth hk) hn) ?_)
      simp only [Bool.false_eq_true, if_false]
      exact wpAny_pure ⟨rfl, rfl, fun y hy => all y (.tail _ hy)⟩
    · rintro r s' ⟨rfl, es, _⟩
      rw [es]
      exact wpAny_pure h
/-- a member: a tuple -/
def TupKey (h : Heap) (p : Value × NK) : Prop := (∃ b, p.1 = .ref b) ∧ NestedIs h p.2 p.1 ∧ p.2.depth ≤ 8
/-- looking for one among others is not seen -/
theorem unseen {x : Value × NK} (hx : TupKey s.heap x) {ys : List Value} (hy : ∀ y ∈ ys, ∃ k, TupKey s.heap (y, k)) {Q : Bool → Shared → Prop} (h : Q false s) : wpAny (model P w) A (searchCouldBeSeen x.1 ys) Q E s := by
  obtain ⟨⟨b, e⟩, nx, dx⟩ := hx
  unfold searchCouldBeSeen
  refine wpAny_bind ?_
  refine wpAny_forIn_list _ (fun rest r s' => r = (none, ()) ∧ s' = s ∧ ∀ y ∈ rest, ∃ k, TupKey s.heap (y, k)) _ ?_ ?_ _ _ ⟨rfl, rfl, hy⟩
  · rintro y rest r s' ⟨rfl, rfl, all⟩
    obtain ⟨k, ⟨c, ec⟩, ny, dy⟩ := all y (.head _)
    have go : ∀ z ∈ rest, ∃ k, TupKey s'.heap (z, k) := fun z hz => all z (.tail _ hz)
    simp only at ec
    subst ec
    rw [e] at nx ⊢
    dsimp only
    by_cases hv : (b == c || (carriedByValue (.ref b) && carriedByValue (.ref c))) = true
    · exact wp_if_pos hv (wpAny_pure ⟨rfl, rfl, go⟩)
    · refine wp_if_neg hv ?_
      refine wpAny_bind (quiet_key _ _ 8 _ nx dx _ _ _ ?_)
      simp only [Bool.not_true, Bool.false_eq_true, if_false]
      refine wpAny_bind (quiet_key _ _ 8 _ ny dy _ _ _ ?_)
      simp only [Bool.not_true, Bool.false_eq_true, if_false]
      refine wpAny_bind (noClass 8 _ _ nx dx ?_)
      simp only [Bool.false_eq_true, if_false]
      refine wpAny_bind (noClass 8 _ _ ny dy ?_)
      simp only [Bool.false_eq_true, if_false]
      exact wpAny_pure ⟨rfl, rfl, go⟩
  · rintro r s' ⟨rfl, rfl, _⟩
    exact wpAny_pure h
end
end DL
/-! Sets of (nested) tuples: the table, and looking for one. -/
namespace DL
open PySem PySem.Spec PyProof.Rows L2
abbrev TM := Value × NK
def kh (w : World) (p : TM) : Int := p.2.hash w
def rowN (w : World) (p : TM) : Int × Value := (kh w p, p.1)
/-- at a stands a set whose members, as they stand in its table, are L -/
structure NTab (w : World) (h : Heap) (a : Addr) (L : List TM) (es : Array (Int × Value)) (ep : Nat) (t : SetTable) : Prop where
  obj : ∃ o, h.get? a = some o ∧ o.ExactSet ∧ o.data = .set es ep t
  row : es.toList = L.map (rowN w)
  tab : TabOk t (L.map (kh w))
  one : (L.map (·.2)).Nodup
  key : ∀ p ∈ L, TupKey h p
  led : w.params.followText "set-order" = true ∨ t.led = true
  room : L.length * 5 < t.mask * 3
  few : L.length < 64
section
variable {P : Program} {w : World} {A : Around} {E : Value → Shared → Prop} {s : Shared} {a : Addr} {L : List TM} {es : Array (Int × Value)} {ep : Nat} {t : SetTable}
theorem rows_size (h : es.toList = L.map (rowN w)) : es.size = L.length := by
  rw [← Array.length_toList, h, List.length_map]
theorem rows_at (h : es.toList = L.map (rowN w)) {i : Nat} {p : TM} (hp : L[i]? = some p) : es[i]? = some (rowN w p) := by
  rw [← Array.getElem?_toList, h, List.getElem?_map, hp]; rfl
theorem fits_of (h : t.place.size = L.length) (hd : t.dummies = #[]) (hr : es.toList = L.map (rowN w)) (hm : L.length ≤ t.mask) : t.fits es.size = true := by
  have e := rows_size hr
  unfold SetTable.fits SetTable.fill
  simp only [hd, Bool.and_eq_true, beq_iff_eq, decide_eq_true_eq]
  show t.place.size = es.size ∧ t.place.size + 0 ≤ t.mask
  omega
theorem NTab.sz (R : NTab w s.heap a L es ep t) : t.place.size = L.length := by
  have := R.tab.sz
  rwa [List.length_map] at this
theorem NTab.fit (R : NTab w s.heap a L es ep t) : t.fits es.size = true := fits_of R.sz R.tab.dm R.row (by have := R.room; omega)
theorem even_mask (R : NTab w s.heap a L es ep t) : ¬ t.gaveWay = true := by
  unfold SetTable.gaveWay
  rw [mask_odd R.tab.mok]
  decide
/-- the c-th place asked for a hash -/
def pr (t : SetTable) (h : Int) (c : Nat) : SetTable.Probe := nth t.mask (runAt t.mask (SetTable.bits h % (t.mask + 1)) (SetTable.bits h)) c
theorem pr_way (t : SetTable) (h : Int) (c : Nat) : (pr t h c).j = way t.mask h c := rfl
theorem pr_more (t : SetTable) (h : Int) (c q : Nat) : nth t.mask (pr t h c) q = pr t h (c + q) := (nth_add t.mask c _ q).symm
theorem pr_clean (t : SetTable) (h : Int) (c : Nat) : (pr t h c).dummy = none := by
  have all : ∀ (n : Nat) (p : SetTable.Probe), p.dummy = none → (nth t.mask p n).dummy = none := by
    intro n
    induction n with
    | zero => exact fun p e => e
    | succ n ih => exact fun p e => ih _ (by unfold adv; split <;> exact e)
  exact all c _ rfl
/-- nothing of this key stands before step c -/
def Ahead (t : SetTable) (h : Int) (L : List TM) (k : NK) (c K : Nat) : Prop := ∀ (i : Nat) (p : TM), L[i]? = some p → p.2 = k → ∃ d, c ≤ d ∧ d < K ∧ t.place.toList[i]? = some (way t.mask h d)
theorem look (R : NTab w s.heap a L es ep t) {x : TM} (hx : TupKey s.heap x) (hu : A.units + 8 < cLine) {K : Nat} (hKf : K < 10 * SetTable.turns t.mask) (hK : way t.mask (kh w x) K ∉ t.place.toList)
    (hb : ∀ c, c < K → way t.mask (kh w x) c ∈ t.place.toList) {Q : SetFound → Shared → Prop} (yes : x.2 ∈ L.map (·.2) → Q (.there none) s) (no : x.2 ∉ L.map (·.2) → Q (.free (way t.mask (kh w x) K) false) s) :
    ∀ (f c : Nat) (st : Option SetTable.Probe), st.getD (t.probeStart (kh w x)) = pr t (kh w x) c → c ≤ K → K - c < f → Ahead t (kh w x) L x.2 c K → wpAny (model P w) A (setSearchFrom a x.1 (kh w x) true f st) Q E s
  | 0, _, _, _, _, hf, _ => absurd hf (Nat.not_lt_zero _)
  | f + 1, c, st, hst, hc, hf, ha => by
    obtain ⟨o, ho, hex, hd⟩ := R.obj
    rw [setSearchFrom_succ]
    refine wpAny_bind (wpAny_setState_of ho hd R.fit ?_)
    dsimp only
    refine wp_if_neg (even_mask R) ?_
    try refine wpAny_bind (wpAny_pure ?_)
    have at0 : ∀ (i : Nat) (p : TM), L[i]? = some p → (fun i : Nat => (es[i]?.map (fun e : Int × Value => e.1)).getD 0) i = kh w p := fun i p hp => by
      show (es[i]?.map (fun e : Int × Value => e.1)).getD 0 = _
      rw [rows_at R.row hp]; rfl
    have sp := go_spec t R.tab.ris R.tab.dm (fun i : Nat => (es[i]?.map (fun e : Int × Value => e.1)).getD 0) (kh w x) (10 * SetTable.turns t.mask) (K - c) (pr t (kh w x) c) (pr_clean _ _ _) (by omega)
      (fun q hq => by rw [pr_more]; exact hb (c + q) (by omega)) (by rw [pr_more, show c + (K - c) = K by omega]; exact hK)
    simp only [pr_more] at sp
    rcases sp with ⟨q, i, hq, hi, hh, hno, go⟩ | ⟨hno, go⟩
    · have pe : t.probe (fun i : Nat => (es[i]?.map (fun e : Int × Value => e.1)).getD 0) (kh w x) (st.getD (t.probeStart (kh w x))) = some (.candidate (way t.mask (kh w x) (c + q)) i (pr t (kh w x) (c + (q + 1)))) := by rw [hst]; exact go
      rw [pe]
      dsimp only
      have hi : t.place.toList[i]? = some (way t.mask (kh w x) (c + q)) := hi
      have hil : i < L.length := by
        have h1 := (List.getElem?_eq_some_iff.mp hi).1
        rw [Array.length_toList] at h1
        have h2 := R.sz
        omega
      obtain ⟨p, hp⟩ : ∃ p, L[i]? = some p := ⟨_, List.getElem?_eq_getElem hil⟩
      have hm : p ∈ L := List.mem_of_getElem? hp
      obtain ⟨⟨b, eb⟩, np, dp⟩ := R.key p hm
      have live := slot_live R.tab.ris hi
      have more : wpAny (model P w) A (searchRest a x.1 (kh w x) true f es t (way t.mask (kh w x) (c + q)) i (pr t (kh w x) (c + (q + 1)))) Q E s := by
        unfold searchRest
        rw [rows_at R.row hp]
        dsimp only [rowN]
        refine wpAny_bind (wpAny_holding (eqAt_key p.2 x.2 A s p.1 x.1 np hx.2.1 (by have := hx.2.2; omega) P w E _ ?_))
        rw [← NestedKey.decide_eq]
        refine wpAny_bind (wpAny_setState_of ho hd R.fit ?_)
        dsimp only
        by_cases same : p.2 = x.2
        · exact wp_if_pos (by simp [same]) (wpAny_pure (yes (List.mem_map.mpr ⟨p, hm, same⟩)))
        · refine wp_if_neg (by simp [same]) ?_
          try refine wpAny_bind (wpAny_pure ?_)
          rw [sameMem]
          dsimp only
          simp only [if_true, live, rows_at R.row hp, rowN, eb]
          refine wpAny_bind (wpAny_isSame_ref_self (wpAny_bind (wpAny_pure ?_)))
          simp only [if_true]
          refine wp_if_neg (by simp [same]) ?_
          refine look R hx hu hKf hK hb yes no f (c + (q + 1)) _ rfl (by omega) (by omega) fun j r hj hk => ?_
          obtain ⟨d, d1, d2, d3⟩ := ha j r hj hk
          refine ⟨d, ?_, d2, d3⟩
          have hr : kh w r = kh w x := congrArg (NestedKey.hash w) hk
          have n1 : ¬ d < c + q := fun z => hno (d - c) j (by omega) (by rw [show c + (d - c) = d by omega]; exact d3) ((at0 j r hj).trans hr)
          have n2 : d ≠ c + q := fun z => by
            rw [z] at d3
            have s0 := slot_live R.tab.ris d3
            rw [live] at s0
            injection s0 with s0
            rw [← s0, hp] at hj
            cases hj
            exact same hk
          omega
      by_cases hl : t.led = true
      · refine wp_if_neg (by simp [hl]) ?_
        try refine wpAny_bind (wpAny_pure ?_)
        exact more
      · refine wp_if_pos (by simp [hl]) ?_
        refine wpAny_bind (unseen hx (fun y hy => ?_) ?_)
        · obtain ⟨e, he, rfl⟩ := List.mem_map.mp hy
          have he1 : e ∈ es.toList := by
            have : e ∈ es ∧ e.1 = kh w x := by simpa using he
            simpa using this.1
          rw [R.row] at he1
          obtain ⟨p2, hp2, rfl⟩ := List.mem_map.mp he1
          exact ⟨p2.2, R.key p2 hp2⟩
        · refine wp_if_neg (by decide) ?_
          try refine wpAny_bind (wpAny_pure ?_)
          exact more
    · have pe : t.probe (fun i : Nat => (es[i]?.map (fun e : Int × Value => e.1)).getD 0) (kh w x) (st.getD (t.probeStart (kh w x))) = some (.empty (way t.mask (kh w x) K) none) := by
        rw [hst]
        refine go.trans ?_
        rw [show c + (K - c) = K by omega]; rfl
      rw [pe]
      dsimp only
      refine wpAny_pure (no fun hm => ?_)
      obtain ⟨p, hp, hk⟩ := List.mem_map.mp hm
      obtain ⟨i, hi, ei⟩ := List.getElem_of_mem hp
      have hip : L[i]? = some p := by rw [List.getElem?_eq_getElem hi, ei]
      obtain ⟨d, d1, d2, d3⟩ := ha i p hip hk
      exact hno (d - c) i (by omega) (by rw [show c + (d - c) = d by omega]; exact d3) ((at0 i p hip).trans (congrArg (NestedKey.hash w) hk))
end
end DL
/-! Sets of (nested) tuples: one is added. -/
namespace DL
open PySem PySem.Spec PyProof.Rows L2
section
variable {P : Program} {w : World} {A : Around} {E : Value → Shared → Prop} {s : Shared} {a : Addr} {L : List TM} {es : Array (Int × Value)} {ep : Nat} {t : SetTable}
/-- the search as adding asks for it -/
theorem look_at (R : NTab w s.heap a L es ep t) {x : TM} (hx : TupKey s.heap x) (hu : A.units + 8 < cLine) {Q : SetFound → Shared → Prop} (yes : x.2 ∈ L.map (·.2) → Q (.there none) s)
    (no : ∀ K, x.2 ∉ L.map (·.2) → way t.mask (kh w x) K ∉ t.place.toList → (∀ c, c < K → way t.mask (kh w x) c ∈ t.place.toList) → Q (.free (way t.mask (kh w x) K) false) s) :
    wpAny (model P w) A (setSearch a x.1 (kh w x) true) Q E s := by
  have room := R.room
  obtain ⟨K, hKf, hK, hb⟩ := R.tab.first (by rw [List.length_map]; omega) (kh w x)
  have big : K < 100000 := by
    have : 10 * SetTable.turns t.mask ≤ 1420 := by
      unfold SetTable.turns
      rcases R.tab.mok with e | e | e <;> rw [e] <;> decide
    omega
  unfold setSearch
  refine look R hx hu hKf hK hb yes (fun n => no K n hK hb) 100000 0 none rfl (Nat.zero_le _) (by omega) fun i p hp hk => ?_
  have h1 : (L.map (kh w))[i]? = some (kh w x) := by
    rw [List.getElem?_map, hp]
    exact congrArg (fun k => some (NestedKey.hash w k)) hk
  have h2 : i < t.place.toList.length := by
    have := (List.getElem?_eq_some_iff.mp hp).1
    rw [Array.length_toList, R.sz]; exact this
  obtain ⟨d, d1, d2⟩ := R.tab.before hK h1 (List.getElem?_eq_getElem h2)
  exact ⟨d, Nat.zero_le _, d1, by rw [List.getElem?_eq_getElem h2, d2]⟩
/-- another object's change leaves a tuple -/
theorem key_same {h h' : Heap} {p : TM} {o : Obj} (hk : TupKey h p) (ho : h.get? a = some o) (hd : o.data = .set es ep t) (sb : Heap.SameBut a h h') : TupKey h' p := by
  refine ⟨hk.1, NestedIs.at (fun b ob vs n hb hc => ?_) _ _ hk.2.1, hk.2.2⟩
  refine (sb.2 b fun e => ?_).trans hb
  subst e
  rw [ho] at hb
  cases hb
  rw [hd] at hc
  cases hc
theorem perm_at {α : Type} (l : List α) (p : Nat) (x : α) : (l.take p ++ x :: l.drop p).Perm (x :: l) := by
  have := List.perm_middle (a := x) (l₁ := l.take p) (l₂ := l.drop p)
  rwa [List.take_append_drop] at this
/-- the members in another order, as the rows go -/
theorem reorder (hr : es.toList = L.map (rowN w)) {order : Array Nat} (hp : order.toList.Perm (List.range L.length)) :
    ∃ M : List TM, (order.filterMap (es[·]?)).toList = M.map (rowN w) ∧ M.Perm L ∧ M.map (kh w) = order.toList.map fun i => (es.map (·.1)).getD i 0 := by
  have hz := rows_size hr
  have each : ∀ l : List Nat, (∀ i ∈ l, i < L.length) → l.filterMap (fun i => es[i]?) = (l.filterMap fun i => L[i]?).map (rowN w) ∧ (l.filterMap fun i => L[i]?).map (kh w) = l.map fun i => (es.map (·.1)).getD i 0 := by
    intro l
    induction l with
    | nil => exact fun _ => ⟨rfl, rfl⟩
    | cons i l ih =>
      intro hl
      have hi := hl i (.head _)
      have hL : L[i]? = some L[i] := List.getElem?_eq_getElem hi
      have hE := rows_at hr hL
      obtain ⟨e1, e2⟩ := ih fun j hj => hl j (.tail _ hj)
      have hg : (es.map (·.1)).getD i 0 = kh w L[i] := by
        have : (es.map (·.1))[i]? = some (kh w L[i]) := by rw [Array.getElem?_map, hE]; rfl
        simp [Array.getD_eq_getD_getElem?, this]
      rw [List.filterMap_cons_some hE, List.filterMap_cons_some hL, e1, List.map_cons, List.map_cons, List.map_cons, e2, hg]
      exact ⟨rfl, rfl⟩
  obtain ⟨e1, e2⟩ := each order.toList fun i hi => List.mem_range.mp (hp.mem_iff.mp hi)
  refine ⟨order.toList.filterMap fun i => L[i]?, by rw [Array.toList_filterMap]; exact e1, ?_, e2⟩
  refine (hp.filterMap _).trans (List.Perm.of_eq ?_)
  have all : ∀ n, n ≤ L.length → (List.range n).filterMap (fun i => L[i]?) = L.take n := by
    intro n
    induction n with
    | zero => intro _; rfl
    | succ n ih =>
      intro hn
      have hL : L[n]? = some L[n] := List.getElem?_eq_getElem hn
      rw [List.range_succ, List.filterMap_append, ih (Nat.le_of_lt hn), List.take_add_one, hL, List.filterMap_cons_some hL]; rfl
  rw [all _ (Nat.le_refl _), List.take_length]
/-- the table laid anew -/
theorem anew {o : Obj} (ho : s.heap.get? a = some o) (hx : o.ExactSet) (hd : o.data = .set es ep t) (hr : es.toList = L.map (rowN w)) (hp : t.place.size = L.length) (hm : t.dummies = #[]) (hl : L.length ≤ t.mask)
    (one : (L.map (·.2)).Nodup) (key : ∀ p ∈ L, TupKey s.heap p) (led : w.params.followText "set-order" = true ∨ t.led = true) (few : L.length < 64) {wanted M : Nat}
    (hw : SetTable.sizeAbove wanted - 1 = M) (hM : MaskOk M) (hw2 : SetTable.sizeAbove wanted ≤ 128) (room : L.length * 5 < M * 3) {Q : Unit → Shared → Prop}
    (hQ : ∀ h' L' es' ep' t', Heap.SameBut a s.heap h' → NTab w h' a L' es' ep' t' → L'.Perm L → Q () { s with heap := h' }) : wpAny (model P w) A (setRelay a wanted) Q E s := by
  have hz := rows_size hr
  obtain ⟨t', order, e, hpm, T, em, el, _, ed⟩ := relaid_ok t (hs := es.map (·.1)) (wanted := wanted) hw hM (by rw [Array.size_map]; omega)
  rw [Array.size_map, hz] at hpm
  obtain ⟨N, r1, r2, r3⟩ := reorder hr hpm
  rw [← r3] at T
  have hs2 : (order.filterMap (es[·]?)).size = es.size := by rw [rows_size r1, r2.length_eq, hz]
  rw [setRelay_eq]
  refine wpAny_bind (wpAny_setState_of ho hd (fits_of hp hm hr hl) ?_)
  dsimp only
  refine wp_if_neg (by rw [sizeLine_eq]; omega) ?_
  try refine wpAny_bind (wpAny_pure ?_)
  rw [e]
  dsimp only
  refine wpAny_bind ?_
  refine wp_if_neg (by rw [hs2]; simp) ?_
  try refine wpAny_bind (wpAny_pure ?_)
  refine wpAny_pure ?_
  dsimp only
  refine wpAny_storeSet_of ho hd ?_ (by rw [hs2, hz, sizeLine_eq]; omega)
  have sb := Heap.SameBut.update s.heap a (Obj.putSet (order.filterMap (es[·]?)) t')
  refine hQ _ N _ (ep + 1) t' sb ⟨⟨_, store_at ho hd, ⟨hx.1, hx.2.1, hx.2.2⟩, rfl⟩, r1, T, (r2.map (·.2)).nodup_iff.mpr one, fun p hp => key_same (key p (r2.mem_iff.mp hp)) ho hd sb, by rw [el]; exact led, by rw [r2.length_eq, em]; exact room, by rw [r2.length_eq]; exact few⟩ r2
/-- one is added -/
theorem put_in (R : NTab w s.heap a L es ep t) {x : TM} (hx : TupKey s.heap x) (hu : A.units + 8 < cLine) (few : L.length + 1 < 64) {Q : Bool → Shared → Prop}
    (hQ : ∀ b h' L' es' ep' t', Heap.SameBut a s.heap h' → NTab w h' a L' es' ep' t' → (x.2 ∈ L.map (·.2) → L' = L) → (x.2 ∉ L.map (·.2) → L'.Perm (x :: L)) → Q b { s with heap := h' }) :
    wpAny (model P w) A (setAddHashed a x.1 (kh w x)) Q E s := by
  obtain ⟨o, ho, hex, hd⟩ := R.obj
  obtain ⟨b, eb⟩ := hx.1
  have room := R.room
  have hz := rows_size R.row
  unfold setAddHashed
  refine wpAny_holding ?_
  rw [show (100000 : Nat) = 99999 + 1 from rfl, setAddHashedIn_succ]
  refine wpAny_bind (wpAny_setState_of ho hd R.fit ?_)
  dsimp only
  refine wp_if_neg (by rw [eb]; simp [byScan, Value.scannable]) ?_
  try refine wpAny_bind (wpAny_pure ?_)
  refine wpAny_bind (look_at R hx hu (fun hm => ?_) fun K hm hK hb => ?_)
  · dsimp only
    exact wpAny_pure (hQ false s.heap L es ep t (Heap.SameBut.refl a s.heap) R (fun _ => rfl) fun z => absurd hm z)
  dsimp only
  refine wpAny_bind (wpAny_setState_of ho hd R.fit ?_)
  dsimp only
  obtain ⟨q1, q2, q3, q4, q5, q6, q7, q8, q9⟩ := R.tab.put hK hb
  generalize hpt : t.put (way t.mask (kh w x) K) = pt at q1 q3 q4 q5 q6 q7 q8 q9 ⊢
  obtain ⟨t0, p0⟩ := pt
  dsimp only at q1 q3 q4 q5 q6 q7 q8 q9 ⊢
  subst q1
  generalize SetTable.below t.place (way t.mask (kh w x) K) = p at q2 q3 ⊢
  have pm := perm_at L p x
  have hin : (SetTable.insertAt es p (kh w x, x.1)).toList = (L.take p ++ x :: L.drop p).map (rowN w) := by
    rw [SetTable.toList_insertAt, R.row, List.map_append, List.map_cons, List.map_take, List.map_drop]; rfl
  have hhs : (L.take p ++ x :: L.drop p).map (kh w) = (L.map (kh w)).take p ++ kh w x :: (L.map (kh w)).drop p := by
    rw [List.map_append, List.map_cons, List.map_take, List.map_drop]
  rw [← hhs] at q3
  have hlen := pm.length_eq
  have one1 : ((L.take p ++ x :: L.drop p).map (·.2)).Nodup := by
    refine (pm.map (·.2)).nodup_iff.mpr ?_
    rw [List.map_cons]
    exact List.nodup_cons.mpr ⟨hm, R.one⟩
  generalize SetTable.insertAt es p (kh w x, x.1) = es1 at hin ⊢
  generalize L.take p ++ x :: L.drop p = L1 at pm hlen q3 one1 hin
  rw [List.length_cons] at hlen
  have hz1 := rows_size hin
  -- whatever its table says of its kind
  have rest : ∀ t1 : SetTable, TabOk t1 (L1.map (kh w)) → t1.mask = t.mask → t1.led = t.led → t1.fill = L.length + 1 → wpAny (model P w) A (do
      storeSet a es1 t1
      if (!false && t1.tooFull) = true then do
        setRelay a (SetTable.grown (es.size + 1))
        pure true
      else pure true) Q E s := fun t1 T1 m1 l1 f1 => by
    refine wpAny_bind (wpAny_storeSet_of ho hd ?_ (by rw [hz1, hlen, sizeLine_eq]; omega))
    have sb := Heap.SameBut.update s.heap a (Obj.putSet es1 t1)
    have ho1 := store_at (es' := es1) (t' := t1) ho hd
    generalize s.heap.update a (Obj.putSet es1 t1) = h1 at sb ho1 ⊢
    have key1 : ∀ p ∈ L1, TupKey h1 p := fun p hp => by
      rcases List.mem_cons.mp (pm.mem_iff.mp hp) with e | hp
      · rw [e]; exact key_same hx ho hd sb
      · exact key_same (R.key p hp) ho hd sb
    have led1 : w.params.followText "set-order" = true ∨ t1.led = true := by rw [l1]; exact R.led
    by_cases hf : t1.tooFull = true
    · refine wp_if_pos (by simp [hf]) (wpAny_bind ?_)
      have full : (L.length + 1) * 5 ≥ t1.mask * 3 := by
        have h := hf
        unfold SetTable.tooFull at h
        rwa [decide_eq_true_eq, f1] at h
      rw [hz]
      have two : (t.mask = 7 ∧ L.length = 4) ∨ (t.mask = 31 ∧ L.length = 18) := by
        rw [m1] at full
        rcases R.tab.mok with e | e | e <;> rw [e] at full room
        · exact .inl ⟨e, by omega⟩
        · exact .inr ⟨e, by omega⟩
        · omega
      have p1 : t1.place.size = L1.length := by
        have := T1.sz
        rwa [List.length_map] at this
      have go : ∀ M, SetTable.sizeAbove (SetTable.grown (L.length + 1)) - 1 = M → MaskOk M → SetTable.sizeAbove (SetTable.grown (L.length + 1)) ≤ 128 → (L.length + 1) * 5 < M * 3 →
          wpAny (model P w) A (setRelay a (SetTable.grown (L.length + 1))) (fun _ s' => wpAny (model P w) A (pure true) Q E s') E { s with heap := h1 } := fun M g1 g2 g3 g4 => by
        refine anew (s := { s with heap := h1 }) ho1 ⟨hex.1, hex.2.1, hex.2.2⟩ rfl hin p1 T1.dm (by rw [hlen, m1]; rcases two with ⟨e, e2⟩ | ⟨e, e2⟩ <;> omega) one1 key1 led1 (by omega) g1 g2 g3 (by rw [hlen]; exact g4) ?_
        intro h2 L2 es2 ep2 t2 sb2 R2 pm2
        exact wpAny_pure (hQ true h2 L2 es2 ep2 t2 (sb.trans sb2) R2 (fun z => absurd z hm) fun _ => pm2.trans pm)
      rcases two with ⟨_, e2⟩ | ⟨_, e2⟩
      · exact go 31 (by rw [e2, size_20]) (.inr (.inl rfl)) (by rw [e2, size_20]; decide) (by omega)
      · exact go 127 (by rw [e2, size_76]) (.inr (.inr rfl)) (by rw [e2, size_76]; decide) (by omega)
    · refine wp_if_neg (by simp [hf]) ?_
      refine wpAny_pure (hQ true h1 L1 es1 (ep + 1) t1 sb ⟨⟨_, ho1, ⟨hex.1, hex.2.1, hex.2.2⟩, rfl⟩, hin, T1, one1, key1, led1, ?_, by omega⟩ (fun z => absurd z hm) fun _ => pm)
      have h := hf
      unfold SetTable.tooFull at h
      rw [decide_eq_true_eq, f1] at h
      omega
  rw [List.length_map] at q9
  have both : ∀ b : Bool, wpAny (model P w) A (do
      storeSet a es1 (if b = true then t0 else { t0 with plain := false })
      if (!false && (if b = true then t0 else { t0 with plain := false }).tooFull) = true then do
        setRelay a (SetTable.grown (es.size + 1))
        pure true
      else pure true) Q E s := fun b => by
    cases b with
    | true => exact rest t0 q3 q4 q5 q9
    | false => exact rest { t0 with plain := false } ⟨q3.ris, q3.dm, q3.sz, q3.mok, q3.bd, q3.reach⟩ q4 q5 q9
  by_cases pl : t0.plain = true
  · exact wp_if_pos pl (wpAny_bind (byVal_any 8 _ _ hx.2.1 fun b => both b))
  · exact wp_if_neg pl (wpAny_bind (wpAny_pure (both true)))
/-- the set's keys, in some order -/
def SetN (w : World) (h : Heap) (a : Addr) (ks : List NK) : Prop := ∃ L es ep t, NTab w h a L es ep t ∧ (L.map (·.2)).Perm ks
def addN (ks : List NK) (k : NK) : List NK := if k ∈ ks then ks else ks ++ [k]
theorem setN_add {ks : List NK} {x : TM} (hx : TupKey s.heap x) (R : NTab w s.heap a L es ep t) (hu : A.units + 8 < cLine) (few : L.length + 1 < 64) {Q : Bool → Shared → Prop}
    (hQ : ∀ b h' L' es' ep' t', Heap.SameBut a s.heap h' → NTab w h' a L' es' ep' t' → (x.2 ∈ L.map (·.2) → L' = L) → (x.2 ∉ L.map (·.2) → L'.Perm (x :: L)) → Q b { s with heap := h', toks := s.toks + x.2.draws }) :
    wpAny (model P w) A (setAdd a x.1) Q E s := by
  unfold setAdd
  refine wpAny_holding ?_
  refine wpAny_bind (pyHash_key _ _ _ _ _ hx.2.1 (by have := hx.2.2; omega) ?_)
  exact put_in (s := { s with toks := s.toks + x.2.draws }) R hx hu few hQ
theorem ntab_new {h : Heap} (ho : h.get? a = some (emptySet w)) : NTab w h a [] #[] 0 (.fresh 0 0 (!w.params.followText "set-order")) where
  obj := ⟨_, ho, ⟨rfl, rfl, rfl⟩, rfl⟩
  row := rfl
  tab := ⟨List.Pairwise.nil, rfl, rfl, .inl rfl, fun x hx => (by cases hx), fun i h j hi => (by simp at hi)⟩
  one := List.nodup_nil
  key := fun p hp => (by cases hp)
  led := by
    show _ ∨ (!w.params.followText "set-order") = true
    cases w.params.followText "set-order"
    · exact .inr rfl
    · exact .inl rfl
  room := (by decide : 0 * 5 < 7 * 3)
  few := by decide
end
end DL
/-! Rules over data for sets of (nested) tuples: how many there are. -/
namespace DL
open PySem PySem.Spec PyProof.Rows L2
/-- a member told by its address -/
abbrev MB := Addr × NK
def tm (m : MB) : TM := (.ref m.1, m.2)
def KeyF (K : PySem.W.Frag) (H : Hp) (m : MB) : Prop := m.2.depth ≤ 8 ∧ ∃ d, Is K H (.ref m.1) d ∧ nkOf d = some m.2
theorem KeyF.mono {K : PySem.W.Frag} {H H' : Hp} {m : MB} (fx : Fx H H') (h : KeyF K H m) : KeyF K H' m := let ⟨h1, d, h2, h3⟩ := h; ⟨h1, d, Is.mono fx d _ h2, h3⟩
theorem KeyF.ok {X : Cx} {pins : List (Addr × Obj)} {σ : L2.St} {H : Hp} {s : Shared} {m : MB} (I : Inv X pins σ H s) (h : KeyF X.K H m) : TupKey s.heap (tm m) := by
  obtain ⟨h1, d, h2, h3⟩ := h
  have := KeyIs.ok (e := (m.2, .ref m.1, .none)) I ⟨h1, rfl, d, .ref m.1, rfl, h2, h3⟩
  exact ⟨⟨_, rfl⟩, this.1, h1⟩
def addM (ms : List MB) (m : MB) : List MB := if m.2 ∈ ms.map (·.2) then ms else ms ++ [m]
/-- the table, its members' keys not looked at -/
def Tab0 (w : World) (h : Heap) (a : Addr) (ms : List MB) : Prop := ∃ (L : List TM) (es : Array (Int × Value)) (ep : Nat) (t : SetTable), (∃ o, h.get? a = some o ∧ o.ExactSet ∧ o.data = .set es ep t) ∧ es.toList = L.map (rowN w) ∧ TabOk t (L.map (kh w)) ∧ (L.map (·.2)).Nodup ∧
  (w.params.followText "set-order" = true ∨ t.led = true) ∧ L.length * 5 < t.mask * 3 ∧ L.length < 64 ∧ L.Perm (ms.map tm)
theorem Tab0.at {w : World} {h h' : Heap} {a : Addr} {ms : List MB} (m : Tab0 w h a ms) (k : ∀ o, h.get? a = some o → h'.get? a = some o) : Tab0 w h' a ms := by
  obtain ⟨L, es, ep, t, ⟨o, ho, r⟩, q⟩ := m
  exact ⟨L, es, ep, t, ⟨o, k o ho, r⟩, q⟩
def SetNO (w : World) (a : Addr) (ms : List MB) : HO := .ext fun h => Tab0 w h a ms
theorem setNO_new {P : Program} {w : World} {H : Hp} {h : Heap} {a : Addr} {ms : List MB} (R : Tab0 w h a ms) : ObjOk P w H h a (SetNO w a ms) := by
  have ⟨L, es, ep, t, ⟨o, ho, _⟩, _⟩ := R
  exact ⟨R, ⟨o, ho⟩, fun h1 h2 p k => Tab0.at p k⟩
theorem setNO_get {X : Cx} {pins : List (Addr × Obj)} {σ : L2.St} {H : Hp} {s : Shared} {a : Addr} {ms : List MB} (I : Inv X pins σ H s) (ha : H a = some (SetNO X.w a ms)) : Tab0 X.w s.heap a ms := (I.hok a _ ha).1
theorem tab0_at {w : World} {h : Heap} {a : Addr} (e : h.get? a = some (emptySet w)) : Tab0 w h a [] := by
  have R := ntab_new (w := w) e
  exact ⟨_, _, _, _, R.obj, R.row, R.tab, R.one, R.led, R.room, R.few, List.Perm.refl _⟩
theorem tm_snd (ms : List MB) : (ms.map tm).map (·.2) = ms.map (·.2) := by rw [List.map_map]; rfl
/-- one more -/
theorem tab0_add {P : Program} {w : World} {A : Around} {E : Value → Shared → Prop} {s : Shared} {a : Addr} {ms : List MB} {m : MB} (R : Tab0 w s.heap a ms) (hk : TupKey s.heap (tm m)) (all : ∀ n ∈ ms, TupKey s.heap (tm n)) (hu : A.units + 8 < cLine) (few : ms.length + 1 < 64)
    {Q : Bool → Shared → Prop} (hQ : ∀ b h', Heap.SameBut a s.heap h' → Tab0 w h' a (addM ms m) → Q b { s with heap := h', toks := s.toks + m.2.draws }) : wpAny (model P w) A (setAdd a (.ref m.1)) Q E s := by
  obtain ⟨L, es, ep, t, h1, h2, h3, h4, h5, h6, h7, pm⟩ := R
  have pk := pm.map (·.2)
  rw [tm_snd] at pk
  have N : NTab w s.heap a L es ep t := ⟨h1, h2, h3, h4, fun p hp => by
    obtain ⟨n, hn, rfl⟩ := List.mem_map.mp (pm.mem_iff.mp hp)
    exact all n hn, h5, h6, h7⟩
  have lm : L.length = ms.length := by rw [pm.length_eq, List.length_map]
  refine setN_add (ks := ([] : List NK)) (x := tm m) hk N hu (by omega) fun b h' L' es' ep' t' sb R' yes no => hQ b h' sb ⟨L', es', ep', t', R'.obj, R'.row, R'.tab, R'.one, R'.led, R'.room, R'.few, ?_⟩
  unfold addM
  by_cases hm : m.2 ∈ ms.map (·.2)
  · rw [if_pos hm, yes (pk.mem_iff.mpr hm)]; exact pm
  · rw [if_neg hm, List.map_append]
    exact ((no fun z => hm (pk.mem_iff.mp z)).trans (List.Perm.cons _ pm)).trans (List.perm_append_singleton _ _).symm
def gatherN (P : Program) (w : World) (K : PySem.W.Frag) (A : Around) (hu : A.units + 120 < cLine) : Gather P w K A (List MB) where
  ob := SetNO w
  none := []
  puts := fun H y ms ms' => ∃ m : MB, y = .ref m.1 ∧ KeyF K H m ∧ (∀ n ∈ ms, KeyF K H n) ∧ ms.length + 1 < 64 ∧ ms' = addM ms m
  new := fun H h a e => setNO_new (tab0_at e)
  add := by
    rintro X rfl rfl rfl rfl pins σ H s E D ms ms' y v Q I hD r ⟨m, rfl, kf, all, few, rfl⟩ q
    have R := setNO_get I hD
    have ⟨_, _, _, _, ⟨o0, ho0, hx0, _⟩, _⟩ := R
    cases r
    refine wpAny_call_entry F.slot_set_add ⟨o0, ho0, hx0.1⟩ F.entry_set_add ?_ (F.args_set_add_2 _ _)
    unfold Builtin.«set.add» Builtin.Frozenset.oneOther
    simp only [List.isEmpty_nil, bind_assoc]
    unfold Builtin.Frozenset.addrOf
    refine wpAny_bind (wpAny_pure ?_)
    try dsimp only
    refine wpAny_bind (wpAny_pure ?_)
    try dsimp only
    refine wpAny_bind (tab0_add R (kf.ok I) (fun n hn => (all n hn).ok I) (by show X.A.units + 1 + 8 < cLine; omega) few fun b h' sb new => ?_)
    have he : ∃ u, h'.get? D = some u := by
      have ⟨_, _, _, _, ⟨o, ho, _⟩, _⟩ := new
      exact ⟨o, ho⟩
    exact (show wpAny _ _ (ret Value.none) _ _ _ from wpAny_pure ⟨_, rfl, q _ (I.write (e := D) (t' := s.toks + m.2.draws) (by rw [hD]; trivial) (.inl rfl) (fun b u hb hu => (sb.2 b hb).trans hu) he (setNO_new new))⟩)
end DL
/-! Rules over data: how many members a set of (nested) tuples has. -/
namespace DL
open PySem PySem.Spec PyProof.Rows L2
def nkL (acc : List D) : List NK := acc.filterMap nkOf
def dedN (ks : List NK) : List NK := ks.foldl addN []
theorem nkL_snoc {acc : List D} {d : D} {k : NK} (h : nkOf d = some k) : nkL (acc ++ [d]) = nkL acc ++ [k] := by
  unfold nkL
  rw [List.filterMap_append]
  simp [h]
theorem dedN_snoc (ks : List NK) (k : NK) : dedN (ks ++ [k]) = addN (dedN ks) k := by
  unfold dedN
  rw [List.foldl_append]; rfl
theorem addM_keys {ms : List MB} {m : MB} {ks : List NK} (h : ms.map (·.2) = ks) : (addM ms m).map (·.2) = addN ks m.2 := by
  subst h
  unfold addM addN
  by_cases hm : m.2 ∈ ms.map (·.2)
  · rw [if_pos hm, if_pos hm]
  · rw [if_neg hm, if_neg hm, List.map_append]; rfl
/-- the set at a holds what was gathered -/
def Hld (w : World) (K : PySem.W.Frag) (H : Hp) (a : Addr) (acc : List D) : Prop := ∃ ms : List MB, H a = some (SetNO w a ms) ∧ ms.map (·.2) = dedN (nkL acc) ∧ ∀ m ∈ ms, KeyF K H m
theorem is_refT {K : PySem.W.Frag} {H : Hp} {v : V} {xs : List D} (h : Is K H v (.tuple xs)) : ∃ b, v = .ref b := by
  cases h with
  | tup _ _ => exact ⟨_, rfl⟩
section
variable {X : Cx} {c : Ctx} {e a b l tg tg1 : Expr} {es : List Expr} {pos : Pos}
def tQN (c : Ctx) (w : LW) : TE := fun σ H Q => ∃ ρ Q0, En c H σ ρ ∧ w ρ Q0 ∧ ∀ acc ρ' a H', Q0 acc ρ' → Gr c σ H H' → En c H' σ ρ' → H a = none → Hld c.w c.K H' a acc → Q (.ref a) H'
def wScN (vs : List Nat) (wi : LW) (g : GW) (wt : BW) (we : DW) : LW := fun ρ Q => wi ρ fun (xs : List D) ρ1 => ∃ W : Nat → List D → List Sl → Prop, W 0 [] (wipeS ρ1 vs) ∧
  (∀ (i : Nat) (x : D) (acc : List D) (ρ2 : List Sl), xs[i]? = some x → W i acc ρ2 → g x (wipeS ρ2 vs) fun ρ3 => wt ρ3 fun b ρ4 => if b = true then we ρ4 fun y ρ5 => (∃ ys k, y = .tuple ys ∧ nkOf y = some k ∧ k.depth ≤ 8) ∧ (dedN (nkL acc)).length + 1 < 64 ∧ W (i + 1) (acc ++ [y]) (wipeS ρ5 vs) else W (i + 1) acc (wipeS ρ4 vs)) ∧
  ∀ acc ρ2, W xs.length acc ρ2 → Q acc ρ2
theorem scN_imp {R : Rel} {wi : LW} {g : GW} {wt : BW} {we : DW} {vs : List Nat} (hW : c.w = X.w) (hM : ∀ i, i ∈ vs → i ∉ c.M) (hp : c.pot = none ∨ 0 ∉ vs) (hK : c.K = X.K) (hu : X.A.units + 120 < cLine) :
    ∀ σ H Q, tQN c (wScN vs wi g wt we) σ H Q → tSet1 (X := X) (gatherN X.prog X.w X.K X.A hu) (iR R c wi) (gR R c vs g) (tT c wt) (tD c we) vs σ H Q := by
  rintro σ H Q ⟨ρ, Q0, E, hw, k⟩
  refine ⟨ρ, _, E, hw, fun xs ρ' J H1 q gr E1 hJ => ?_⟩
  obtain ⟨W, w0, ws, wd⟩ := q
  obtain ⟨jgo, jy, jstop⟩ := hJ
  intro Pa hPa
  have h0P : c.H0 Pa = none := E1.h0 hPa
  have HP : H Pa = none := gr.free E1 hPa
  have slotN : ∀ j, j ∈ c.M → σ[j]? ≠ some (some (V.ref Pa)) := fun j hj h2 => by
    have z := E1.trk j Pa hj h2
    rw [hPa] at z; cases z
  refine ⟨fun i m H2 => m = xs.length - i ∧ i ≤ xs.length ∧ ∃ acc ρ2, W i acc ρ2 ∧ En c H2 σ ρ2 ∧ Gr c σ H1 H2 ∧ Hld X.w c.K H2 Pa acc, ⟨xs.length, by simp, Nat.zero_le _, [], wipeS ρ' vs, w0, (E1.off (Off.refl vs σ) hM hp).same (upd_same' hPa), Gr.same (upd_same' hPa), [], upd_same, rfl, fun _ h => nomatch h⟩, ?_⟩
  rintro i m H2 ⟨rfl, hi, acc, ρ2, hW2, E2, g2, hav⟩
  by_cases hlt : i < xs.length
  · refine .inr ⟨jgo i H2 g2.fx hlt, fun H3 => ∃ acc ρ2, W (i + 1) acc ρ2 ∧ En c H3 σ ρ2 ∧ Gr c σ H1 H3 ∧ Hld X.w c.K H3 Pa acc, fun H3 q => ⟨xs.length - (i + 1), by omega, rfl, hlt, q⟩, fun x H3 y => ?_⟩
    have hx := List.getElem?_eq_getElem hlt
    obtain ⟨sm, rx⟩ := jy i x H2 H3 xs[i] g2.fx hx y
    have E3 : En c H3 (wipe σ vs) (wipeS ρ2 vs) := (E2.same sm).off (off_wipe σ vs) hM hp
    refine ⟨xs[i], wipeS ρ2 vs, _, rx, E3, ws i xs[i] acc ρ2 hx hW2, fun ρ3 σ3 q3 (o3 : Off vs (wipe σ vs) σ3) E4 => ⟨off_wipes ((off_wipe σ vs).trans o3), ?_⟩⟩
    have oσ : Off vs σ3 σ := ((off_wipe σ vs).trans o3).symm
    have gM' : ∀ i, i ∈ c.M → σ3[i]? = σ[i]? := fun i h => (Off.M oσ hM i h).symm
    refine ⟨ρ3, _, E4, q3, fun b ρ4 H4 q4 g4 E5 => ?_⟩
    have g24 : Gr c σ H1 H4 := (g2.trans (Gr.same sm)).trans (g4.congr gM')
    have nOw : ¬ Ow c σ3 Pa := fun w => E1.notOw hPa ((Ow.congr gM').mp w)
    obtain ⟨ms, m1, m2, m3⟩ := hav
    have hD4 := g4.kp Pa _ (sm Pa _ m1) nOw
    have f4 : Fx H2 H4 := (Same.fx sm).trans g4.fx
    cases b with
    | false => exact ⟨acc, _, q4, E5.off oσ hM hp, g24, ms, hD4, m2, fun m hm => (m3 m hm).mono f4⟩
    | true =>
      refine ⟨ρ4, _, E5, q4, fun d ρ5 v H5 q5 g5 E6 i6 => ?_⟩
      obtain ⟨⟨ys, kk, rfl, hk, hkd⟩, room, w5⟩ := q5
      obtain ⟨bb, rfl⟩ := is_refT i6
      have hD5 := g5.kp Pa _ hD4 nOw
      have E7 : En c H5 σ (wipeS ρ5 vs) := E6.off oσ hM hp
      have fxD : ∀ u : HO, Fx H5 (upd H5 Pa u) := fun u b o f q => by
        by_cases e : b = Pa
        · subst e; rw [hD5] at q; cases q; cases f
        · rw [upd_ne e]; exact q
      have g25 := g24.trans (g5.congr gM')
      have kf : KeyF c.K H5 (bb, kk) := ⟨hkd, _, i6, hk⟩
      have all : ∀ n ∈ ms, KeyF c.K H5 n := fun n hn => (m3 n hn).mono (f4.trans g5.fx)
      have len : ms.length + 1 < 64 := by
        have := congrArg List.length m2
        rw [List.length_map] at this
        omega
      refine ⟨ms, addM ms (bb, kk), hD5, ⟨(bb, kk), rfl, hK ▸ kf, hK ▸ all, len, rfl⟩, acc ++ [_], wipeS ρ5 vs, w5, E7.updS hD5 rfl h0P slotN, ⟨g25.fx.trans (fxD _), fun b o e w => ?_⟩, addM ms (bb, kk), upd_same, ?_, fun m hm => ?_⟩
      · have nb : b ≠ Pa := fun z => by subst z; rw [hPa] at e; cases e
        exact (upd_ne nb).trans (g25.kp b o e w)
      · rw [nkL_snoc hk, dedN_snoc]
        exact addM_keys m2
      · refine KeyF.mono (fxD _) ?_
        unfold addM at hm
        split at hm
        · exact all m hm
        · rcases List.mem_append.mp hm with z | z
          · exact all m z
          · rw [List.mem_singleton.mp z]; exact kf
  · have e : i = xs.length := by omega
    subst e
    exact .inl ⟨jstop _ H2 g2.fx (Nat.le_refl _), k acc ρ2 Pa H2 (wd acc ρ2 hW2) (gr.trans g2) E2 HP (by rw [hW]; exact hav)⟩
theorem dq_scN {R : Rel} {elt iter : Expr} {ifs : List Expr} {scope : Scope} {own : List (Str × Nat)} {wi : LW} {g : GW} {wt : BW} {we : DW} (hc : X.calm = true) (hN : X.N.Nodup) (ok : BlkOk X.N X.env.scope scope own) (hM : ∀ i, i ∈ own.map (·.2) → i ∉ c.M) (hp : c.pot = none ∨ 0 ∉ own.map (·.2)) (hu : X.A.units + 120 < cLine)
    (hi : PI X tg iter (iR R c wi)) (hg : InBlk X scope fun Y => PG Y tg (gR R c (own.map (·.2)) g)) (ht : InBlk X scope fun Y => PTs Y ifs (tT c wt)) (he : InBlk X scope fun Y => PE Y elt (tD c we)) (hW : c.w = X.w := by rfl) (hK : c.K = X.K := by rfl) (hs : ∀ x, foldedSetIterable iter X.env x = pure x := by intro _; rfl) :
    PE X (.SetComp elt [⟨tg, iter, ifs, 0⟩] scope pos) (tQN c (wScN (own.map (·.2)) wi g wt we)) := PE.imp (pe_set1 (gatherN X.prog X.w X.K X.A hu) hc hN hi ok hg ht he hs) (scN_imp hW hM hp hK hu)
/-- len(a set) -/
def wLenN' (w : LW) : DW := fun ρ Q => w ρ fun acc ρ1 => Q (.int (dedN (nkL acc)).length) ρ1
def rLenN' (w : World) : List V → Hp → VK → Prop := fun vs H Q => ∃ (a : Addr) (ms : List MB), vs = [.ref a] ∧ H a = some (SetNO w a ms) ∧ Q (.int ms.length) H
theorem cr_lenN' : CallR X (.builtin "len") (rLenN' X.w) := by
  intro pins s σ H vs us Q I r h
  obtain ⟨a, ms, rfl, ha, q⟩ := h
  rw [Vals.ref1 r]
  obtain ⟨L, es, ep, t, ⟨o, ho, hx, hd⟩, hr, T, one, led, room, few, pm⟩ := setNO_get I ha
  have z : es.size = ms.length := by rw [rows_size hr, pm.length_eq, List.length_map]
  have hp : t.place.size = L.length := by have := T.sz; rwa [List.length_map] at this
  have hz := rows_size hr
  refine call_len_set ho hx hd (fits_of hp T.dm hr (by omega)) (by have := (by decide : (64 : Nat) < 2 ^ 62); omega) ⟨.int ms.length, H, I.tok _, ⟨_, by rw [z]⟩, q⟩
theorem de_lenN' {p : Pos} {w : LW} (hg : Gl X "len") (hm : X.mg "len" = none) (ha : PE X e (tQN c w)) (hW : c.w = X.w := by rfl)
    (he : starEach [e] X.env = (false, eval e X.env) :: starEach [] X.env := by rfl) (hpl : (backTo pos (starEach [] X.env)).any (·.1) = false := by rfl) : PE X (.Call (.Name "len" p) [e] [] pos) (tD c (wLenN' w)) := by
  refine PE.imp (pe_callB cr_lenN' hg hm PySem.boot_len (pa_cons ha pa_nil he) (by decide) (by decide) he hpl) ?_
  rintro σ H Q ⟨ρ, Q0, E, hw, k⟩
  refine ⟨ρ, _, E, hw, fun acc ρ' a H' q g E1 n hS => ?_⟩
  obtain ⟨ms, h1, h2, _⟩ := hS
  refine ⟨a, ms, rfl, by rw [← hW]; exact h1, k _ ρ' _ H' q g E1 ?_⟩
  have := congrArg List.length h2
  rw [List.length_map] at this
  rw [this]
  exact .int _
end
end DL
/-! set(xs) of a list of (nested) tuples. -/
namespace DL
open PySem PySem.Spec PyProof.Rows L2
def dedM (ms : List MB) : List MB := ms.foldl addM []
theorem dedM_snoc (ms : List MB) (m : MB) : dedM (ms ++ [m]) = addM (dedM ms) m := by
  unfold dedM
  rw [List.foldl_append]; rfl
theorem dedM_keys : ∀ (ms acc : List MB), (ms.foldl addM acc).map (·.2) = (ms.map (·.2)).foldl addN (acc.map (·.2))
  | [], _ => rfl
  | m :: ms, acc => by
    rw [List.foldl_cons, List.map_cons, List.foldl_cons, dedM_keys ms, addM_keys rfl]
theorem dedM_sub : ∀ (ms acc : List MB) (m : MB), m ∈ ms.foldl addM acc → m ∈ acc ∨ m ∈ ms
  | [], _, _, h => .inl h
  | n :: ms, acc, m, h => by
    rcases dedM_sub ms (addM acc n) m h with z | z
    · unfold addM at z
      split at z
      · exact .inl z
      · rcases List.mem_append.mp z with z | z
        · exact .inl z
        · rw [List.mem_singleton.mp z]; exact .inr (.head _)
    · exact .inr (.tail _ z)
theorem dedM_len (ms : List MB) : (dedM ms).length ≤ ms.length := by
  have go : ∀ (l acc : List MB), (l.foldl addM acc).length ≤ acc.length + l.length := by
    intro l
    induction l with
    | nil => intro acc; exact Nat.le_refl _
    | cons x l ih =>
      intro acc
      have h1 := ih (addM acc x)
      have h2 : (addM acc x).length ≤ acc.length + 1 := by
        unfold addM
        split
        · omega
        · simp
      rw [List.foldl_cons, List.length_cons]
      omega
  have := go ms []
  simpa [dedM] using this
section
variable {X : Cx} {c : Ctx} {e : Expr} {es : List Expr} {pos : Pos}
def rSetN (K : PySem.W.Frag) (w : World) : List V → Hp → VK → Prop := fun vs H Q => ∃ (a : Addr) (ms : List MB), vs = [.ref a] ∧ SqL K H a (ms.map fun m => V.ref m.1) ∧ (∀ m ∈ ms, KeyF K H m) ∧ ms.length + 1 < 64 ∧ ∀ p, H p = none → Q (.ref p) (upd H p (SetNO w p (dedM ms)))
theorem vals_refs : ∀ {ms : List MB} {us : List Value}, Vals (ms.map fun m => V.ref m.1) us → us = ms.map fun m => Value.ref m.1
  | [], _, .nil => rfl
  | m :: ms, _, .cons r t => by
    cases r
    rw [vals_refs t]; rfl
theorem tup_keep {h h' : Heap} {p : TM} (k : TupKey h p) (g : ∀ b o, h.get? b = some o → h'.get? b = some o) : TupKey h' p := ⟨k.1, NestedIs.at (fun b o _ _ e _ => g b o e) _ _ k.2.1, k.2.2⟩
theorem cr_setN (hc : X.calm = true) (hu : X.A.units + 120 < cLine) : CallR X (.type "set") (rSetN X.K X.w) := by
  intro pins s σ H vs us Q I r h
  obtain ⟨a, ms, rfl, hl, kf, few, q⟩ := h
  rw [Vals.ref1 r]
  obtain ⟨its, rv, pl, _⟩ := I.list hl
  have ev := vals_refs rv
  have tk0 : ∀ m ∈ ms, TupKey s.heap (tm m) := fun m hm => (kf m hm).ok I
  have hz : its.toArray.size = ms.length := by rw [List.size_toArray, ev, List.length_map]
  refine set_of (I.ok.hd hc) (.inl ⟨rfl, pl.isList⟩) (fun i h => Tab0 X.w h s.heap.objs.size (dedM (ms.take i)) ∧ ∀ b o, s.heap.get? b = some o → h.get? b = some o) (fun h e k => ⟨by rw [List.take_zero]; exact tab0_at e, k⟩) (fun i h h' ok k => ⟨ok.1.at fun o e => k _ o (Nat.ne_of_lt (Nat.lt_succ_self _)) e, fun b o e => k b o (Nat.ne_of_lt (Nat.lt_succ_of_lt (Heap.lt_size e))) (ok.2 b o e)⟩) (fun A' hA i v s1 Q' E hi hv ok fin => ?_) fun h' tk ok kp => ?_
  · have hi' : i < ms.length := by omega
    have hm : ms[i]? = some ms[i] := List.getElem?_eq_getElem hi'
    have ev' : v = .ref ms[i].1 := by
      rw [List.getElem?_toArray, ev, List.getElem?_map, hm] at hv
      exact (Option.some.inj hv).symm
    subst ev'
    have tk1 : ∀ m ∈ ms, TupKey s1.heap (tm m) := fun m hm => tup_keep (tk0 m hm) ok.2
    have nx : dedM (ms.take (i + 1)) = addM (dedM (ms.take i)) ms[i] := by rw [List.take_succ, hm]; exact dedM_snoc _ _
    have ln : (dedM (ms.take i)).length + 1 < 64 := by
      have := dedM_len (ms.take i)
      rw [List.length_take] at this
      omega
    refine tab0_add ok.1 (tk1 _ (List.getElem_mem hi')) (fun n hn => tk1 n ?_) (by omega) ln fun b h' sb new => fin h' _ b sb (Nat.le_add_right _ _) ⟨by rw [nx]; exact new, fun b o e => ?_⟩
    · rcases dedM_sub (ms.take i) [] n hn with z | z
      · cases z
      · exact List.mem_of_mem_take z
    · rw [sb.2 b (Nat.ne_of_lt (Heap.lt_size e))]
      exact ok.2 b o e
  · rw [hz, List.take_length] at ok
    refine ⟨.ref s.heap.objs.size, upd H s.heap.objs.size (SetNO X.w s.heap.objs.size (dedM ms)), I.laid (t' := tk) kp (Nat.le_refl _) (setNO_new ok.1), rfl, q _ (I.hok.fresh (Nat.le_refl _))⟩
/-- set(xs) -/
def wSetN (w : LW) : LW := fun ρ Q => w ρ fun ds ρ1 => ∃ acc, ds = [.list acc] ∧ (∀ d ∈ acc, ∃ ys k, d = .tuple ys ∧ nkOf d = some k ∧ k.depth ≤ 8) ∧ acc.length + 1 < 64 ∧ Q acc ρ1
theorem refs_all {K : PySem.W.Frag} {H : Hp} : ∀ {vs : List V} {ds : List D}, IsAll K H vs ds → (∀ d ∈ ds, ∃ ys k, d = .tuple ys ∧ nkOf d = some k ∧ k.depth ≤ 8) → ∃ ms : List MB, vs = ms.map (fun m => V.ref m.1) ∧ ms.map (·.2) = nkL ds ∧ (∀ m ∈ ms, KeyF K H m) ∧ ms.length = ds.length
  | _, _, .nil, _ => ⟨[], rfl, rfl, (fun _ h => nomatch h), rfl⟩
  | _, _, .cons (d := d) (ds := ds) i t, h => by
    obtain ⟨ys, k, rfl, hk, hd⟩ := h d (.head _)
    obtain ⟨b, rfl⟩ := is_refT i
    obtain ⟨ms, rfl, e2, e3, e4⟩ := refs_all t fun x hx => h x (.tail _ hx)
    refine ⟨(b, k) :: ms, rfl, ?_, fun m hm => ?_, by simp [e4]⟩
    · unfold nkL
      rw [List.filterMap_cons_some hk, List.map_cons, e2]; rfl
    · rcases List.mem_cons.mp hm with rfl | hm
      · exact ⟨hd, _, i, hk⟩
      · exact e3 m hm
theorem dq_setN {p : Pos} {w : LW} (hc : X.calm = true) (hu : X.A.units + 120 < cLine) (hg : Gl X "set") (hm : X.mg "set" = none) (ha : PA X (e :: es) (tA c w)) (hK : c.K = X.K := by rfl) (hW : c.w = X.w := by rfl)
    (he : starEach (e :: es) X.env = (false, eval e X.env) :: starEach es X.env := by rfl) (hpl : (backTo pos (starEach es X.env)).any (·.1) = false := by rfl) : PE X (.Call (.Name "set" p) (e :: es) [] pos) (tQN c (wSetN w)) := by
  refine PE.imp (pe_callTy (cr_setN hc hu) hg hm (by decide +kernel) ha (by decide) (by decide) he hpl) ?_
  rintro σ H Q ⟨ρ, Q0, E, hw, k⟩
  refine ⟨ρ, _, E, hw, fun ds ρ' vs H' q g E1 i1 => ?_⟩
  obtain ⟨acc, rfl, hk, room, q⟩ := q
  cases i1 with
  | cons i2 i3 =>
    cases i3
    cases i2 with
    | lst g1 g2 =>
      obtain ⟨ms, rfl, e2, e3, e4⟩ := refs_all g2 hk
      refine ⟨_, ms, rfl, .inl (.inr ⟨_, g1⟩), hK ▸ e3, by omega, fun p n => ?_⟩
      have sm := upd_same' (o := SetNO X.w p (dedM ms)) n
      refine k acc ρ' p _ q (g.trans (Gr.same sm)) (E1.same sm) (g.free E1 n) ⟨dedM ms, by rw [hW]; exact upd_same, ?_, fun m hm => ?_⟩
      · show (ms.foldl addM []).map (·.2) = _
        rw [dedM_keys, e2]; rfl
      · rcases dedM_sub ms [] m hm with z | z
        · cases z
        · exact (e3 m z).mono (Same.fx sm)
end
end DL
/-! a list put together anew, as one of one's own; whether a value is another bool. -/
namespace DL
open PySem PySem.Spec PyProof.Rows L2
section
variable {X : Cx} {c : Ctx} {e a b : Expr} {es : List Expr} {pos : Pos}
def rAddF (K : PySem.W.Frag) : R2 := fun x y H Q => ∃ xs ys, Is K H x (.list xs) ∧ Is K H y (.list ys) ∧ xs.length + ys.length ≤ sizeLine ∧ ∀ p vs, H p = none → IsAll K H vs (xs ++ ys) → Q (.ref p) (upd H p (.lst vs))
theorem op_addF : OpR X (binaryOp .Add) (rAddF X.K) := by
  intro pins s σ H x y v u Q I rx ry h
  obtain ⟨xs, ys, hd, he, hz, q⟩ := h
  cases hd with
  | @lst a o vs ds h1 h2 =>
    cases he with
    | @lst b o2 ws es g1 g2 =>
      cases rx
      cases ry
      obtain ⟨z, its, n, rv, hl, e⟩ := exact_lst I h1
      obtain ⟨z2, its2, n2, rv2, hl2, e2⟩ := exact_lst I g1
      have l1 := h2.length
      have l2 := g2.length
      refine PySem.P.add_list e e2 ?_ (by rw [List.size_toArray, List.size_toArray]; omega)
      rw [show its.toArray ++ its2.toArray = (its ++ its2).toArray by simp]
      exact ⟨.ref _, _, I.lnew (t' := s.toks) (rv.append rv2) (by rw [List.length_append]; omega), rfl, q _ _ I.fresh (h2.append g2)⟩
def wAddF (wa wb : DW) : LW := fun ρ Q => wa ρ fun d ρ1 => wb ρ1 fun e ρ2 => ∃ xs ys, d = .list xs ∧ e = .list ys ∧ xs.length + ys.length ≤ sizeLine ∧ Q (xs ++ ys) ρ2
theorem df_addF {wa wb : DW} (ha : PE X a (tD c wa)) (hb : PE X b (tD c wb)) (hK : c.K = X.K := by rfl) : PE X (.BinOp a .Add b pos) (tF c (wAddF wa wb)) := by
  refine PE.imp (pe_op op_addF ha hb) ?_
  rintro σ H Q ⟨ρ, Q0, E, w, k⟩
  refine ⟨ρ, _, E, w, fun d ρ1 v H1 q g1 E1 i1 => ?_⟩
  refine ⟨ρ1, _, E1, q, fun e ρ2 u H2 q2 g2 E2 i2 => ?_⟩
  obtain ⟨xs, ys, rfl, rfl, hz, q3⟩ := q2
  refine ⟨xs, ys, hK ▸ Is.mono g2.fx _ v i1, hK ▸ i2, hz, fun p vs n all => ?_⟩
  have g := g1.trans g2
  have sm := upd_same' (o := HO.lst vs) n
  exact k _ ρ2 p vs _ q3 (g.trans (Gr.same sm)) (E2.same sm) (g.free E2 n) upd_same (by rw [hK]; exact IsAll.mono (Same.fx sm) _ _ all)
/-- x is not y, of bools -/
def isntD : D → D → Option D
  | .bool a, .bool b => some (.bool (!decide (a = b)))
  | _, _ => none
theorem op_isntD : OpR X (compareOp .IsNot) (rB X.K isntD) := by
  intro pins s σ H x y v u Q I rx ry h
  obtain ⟨d, e, r, hd, he, hr, q⟩ := h
  cases hd with
  | bl a =>
    cases he with
    | bl b =>
      cases hr
      exact op_isnot_bl pins s σ H _ _ v u Q I rx ry ⟨a, b, rfl, rfl, q _ H (Same.refl H) (.bl _)⟩
    | _ => exact nomatch hr
  | _ => cases he <;> exact nomatch hr
end
end DL
/-! a tuple times 0. -/
namespace DL
open PySem PySem.Spec PyProof.Rows L2
set_option maxHeartbeats 4000000 in
theorem mul_zero (l : Addr) (items : Array Value) (n : Nat) (dd : Option Addr) (sl : Array (Option Value)) (u : Tok) (c1 : (items.isEmpty || ((0 : Int) == 1)) = false) (c2 : (decide ((0 : Int) ≤ 0) || items.isEmpty) = true) :
    Meets (Builtin.«tuple.__mul__» ⟨[.ref l, .int 0 u], []⟩) (fun _ R s => s.heap.get? l = some { cls := .type "tuple", dict := dd, data := .seq items n, slots := sl } ∧ R (.ok (.ret (Value.ref s.heap.objs.size))) { s with heap := s.heap.push { cls := Value.type "tuple", data := Data.seq #[] }, toks := s.toks }) :=
  .of_wp fun prog w A R s h => by
    obtain ⟨hp, g, d, tk, os⟩ := s
    obtain ⟨hl, h⟩ := h
    have f1 := AutoSeq1.idx_int
    wp_walk using wpAny_loadPart' hl
    repeat (first
      | (refine wpAny_ite_false (decide_eq_false (by rw [c1]; exact Bool.false_ne_true)) ?_; wp_walk using wpAny_loadPart' hl)
      | (refine wpAny_ite_true (decide_eq_true c2) ?_; wp_walk using wpAny_loadPart' hl)
      | (refine wpAny_ite_false (by decide) ?_; wp_walk using wpAny_loadPart' hl))
    exact ⟨_, rfl, h⟩
/-- a tuple so often, also not at all -/
def mulZD : D → D → Option D
  | .tuple xs, .int k => if k = 0 then (if xs ≠ [] then some (.tuple []) else none) else mulTD (.tuple xs) (.int k)
  | _, _ => none
theorem op_mulZD {X : Cx} : OpR X (binaryOp .Mult) (rB X.K mulZD) := by
  intro pins s σ H x y v u Q I rx ry h
  obtain ⟨d, e, r, hd, he, hr, q⟩ := h
  have hd0 := hd
  have he0 := he
  cases hd with
  | @tup l xs ds g1 g2 =>
    cases he with
    | int k =>
      have hr : (if k = 0 then (if ds ≠ [] then some (PyData.tuple []) else none) else mulTD (.tuple ds) (.int k)) = some r := hr
      by_cases hk : k = 0
      · subst hk
        rw [if_pos rfl] at hr
        split at hr
        · rename_i ne
          cases hr
          cases rx
          obtain ⟨t, rfl⟩ := ry
          obtain ⟨its, rv, ⟨⟨cls, dd, data, sl⟩, ho, hc, n, hdt⟩, hs⟩ := I.tuple g1.sqT
          simp only at hc hdt
          subst hc hdt
          have len : its.length = ds.length := by rw [← rv.length, g2.length]
          have em : its.toArray.isEmpty = false := by
            cases its with
            | nil => exact absurd (List.length_eq_zero_iff.mp len.symm) ne
            | cons a b => rfl
          have c1 : (its.toArray.isEmpty || ((0 : Int) == 1)) = false := by rw [em]; rfl
          refine wpAny_binaryOp_repeat_ref (T := "tuple") (U := "int") (by decide) ⟨_, ho, rfl⟩ (fun s' => typeIs_int s' 0 t) noFill_tuple_mul F.fills_int_mul F.slot_int_rmul repeat_tuple F.slot_int_index.lookup
            (call_meets F.slot_int_rmul (typeIs_int s 0 t) F.entry_int_rmul (F.args_int_rmul_2 _ _) (int_rmul_tuple 0 t l its.toArray n dd sl)
              ⟨ho, rfl, ⟨_, ho, rfl⟩, call_meets F.slot_tuple_mul ⟨_, ho, rfl⟩ F.entry_tuple_mul (F.args_tuple_mul_2 _ _) (mul_zero l its.toArray n dd sl t c1 rfl) ⟨ho, ?_⟩⟩)
          obtain ⟨o, hod, nn, I2⟩ := Inv.newTup I (xs := []) (its := []) .nil (Nat.zero_le _) s.toks
          have sm := upd_same' (o := .frz o (.tup [])) nn
          exact ⟨.ref s.heap.objs.size, _, I2, rfl, q _ _ sm (.tup (.inl ⟨o, hod, upd_same⟩) .nil)⟩
        · cases hr
      · rw [if_neg hk] at hr
        exact op_mulTD pins s σ H _ _ v u Q I rx ry ⟨_, _, r, hd0, he0, hr, q⟩
    | _ => exact nomatch hr
  | _ => cases he <;> exact nomatch hr
end DL
/-! list(zip(xs, ys)) of two lists. -/
namespace DL
open PySem PySem.Spec PyProof.Rows L2 PySem.Calls
theorem zip_no_len : typeLookup (.type "zip") "__len__" = pure none := by rw [typeLookup_type, builtinLookup_eq_fast]; kernel_rfl
theorem zip_no_hint : typeLookup (.type "zip") "__length_hint__" = pure none := by rw [typeLookup_type, builtinLookup_eq_fast]; kernel_rfl
structure ZipG (xs ys : Array Value) (lo : Addr) (h : Heap) (as : List Addr) : Prop where
  rise : as.Pairwise (· < ·)
  above : ∀ a ∈ as, lo < a
  pairs : ∀ (j : Nat) (a : Addr), as[j]? = some a → ∃ x y, xs[j]? = some x ∧ ys[j]? = some y ∧ IsPair h a x y
theorem ZipG.there {xs ys : Array Value} {lo : Addr} {h : Heap} {as : List Addr} (g : ZipG xs ys lo h as) {a : Addr} (ha : a ∈ as) : a < h.objs.size := by
  obtain ⟨j, hj⟩ := List.mem_iff_getElem?.mp ha
  obtain ⟨_, _, _, _, e⟩ := g.pairs j a hj
  exact Heap.lt_size e
def ZSt (z TI TO i1 i2 l1 l2 S : Addr) (xs ys : Array Value) (i : Nat) (h : Heap) : Prop :=
  IsPair h TI (.ref i1) (.ref i2) ∧ h.IsListIter i1 l1 i ∧ h.IsListIter i2 l2 i ∧ h.IsList l1 xs ∧ h.IsList l2 ys ∧
    ((IsZip h z TI TO .none ∧ ∃ a b, IsPair h TO a b) ∨ ∃ T f oT, IsZipHeld h z TI TO T f ∧ h.get? T = some oT ∧ T ≠ z ∧ T ≠ i1 ∧ T ≠ i2 ∧ T ≠ S)
section
variable {prog : Program} {w : World} {A : Around} {E : Value → Shared → Prop} {s : Shared} {z TI TO i1 i2 l1 l2 S : Addr} {xs ys : Array Value}
theorem ZSt.keep {i : Nat} {h h' : Heap} (x : ZSt z TI TO i1 i2 l1 l2 S xs ys i h) (hk : ∀ b o, b ≠ S → h.get? b = some o → h'.get? b = some o) (nz : z ≠ S) (n1 : i1 ≠ S) (n2 : i2 ≠ S) (nI : TI ≠ S) (nO : TO ≠ S) (m1 : l1 ≠ S) (m2 : l2 ≠ S) : ZSt z TI TO i1 i2 l1 l2 S xs ys i h' := by
  obtain ⟨a, b, c, d, e, f⟩ := x
  refine ⟨hk _ _ nI a, b.at fun o q => hk _ o n1 q, c.at fun o q => hk _ o n2 q, d.at fun o q => hk _ o m1 q, e.at fun o q => hk _ o m2 q, ?_⟩
  rcases f with ⟨g, u, v, k⟩ | ⟨T, f, oT, g, k, r⟩
  · exact .inl ⟨hk _ _ nz g, u, v, hk _ _ nO k⟩
  · exact .inr ⟨T, f, oT, hk _ _ nz g, hk _ _ r.2.2.2 k, r⟩
theorem zp_item {i : Nat} {x y : Value} {Q : Option Value → Shared → Prop} (D : ZipApart z TI TO i1 i2 l1 l2) (st : ZSt z TI TO i1 i2 l1 l2 S xs ys i s.heap) (hS : S < s.heap.objs.size) (ex : xs[i]? = some x) (ey : ys[i]? = some y)
    (hQ : ∀ h', ZSt z TI TO i1 i2 l1 l2 S xs ys (i + 1) h' → IsPair h' s.heap.objs.size x y → h'.objs.size = s.heap.objs.size + 1 → (∀ c o, c ≠ z → c ≠ TO → c ≠ i1 → c ≠ i2 → s.heap.get? c = some o → h'.get? c = some o) → Q (some (.ref s.heap.objs.size)) { s with heap := h' }) :
    wpAny (model prog w) A (pyNext (.ref z)) Q E s := by
  obtain ⟨hTI, h1, h2, hl1, hl2, hz⟩ := st
  have lt : ∀ {c o}, s.heap.get? c = some o → s.heap.objs.size ≠ c := fun e => Nat.ne_of_gt (Heap.lt_size e)
  have n1 : s.heap.objs.size ≠ i1 := let ⟨_, e, _⟩ := h1; lt e
  have n2 : s.heap.objs.size ≠ i2 := let ⟨_, e, _⟩ := h2; lt e
  rcases hz with ⟨hz, a, b, hTO⟩ | ⟨T, f, oT, hz, hT, r1, r2, r3, r4⟩
  · refine wpAny_pyNext_zip_item D hz hTI hTO h1 h2 hl1 hl2 ex ey fun h' a1 a2 a3 a4 a5 a6 hk => ?_
    exact hQ h' ⟨hk _ _ D.TIz D.TITO D.TIi1 D.TIi2 hTI, a3, a4, hl1.at fun o e => hk _ o D.l1z D.l1TO D.l1i1 D.l1i2 e, hl2.at fun o e => hk _ o D.l2z D.l2TO D.l2i1 D.l2i2 e,
        .inr ⟨s.heap.objs.size, false, _, a1, a5, lt hz, n1, n2, Nat.ne_of_gt hS⟩⟩ a5 a6 hk
  · refine wpAny_pyNext_zip_item_held D hz hT hTI h1 h2 hl1 hl2 ex ey fun h' a1 a3 a4 a5 a6 hk => ?_
    exact hQ h' ⟨hk _ _ D.TIz D.TIi1 D.TIi2 hTI, a3, a4, hl1.at fun o e => hk _ o D.l1z D.l1i1 D.l1i2 e, hl2.at fun o e => hk _ o D.l2z D.l2i1 D.l2i2 e,
        .inr ⟨T, true, oT, a1, hk _ _ r1 r2 r3 hT, r1, r2, r3, r4⟩⟩ a5 a6 fun c o c1 _ c3 c4 e => hk c o c1 c3 c4 e
theorem zp_done {i : Nat} {Q : Option Value → Shared → Prop} (hA : A.handled = none) (D : ZipApart z TI TO i1 i2 l1 l2) (st : ZSt z TI TO i1 i2 l1 l2 S xs ys i s.heap) (hend : xs[i]? = none ∨ ys[i]? = none)
    (hQ : ∀ h', (∀ c o, c ≠ z → c ≠ TO → c ≠ i1 → c ≠ i2 → s.heap.get? c = some o → h'.get? c = some o) → Q none { s with heap := h' }) :
    wpAny (model prog w) A (pyNext (.ref z)) Q E s := by
  obtain ⟨hTI, h1, h2, hl1, hl2, hz⟩ := st
  rcases hz with ⟨hz, a, b, hTO⟩ | ⟨T, f, oT, hz, hT, r1, r2, r3, r4⟩
  · exact wpAny_pyNext_zip_end hA D hz hTI hTO h1 h2 hl1 hl2 hend fun h' hk => hQ h' hk
  · exact wpAny_pyNext_zip_end_held hA D hz hT hTI h1 h2 hl1 hl2 hend fun h' hk => hQ h' fun c o c1 _ c3 c4 e => hk c o c1 c3 c4 e
structure Low (z TI TO i1 i2 l1 l2 S : Addr) : Prop where
  z : z < S
  TI : TI < S
  TO : TO < S
  i1 : i1 < S
  i2 : i2 < S
  l1 : l1 < S
  l2 : l2 < S
theorem zp_loop {R : Result → Shared → Prop} (hh : A.handled = none) (D : ZipApart z TI TO i1 i2 l1 l2) (L : Low z TI TO i1 i2 l1 l2 S) (hn : min xs.size ys.size ≤ sizeLine) (res : Value) {h₁ : Heap}
    (hR : ∀ h' acc c as, (∀ b o, b ≠ S → b ≠ z → b ≠ TO → b ≠ i1 → b ≠ i2 → h₁.get? b = some o → h'.get? b = some o) → h'.get? S = some { cls := .type "list", dict := none, data := .seq acc c, slots := #[] } → as.length = min xs.size ys.size → ZipG xs ys S h' as →
      acc.toList = as.map Value.ref → R (.ok (.ret res)) { s with heap := h' }) :
    ∀ (k i : Nat) (h : Heap) (c : Nat) (acc : Array Value) (as : List Addr), min xs.size ys.size - i = k → i ≤ min xs.size ys.size → ZSt z TI TO i1 i2 l1 l2 S xs ys i h → (∀ b o, b ≠ S → b ≠ z → b ≠ TO → b ≠ i1 → b ≠ i2 → h₁.get? b = some o → h.get? b = some o) →
      h.get? S = some { cls := .type "list", dict := none, data := .seq acc c, slots := #[] } → acc.toList = as.map Value.ref → as.length = i → ZipG xs ys S h as →
      codeAny (model prog w) A (.builtin "list.extend.loop" ⟨[.ref S, .ref z, res], []⟩) R { s with heap := h } := by
  intro k
  induction k with
  | zero =>
    intro i h c acc as hk hi hst hkeep hS hacc hal hG
    refine codeAny_builtin PySem.F.entry_extend_loop ?_
    rw [Around.under_plainId PySem.F.plain_extend_loop _]
    show wpAny _ A.in1 (pyNext (.ref z) >>= _) _ _ _
    have hend : xs[i]? = none ∨ ys[i]? = none := by
      rcases Nat.le_total xs.size ys.size with q | q
      · exact .inl (Array.getElem?_eq_none (by omega))
      · exact .inr (Array.getElem?_eq_none (by omega))
    refine wpAny_bind (zp_done (s := { s with heap := h }) (A := A.in1) hh D hst hend fun h' he => ?_)
    have hc : ∀ b, b > S → b ≠ z ∧ b ≠ TO ∧ b ≠ i1 ∧ b ≠ i2 := fun b hb => ⟨Nat.ne_of_gt (Nat.lt_trans L.z hb), Nat.ne_of_gt (Nat.lt_trans L.TO hb), Nat.ne_of_gt (Nat.lt_trans L.i1 hb), Nat.ne_of_gt (Nat.lt_trans L.i2 hb)⟩
    refine wpAny_pure (hR h' acc c as (fun b o h1 h2 h3 h4 h5 e => he b o h2 h3 h4 h5 (hkeep b o h1 h2 h3 h4 h5 e)) (he S _ (Nat.ne_of_gt L.z) (Nat.ne_of_gt L.TO) (Nat.ne_of_gt L.i1) (Nat.ne_of_gt L.i2) hS) (by omega) ⟨hG.rise, hG.above, fun j a hj => ?_⟩ hacc)
    obtain ⟨x, y, e1, e2, e3⟩ := hG.pairs j a hj
    obtain ⟨c1, c2, c3, c4⟩ := hc a (hG.above a (List.mem_of_getElem? hj))
    exact ⟨x, y, e1, e2, he a _ c1 c2 c3 c4 e3⟩
  | succ k ih =>
    intro i h c acc as hk hi hst hkeep hS hacc hal hG
    have hlx : i < xs.size := by omega
    have hly : i < ys.size := by omega
    have hsz : acc.size = i := by rw [← Array.length_toList, hacc, List.length_map, hal]
    refine codeAny_builtin PySem.F.entry_extend_loop ?_
    rw [Around.under_plainId PySem.F.plain_extend_loop _]
    show wpAny _ A.in1 (pyNext (.ref z) >>= _) _ _ _
    have hSl : S < h.objs.size := Heap.lt_size hS
    refine wpAny_bind (zp_item (s := { s with heap := h }) D hst hSl (Array.getElem?_eq_getElem hlx) (Array.getElem?_eq_getElem hly) fun h' hst' ht hz hkp => ?_)
    dsimp only at ht hz hkp ⊢
    have hS' := hkp S _ (Nat.ne_of_gt L.z) (Nat.ne_of_gt L.TO) (Nat.ne_of_gt L.i1) (Nat.ne_of_gt L.i2) hS
    have up : ∀ b o, b ≠ S → h'.get? b = some o → (h'.update S (Obj.mapSeq (·.push (Value.ref h.objs.size)))).get? b = some o := fun b o hb e => (Heap.get?_update_other _ _ (Ne.symm hb)).trans e
    show wpAny _ A.in1 (updateSeq S (·.push (Value.ref h.objs.size)) >>= _) _ _ _
    refine wpAny_bind ?_
    refine wpAny_updateSeq hS' rfl (wpAny_pure ⟨plainId_quiet PySem.F.plain_extend_loop _, ih (i + 1) _ _ (acc.push (Value.ref h.objs.size)) (as ++ [h.objs.size]) (by omega) (by omega)
      (hst'.keep up (Nat.ne_of_lt L.z) (Nat.ne_of_lt L.i1) (Nat.ne_of_lt L.i2) (Nat.ne_of_lt L.TI) (Nat.ne_of_lt L.TO) (Nat.ne_of_lt L.l1) (Nat.ne_of_lt L.l2))
      (fun b o h1 h2 h3 h4 h5 e => up b o h1 (hkp b o h2 h3 h4 h5 (hkeep b o h1 h2 h3 h4 h5 e))) (Heap.get?_update_self _ hS' rfl) (by rw [Array.toList_push, hacc, List.map_append]; rfl) (by rw [List.length_append, hal]; rfl) ⟨?_, ?_, ?_⟩⟩) (by rw [hsz]; omega) (by show (acc.push (Value.ref h.objs.size)).size ≤ sizeLine + 1; rw [Array.size_push, hsz]; omega)
    · refine List.pairwise_append.mpr ⟨hG.rise, List.pairwise_singleton _ _, fun a ha b hb => ?_⟩
      rw [List.mem_singleton.mp hb]
      exact hG.there ha
    · intro a ha
      rcases List.mem_append.mp ha with ha | ha
      · exact hG.above a ha
      · rw [List.mem_singleton.mp ha]; exact hSl
    · intro j b hj
      rcases Nat.lt_trichotomy j as.length with h1 | h1 | h1
      · rw [List.getElem?_append_left h1] at hj
        obtain ⟨x, y, e1, e2, e3⟩ := hG.pairs j b hj
        have hb := hG.above b (List.mem_of_getElem? hj)
        exact ⟨x, y, e1, e2, up b _ (Nat.ne_of_gt hb) (hkp b _ (Nat.ne_of_gt (Nat.lt_trans L.z hb)) (Nat.ne_of_gt (Nat.lt_trans L.TO hb)) (Nat.ne_of_gt (Nat.lt_trans L.i1 hb)) (Nat.ne_of_gt (Nat.lt_trans L.i2 hb)) e3)⟩
      · subst h1
        have hb : h.objs.size = b := by simpa using hj
        subst hb
        exact ⟨_, _, by rw [hal]; exact Array.getElem?_eq_getElem hlx, by rw [hal]; exact Array.getElem?_eq_getElem hly, up _ _ (Nat.ne_of_gt hSl) ht⟩
      · have hnone : (as ++ [h.objs.size])[j]? = none := List.getElem?_eq_none (by rw [List.length_append, List.length_singleton]; omega)
        rw [hnone] at hj; cases hj
theorem zp_call {Q : Value → Shared → Prop} (hh : A.handled = none) (D : ZipApart z TI TO i1 i2 l1 l2) (hz : IsZip s.heap z TI TO .none) (hTI : IsPair s.heap TI (.ref i1) (.ref i2)) {a0 b0 : Value} (hTO : IsPair s.heap TO a0 b0)
    (h1 : s.heap.IsListIter i1 l1 0) (h2 : s.heap.IsListIter i2 l2 0) (hl1 : s.heap.IsList l1 xs) (hl2 : s.heap.IsList l2 ys) (hn : min xs.size ys.size ≤ sizeLine)
    (hQ : ∀ h' acc c as, (∀ b o, b ≠ z → b ≠ TO → b ≠ i1 → b ≠ i2 → s.heap.get? b = some o → h'.get? b = some o) → h'.get? s.heap.objs.size = some { cls := .type "list", dict := none, data := .seq acc c, slots := #[] } → as.length = min xs.size ys.size → ZipG xs ys s.heap.objs.size h' as →
      acc.toList = as.map Value.ref → Q (.ref s.heap.objs.size) { s with heap := h' }) :
    wpAny (model prog w) A (call (.type "list") [.ref z]) Q E s := by
  have L : Low z TI TO i1 i2 l1 l2 s.heap.objs.size := ⟨Heap.lt_size hz, Heap.lt_size hTI, Heap.lt_size hTO, let ⟨_, e, _⟩ := h1; Heap.lt_size e, let ⟨_, e, _⟩ := h2; Heap.lt_size e, let ⟨_, e, _⟩ := hl1; Heap.lt_size e, let ⟨_, e, _⟩ := hl2; Heap.lt_size e⟩
  have st : ZSt z TI TO i1 i2 l1 l2 s.heap.objs.size xs ys 0 s.heap := ⟨hTI, h1, h2, hl1, hl2, .inl ⟨hz, _, _, hTO⟩⟩
  have kp : ∀ {h h' : Heap} {i : Nat}, ZSt z TI TO i1 i2 l1 l2 s.heap.objs.size xs ys i h → (∀ b o, b ≠ s.heap.objs.size → h.get? b = some o → h'.get? b = some o) → ZSt z TI TO i1 i2 l1 l2 s.heap.objs.size xs ys i h' := fun st k =>
    st.keep k (Nat.ne_of_lt L.z) (Nat.ne_of_lt L.i1) (Nat.ne_of_lt L.i2) (Nat.ne_of_lt L.TI) (Nat.ne_of_lt L.TO) (Nat.ne_of_lt L.l1) (Nat.ne_of_lt L.l2)
  refine callType_codes (Q₁ := fun obj s₁ => obj = .ref s.heap.objs.size ∧ s₁ = { s with heap := s.heap.push { cls := .type "list", data := .seq #[] } }) PySem.F.called_list (PySem.F.typeCall_list_1 _) PySem.F.entry_list_init
    (code_list_new _ ⟨rfl, rfl⟩) fun obj s₁ h₁ => ?_
  obtain ⟨rfl, rfl⟩ := h₁
  have hS : (s.heap.push { cls := .type "list", data := .seq #[] }).get? s.heap.objs.size = some { cls := .type "list", data := .seq #[] } := Heap.get?_push_size _ rfl
  have o1 : ∀ b o, b ≠ s.heap.objs.size → s.heap.get? b = some o → (s.heap.push { cls := .type "list", data := .seq #[] }).get? b = some o := fun b o _ e => Heap.get?_push_of_some _ e
  refine ⟨⟨_, hS, rfl⟩, PySem.F.args_list_init_2 _ _, ?_⟩
  show wpAny _ _ (do let old ← Builtin.List.listItems (.ref s.heap.objs.size); Builtin.List.listUpdate (.ref s.heap.objs.size) (fun _ => #[]); letGo old.toList.reverse; Builtin.List.listExtendWith (.ref s.heap.objs.size) (.ref z) .none) _ _ _
  refine wpAny_bind ?_
  unfold Builtin.List.listItems
  refine wpAny_bind (wpAny_seqItems hS rfl (wpAny_pure ?_))
  show wpAny _ _ (updateSeq s.heap.objs.size (fun _ => #[]) >>= fun _ => letGo (#[] : Array Value).toList.reverse >>= fun _ => Builtin.List.listExtendWith (.ref s.heap.objs.size) (.ref z) .none) _ _ _
  refine wpAny_bind (wpAny_updateSeq hS rfl ?_)
  have hS₂ := Heap.get?_update_self (Obj.mapSeq (fun _ => (#[] : Array Value))) hS rfl
  have o2 : ∀ b o, b ≠ s.heap.objs.size → s.heap.get? b = some o → ((s.heap.push { cls := .type "list", data := .seq #[] }).update s.heap.objs.size (Obj.mapSeq (fun _ => (#[] : Array Value)))).get? b = some o :=
    fun b o hb e => (Heap.get?_update_other _ _ (Ne.symm hb)).trans (o1 b o hb e)
  refine wpAny_bind (wpAny_letGo ?_)
  unfold Builtin.List.listExtendWith
  have hz2 := o2 _ _ (Nat.ne_of_lt L.z) hz
  refine wpAny_bind (wpAny_typeOf (T := "zip") ⟨_, hz2, rfl⟩ ?_)
  have h1 : Builtin.List.listSameRef (.ref s.heap.objs.size) (.ref z) = false := by simp [Builtin.List.listSameRef, Nat.ne_of_gt L.z]
  have h2' : (Value.type "zip" == Value.type "list") = false := by decide
  have h3 : (Value.type "zip" == Value.type "tuple") = false := by decide
  simp only [h1, h2', h3, Bool.or_false, Bool.false_eq_true, if_false]
  refine wpAny_bind (wpAny_pyIter_zip (TI := TI) (TO := TO) hz2 ?_)
  refine wpAny_bind (wpAny_holding ?_)
  unfold Builtin.List.listLengthHint
  refine wpAny_bind (wpAny_specialOf (T := "zip") ⟨_, hz2, rfl⟩ zip_no_len ?_)
  show wpAny _ A.in1.in1 (specialOf (Value.ref z) (Str.ofString "__length_hint__") >>= _) _ _ _
  refine wpAny_bind (wpAny_specialOf (T := "zip") ⟨_, hz2, rfl⟩ zip_no_hint ?_)
  refine wpAny_pure ?_
  show wpAny _ A.in1.in1 (rule "list.extend.makes-room" >>= fun _ => Builtin.List.listTouch (.ref s.heap.objs.size) >>= fun _ =>
    again (.builtin "list.extend.loop" ⟨[.ref s.heap.objs.size, .ref z, .none], []⟩)) _ _ _
  refine wpAny_bind (wpAny_rule ?_)
  refine wpAny_bind ?_
  show wpAny _ _ (updateSeq s.heap.objs.size (·.push .none) >>= fun _ => updateSeq s.heap.objs.size (·.pop)) _ _ _
  refine wpAny_bind (wpAny_updateSeq hS₂ rfl ?_)
  have hS₃ := Heap.get?_update_self (Obj.mapSeq (·.push Value.none)) hS₂ rfl
  refine wpAny_updateSeq (hz := by seq_fits) hS₃ rfl ?_
  have hS₄ := Heap.get?_update_self (Obj.mapSeq (·.pop)) hS₃ rfl
  have o4 : ∀ b o, b ≠ s.heap.objs.size → s.heap.get? b = some o → ((((s.heap.push { cls := .type "list", data := .seq #[] }).update s.heap.objs.size (Obj.mapSeq (fun _ => (#[] : Array Value)))).update s.heap.objs.size (Obj.mapSeq (·.push Value.none))).update s.heap.objs.size (Obj.mapSeq (·.pop))).get? b = some o :=
    fun b o hb e => (Heap.get?_update_other _ _ (Ne.symm hb)).trans ((Heap.get?_update_other _ _ (Ne.symm hb)).trans (o2 b o hb e))
  refine wpAny_pure ⟨plainId_quiet PySem.F.plain_extend_loop _, ?_⟩
  refine zp_loop (s := s) (h₁ := s.heap) (A := A.in1) hh D L hn .none (fun h' acc c as hk hS' hl hG hacc => ⟨rfl, hQ h' acc c as (fun b o n1 n2 n3 n4 e => hk b o (Nat.ne_of_lt (Heap.lt_size e)) n1 n2 n3 n4 e) hS' hl hG hacc⟩)
    (min xs.size ys.size) 0 _ _ #[] [] (Nat.sub_zero _) (Nat.zero_le _) (kp st o4) (fun b o hb _ _ _ _ e => o4 b o hb e) hS₄ rfl rfl ⟨List.Pairwise.nil, (fun _ ha => nomatch ha), (fun j a hj => by simp at hj)⟩
end
/-- the tuples tracked at their addresses -/
def putZ : Hp → List Addr → List (Obj × V × V) → Hp
  | H, a :: as, p :: ps => putZ (upd H a (.frz p.1 (.tup [p.2.1, p.2.2]))) as ps
  | H, _, _ => H
theorem putZ_off {b : Addr} : ∀ (as : List Addr) (ps : List (Obj × V × V)) (H : Hp), b ∉ as → putZ H as ps b = H b
  | [], _, _, _ => rfl
  | _ :: _, [], _, _ => rfl
  | a :: as, p :: ps, H, h => by
    show putZ (upd H a (.frz p.1 (.tup [p.2.1, p.2.2]))) as ps b = H b
    rw [putZ_off as ps _ (fun z => h (List.mem_cons_of_mem _ z)), upd_ne (fun z => h (by rw [z]; exact List.mem_cons_self))]
theorem putZ_at : ∀ (as : List Addr) (ps : List (Obj × V × V)) (H : Hp), as.length = ps.length → as.Nodup → ∀ (j : Nat) (a : Addr) (p : Obj × V × V), as[j]? = some a → ps[j]? = some p → putZ H as ps a = some (.frz p.1 (.tup [p.2.1, p.2.2]))
  | [], [], _, _, _ => fun j a p h => by simp at h
  | [], _ :: _, _, h, _ => by cases h
  | _ :: _, [], _, h, _ => by cases h
  | a :: as, p :: ps, H, h, hn => by
    have hn' := List.nodup_cons.mp hn
    intro j b q hj hq
    cases j with
    | zero =>
      simp only [List.getElem?_cons_zero, Option.some.injEq] at hj hq
      subst hj hq
      show putZ (upd H a (.frz p.1 (.tup [p.2.1, p.2.2]))) as ps a = _
      rw [putZ_off as ps _ hn'.1, upd_same]
    | succ j => exact putZ_at as ps (upd H a (.frz p.1 (.tup [p.2.1, p.2.2]))) (Nat.succ.inj h) hn'.2 j b q (by simpa using hj) (by simpa using hq)
def zipD (xs ys : List D) : List D := List.zipWith (fun x y => .tuple [x, y]) xs ys
theorem zip_laid {X : Cx} {pins : List (Addr × Obj)} {σ : L2.St} {H : Hp} {s : Shared} {h' : Heap} {xs ys : List V} {us ws : List Value} {acc : Array Value} {c : Nat} {as ch : List Addr} (I : Inv X pins σ H s) (rx : Vals xs us) (ry : Vals ys ws) (hz : min us.length ws.length ≤ sizeLine)
    (hk : ∀ b o, b ∉ ch → s.heap.get? b = some o → h'.get? b = some o) (hch : ∀ b ∈ ch, FpOk X pins H b) (hS : h'.get? s.heap.objs.size = some { cls := .type "list", dict := none, data := .seq acc c, slots := #[] }) (hl : as.length = min us.length ws.length) (hG : ZipG us.toArray ws.toArray s.heap.objs.size h' as) (hacc : acc.toList = as.map Value.ref) :
    ∃ H' : Hp, (∀ b o, H b = some o → H' b = some o) ∧ H s.heap.objs.size = none ∧ H' s.heap.objs.size = some (.lst (as.map V.ref)) ∧ (∀ (j : Nat) (a : Addr), as[j]? = some a → ∃ o x y, xs[j]? = some x ∧ ys[j]? = some y ∧ o.dict = none ∧ H' a = some (.frz o (.tup [x, y]))) ∧ Inv X pins σ H' { s with heap := h' } := by
  have hSn : s.heap.objs.size ∉ as := fun z => Nat.lt_irrefl _ (hG.above _ z)
  have nd : as.Nodup := List.Pairwise.imp (fun {a b} (h : a < b) => Nat.ne_of_lt h) hG.rise
  have new : ∀ t ∈ as, H t = none := fun t ht => I.hok.fresh (Nat.le_of_lt (hG.above t ht))
  have newS : H s.heap.objs.size = none := I.hok.fresh (Nat.le_refl _)
  -- the tuples, told
  have tell : ∃ ps : List (Obj × V × V), ps.length = as.length ∧ ∀ (j : Nat) (a : Addr), as[j]? = some a → ∃ o x y u v, ps[j]? = some (o, x, y) ∧ xs[j]? = some x ∧ ys[j]? = some y ∧ RelV x u ∧ RelV y v ∧ o = { cls := .type "tuple", data := .seq #[u, v] } ∧ h'.get? a = some o := by
    refine ⟨(List.zip us ws).zip (List.zip xs ys) |>.map fun p => ({ cls := .type "tuple", data := .seq #[p.1.1, p.1.2] }, p.2.1, p.2.2), ?_, fun j a hj => ?_⟩
    · have := rx.length
      have := ry.length
      simp only [List.length_map, List.length_zip]
      omega
    · obtain ⟨u, v, e1, e2, e3⟩ := hG.pairs j a hj
      have e1 : us[j]? = some u := by simpa using e1
      have e2 : ws[j]? = some v := by simpa using e2
      obtain ⟨x, hx, r1⟩ : ∃ x, xs[j]? = some x ∧ RelV x u := by
        have hlt : j < xs.length := by rw [rx.length]; exact (List.getElem?_eq_some_iff.mp e1).1
        obtain ⟨u', hu, r⟩ := rx.get (List.getElem?_eq_getElem hlt)
        rw [e1] at hu; cases hu
        exact ⟨_, List.getElem?_eq_getElem hlt, r⟩
      obtain ⟨y, hy, r2⟩ : ∃ y, ys[j]? = some y ∧ RelV y v := by
        have hlt : j < ys.length := by rw [ry.length]; exact (List.getElem?_eq_some_iff.mp e2).1
        obtain ⟨u', hu, r⟩ := ry.get (List.getElem?_eq_getElem hlt)
        rw [e2] at hu; cases hu
        exact ⟨_, List.getElem?_eq_getElem hlt, r⟩
      refine ⟨_, x, y, u, v, ?_, hx, hy, r1, r2, rfl, e3⟩
      have q1 : (List.zip us ws)[j]? = some (u, v) := List.getElem?_zip_eq_some.mpr ⟨e1, e2⟩
      have q2 : (List.zip xs ys)[j]? = some (x, y) := List.getElem?_zip_eq_some.mpr ⟨hx, hy⟩
      have q : ((List.zip us ws).zip (List.zip xs ys))[j]? = some ((u, v), (x, y)) := List.getElem?_zip_eq_some.mpr ⟨q1, q2⟩
      rw [List.getElem?_map, q]
      rfl
  obtain ⟨ps, hpl, tell⟩ := tell
  have atP := putZ_at as ps (upd H s.heap.objs.size (.lst (as.map V.ref))) hpl.symm nd
  have off : ∀ b, b ∉ as → b ≠ s.heap.objs.size → putZ (upd H s.heap.objs.size (.lst (as.map V.ref))) as ps b = H b := fun b h1 h2 => by rw [putZ_off as ps _ h1, upd_ne h2]
  have low : ∀ b o, s.heap.get? b = some o → b ∉ as ∧ b ≠ s.heap.objs.size := fun b o e => ⟨fun z => absurd (Heap.lt_size e) (Nat.not_lt.mpr (Nat.le_of_lt (hG.above b z))), Nat.ne_of_lt (Heap.lt_size e)⟩
  have kp : ∀ b u, H b = some u → (putZ (upd H s.heap.objs.size (.lst (as.map V.ref))) as ps) b = some u := fun b u e => by
    rw [off b (fun z => by rw [new b z] at e; cases e) (fun z => by rw [z, newS] at e; cases e)]
    exact e
  have eS : putZ (upd H s.heap.objs.size (.lst (as.map V.ref))) as ps s.heap.objs.size = some (.lst (as.map V.ref)) := by rw [putZ_off as ps _ hSn, upd_same]
  have nit : ∀ b u, H b = some u → b ∉ ch := fun b u e z => by
    have q := (hch b z).1
    rw [q] at e; cases e
  refine ⟨putZ (upd H s.heap.objs.size (.lst (as.map V.ref))) as ps, kp, newS, eS, fun j a hj => ?_, ?_⟩
  · obtain ⟨o, x, y, u, v, e1, e2, e3, _, _, e4, _⟩ := tell j a hj
    exact ⟨o, x, y, e2, e3, by rw [e4], atP j a _ hj e1⟩
  refine I.step (g' := s.gens) (d' := s.drawn) (t' := s.toks) (ch := ch) (fun b hb => ⟨(hch b hb).2.2.2.1, (hch b hb).2.1, (hch b hb).2.2.2.2.1, (hch b hb).2.2.2.2.2⟩) (fun b o _ _ hc e _ => hk b o hc e) (fun b o _ _ hc e _ => ⟨o.slots, hk b o hc e⟩)
    (fun b o _ e n => ?_) (fun b o hc e => ⟨o, hk b o hc e⟩) (fun b xs e => kp b _ e) (fun b o u e => kp b _ e) (fun b ps e => ⟨#[], by rw [kp b _ e]; simp⟩) (fun m hm => ?_) (fun b u q => ?_) I.bare
  · obtain ⟨z1, z2⟩ := low b o e
    rw [off b z1 z2]
    exact n
  · obtain ⟨o, es, ep, ho, r⟩ := hm
    exact ⟨o, es, ep, hk _ o (fun z => (hch _ z).2.1 rfl) ho, r⟩
  · by_cases hb : b ∈ as
    · obtain ⟨j, hj⟩ := List.mem_iff_getElem?.mp hb
      obtain ⟨o, x, y, u', v, e1, e2, e3, r1, r2, e4, e5⟩ := tell j b hj
      rw [atP j b _ hj e1] at q
      cases q
      exact ⟨e5, by show 2 ≤ sizeLine; decide, [u', v], .cons r1 (.cons r2 .nil), ⟨_, e5, by rw [e4], _, by rw [e4]⟩⟩
    · by_cases hb2 : b = s.heap.objs.size
      · rw [hb2] at q ⊢
        rw [eS] at q
        cases q
        refine ⟨by rw [List.length_map]; omega, acc.toList, c, by rw [hacc]; exact LiI.vals_refs as, ?_⟩
        rw [Array.toArray_toList]
        exact hS
      · rw [off b hb hb2] at q
        refine (I.hok b u q).stay (fun d v hc y => hk d v ?_ y) (fun d y => kp d _ y) fun d xs y => kp d _ y
        rcases hc with z | z
        · rw [z]; exact nit b u q
        · exact nit d _ z
section
variable {X : Cx} {c : Ctx} {e e2 : Expr} {pos p p2 pos2 : Pos}
def wListZip (wa : LW) : LW := fun ρ Q => wa ρ fun ds ρ1 => ∃ xs ys, ds = [.list xs, .list ys] ∧ Q (zipD xs ys) ρ1
theorem zip_all {K : PySem.W.Frag} {H : Hp} {xs ys : List V} {ds es : List D} (hx : IsAll K H xs ds) (hy : IsAll K H ys es) : ∀ (as : List Addr), as.length = min xs.length ys.length →
    (∀ (j : Nat) (a : Addr), as[j]? = some a → ∃ o x y, xs[j]? = some x ∧ ys[j]? = some y ∧ Obj.dict o = none ∧ H a = some (.frz o (.tup [x, y]))) → IsAll K H (as.map V.ref) (zipD ds es) := by
  intro as
  induction as generalizing xs ys ds es with
  | nil =>
    intro hl _
    have : zipD ds es = [] := by
      rw [hx.length, hy.length] at hl
      unfold zipD
      apply List.eq_nil_of_length_eq_zero
      rw [List.length_zipWith]
      simp only [List.length_nil] at hl
      omega
    rw [this]; exact .nil
  | cons a as ih =>
    intro hl h
    cases hx with
    | nil => simp at hl
    | cons h1 h2 =>
      cases hy with
      | nil => simp at hl
      | cons g1 g2 =>
        obtain ⟨o, x, y, e1, e2, e3, e4⟩ := h 0 a rfl
        cases e1
        cases e2
        refine .cons (.tup (.inl ⟨o, e3, e4⟩) (.cons h1 (.cons g1 .nil))) (ih h2 g2 (by simp only [List.length_cons] at hl; omega) fun j a' hj => ?_)
        obtain ⟨o', x', y', f1, f2, f3, f4⟩ := h (j + 1) a' (by simpa using hj)
        exact ⟨o', x', y', by simpa using f1, by simpa using f2, f3, f4⟩
theorem df_listZip {wa : LW} (hc : X.calm = true) (hg : Gl X "list") (hm : X.mg "list" = none) (hgz : Gl X "zip") (hmz : X.mg "zip" = none) (ha : PA X [e, e2] (tA c wa)) (hv : bootBuiltins "list" = some (.type "list") := by decide +kernel)
    (hs : starEach [e, e2] X.env = (false, eval e X.env) :: starEach [e2] X.env := by rfl) (hpl : (backTo pos2 (starEach [e2] X.env)).any (·.1) = false := by rfl)
    (hs1 : starEach [.Call (.Name "zip" p2) [e, e2] [] pos2] X.env = (false, eval (.Call (.Name "zip" p2) [e, e2] [] pos2) X.env) :: starEach [] X.env := by rfl) (hK : c.K = X.K := by rfl) :
    PE X (.Call (.Name "list" p) [.Call (.Name "zip" p2) [e, e2] [] pos2] [] pos) (tF c (wListZip wa)) := by
  refine ⟨fun pins s σ H Q I hq => ?_⟩
  obtain ⟨ρ, Q0, E, hw, k⟩ := hq
  refine wpAny_Call_Name_kw (ld_blt I hg hm hv ?_)
  refine PyProof.Rows.callWith_type1 ?_ hs1 rfl
  rw [hs1]
  show wpAny _ _ (spliced ((false, eval (.Call (.Name "zip" p2) [e, e2] [] pos2) X.env) :: backTo pos (starEach [] X.env))) _ _ s
  refine Calls.spliced_cons ?_
  refine Call_ (ld_blt I hgz hmz PyProof.Rows.boot_zip (PyProof.Rows.callWith_type1 (thn (ha.run pos2 pins s σ H (fun vs H' => ∃ ds ρ' xs ys, ds = [PyData.list xs, .list ys] ∧ Q0 (zipD xs ys) ρ' ∧ Gr c σ H H' ∧ En c H' σ ρ' ∧ IsAll c.K H' vs ds) I
    ⟨ρ, _, E, hw, fun ds ρ' vs H' ⟨xs, ys, e, q⟩ g E1 i1 => ⟨ds, ρ', xs, ys, e, q, g, E1, i1⟩⟩) fun us s1 ⟨vs, H1, I1, r1, ds, ρ', xs, ys, ed, q, g, E1, i1⟩ => ?_) hs hpl))
  subst ed
  cases i1 with
  | cons j1 j2 =>
    cases j2 with
    | cons j3 j4 =>
      cases j4
      cases j1 with
      | @lst a oa va _ g1 g2 =>
        cases j3 with
        | @lst b ob vb _ f1 f2 =>
          cases r1 with
          | cons r rr =>
            cases rr with
            | cons r' rr =>
              cases rr
              cases r
              cases r'
              obtain ⟨its, rv, pl1, z1⟩ := I1.list (a := a) (xs := va) (.inl (.inr ⟨_, g1⟩))
              obtain ⟨its2, rv2, pl2, z2⟩ := I1.list (a := b) (xs := vb) (.inl (.inr ⟨_, f1⟩))
              have fresh5 : ∀ d, d ∈ [s1.heap.objs.size + 4, s1.heap.objs.size + 3, s1.heap.objs.size, s1.heap.objs.size + 1] → FpOk X pins H1 d := fun d hcm => by
                have hle : s1.heap.objs.size ≤ d := by
                  simp only [List.mem_cons, List.not_mem_nil, or_false] at hcm
                  omega
                exact I1.fpOk hle (I1.hok.fresh hle)
              refine call_zip_2 pl1.isList pl2.isList fun h' hz hTI hTO h1 h2 hsz hk => ?_
              have I2 : Inv X pins σ H1 { s1 with heap := h' } := I1.kept (t' := s1.toks) hk
              refine Calls.spliced_nil ?_
              have ll1 := rv.length
              have ll2 := rv2.length
              have il1 := g2.length
              have il2 := f2.length
              refine zp_call (s := { s1 with heap := h' }) (I1.ok.hd hc) (PySem.W.ktu_apart s1.heap.objs.size a b pl1.lt pl2.lt) hz hTI hTO h1 h2 (pl1.isList.at fun o e => hk _ o e) (pl2.isList.at fun o e => hk _ o e) (by simp only [List.size_toArray]; omega) fun h2' acc cc as hk2 hS hl hG hacc => ?_
              obtain ⟨H', k1, k2, k3, k4, J⟩ := zip_laid (s := { s1 with heap := h' }) I2 rv rv2 (by omega) (ch := [s1.heap.objs.size + 4, s1.heap.objs.size + 3, s1.heap.objs.size, s1.heap.objs.size + 1])
                (fun b o hb q => hk2 b o (fun z => hb (by simp [z])) (fun z => hb (by simp [z])) (fun z => hb (by simp [z])) (fun z => hb (by simp [z])) q) fresh5 hS (by simpa only [List.size_toArray] using hl) hG hacc
              have sm : Same H1 H' := k1
              refine ⟨.ref _, H', J, rfl, k _ ρ' _ _ H' q (g.trans (Gr.same sm)) (E1.same sm) (g.free E1 k2) k3 ?_⟩
              exact zip_all (IsAll.mono (Same.fx sm) _ _ g2) (IsAll.mono (Same.fx sm) _ _ f2) as (by simp only [List.size_toArray] at hl; omega) k4
end
end DL
/-! repr of data with dicts (int or text keys) at any depth. -/
namespace DL
open PySem PySem.Spec PyProof.Rows L2
section
variable {X : Cx} {pins : List (Addr × Obj)} {σ : Sg} {H : Hp} {s : Shared}
theorem len_cat3 (k v : Str) : k.length ≤ (k ++ ": " ++ v).length ∧ v.length ≤ (k ++ ": " ++ v).length := by
  rw [strLen_append, strLen_append]
  omega
mutual
theorem shwF_of (I : Inv X pins σ H s) : ∀ (d : D) (v : V) (u : Value), Is X.K H v d → RelV v u → d.showable = true → d.shown.length ≤ sizeLine → Shw X.prog X.w s.heap u d
  | .none, _, _, h, r, _, _ => by
    cases h; cases r
    exact ⟨_, [], .none, (fun _ z => nomatch z), by simp only [PyData.shown]; exact .of_is ReprIs.none _ _ _⟩
  | .bool b, _, _, h, r, _, _ => by
    cases h; cases r
    exact ⟨_, [], .bool b, (fun _ z => nomatch z), by simp only [PyData.shown]; exact .of_is (ReprIs.bool b) _ _ _⟩
  | .int i, _, _, h, r, hs, _ => by
    cases h; obtain ⟨t, rfl⟩ := r
    exact ⟨_, [], .int i t, (fun _ z => nomatch z), by simp only [PyData.shown]; exact .of_is (ReprIs.int t (by simpa only [PyData.showable, decide_eq_true_eq] using hs)) _ _ _⟩
  | .str x, _, _, h, r, _, hz => by
    cases h; obtain ⟨t, rfl⟩ := r
    exact ⟨_, [], .str x t, (fun _ z => nomatch z), by simp only [PyData.shown]; exact .of_is (ReprIs.str x t (by simpa only [PyData.shown] using hz)) _ _ _⟩
  | .list ds, _, _, h, r, hs, hz => by
    cases h with
    | lst h1 h2 =>
      cases r
      obtain ⟨its, rv, ⟨o, n, ho, hc, _, hd⟩, _⟩ := I.list (.inl (.inr ⟨_, h1⟩))
      have hz1 : (listText (PyData.shownAll ds)).length ≤ sizeLine := by simpa only [PyData.shown] using hz
      obtain ⟨as, bs, rd, hb, hk⟩ := shwFAll_of I ds _ its h2 rv (by simpa only [PyData.showable] using hs) fun t ht => Nat.le_trans (listText_mem_le ht) hz1
      have rr : Reads s.heap (.ref _) (.list ds) _ := .list ho hc hd rd
      have na := not_mem_of_deeper rr (by simp only [PyData.depth]; omega) hb
      refine ⟨_, _ :: bs, rr, ReadAtMost.cons rr (by simp only [PyData.depth]; omega) hb, ?_⟩
      simp only [PyData.depth, PyData.shown]
      cases its with
      | nil =>
        cases rd
        simp only [PyData.shownAll, listText_nil]
        exact ReprK.listEmpty ho hc hd
      | cons y l => exact ReprK.list ho hc hd na (by simpa using hk.length_eq) fun i y e => hk.item i y (by simpa using e)
  | .tuple ds, _, _, h, r, hs, hz => by
    cases h with
    | tup h1 h2 =>
      cases r
      obtain ⟨its, rv, ⟨o, ho, hc, n, hd⟩, _⟩ := I.tuple h1.sqT
      have hz1 : (tupleText (PyData.shownAll ds)).length ≤ sizeLine := by simpa only [PyData.shown] using hz
      obtain ⟨as, bs, rd, hb, hk⟩ := shwFAll_of I ds _ its h2 rv (by simpa only [PyData.showable] using hs) fun t ht => Nat.le_trans (tupleText_mem_le ht) hz1
      have rr : Reads s.heap (.ref _) (.tuple ds) _ := .tuple ho hc hd rd
      have na := not_mem_of_deeper rr (by simp only [PyData.depth]; omega) hb
      refine ⟨_, _ :: bs, rr, ReadAtMost.cons rr (by simp only [PyData.depth]; omega) hb, ?_⟩
      simp only [PyData.depth, PyData.shown]
      exact ReprK.tuple ho hc hd na hk
  | .dict es, _, _, h, r, hs, hz => by
    cases h with
    | @dct a o0 kvs _ h1 h2 =>
      cases r
      obtain ⟨e0, ok⟩ := I.hok _ _ h1
      obtain ⟨_, hm, vs, rel, dd⟩ := ok
      obtain ⟨o2, es2, ep, g1, g2, g3⟩ := dd
      have hz1 : (dictText (PyData.shownKv es)).length ≤ sizeLine := by simpa only [PyData.shown] using hz
      obtain ⟨as, bs, cs, k1, k2, k3, k4⟩ := shwFKv_of I es kvs vs es2.toList h2 rel g3.2.2.1 (by simpa only [PyData.showable] using hs) fun t ht => Nat.le_trans (dictText_mem_le ht) hz1
      have rr : Reads s.heap (.ref _) (.dict es) _ := .dict g1 g2.1 g3.1 k1 k2
      have na := not_mem_of_deeper rr (by simp only [PyData.depth]; omega) k3
      refine ⟨_, _ :: cs, rr, ReadAtMost.cons rr (by simp only [PyData.depth]; omega) k3, ?_⟩
      simp only [PyData.depth, PyData.shown]
      exact ReprK.dict g1 g2.1 g3.1 hm na k4
theorem shwFAll_of (I : Inv X pins σ H s) : ∀ (ds : List D) (vs : List V) (us : List Value), IsAll X.K H vs ds → Vals vs us → PyData.showableAll ds = true → (∀ t ∈ PyData.shownAll ds, t.length ≤ sizeLine) → ShwAll X.prog X.w s.heap us ds
  | [], _, _, h, r, _, _ => by
    cases h; cases r
    exact ⟨_, [], .nil, (fun _ z => nomatch z), by simp only [PyData.shownAll]; exact .nil⟩
  | d :: ds, _, _, h, r, hs, hz => by
    cases h with
    | cons h1 h2 =>
      cases r with
      | cons r1 r2 =>
        have hs1 : d.showable = true ∧ PyData.showableAll ds = true := by simpa only [PyData.showableAll, Bool.and_eq_true] using hs
        obtain ⟨as, bs, k1, k2, k3⟩ := shwF_of I d _ _ h1 r1 hs1.1 (hz _ (by simp only [PyData.shownAll]; exact .head _))
        obtain ⟨as', bs', l1, l2, l3⟩ := shwFAll_of I ds _ _ h2 r2 hs1.2 fun t ht => hz t (by simp only [PyData.shownAll]; exact .tail _ ht)
        refine ⟨_, bs ++ bs', .cons k1 l1, (k2.mono (by simp only [PyData.depthAll]; omega)).append (l2.mono (by simp only [PyData.depthAll]; omega)), ?_⟩
        simp only [PyData.depthAll, PyData.shownAll]
        exact .cons ((k3.more fun b hb => List.mem_append.mpr (.inl hb)).level_le (Nat.le_max_left ..)) (l3.more_le (fun b hb => List.mem_append.mpr (.inr hb)) (Nat.le_max_right ..))
theorem shwFKv_of (I : Inv X pins σ H s) : ∀ (es : List (D × D)) (kvs : List (Key × V)) (vs : List (Key × Value)) (en : List DictEntry), IsKv X.K H kvs es → KV kvs vs → Pairs (mixKind X.prog X.w) en vs → PyData.showableKv es = true → (∀ t ∈ PyData.shownKv es, t.length ≤ sizeLine) →
    ∃ as bs cs, ReadsAll s.heap (en.map (·.key)) (es.map (·.1)) as ∧ ReadsAll s.heap (en.map (·.val)) (es.map (·.2)) bs ∧ ReadAtMost s.heap (PyData.depthKv es) cs ∧ ReprEntriesK X.prog X.w cs s.heap (PyData.depthKv es) en (PyData.shownKv es)
  | [], _, _, _, h, r, p, _, _ => by
    cases h; cases r; cases p
    exact ⟨[], [], [], .nil, .nil, (fun _ z => nomatch z), by simp only [PyData.shownKv]; exact .nil⟩
  | (_, d) :: es, _, _, _, h, r, p, hs, hz => by
    cases h with
    | @cons k v kvs _ _ h1 h2 =>
      cases r with
      | cons r1 r2 =>
        rename_i q vs'
        obtain ⟨qk, qv⟩ := q
        obtain ⟨e1, r1⟩ := r1
        simp only at e1 r1
        subst e1
        cases p with
        | @cons e _ en _ p1 p2 p3 =>
          simp only at p1 p2
          have hs1 : ((keyD k).showable = true ∧ d.showable = true) ∧ PyData.showableKv es = true := by simpa only [PyData.showableKv, Bool.and_eq_true] using hs
          have hz0 := hz _ (by simp only [PyData.shownKv]; exact .head _)
          have lc := len_cat3 (keyD k).shown d.shown
          have rk : RelV (kV k) e.key ∧ Is X.K H (kV k) (keyD k) := by
            rcases keyIs_shape (k := k) (v := e.key) p1 with ⟨i, t, rfl, e2⟩ | ⟨x, t, rfl, e2⟩
            · rw [e2]; exact ⟨⟨t, rfl⟩, .int i⟩
            · rw [e2]; exact ⟨⟨t, rfl⟩, .str x⟩
          obtain ⟨a0, b0, k1, k2, k3⟩ := shwF_of I (keyD k) (kV k) e.key rk.2 rk.1 hs1.1.1 (Nat.le_trans lc.1 hz0)
          obtain ⟨a1, b1, m1, m2, m3⟩ := shwF_of I d v e.val h1 (by rw [p2]; exact r1) hs1.1.2 (Nat.le_trans lc.2 hz0)
          obtain ⟨as, bs, cs, l1, l2, l3, l4⟩ := shwFKv_of I es kvs vs' en h2 r2 p3 hs1.2 fun t ht => hz t (by simp only [PyData.shownKv]; exact .tail _ ht)
          refine ⟨_, _, b0 ++ b1 ++ cs, .cons k1 l1, .cons m1 l2, ?_, ?_⟩
          · exact ((k2.mono (by simp only [PyData.depthKv]; omega)).append (m2.mono (by simp only [PyData.depthKv]; omega))).append (l3.mono (by simp only [PyData.depthKv]; omega))
          · simp only [PyData.depthKv, PyData.shownKv]
            have lift : ∀ {es : List DictEntry} {ps : List Str} {c1 c2 : List Addr} {d1 d2 : Nat}, (∀ b ∈ c1, b ∈ c2) → d1 ≤ d2 → ReprEntriesK X.prog X.w c1 s.heap d1 es ps → ReprEntriesK X.prog X.w c2 s.heap d2 es ps := by
              intro es ps c1 c2 d1 d2 hc hd h
              induction h with
              | nil => exact .nil
              | cons x y _ ih => exact .cons ((x.more hc).level_le hd) ((y.more hc).level_le hd) ih
            exact .cons ((k3.more fun b hb => List.mem_append.mpr (.inl (List.mem_append.mpr (.inl hb)))).level_le (by omega)) ((m3.more fun b hb => List.mem_append.mpr (.inl (List.mem_append.mpr (.inr hb)))).level_le (by omega)) (lift (fun b hb => List.mem_append.mpr (.inr hb)) (by omega) l4)
end
end
section
variable {X : Cx}
def reprFL : List D → Option D
  | [d] => if (d.showable && decide (d.depth ≤ 100) && decide (d.shown.length ≤ sizeLine)) = true then some (.str d.shown) else none
  | _ => none
theorem cr_reprF (hg : Gd X.A) (hu : X.A.units + 120 < cLine) : CallR X (.builtin "repr") (rCl X.K reprFL) := by
  intro pins s σ H xs us Q I r h
  obtain ⟨ds, r', hd, hr, q⟩ := h
  cases hd with
  | nil => exact nomatch hr
  | @cons v vs d ds h1 h2 =>
    cases h2 with
    | cons _ _ => exact nomatch hr
    | nil =>
      obtain ⟨u, rfl, ru⟩ := vals1 r
      have hr : (if (d.showable && decide (d.depth ≤ 100) && decide (d.shown.length ≤ sizeLine)) = true then some (PyData.str d.shown) else none) = some r' := hr
      split at hr
      · rename_i hz
        simp only [Bool.and_eq_true, decide_eq_true_eq] at hz
        obtain ⟨⟨z1, z3⟩, z4⟩ := hz
        cases hr
        have fin : ∀ h' u' tk, (∀ b o, s.heap.get? b = some o → h'.get? b = some o) → EP X pins σ Q (.str d.shown u') { s with heap := h', toks := tk } := fun h' u' tk hk => ⟨.str _, H, I.kept (t' := tk) hk, ⟨_, rfl⟩, q _ H (Same.refl H) (.str _)⟩
        cases h1 with
        | non => cases ru; exact P.repr_of_none (fin _ _ (s.toks + 1) fun _ _ e => e)
        | bl i => cases ru; exact P.repr_of_bool (fin _ _ (s.toks + 1) fun _ _ e => e)
        | int i =>
          obtain ⟨t, rfl⟩ := ru
          exact P.repr_of_int (of_decide_eq_true z1) (fin _ _ (s.toks + 1) fun _ _ e => e)
        | str i =>
          obtain ⟨t, rfl⟩ := ru
          exact P.repr_of_str (fin _ _ (s.toks + 1) fun _ _ e => e) z4
        | @lst a o xs ds g1 g2 =>
          cases ru
          obtain ⟨its, rv, ⟨o, n, ho, hc, _, hd⟩, _⟩ := I.list (.inl (.inr ⟨_, g1⟩))
          have hz1 : (listText (PyData.shownAll ds)).length ≤ sizeLine := by simpa only [PyData.shown] using z4
          obtain ⟨as, bs, rd, hb, hk⟩ := shwFAll_of I ds _ its g2 rv (by simpa only [PyData.showable] using z1) fun t ht => Nat.le_trans (listText_mem_le ht) hz1
          have rr : Reads s.heap (.ref a) (.list ds) _ := .list ho hc hd rd
          have na := not_mem_of_deeper rr (by simp only [PyData.depth]; omega) hb
          have hdp : 1 + PyData.depthAll ds ≤ 100 := by have := z3; simp only [PyData.depth] at this; omega
          simp only [PyData.shown] at fin
          refine call_repr_slot (by omega) (show s.TypeIs (.ref a) "list" from ⟨o, ho, hc⟩) F.slot_list_repr.toG ?_
          cases its with
          | nil =>
            cases rd
            simp only [PyData.shownAll, listText_nil] at fin
            exact call_list_repr_empty ⟨o, ho, hc⟩ ho hd ⟨_, _, rfl, fin _ _ _ fun _ _ e => e⟩
          | cons y l => exact call_list_reprK ho hc hd na (by simpa using hk.length_eq) (fun i y e => hk.item i y (by simpa using e)) hg (fun b _ => Clear.nil b) (by show X.A.units + 1 + _ < _; omega) (fun _ _ e => e) (fun h' u tk hk => ⟨_, _, rfl, fin h' u tk hk⟩) hz1
        | @tup a xs ds g1 g2 =>
          cases ru
          obtain ⟨its, rv, ⟨o, ho, hc, n, hd⟩, _⟩ := I.tuple g1.sqT
          have hz1 : (tupleText (PyData.shownAll ds)).length ≤ sizeLine := by simpa only [PyData.shown] using z4
          obtain ⟨as, bs, rd, hb, hk⟩ := shwFAll_of I ds _ its g2 rv (by simpa only [PyData.showable] using z1) fun t ht => Nat.le_trans (tupleText_mem_le ht) hz1
          have rr : Reads s.heap (.ref a) (.tuple ds) _ := .tuple ho hc hd rd
          have na := not_mem_of_deeper rr (by simp only [PyData.depth]; omega) hb
          have hdp : 1 + PyData.depthAll ds ≤ 100 := by have := z3; simp only [PyData.depth] at this; omega
          simp only [PyData.shown] at fin
          refine call_repr_slot (by omega) (show s.TypeIs (.ref a) "tuple" from ⟨o, ho, hc⟩) F.slot_tuple_repr ?_
          exact call_tuple_reprK ho hc hd na hk hg (fun b _ => Clear.nil b) (by show X.A.units + 1 + _ < _; omega) (fun _ _ e => e) (fun h' u tk hk => ⟨_, _, rfl, fin h' u tk hk⟩) hz1
        | @dct a o kvs es g1 g2 =>
          cases ru
          obtain ⟨e0, ok⟩ := I.hok _ _ g1
          obtain ⟨_, hm, vs, rel, dd⟩ := ok
          obtain ⟨o2, es2, ep, f1, f2, f3⟩ := dd
          have hz1 : (dictText (PyData.shownKv es)).length ≤ sizeLine := by simpa only [PyData.shown] using z4
          obtain ⟨as, bs, cs, k1, k2, k3, k4⟩ := shwFKv_of I es kvs vs es2.toList g2 rel f3.2.2.1 (by simpa only [PyData.showable] using z1) fun t ht => Nat.le_trans (dictText_mem_le ht) hz1
          have rr : Reads s.heap (.ref a) (.dict es) _ := .dict f1 f2.1 f3.1 k1 k2
          have na := not_mem_of_deeper rr (by simp only [PyData.depth]; omega) k3
          have hdp : PyData.depthKv es + 1 ≤ 100 := by have := z3; simp only [PyData.depth] at this; omega
          simp only [PyData.shown] at fin
          refine call_repr_slot (by omega) (show s.TypeIs (.ref a) "dict" from ⟨o2, f1, f2.1⟩) F.slot_dict_repr ?_
          exact call_dict_reprK f1 f2.1 f3.1 hm na k4 hg (fun b _ => Clear.nil b) (by show X.A.units + 1 + _ < _; omega) (fun _ _ e => e) (fun h' u tk hk => ⟨_, _, rfl, fin h' u tk hk⟩) hz1
      · cases hr
end
end DL
namespace DL
open PySem PySem.Spec PyProof.Rows L2
/-! ### errors of own classes: made, raised, caught, asked, by hand -/
/-- an own class whose __init__ is ValueError's -/
structure BaseC (K : PySem.W.Frag) (B : Addr) (mc : Value) : Prop where
  rd : PySem.W.readsIn K B mc = true
  ga : PySem.W.specialIn K (.ref B) "__getattribute__" = some (some (.builtin "type.__getattribute__"))
  at_ : PySem.W.findCls K (.ref B) mc "__init__" = some (.val (.builtin "ValueError.__init__"))
section
variable {X : Cx} {e : Expr} {es : List Expr} {ta : TA} {p1 p2 pos : Pos}
theorem pe_binit {x : Str} {B : Addr} {mc : Value} {pl : Sem Bool} (T0 : BaseC X.K B mc) (hg : Gl X x) (hm : X.mg x = some (.ref B)) (ha : PA X (e :: es) ta) (hdb : (x == ("__debug__" : Str)) = false := by decide)
    (hc : eval (.Call (.Attribute (.Name x p1) "__init__" p2) (e :: es) [] pos) X.env = (do
      let ov ← eval (.Name x p1) X.env
      standAt p2.atName
      let (f, first) ← holding [ov] (getMethod ov "__init__" pl)
      callWith pos f first (backTo pos (starEach (e :: es) X.env)) (backToKw pos (keywordEach [] X.env))) := by rfl)
    (he : starEach (e :: es) X.env = (false, eval e X.env) :: starEach es X.env := by rfl) (hpl : (backTo pos (starEach es X.env)).any (·.1) = false := by rfl) :
    PE X (.Call (.Attribute (.Name x p1) "__init__" p2) (e :: es) [] pos) (tVeI X.K ta) := by
  refine ⟨fun pins s σ H Q I h => ?_⟩
  refine PySem.W.methodCall_KW (ld_glob I hg hm ?_ hdb) hc
  refine PySem.W.method_cls I.kIn T0.ga (PySem.W.cls_value I.kIn T0.rd T0.at_ (by rfl) ?_)
  show wpAny _ _ (callWith pos (Value.builtin "ValueError.__init__") [] (backTo pos (starEach (e :: es) X.env)) []) _ _ _
  refine PyProof.Rows.callWith_method1 (thn (ha.run pos pins _ σ H _ (I.tok _) h) fun us s1 ⟨vs, H1, I1, r1, a, C, ws, ev, hl, T, ea, q⟩ => ?_) he hpl
  subst ev
  cases r1 with
  | @cons _ u0 _ ur ra rw' =>
    obtain rfl : u0 = Value.ref a := ra
    have hlen : ur.length ≤ sizeLine := by
      rw [← Paired.length rw', sizeLine_eq]
      omega
    exact oinit_ok T I1 ea hlen fun s' J => ⟨.non, H1, J, rfl, q⟩
end
end DL
namespace PySem.W
open PySem PySem.Spec PySem.Calls PyProof.Rows
section
variable {prog : Program} {w : World} {A : Around} {E : Value → Shared → Prop} {s : Shared} {K : Frag} {x D : Addr} {ox : Obj} {od : Option Obj}
theorem findObj_dataD {C : Addr} {name : Str} {a g : Value} (hc : (clsIn K C).isSome = true) (ha : findIn K (.ref C) name = some (some a)) (hg : specialIn K a "__get__" = some (some g)) (ht : takesIn K a = some true) : findObj K C od name = some (.bind g a) := by
  obtain ⟨cd, hc⟩ := Option.isSome_iff_exists.mp hc
  unfold findObj
  rw [hc, Option.bind_some, ha, Option.bind_some]
  simp [hg, ht]
theorem kin_classD {Q : Option Value → Shared → Prop} (hga : findIn K (.ref D) "__getattribute__" = some (some (.builtin "BaseException.__getattribute__"))) (hgt : findIn K (.ref D) "__getattr__" = some none) (hsub : subIn K (.ref D) (.type "BaseException") = some true)
    (hdct : hasDictIn K D = true) (ha : findIn K (.ref D) "__class__" = some (some (.builtin "object.__class__")))
    (hn : specialIn K (.builtin "object.__class__") "__get__" = some (some (.builtin "getset_descriptor.__get__"))) (htk : takesIn K (.builtin "object.__class__") = some true) (hm : mroIn K D (.type "object") = some true)
    (X : K.In s.heap) (I : InstAt s.heap x ox D od) (h : Q (some (.ref D)) { s with toks := s.toks + 1 }) : wpAny (model prog w) A (getAttr? (.ref x) "__class__") Q E s := by
  have hf : findObj K D od "__class__" = some (.bind (.builtin "getset_descriptor.__get__") (.builtin "object.__class__")) := findObj_dataD (by obtain ⟨cd, hc, _⟩ := any_some hdct; rw [hc]; rfl) ha hn htk
  obtain ⟨hp, g, d, t, os⟩ := s
  have L0 := I.type (M := model prog w)
  have L1 := looks_findIn (M := model prog w) X hga
  have L2 := looks_findIn (M := model prog w) X hgt
  have L3 := looks_find (M := model prog w) X I hf
  have sub : Looks (model prog w) hp (isInstance (.ref x) (.type "BaseException")) true := L0.andThen (looks_subIn X hsub)
  have hx0 : (false && onTheHeap (Value.builtin "BaseException.__getattribute__")) = false := rfl
  have hx2 : (Value.builtin "BaseException.__getattribute__" == Value.builtin "object.__getattribute__") = false := by decide +kernel
  have hx1 : (onTheHeap (Value.ref D) && Value.builtin "BaseException.__getattribute__" == Value.builtin "object.__getattribute__") = false := by rw [hx2]; rfl
  unfold getAttr? getAttrBy? getAttrBy
  refine wpAny_bind (wpAny_mkText (wpAny_bind (wpAny_attempt (wpAny_holding (wpAny_bind (L0.at (wpAny_bind (L1.at ?_))))))))
  show wpAny _ _ (if (onTheHeap (Value.ref D) && Value.builtin "BaseException.__getattribute__" == Value.builtin "object.__getattribute__") = true then _ else _) _ _ _
  rw [hx1, if_neg Bool.false_ne_true]
  unfold getAttrByItsOwn hookBefore
  refine wpAny_bind ?_
  rw [if_pos (show onTheHeap (Value.ref D) = true from rfl)]
  refine L2.at ?_
  refine wpAny_bind (wpAny_attempt (wpAny_holding ?_))
  unfold callGetattribute
  rw [hx0, if_neg Bool.false_ne_true]
  unfold boundAndCalled
  rw [PySem.F.excAttr_ValueError.ga.bind (.ref x)]
  refine wpAny_bind (wpAny_pure ?_)
  show wpAny _ _ (call (.builtin "BaseException.__getattribute__") [.ref x, .str "__class__" t]) _ _ _
  refine wpAny_call (codeAny_call_builtin PySem.F.excAttr_ValueError.ga.plain PySem.F.entry_bexc_ga ?_)
  refine @check_slot (model prog w) _ _ ⟨hp, g, d, t + 1, os⟩ "BaseException.__getattribute__" "BaseException" "__getattribute__" (.ref x) [.str "__class__" t] [] _ (by decide +kernel) (by decide +kernel) sub (PySem.F.args_bexc_ga (.ref x) (.str "__class__" t)) ?_
  unfold Builtin.«object.__getattribute__»
  refine wpAny_bind (wpAny_of_eq (a := ((Value.ref x : Value), [Value.str "__class__" t])) (by first | rfl | (simp only [slotArgs]; rfl)) ?_)
  refine wpAny_bind (wpAny_pure (wpAny_bind (L0.at (wpAny_bind (L3.at ?_)))))
  show wpAny _ _ (holding [Value.builtin "object.__class__"] (call (.builtin "getset_descriptor.__get__") [.builtin "object.__class__", .ref x, .ref D]) >>= ret) _ _ _
  refine wpAny_bind (wpAny_holding (wpAny_call (class_get (s := ⟨hp, g, d, t + 1, os⟩) (ox := ox) (od := od) X I hm ?_)))
  refine wpAny_pure ?_
  show wpAny _ _ (handedOut (.ref D)) _ _ _
  rw [handedOut_of (v := .ref D) rfl]
  first
    | exact wpAny_pure (wpAny_pure h)
    | exact wpAny_pure h
    | exact wpAny_pure (wpAny_bind (wpAny_pure (wpAny_pure h)))
theorem kitx_excD (hga : findIn K (.ref D) "__getattribute__" = some (some (.builtin "BaseException.__getattribute__"))) (hgt : findIn K (.ref D) "__getattr__" = some none) (hsub : subIn K (.ref D) (.type "BaseException") = some true) (hdct : hasDictIn K D = true) (ha : findIn K (.ref D) "__class__" = some (some (.builtin "object.__class__")))
    (hn : specialIn K (.builtin "object.__class__") "__get__" = some (some (.builtin "getset_descriptor.__get__"))) (htk : takesIn K (.builtin "object.__class__") = some true) (hm : mroIn K D (.type "object") = some true) :
    KitX K (.ref x) (.ref D) (fun h => ∃ od, InstAt h x ox D od) where
  ty := fun _ _ _ ⟨_, I⟩ => I.type
  it := fun _ _ X _ => by
    obtain ⟨cdD, hcD, _⟩ := any_some hdct
    unfold clsIn at hcD
    split at hcD
    · rename_i c' d' cd' sl' ho
      intro A' Q' E' s' k q
      unfold isType loadHead
      exact wpAny_bind (wpAny_loadPart (k _ _ (X _ _ ho)) (wpAny_pure q))
    · cases hcD
  ne := fun h tp dd its n sl X htp => by
    obtain ⟨cdD, hcD, _⟩ := any_some hdct
    refine Bool.eq_false_iff.mpr fun q => ?_
    have e : D = tp := Value.ref.inj (beq_iff_eq.mp q)
    subst e
    unfold clsIn at hcD
    split at hcD
    · rename_i c' d' cd' sl' ho
      have z := (X _ _ ho).symm.trans htp
      cases z
    · cases hcD
  ca := fun X ⟨_, I⟩ k => kin_classD hga hgt hsub hdct ha hn htk hm X I k
end
end PySem.W
namespace DL
open PySem PySem.Spec PyProof.Rows L2
/-- the caught exception, held by the context -/
structure Cau (X : Cx) (a : Addr) (cls : Value) (d : Option Addr) : Prop where
  at_ : ∃ oe, (a, oe) ∈ X.pn ∧ Zc cls d oe ∧ ∃ vs, oe.data = .fields vs
theorem Cau.inst {X : Cx} {a C dd : Addr} {pins : List (Addr × Obj)} {σ : Sg} {H : Hp} {s : Shared} {fs : List (Str × V)} (c : Cau X a (.ref C) (some dd)) (I : Inv X pins σ H s) (h : H dd = some (.xd fs)) :
    ∃ (oe od : Obj), PySem.W.InstAt s.heap a oe C (some od) := by
  obtain ⟨oe, hm, hz, vs, hd⟩ := c.at_
  obtain ⟨ha, _⟩ := I.pin (a, oe) (List.mem_append_left _ hm)
  have hx : ObjOk X.prog X.w H s.heap dd (.xd fs) := I.hok dd _ h
  obtain ⟨mA, hns, hr⟩ := hx
  obtain ⟨od, ho, hl⟩ := lookIn_ns hns
  exact ⟨oe, od, ha, hz.1, by unfold PySem.W.notCls; rw [hd] <;> rfl, by rw [hz.2]; exact ho⟩
/-- isinstance(e, c) of it: c a class, or a tuple of classes -/
def rIsX (K : PySem.W.Frag) (C a dd : Addr) : List V → Hp → VK → Prop := fun xs H Q => ∃ (c : V) (b : Bool), xs = [.ref a, c] ∧ (∃ fs, H dd = some (.xd fs)) ∧
  ((∃ cv : Value, (∀ u, RelV c u → u = cv) ∧ PySem.W.kitOne K (.ref C) cv = some b) ∨ ∃ (t : Addr) (ds : List Addr), c = .ref t ∧ SqT K H t (ds.map V.ref) ∧ PySem.W.kitAny K (.ref C) (ds.map Value.ref) = some b) ∧ Q (.bl b) H
theorem call_isX {X : Cx} {a C dd : Addr} (T : ExcC X.K C) (c : Cau X a (.ref C) (some dd)) : CallR X (.builtin "isinstance") (rIsX X.K C a dd) := by
  intro pins s σ H xs us Q I r h
  obtain ⟨cl, b, rfl, ⟨fs, hfs⟩, hc, q⟩ := h
  obtain ⟨oe, od, J⟩ := c.inst I hfs
  have Z := PySem.W.kitx_excD (x := a) (ox := oe) T.hg T.hk T.hs T.hd T.ha T.hn T.ht T.hm
  obtain ⟨u0, u1, rfl, r0, r1⟩ := vals2 r
  obtain rfl : u0 = Value.ref a := r0
  rcases hc with ⟨cv, hcv, e⟩ | ⟨t, ds, rfl, ht, e⟩
  · have ec := hcv _ r1
    subst ec
    exact PySem.W.kia_one Z I.kIn ⟨_, J⟩ e (fun z => nomatch z) fun tk => ⟨.bl b, H, I.kept (t' := tk) fun _ _ z => z, rfl, q⟩
  · obtain rfl : u1 = Value.ref t := r1
    obtain ⟨its, rv, ht, _⟩ := I.tuple ht
    have ei := refs_at rv
    subst ei
    obtain ⟨o, h1, h2, n, h4⟩ := ht
    obtain ⟨oc, od', oda, osl⟩ := o
    dsimp only at h2 h4
    subst h2 h4
    exact PySem.W.kia_tup Z I.kIn ⟨_, J⟩ h1 e (fun z => nomatch z) fun tk => ⟨.bl b, H, I.kept (t' := tk) fun _ _ z => z, rfl, q⟩

/-- its field -/
theorem pe_xfD {X : Cx} {a C : Addr} {cls : Value} {d : Option Addr} {e : Expr} {te : TE} {pos : Pos} {n : Str} (T : XfC X.K C) (hno : PySem.W.findIn X.K (.ref C) n = some none) (c : Cau X a cls d)
    (he : PE X e te) (hb : attributeBase e n X.env (eval e X.env) = eval e X.env := by rfl) : PE X (.Attribute e n pos) (tXf a cls d C n te) := by
  refine ⟨fun pins s σ H Q I h => ?_⟩
  refine attr_of hb (thn (he.run pins s σ H _ I h) fun u s1 hh => ?_)
  obtain ⟨x, H1, I1, rx, ex, ec, dd, fs, v, ed, ea, l, q⟩ := hh
  subst ex
  obtain rfl : u = Value.ref a := rx
  subst ec
  subst ed
  obtain ⟨oe, hm, hz, vs, hd⟩ := c.at_
  obtain ⟨ha, _⟩ := I1.pin (a, oe) (List.mem_append_left _ hm)
  have hx : ObjOk X.prog X.w H1 s1.heap dd (.xd fs) := I1.hok dd _ ea
  obtain ⟨mA, hns, hr⟩ := hx
  obtain ⟨od, ho, hl⟩ := lookIn_ns hns
  obtain ⟨u, hu, ru⟩ := RelO.some_of (v := v) (o := mA n) (by rw [← l]; exact hr n)
  have J : PySem.W.InstAt s1.heap a oe C (some od) := ⟨ha, hz.1, by unfold PySem.W.notCls; rw [hd] <;> rfl, by rw [hz.2]; exact ho⟩
  exact HandSPX.exc_get I1.kIn J T.ga T.gg T.exC (PySem.W.findObj_own T.hdC hno rfl (by rw [hl, hu])) (handed_of ru) ⟨v, H1, I1.tok _, ru, q⟩
/-! ### try: body, except x as n: suite, and what follows, which still holds the exception -/
def wAsT (K : PySem.W.Frag) (c : Value) (i : Nat) (ts tr : Addr → Value → Option Addr → TS) (Wout : WX) (D : Ends) : WX := fun cls d σ H =>
  ∃ b, PySem.W.exmOne K cls c = some b ∧ (b = true → ∀ a, H a = none → ts a cls d { nx := fun σ' H' => tr a cls d D (σ'.set i none) H', rt := D.rt, bk := fun σ' H' => D.bk (σ'.set i none) H', ct := fun σ' H' => D.ct (σ'.set i none) H' } (σ.set i (some (.ref a))) H) ∧
    (b = false → Wout cls d σ H)
section
variable {X : Cx} {pins : List (Addr × Obj)} {σ : Sg} {H : Hp} {s : Shared}
theorem untr {pn : List (Addr × Obj)} {a : Addr} (I : Inv (X.suite a pn) [] σ H s) (ok : X.Ok) : Inv (X.tr pn X.xe) [] σ H s :=
  ⟨ok.toTry _ _, I.os, I.bare, I.base, I.loc, I.cell, I.free, I.freeC, fun p hp => I.pin p hp, I.hok, I.len⟩
theorem dropT {q : Addr × Obj} (I : Inv (X.tr (q :: (X.pn ++ pins)) X.xe) [] σ H s) (ok : X.Ok) : Inv X pins σ H s :=
  ⟨ok, I.os, I.bare, I.base, I.loc, I.cell, I.free, I.freeC, fun p hp => I.pin p (List.mem_append_left _ (List.mem_cons_of_mem _ hp)), I.hok, I.len⟩
theorem dropSP {q : Addr × Obj} {D : Ends} {f : Flow} (ok : X.Ok) (h : SP (X.tr (q :: (X.pn ++ pins)) X.xe) [] D f s) : SP X pins D f s := by
  cases f with
  | next => obtain ⟨σ', H', I, q⟩ := h; exact ⟨σ', H', dropT I ok, q⟩
  | brk => obtain ⟨σ', H', I, q⟩ := h; exact ⟨σ', H', dropT I ok, q⟩
  | cont => obtain ⟨σ', H', I, q⟩ := h; exact ⟨σ', H', dropT I ok, q⟩
  | ret u => obtain ⟨v, σ', H', I, r, q⟩ := h; exact ⟨v, σ', H', dropT I ok, r, q⟩
end
theorem cau_tr {X : Cx} {a : Addr} {oe : Obj} {cls : Value} {d : Option Addr} {pn : List (Addr × Obj)} {xe : Value → Shared → Prop} (hz : Zc cls d oe) (hf : ∃ vs, oe.data = .fields vs) : Cau (X.tr ((a, oe) :: pn) xe) a cls d :=
  ⟨oe, List.mem_cons_self, hz, hf⟩
section
variable {X : Cx} {x n : Str} {c : Value} {i : Nat} {body suite rest : List Stmt} {b₀ : Stmt} {np pos pos' : Pos} {tb : WX → TS} {ts tr : Addr → Value → Option Addr → TS} {t0 : TS} {Wout : WX}
theorem pss_try_then (hs : X.stack = X.env :: X.outer) (hf : X.env.frame = some X.env.locals) (hN : X.N.Nodup) (hi : X.N[i]? = some n) (hln : X.env.kindOf n = some .local) (hc : Names X x c) (tk : Takes X Wout)
    (hb : ∀ (W : WX) (pn : List (Addr × Obj)) (xe : Value → Shared → Prop), Takes (X.tr pn xe) W → PassesOwn (model X.prog X.w) X.A X.env xe → PSs (X.tr pn xe) body (tb W))
    (hsu : ∀ (a : Addr) (oe : Obj) (cls : Value) (d : Option Addr) (pn : List (Addr × Obj)), Zc cls d oe → (∃ vs, oe.data = .fields vs) → PSs (X.suite a ((a, oe) :: pn)) (b₀ :: suite) (ts a cls d))
    (hr : ∀ (a : Addr) (oe : Obj) (cls : Value) (d : Option Addr) (pn : List (Addr × Obj)), Zc cls d oe → (∃ vs, oe.data = .fields vs) → PSs (X.tr ((a, oe) :: pn) X.xe) rest (tr a cls d)) (hr0 : PSs X rest t0) :
    PSs X (.Try body [.ExceptHandler (some (.Name x np)) (some n) (b₀ :: suite) pos'] [] [] pos :: rest) (fun D σ H => tb (wAsT X.K c i ts tr Wout D) { D with nx := t0 D } σ H) := by
  refine ⟨fun pins s σ H D I h => ?_⟩
  have ok := I.ok
  have hfr : X.A.frames = some (X.env :: X.outer) := by rw [ok.frames, hs]
  have hloc : Loc X.env.scope n := .inl hln
  refine wpAny_execs_cons ?_
  refine wpAny_Try_except ?_
  let PP : Flow → Shared → Prop := fun f s1 => match f with | .next => wpAny (model X.prog X.w) X.A (execs rest X.env) (SP X pins D) X.xe s1 | f => SP X pins D f s1
  have goP : ∀ {f s1}, PP f s1 → (match f with | .next => wpAny (model X.prog X.w) X.A (execs rest X.env) (SP X pins D) X.xe s1 | f => SP X pins D f s1) := fun h => h
  refine wpAny_mono ((hb (wAsT X.K c i ts tr Wout D) (X.pn ++ pins) (fun e s₁ => wpAny (model X.prog X.w) X.A (noteFrame e X.env) (fun _ s₂ => wpAny (model X.prog X.w) X.A (setFlight e none) (fun _ s₃ =>
    wpAny (model X.prog X.w) X.A (handleBy e X.env [.ExceptHandler (some (.Name x np)) (some n) (b₀ :: suite) pos']) (fun f s1 => match f with | .next => wpAny (model X.prog X.w) X.A (execs rest X.env) (SP X pins D) X.xe s1 | f => SP X pins D f s1) X.xe s₃) X.xe s₂) X.xe s₁) (fun u s' xx => ?_) PassesOwn.looking).run [] s σ H { D with nx := t0 D } (I.toTry _) h) (fun f s1 hsp => ?_) (fun e s1 he => ?_)
  · obtain ⟨a, B, sI, pins', σ', H', cls, d, rfl, J', nb, up, sky, na, os, ag, b, hb1, hyes, hno⟩ := xx
    have J : Inv X pins σ' H' sI := J'.ofTry ok
    have sky' : Sky B (X.env :: X.outer) a (Zc cls d) X.env.locals s'.heap := by rw [← hs]; exact sky
    show wpAny (model X.prog X.w) X.A (noteFrame (.ref a) X.env) _ _ _
    refine Sky.land Zc.steady hfr hf sky' fun h3 fl3 up3 => ?_
    have J3 : Inv X pins σ' H' { s' with heap := h3 } := J.landed nb fl3.1 (up.trans up3) os ag
    obtain ⟨oe3, vs3, he3, hz3, hd3⟩ := fl3.there
    have notFr : ∀ {h : Heap} {o : Obj} {vs : Array Value}, h.FunFrames B (X.env :: X.outer) → h.get? a = some o → o.data = .fields vs → a ∉ frs (X.env :: X.outer) := fun {h o vs} ff e dd hm => by
      obtain ⟨_, o', e', hnf⟩ := ff.mem hm
      rw [e] at e'; cases e'
      exact hnf _ dd
    have nfr := notFr fl3.2.2.1 he3 hd3
    have nL : a ≠ X.env.locals := fun z => nfr (List.mem_filterMap.mpr ⟨X.env, List.mem_cons_self, by rw [hf, z]⟩)
    have nF : a ∉ X.fs := fun hm => by
      obtain ⟨e, he, q⟩ := List.mem_filterMap.mp hm
      exact nfr (List.mem_filterMap.mpr ⟨e, List.mem_cons_of_mem _ he, q⟩)
    have S3 := J3.suite he3 hd3 na nL nF
    refine wpAny_handleBy_cons (codeAny_handlers_test ?_) (by intro q; cases q)
    have LT : PySem.W.Looks (model X.prog X.w) h3 (typeOf (.ref a)) cls := fun A Q E s k q => wpAny_typeOf_ref (k _ _ he3) (by rw [hz3.1]; exact q)
    have LM := PySem.W.exm_one (M := model X.prog X.w) (J3.kIn) LT hb1
    have test : ∀ {Q : Value → Shared → Prop} {E : Value → Shared → Prop}, Q c { s' with heap := h3 } → wpAny (model X.prog X.w) (X.A.mark (some (.ref a))) (eval (.Name x np) X.env) Q E { s' with heap := h3 } := fun {Q E} q => by
      obtain ⟨hg, hdbg, hm | ⟨hm, hv, hnn⟩⟩ := hc
      · exact ld_glob (X := X.suite a ((a, oe3) :: (X.pn ++ pins))) S3 hg hm q hdbg
      · exact ld_blt (X := X.suite a ((a, oe3) :: (X.pn ++ pins))) S3 hg hm hv q hnn hdbg
    refine test (LM.here ?_)
    cases b with
    | true =>
      refine codeAny_handlers_suite_as ?_
      refine HandSPX.lands_againZ fl3 fun h4 fl4 up4 => ?_
      have J4 : Inv X pins σ' H' { s' with heap := h4 } := J.landed nb fl4.1 ((up.trans up3).trans up4) os ag
      obtain ⟨oe4, vs4, he4, hz4, hd4⟩ := fl4.there
      have S4 := J4.suite he4 hd4 na nL nF
      refine store_ok (X := X.suite a ((a, oe4) :: (X.pn ++ pins))) (v := .ref a) S4 hN hi hloc rfl (fun s5 S5 => ?_) (.inr hln)
      refine wpAny_mono ((hsu a oe4 cls d (X.pn ++ pins) hz4 ⟨_, hd4⟩).run [] s5 _ H' _ S5 (hyes rfl a na)) (fun f s6 hsp => ?_) (fun _ _ z => False.elim z)
      have end_ : ∀ {σ6 : Sg} {H6 : Hp} {Q : Shared → Prop}, Inv (X.suite a ((a, oe4) :: (X.pn ++ pins))) [] σ6 H6 s6 → (∀ s7, Inv (X.tr ((a, oe4) :: (X.pn ++ pins)) X.xe) [] (σ6.set i none) H6 s7 → Q s7) →
          wpAny (model X.prog X.w) X.A (do bindName X.env n .none; unbindBehindTheSuite X.env n pos') (fun _ s7 => Q s7) X.xe s6 := fun {σ6 H6 Q} S6 hq => gone_ok (X := X.tr ((a, oe4) :: (X.pn ++ pins)) X.xe) (untr S6 ok) hN hi hln hq
      cases f with
      | next =>
        obtain ⟨σ6, H6, S6, q6⟩ := hsp
        exact end_ S6 fun s7 J7 => wpAny_mono ((hr a oe4 cls d (X.pn ++ pins) hz4 ⟨_, hd4⟩).run [] s7 _ H6 D J7 q6) (fun f s8 h8 => dropSP ok h8) fun _ _ z => z
      | brk =>
        obtain ⟨σ6, H6, S6, q6⟩ := hsp
        exact end_ S6 fun s7 J7 => ⟨_, _, dropT J7 ok, q6⟩
      | cont =>
        obtain ⟨σ6, H6, S6, q6⟩ := hsp
        exact end_ S6 fun s7 J7 => ⟨_, _, dropT J7 ok, q6⟩
      | ret u =>
        obtain ⟨v6, σ6, H6, S6, r6, q6⟩ := hsp
        exact end_ S6 fun s7 J7 => ⟨_, _, _, dropT J7 ok, r6, q6⟩
    | false =>
      show wpAny _ X.A (handleBy (.ref a) X.env []) _ _ _
      refine wpAny_handleBy_nil ?_
      obtain ⟨k1, k2, k3, oe, vs, T, oT, ts', he, hz, hd, h1, hr⟩ := id fl3
      unfold PySem.passOn
      refine wpAny_bind (wpAny_field he hd h1 ?_)
      rw [if_neg (show ¬ ((Value.ref T == Value.none) = true) from by simp)]
      have fin : wpAny (model X.prog X.w) X.A (setFlight (.ref a) X.env.frame) (fun _ s4 => wpAny (model X.prog X.w) X.A (throw (.ref a) : Sem Flow) (fun f s1 => match f with | .next => wpAny (model X.prog X.w) X.A (execs rest X.env) (SP X pins D) X.xe s1 | f => SP X pins D f s1) X.xe s4) X.xe { s' with heap := h3 } := by
        rw [hf]
        refine HandSPX.setFlight_upZ fl3 fun h4 hh4 up4 => wpAny_throw (tk _ _ ?_)
        exact ⟨a, B, sI, pins, σ', H', cls, d, rfl, J, nb, (up.trans up3).trans up4, .inr (.inr (by rw [hs]; exact hh4)), na, os, ag, hno rfl⟩
      first
        | exact wpAny_bind (wpAny_pure (wpAny_bind fin))
        | exact wpAny_bind fin
  · cases f with
    | next =>
      obtain ⟨σ', H', J', q⟩ := hsp
      exact wpAny_execs_nil (hr0.run pins s1 σ' H' D (J'.ofTry ok) q)
    | brk =>
      obtain ⟨σ', H', J', q⟩ := hsp
      exact ⟨σ', H', J'.ofTry ok, q⟩
    | cont =>
      obtain ⟨σ', H', J', q⟩ := hsp
      exact ⟨σ', H', J'.ofTry ok, q⟩
    | ret u =>
      obtain ⟨v, σ', H', J', r, q⟩ := hsp
      exact ⟨v, σ', H', J'.ofTry ok, r, q⟩
  · exact he
end
theorem pss_never {X : Cx} {l : List Stmt} : PSs X l (fun _ _ _ => False) := ⟨fun _ _ _ _ _ _ h => h.elim⟩
/-! ### a call that hands back data or a fresh list, which is then data -/
def rvD : Rv → D
  | .d d => d
  | .f ds => .list ds
def wCallA (n : Nat) (w : PN) (wa : LW) : DW := fun ρ Q => wa ρ fun ds ρ1 => ds.length = n ∧ w ds fun r => Q (rvD r) ρ1
section
variable {X : Cx} {c : Ctx} {CX : CXT} {k : Nat} {f : Addr} {fd : FuncData} {ps : List Str} {x : Str} {p pos : Pos} {E0' : XK} {e : Expr} {es : List Expr}
theorem de_callA {n : Nat} {w : PN} {wa : LW} (F : FnOk X.prog X.w X.K X.mg X.base CX k f fd ps (spN X.K n w)) (hr : Room k X.A) (hg : Gl X x) (hm : X.mg x = some (.ref f)) (hk : PySem.W.keepIn X.K (.ref f) = true) (hb : Binds X.K fd ps []) (hx : Passes CX X E0') (ha : PA X (e :: es) (tA c wa)) (hK : c.K = X.K := by rfl)
    (hdb : (x == ("__debug__" : Str)) = false := by decide) (he : starEach (e :: es) X.env = (false, eval e X.env) :: starEach es X.env := by rfl) (hpl : (backTo pos (starEach es X.env)).any (·.1) = false := by rfl) : PE X (.Call (.Name x p) (e :: es) [] pos) (tD c (wCallA n w wa)) := by
  refine ⟨fun pins s σ H Q I hq => ?_⟩
  obtain ⟨ρ, Q0, E, hw, k⟩ := hq
  refine thn ((pe_call F hr hg hm hk hb .nil hx ha hdb he hpl).run pins s σ H (fun v H2 => ∃ r ρ1 H1, Q0 (rvD r) ρ1 ∧ Gr c σ H H1 ∧ En c H1 σ ρ1 ∧ Same H1 H2 ∧ RvIs c.K H1 H2 v r) I
    ⟨ρ, _, E, hw, fun ds ρ1 vs H1 q g E1 i1 => ⟨ds, _, by rw [List.append_nil, ← hK]; exact i1, q.1, q.2, fun r v H2 q2 sm rv => ⟨r, ρ1, H1, q2, g, E1, sm, by rw [hK]; exact rv⟩⟩⟩) fun u s1 ⟨v, H2, I2, r2, r, ρ1, H1, q, g, E1, sm, rv⟩ => ?_
  cases r with
  | d d => exact ⟨v, H2, I2, r2, k d ρ1 v H2 q (g.trans (Gr.same sm)) (E1.same sm) rv⟩
  | f ds =>
    obtain ⟨a, xs, rfl, n1, ha, ix⟩ := rv
    obtain ⟨o, I3⟩ := Inv.freeze I2 ha trivial (fun _ _ _ z => by cases z) (fun _ z => by cases z)
    have fx : Fx H2 (upd H2 a (.frz o (.lst xs))) := fun b o f q => by
      by_cases e : b = a
      · subst e; rw [ha] at q; cases q; cases f
      · rw [upd_ne e]; exact q
    have n0 : H a = none := g.free E1 n1
    have nb : ∀ b o, H b = some o → b ≠ a := fun b o q z => by subst z; rw [n0] at q; cases q
    refine ⟨.ref a, _, I3, r2, k _ ρ1 _ _ q ⟨(g.fx.trans (Same.fx sm)).trans fx, fun b o q w => ?_⟩ ((E1.same sm).frzN ha (E1.h0 n1) (E1.sepN (E1.same sm) n1)) (.lst upd_same (IsAll.mono fx ds xs ix))⟩
    rw [upd_ne (nb b o q)]; exact sm b o (g.kp b o q w)
end
/-! ### defs that may raise: what they promise -/
abbrev PX := List D → (D → Prop) → (D → Prop) → Prop
def spX (K : PySem.W.Frag) (C : Addr) (fn : Str) (n : Nat) (w : PX) : Sp := fun vs H Q E => ∃ (ds : List D) (Q0 E0 : D → Prop), IsAll K H vs ds ∧ ds.length = n ∧ w ds Q0 E0 ∧ (∀ d v H', Q0 d → Same H H' → Is K H' v d → Q v H') ∧
  ∀ (d : D) (u : V) (dd : Addr) (H' : Hp), E0 d → Same H H' → H' dd = some (.xd [(fn, u)]) → Is K H' u d → E (.ref C) (some dd) H'
/-- __init__(self, item): the base's, then self.fn = item -/
def spIn (C : Addr) (fn : Str) : Sp := fun vs H Q _ => ∃ (a : Addr) (u : V), vs = [.ref a, u] ∧ H a = some (exo a C none) ∧ ∀ dx, H dx = none → dx ≠ a → Q .non (upd (upd H dx (exd dx [(fn, u)])) a (exo a C (some dx)))
theorem en_start {w : World} {K : PySem.W.Frag} {M : List Nat} {H : Hp} {N : List Str} {vs : List V} {ds : List D} {n : Nat} (hNn : n ≤ N.length) (hM : ∀ i, i ∈ M → n ≤ i) (ia : IsAll K H vs ds) (hl : ds.length = n) : En ⟨w, K, M, none, H⟩ H (L2.start N vs) (slots N ds) := by
  have hlv : vs.length = n := by rw [ia.length, hl]
  refine ⟨?_, fun i s y h1 h2 => ?_, fun i ds h1 => ?_, fun i j ds es a h1 => ?_, fun i ds a h1 => ?_, fun b o h _ => h, fun a h => ?_, fun i a hi h => ?_, fun h => absurd rfl h, fun i ks a h1 => ?_, fun i ks h1 => ?_, fun i j ks ls h1 => ?_⟩
  · unfold L2.start slots
    simp only [List.length_append, List.length_map, List.length_replicate]
    omega
  · rcases slots_get h1 with ⟨d, rfl, hd⟩ | rfl
    · obtain ⟨v, rfl, hv⟩ := start_dat (by rw [hlv, ← hl]; exact (List.getElem?_eq_some_iff.mp hd).1) h2
      obtain ⟨v', hv', iv⟩ := ia.get hd
      rw [hv] at hv'
      cases hv'
      exact ⟨v, rfl, iv⟩
    · trivial
  · rcases slots_get h1 with ⟨d, e, _⟩ | e <;> cases e
  · rcases slots_get h1 with ⟨d, e, _⟩ | e <;> cases e
  · rcases slots_get h1 with ⟨d, e, _⟩ | e <;> cases e
  · cases h
  · have := (List.getElem?_eq_some_iff.mp (start_get h)).1
    have := hM i hi
    omega
  · rcases slots_get h1 with ⟨d, e, _⟩ | e <;> cases e
  · rcases slots_get h1 with ⟨d, e, _⟩ | e <;> cases e
  · rcases slots_get h1 with ⟨d, e, _⟩ | e <;> cases e
end DL
namespace DL
open PySem PySem.Spec PyProof.Rows L2
theorem iffT {c : Bool} {A B : Prop} (hc : c = true) (h : A) : if c = true then A else B := by
  rw [if_pos hc]
  exact h
theorem iffF {c : Bool} {A B : Prop} (hc : c = false) (h : B) : if c = true then A else B := by
  rw [hc, if_neg Bool.false_ne_true]
  exact h
def clsBody : Stmt → List Stmt
  | .ClassDef _ _ _ b _ _ _ _ _ _ _ => b
  | _ => []
theorem pss_known {X : Cx} {rest : List Stmt} {C : Addr} {cls : Value} {d : Option Addr} {trr : Addr → TS} (h : ∀ dd, cls = .ref C → d = some dd → PSs X rest (trr dd)) : PSs X rest (fun D σ H => ∃ dd, cls = .ref C ∧ d = some dd ∧ trr dd D σ H) :=
  ⟨fun pins s σ H D I ⟨dd, e1, e2, q⟩ => (h dd e1 e2).run pins s σ H D I q⟩
/-- what the text says of an own error class C over B, with one field -/
structure ErrT (K : PySem.W.Frag) (mg : Str → Option Value) (nB nC fn : Str) (B C fI : Addr) : Prop where
  gB : mg nB = some (.ref B)
  gC : mg nC = some (.ref C)
  bi : BaseC K B (.type "type")
  ox : OexC K C
  ec : ExcC K C
  xf : XfC K C
  no : PySem.W.findIn K (.ref C) fn = some none
  iC : PySem.W.findIn K (.ref C) "__init__" = some (some (.ref fI))
  tI : PySem.W.typeIn K (.ref fI) = some (.type "function")
  te : PySem.W.exmOne K (.ref C) (.ref B) = some true
  kS : PySem.W.kitOne K (.ref C) (.ref C) = some true
  kV : PySem.W.kitOne K (.ref C) (.type "ValueError") = some true
theorem kit_no {K : PySem.W.Frag} {C D : Addr} (s : PySem.W.subIn K (.ref C) (.ref C) = some true) (n : PySem.W.subIn K (.ref C) (.ref D) = some false) (c : PySem.W.isClsIn K D = true) (t : PySem.W.typeIn K (.ref D) = some (.type "type")) : PySem.W.kitOne K (.ref C) (.ref D) = some false := by
  have ne : ¬ ((Value.ref C == Value.ref D) = true) := fun z => by
    have e : C = D := Value.ref.inj (beq_iff_eq.mp z)
    subst e
    rw [s] at n
    cases n
  have c' : (PySem.W.clsIn K D).isSome = true := c
  unfold PySem.W.kitOne PySem.W.kitCls
  rw [if_neg ne]
  dsimp only
  rw [c', t, if_pos (by rfl)]
  exact n
theorem kit_noT {K : PySem.W.Frag} {C D E : Addr} (h1 : PySem.W.kitOne K (.ref C) (.ref D) = some false) (h2 : PySem.W.kitOne K (.ref C) (.ref E) = some false) : PySem.W.kitAny K (.ref C) [.ref D, .ref E] = some false := by
  unfold PySem.W.kitAny
  rw [h1]
  dsimp only
  unfold PySem.W.kitAny
  rw [h2]
  rfl
theorem kit_ty {K : PySem.W.Frag} {C : Addr} {T : String} (m : PySem.W.kitMeta T = true) (s : PySem.W.subIn K (.ref C) (.type T) = some true) : PySem.W.kitOne K (.ref C) (.type T) = some true := by
  have ne : ¬ ((Value.ref C == Value.type T) = true) := fun z => by cases beq_iff_eq.mp z
  unfold PySem.W.kitOne PySem.W.kitCls
  rw [if_neg ne]
  dsimp only
  rw [if_pos m]
  exact s
theorem exm_cls {K : PySem.W.Frag} {B C : Addr} (h1 : PySem.W.subIn K (.ref B) (.type "BaseException") = some true) (c : PySem.W.isClsIn K B = true) (t : PySem.W.typeIn K (.ref B) = some (.type "type")) (s : PySem.W.subIn K (.ref C) (.ref B) = some true) : PySem.W.exmOne K (.ref C) (.ref B) = some true := by
  have c' : (PySem.W.clsIn K B).isSome = true := c
  unfold PySem.W.exmOne PySem.W.kitCls
  rw [h1, if_pos (by rfl)]
  dsimp only
  rw [c', t, if_pos (by rfl)]
  exact s
theorem err_mk {K : PySem.W.Frag} {mg : Str → Option Value} {nB nC fn : Str} {B C fI : Addr} {nm q : Str} {N : Addr} {bs : List Value} {sn : List Str} {sub : List Value} {ab : Bool} {col : Option Bool} {dd : Option Addr} {m0 m1 m2 m3 m5 : Option Value}
    (gB : mg nB = some (.ref B)) (gC : mg nC = some (.ref C))
    (rB : PySem.W.readsIn K B (.type "type") = true) (sB : PySem.W.specialIn K (.ref B) "__getattribute__" = some (some (.builtin "type.__getattribute__"))) (fB : PySem.W.findCls K (.ref B) (.type "type") "__init__" = some (.val (.builtin "ValueError.__init__")))
    (eB : PySem.W.subIn K (.ref B) (.type "BaseException") = some true) (cB : PySem.W.isClsIn K B = true) (tB : PySem.W.typeIn K (.ref B) = some (.type "type"))
    (xC : K.lookup C = some (excClassObj nm q C N bs [.ref B, .type "ValueError", .type "Exception", .type "BaseException", .type "object"] true sn sub ab col dd m0 m1 m2 m3 m5 "ValueError.__new__"))
    (sa : PySem.W.findIn K (.ref C) "__setattr__" = some (some (.builtin "object.__setattr__"))) (ga : PySem.W.findIn K (.ref C) "__getattribute__" = some (some (.builtin "BaseException.__getattribute__"))) (gg : PySem.W.findIn K (.ref C) "__getattr__" = some none) (no : PySem.W.findIn K (.ref C) fn = some none)
    (iC : PySem.W.findIn K (.ref C) "__init__" = some (some (.ref fI))) (tI : PySem.W.typeIn K (.ref fI) = some (.type "function")) (kC : PySem.W.keepIn K (.ref C) = true) (eC : PySem.W.subIn K (.ref C) (.type "BaseException") = some true) (tC : PySem.W.typeIn K (.ref C) = some (.type "type")) (hC : PySem.W.hasDictIn K C = true) (iS : PySem.W.isClsIn K C = true)
    (sS : PySem.W.subIn K (.ref C) (.ref C) = some true) (sP : PySem.W.subIn K (.ref C) (.ref B) = some true) (sV : PySem.W.subIn K (.ref C) (.type "ValueError") = some true)
    (aC : PySem.W.findIn K (.ref C) "__class__" = some (some (.builtin "object.__class__"))) (nC' : PySem.W.specialIn K (.builtin "object.__class__") "__get__" = some (some (.builtin "getset_descriptor.__get__"))) (hC' : PySem.W.takesIn K (.builtin "object.__class__") = some true) (mC : PySem.W.mroIn K C (.type "object") = some true) :
    ErrT K mg nB nC fn B C fI where
  gB := gB
  gC := gC
  bi := ⟨rB, sB, fB⟩
  ox := ⟨⟨nm, q, N, bs, _, sn, sub, ab, col, dd, m0, m1, m2, m3, m5, xC, by rfl⟩, sa, eC, tC, kC⟩
  ec := ⟨ga, gg, eC, hC, aC, nC', hC', mC⟩
  xf := ⟨ga, gg, eC, hC⟩
  no := no
  iC := iC
  tI := tI
  te := exm_cls eB cB tB sP
  kS := by
    unfold PySem.W.kitOne
    rw [if_pos (beq_iff_eq.mpr rfl)]
  kV := kit_ty (by decide +kernel) sV
end DL
namespace DL
open PySem PySem.Spec PyProof.Rows L2
section
variable {X : Cx} {c : Ctx} {e a b o f : Expr} {es : List Expr} {pos apos cpos : Pos}
/-! ### is None -/
def isND : D → D → Option D
  | .none, .none => some (.bool true)
  | _, .none => some (.bool false)
  | _, _ => none
theorem op_isND : OpR X (compareOp .Is) (rB X.K isND) := by
  intro pins s σ H x y v u Q I rx ry h
  obtain ⟨d, e, r, hd, he, hf, q⟩ := h
  cases he with
  | non =>
    refine op_isN pins s σ H x .non v u Q I rx ry ⟨rfl, ?_⟩
    cases hd <;> (cases hf; exact q _ H (Same.refl H) (.bl _))
  | _ => cases hd <;> cases hf
/-! ### tuple(range(n)) -/
theorem pe_tupRgZ {te : L2.St → Hp → (Int → Int → Hp → Prop) → Prop} {p : Pos} (hc : X.calm = true) (hg : Gl X "tuple") (hm : X.mg "tuple" = none) (he : PRg X e te) (na : starEach [e] X.env = (false, eval e X.env) :: starEach [] X.env := by rfl) :
    PE X (.Call (.Name "tuple" p) [e] [] pos) (fun σ H Q => te σ H fun a b H1 => RgOk a b ∧ ∀ (q : Addr) (o : Obj), H1 q = none → o.dict = none → Q (.ref q) (upd H1 q (.frz o (.tup (rgV a b))))) := by
  refine ⟨fun pins s σ H Q I h => ?_⟩
  refine Call_ (ld_blt I hg hm boot_tuple (PyProof.Rows.callWith_type1 (args_cons (thn (he pins s σ H _ I h) fun x s1 ⟨r, a, b, t, u, v, H1, ex, hr, I1, ok, q⟩ => args_nil ?_) na) na))
  subst ex
  obtain ⟨b1, b2, b3, b4, b5⟩ := ok
  refine call_tuple_range (n := (b - a).toNat) (I1.ok.hd hc) hr (small_one b1 b2 b3 b4) (rangeSize_nat a b) b5 fun h' tk acc hk hi => ?_
  have I2 : Inv X pins σ H1 { s1 with heap := h', toks := tk } := I1.kept hk
  obtain ⟨o, d, n, I3⟩ := Inv.newTup I2 (vals_rg hi) (by rw [rgV_length, sizeLine_eq]; omega) tk
  rw [Array.toArray_toList] at I3
  exact ⟨.ref h'.objs.size, _, I3, rfl, q _ o n d⟩
def wTupRg (w : DW) : DW := fun ρ Q => w ρ fun d ρ1 => ∃ j : Int, d = .int j ∧ RgOk 0 j ∧ Q (.tuple (upto 0 j.toNat)) ρ1
theorem is_rg {K : PySem.W.Frag} {H : Hp} (j : Int) : IsAll K H (rgV 0 j) (upto 0 j.toNat) := by
  unfold rgV upto
  rw [Int.sub_zero]
  generalize List.range j.toNat = l
  induction l with
  | nil => exact .nil
  | cons x l ih => exact .cons (.int _) ih
theorem de_tupRg {w : DW} {p p2 : Pos} (hc : X.calm = true) (hg : Gl X "tuple") (hm : X.mg "tuple" = none) (hg2 : Gl X "range") (hm2 : X.mg "range" = none) (he : PE X e (tD c w)) (na2 : starEach [e] X.env = (false, eval e X.env) :: starEach [] X.env := by rfl)
    (na : starEach [.Call (.Name "range" p2) [e] [] cpos] X.env = (false, eval (.Call (.Name "range" p2) [e] [] cpos) X.env) :: starEach [] X.env := by rfl) : PE X (.Call (.Name "tuple" p) [.Call (.Name "range" p2) [e] [] cpos] [] pos) (tD c (wTupRg w)) := by
  refine PE.imp (pe_tupRgZ hc hg hm (prg_1 hg2 hm2 he na2) na) ?_
  rintro σ H Q ⟨ρ, Q0, E, hw, k⟩
  refine ⟨ρ, _, E, hw, fun d ρ1 v H1 q g E1 i1 => ?_⟩
  obtain ⟨j, rfl, ok, q⟩ := q
  cases i1
  refine ⟨j, rfl, ok, fun p ob hp hd => ?_⟩
  have sm := upd_same' (o := .frz ob (.tup (rgV 0 j))) hp
  exact k _ ρ1 _ _ q (g.trans (Gr.same sm)) (E1.same sm) (.tup (.inl ⟨ob, hd, upd_same⟩) (is_rg j))
/-! ### {k: v, ..}, texts -/
def dispE (cs : List (Str × Str)) : List (Key × D) := cs.map fun p => (.inr p.1, .str p.2)
def dispV (cs : List (Str × Str)) : List (Key × V) := cs.map fun p => (.inr p.1, .str p.2)
theorem disp_is {K : PySem.W.Frag} {H : Hp} : ∀ cs : List (Str × Str), IsK K H (dispV cs) (dispE cs)
  | [] => .nil
  | p :: cs => .cons (.str p.2) (disp_is cs)
theorem disp_pairs {σ : L2.St} {Q : List (V × V) → Hp → Prop} : ∀ {cs : List (Str × Str)} {H : Hp}, Q (cs.map fun p => (V.str p.1, V.str p.2)) H → tPairs (cs.map fun p => (tC (.str p.1), tC (.str p.2))) σ H Q
  | [], _, h => h
  | p :: cs, H, h => (disp_pairs (cs := cs) (Q := fun ps H3 => Q ((V.str p.1, V.str p.2) :: ps) H3) h : tPairs _ σ H _)
theorem de_disp {keys : List (Option Expr)} {values : List Expr} (cs : List (Str × Str)) (h : PPs X pos keys values (cs.map fun p => (tC (.str p.1), tC (.str p.2)))) (hall : keys.all (·.isSome) = true := by rfl) (hl : keys.length = values.length := by rfl) (h0 : keys ≠ [] := by simp)
    (h15 : keys.length ≤ 15 := by decide) (hc15 : cs.length ≤ 15 := by decide) (hK : c.K = X.K := by rfl) : PE X (.Dict keys values pos) (tD c (wC (.dict (kD (mergeP [] (dispE cs)))))) := by
  refine ⟨fun pins s σ H Q I hq => ?_⟩
  obtain ⟨ρ, Q0, E, q0, k⟩ := hq
  have q1 : Q0 (.dict (kD (mergeP [] (dispE cs)))) ρ := q0
  refine thn ((pe_disp h hall hl h0 h15).run pins s σ H (fun v H' => ∃ p, v = .ref p ∧ H p = none ∧ H' = upd H p (.dK (mergeK [] (dispV cs)))) I fun p hp => disp_pairs ⟨upd_same, dispV cs, by unfold dispV; rw [List.map_map]; rfl, by unfold dispV; rw [List.length_map]; exact hc15, p, rfl, hp, upd_upd⟩) fun u s1 ep => ?_
  refine frzDEP ep ((disp_is cs).merge .nil).kv fun v H' sm iv => k _ ρ v H' q1 (Gr.same sm) (E.same sm) (by rw [hK]; exact iv)
/-! ### d.get(k, x) -/
def wGet2 (wd wk wx : DW) : DW := fun ρ Q => wd ρ fun d ρ1 => ∃ es, d = .dict es ∧ wk ρ1 fun k ρ2 => wx ρ2 fun x ρ3 => ∃ key, keyOfD k = some key ∧ Q ((lookD es key).getD x) ρ3
theorem de_get2 {wd wk wx : DW} (hu : X.A.units + 1 < cLine) (ho : PE X o (tD c wd)) (he : PE X e (tD c wk)) (hf : PE X f (tD c wx)) (m : M2 X o "get" apos e f cpos := by exact ⟨rfl, rfl, rfl, rfl⟩) :
    PE X (.Call (.Attribute o "get" apos) [e, f] [] cpos) (tD c (wGet2 wd wk wx)) := by
  refine PE.imp (pe_dget2 hu ho he hf m) ?_
  rintro σ H Q ⟨ρ, Q0, E, hw, k⟩
  refine ⟨ρ, _, E, hw, fun d ρ1 v H1 q g E1 i1 => ?_⟩
  obtain ⟨es, rfl, q⟩ := q
  cases i1 with
  | @dct a ob kvs _ h1 h2 =>
    refine ⟨a, rfl, .inl ⟨kvs, .inr ⟨ob, h1⟩⟩, ρ1, _, E1, q, fun kd ρ2 y H2 q2 g2 E2 i2 => ⟨ρ2, _, E2, q2, fun xd ρ3 z H3 q3 g3 E3 i3 => ?_⟩⟩
    obtain ⟨key, hk, q4⟩ := q3
    have ey : y = kV key := by
      have e := keyD_of hk
      subst e
      exact is_key i2
    have fx := g2.fx.trans g3.fx
    have h3 : H3 a = some (.frz ob (.dK kvs)) := fx _ _ rfl h1
    have h4 := IsKv.mono fx es kvs h2
    have gg := (g.trans g2).trans g3
    cases hl : lookD es key with
    | none =>
      rw [hl] at q4
      refine ⟨none, .inl ⟨kvs, key, .inr ⟨ob, h3⟩, ey, (h4.lookN hl).symm⟩, k _ ρ3 z H3 q4 gg E3 i3⟩
    | some d' =>
      obtain ⟨v', e1, e2⟩ := h4.look hl
      rw [hl] at q4
      exact ⟨some v', .inl ⟨kvs, key, .inr ⟨ob, h3⟩, ey, e1.symm⟩, k d' ρ3 v' H3 q4 gg E3 e2⟩
end
/-! ### a list of one's own is lent to a call: frozen for it, then one's own again -/
-- data without lists and dicts
mutual
def flatD : D → Bool
  | .list _ => false
  | .dict _ => false
  | .tuple xs => flatA xs
  | _ => true
def flatA : List D → Bool
  | [] => true
  | d :: ds => flatD d && flatA ds
end
mutual
theorem Is.flat {K : PySem.W.Frag} {H H' : Hp} (t : ∀ (a : Addr) (o : Obj) (xs : List V), H a = some (.frz o (.tup xs)) → H' a = some (.frz o (.tup xs))) : ∀ (d : D) (v : V), flatD d = true → Is K H v d → Is K H' v d
  | .none, _, _, .non => .non
  | .bool _, _, _, .bl b => .bl b
  | .int _, _, _, .int i => .int i
  | .str _, _, _, .str x => .str x
  | .tuple ds, _, h, .tup g1 g2 => .tup (by
      rcases g1 with ⟨o, hd, e⟩ | z
      · exact .inl ⟨o, hd, t _ _ _ e⟩
      · exact .inr z) (IsAll.flat t ds _ h g2)
theorem IsAll.flat {K : PySem.W.Frag} {H H' : Hp} (t : ∀ (a : Addr) (o : Obj) (xs : List V), H a = some (.frz o (.tup xs)) → H' a = some (.frz o (.tup xs))) : ∀ (ds : List D) (vs : List V), flatA ds = true → IsAll K H vs ds → IsAll K H' vs ds
  | [], _, _, .nil => .nil
  | d :: ds, _, h, .cons h1 h2 => by
    have h : (flatD d && flatA ds) = true := h
    rw [Bool.and_eq_true] at h
    exact .cons (Is.flat t d _ h.1 h1) (IsAll.flat t ds _ h.2 h2)
end
theorem Inv.thaw {X : Cx} {pins : List (Addr × Obj)} {σ : L2.St} {H : Hp} {s : Shared} {a : Addr} {o : Obj} {xs : List V} (I : Inv X pins σ H s) (ha : H a = some (.frz o (.lst xs))) (h0 : ∀ o v, X.H_0 a ≠ some (.frz o v)) : Inv X pins σ (upd H a (.lst xs)) s := by
  have ok := I.hok a _ ha
  have nm : ∀ b w, H b = some w → (∀ o v, w ≠ .frz o v) → b ≠ a := fun b w q n z => by
    rw [z, ha] at q
    cases q
    exact n _ _ rfl
  have nn : ∀ b, H b = none → b ≠ a := fun b q z => by rw [z, ha] at q; cases q
  refine ⟨I.ok, I.os, I.bare, ⟨fun b w => I.base.keep b w, fun b w => I.base.slot b w, fun b w e n hx => ?_, I.base.there, fun b xs q => ?_, fun b w v q => ?_, fun b ps q => ?_⟩, I.loc, I.cell, ?_, fun x c e => ?_, fun p hp => ?_, fun b w q => ?_, I.len⟩
  · have q := I.base.free b w e n hx
    rw [upd_ne (nn b q)]; exact q
  · have q := I.base.tups b xs q
    rw [upd_ne (nm b _ q fun _ _ z => by cases z)]; exact q
  · have ne : b ≠ a := fun z => by rw [z] at q; exact h0 _ _ q
    have q := I.base.frzs b w v q
    rw [upd_ne ne]; exact q
  · obtain ⟨more, q⟩ := I.base.tbls b ps q
    exact ⟨more, by rw [upd_ne (nm b _ q fun _ _ z => by cases z)]; exact q⟩
  · rw [upd_ne (nn _ I.free)]; exact I.free
  · rw [upd_ne (nn _ (I.freeC x c e))]; exact I.freeC x c e
  · obtain ⟨e, n, r⟩ := I.pin p hp
    exact ⟨e, by rw [upd_ne (nn _ n)]; exact n, r⟩
  · by_cases hb : b = a
    · subst hb
      rw [upd_same] at q
      cases q
      exact ok.2
    · rw [upd_ne hb] at q
      exact (I.hok b w q).stay (fun c v _ q => q) (fun c q => by rw [upd_ne (nm c _ q fun _ _ z => by cases z)]; exact q) fun c xs q => by rw [upd_ne (nm c _ q fun _ _ z => by cases z)]; exact q
def wCallPL (i j : Nat) (w : PP) (we : DW) : DW := fun ρ Q => (∃ ps, ρ[i]? = some (.own ps)) ∧ (∃ ks, ρ[j]? = some (.own ks)) ∧ we ρ fun d ρ1 => ∃ ps ks, ρ1[i]? = some (.own ps) ∧ ρ1[j]? = some (.own ks) ∧
  w ps [d, .list ks] fun r ps' => ∃ d', r = .d d' ∧ flatD d' = true ∧ flatA ps' = true ∧ Q d' (ρ1.set i (.own ps'))
section
variable {X : Cx} {c : Ctx} {CX : CXT} {k : Nat} {f : Addr} {fd : FuncData} {ps : List Str} {x : Str} {p pos : Pos} {E0' : XK} {e : Expr}
theorem de_callPL (i j : Nat) {w : PP} {we : DW} {y z : Str} {py pz : Pos} (F : FnOk X.prog X.w X.K X.mg X.base CX k f fd ps (spP X.K 2 w)) (hr : Room k X.A) (hg : Gl X x) (hm : X.mg x = some (.ref f)) (hk : PySem.W.keepIn X.K (.ref f) = true) (hb : Binds X.K fd ps []) (hx : Passes CX X E0') (he : PE X e (tD c we))
    (hij : i ≠ j := by decide) (hH : c.H0 = X.H_0 := by rfl) (hp : c.pot = none ∨ j ≠ 0 := by exact .inr (by decide))
    (hN : X.N[i]? = some y := by rfl) (hv : Vis X.env.scope y := by first | exact Or.inl rfl | exact Or.inr (Or.inl rfl) | exact Or.inr (Or.inr rfl)) (hd : (y == ("__debug__" : Str)) = false := by decide) (hcd : (y == ("__classdict__" : Str)) = false := by decide)
    (hN2 : X.N[j]? = some z := by rfl) (hv2 : Vis X.env.scope z := by first | exact Or.inl rfl | exact Or.inr (Or.inl rfl) | exact Or.inr (Or.inr rfl)) (hd2 : (z == ("__debug__" : Str)) = false := by decide) (hcd2 : (z == ("__classdict__" : Str)) = false := by decide) (hK : c.K = X.K := by rfl)
    (hdb : (x == ("__debug__" : Str)) = false := by decide) (he1 : starEach [.Name y py, e, .Name z pz] X.env = (false, eval (.Name y py) X.env) :: starEach [e, .Name z pz] X.env := by rfl) (he2 : starEach [e, .Name z pz] X.env = (false, eval e X.env) :: starEach [.Name z pz] X.env := by rfl)
    (he3 : starEach [.Name z pz] X.env = (false, eval (.Name z pz) X.env) :: starEach [] X.env := by rfl) (hpl : (backTo pos (starEach [e, .Name z pz] X.env)).any (·.1) = false := by rfl) :
    PE X (.Call (.Name x p) [.Name y py, e, .Name z pz] [] pos) (tD c (wCallPL i j w we)) := by
  refine ⟨fun pins s σ H Q I hq => ?_⟩
  obtain ⟨ρ, Q0, E, ⟨⟨ps0, h0⟩, ⟨ks0, g0⟩, hw⟩, k⟩ := hq
  obtain ⟨x0, hx0, a, xs0, rfl, ha0, _⟩ := E.at h0
  obtain ⟨y0, hy0, b, zs0, rfl, hb0, _⟩ := E.at g0
  refine wpAny_Call_Name_kw (ld_glob I hg hm ?_ hdb)
  refine PySem.W.callWith_K (h₀ := X.base) I.ok.mod.kin hk (thn ((pa_cons (pe_var hN hv hd hcd) (pa_cons he (pa_cons (pe_var hN2 hv2 hd2 hcd2) pa_nil he3) he2) he1).run pos pins s σ H (fun vs H1 => ∃ v d ρ1, vs = [.ref a, v, .ref b] ∧ Gr c σ H H1 ∧ En c H1 σ ρ1 ∧ Is c.K H1 v d ∧ ∃ ps ks, ρ1[i]? = some (.own ps) ∧ ρ1[j]? = some (.own ks) ∧
      w ps [d, .list ks] fun r ps' => ∃ d', r = .d d' ∧ flatD d' = true ∧ flatA ps' = true ∧ Q0 d' (ρ1.set i (.own ps'))) I
    ⟨_, hx0, ρ, _, E, hw, fun d ρ1 v H1 q g E1 i1 => ⟨_, hy0, v, d, ρ1, rfl, g, E1, i1, q⟩⟩) fun us s1 ⟨vs, H1, I1, r, v, d, ρ1, ev, g, E1, i1, ps, ks, h1, g1, q⟩ => ⟨I1.kIn, ?_⟩) he1 hpl
  subst ev
  obtain ⟨x1, hx1, a1, xs, e1, ha, ix⟩ := E1.at h1
  rw [hx0] at hx1
  cases hx1
  cases e1
  obtain ⟨y1, hy1, b1, zs, e2, hbz, iz⟩ := E1.at g1
  rw [hy0] at hy1
  cases hy1
  cases e2
  have ne : a ≠ b := fun z => by
    subst z
    exact hij (E1.sep i j _ _ a h1 g1 hx0 hy0)
  obtain ⟨o, I2⟩ := Inv.freeze I1 hbz trivial (fun _ _ _ z => by cases z) (fun _ z => by cases z)
  have fx : Fx H1 (upd H1 b (.frz o (.lst zs))) := fun t ob f q => by
    by_cases e : t = b
    · subst e; rw [hbz] at q; cases q; cases f
    · rw [upd_ne e]; exact q
  have hnf : ∀ o v, X.H_0 b ≠ some (.frz o v) := fun o v z => by
    rw [← hH] at z
    rcases E1.new j ks b g1 hy0 with e | ⟨_, e⟩
    · rw [z] at e; cases e
    · rcases hp with y | y
      · have := E1.potM
        rcases E1.new j ks b g1 hy0 with e | ⟨e, _⟩
        · rw [z] at e; cases e
        · rw [y] at e; cases e
      · exact y e
  refine thn (run_fn (Q := fun v' H' => ∃ d' ps' xs', H' b = some (.frz o (.lst zs)) ∧ H' a = some (.lst xs') ∧ IsAll X.K H' xs' ps' ∧ Is X.K H' v' d' ∧ flatD d' = true ∧ flatA ps' = true ∧ Q0 d' (ρ1.set i (.own ps')) ∧ ∀ t ob, t ≠ a → t ≠ b → H1 t = some ob → H' t = some ob) F hr hb .nil hx I2 r ?_) ?_
  · refine ⟨a, [v, .ref b], xs, ps, [d, .list ks], _, rfl, by rw [upd_ne ne]; exact ha, by rw [← hK]; exact IsAll.mono fx ps xs ix, by rw [← hK]; exact .cons (Is.mono fx d v i1) (.cons (.lst upd_same (IsAll.mono fx ks zs iz)) .nil), rfl, q, fun r ps' v' H' xs' q2 kp ha' ix' rv => ?_⟩
    obtain ⟨d', rfl, f1, f2, q3⟩ := q2
    exact ⟨d', ps', xs', kp b _ (Ne.symm ne) upd_same, ha', ix', rv, f1, f2, q3, fun t ob h2 h3 h4 => kp t ob h2 (by rw [upd_ne h3]; exact h4)⟩
  · rintro u s2 ⟨v', H', I3, ru, d', ps', xs', hbf, ha', ix', iv, f1, f2, q3, kp⟩
    have I4 := DL.Inv.thaw I3 hbf hnf
    have tup : ∀ (t : Addr) (ob : Obj) (ys : List V), H' t = some (.frz ob (.tup ys)) → (upd H' b (.lst zs)) t = some (.frz ob (.tup ys)) := fun t ob ys h => by
      have : t ≠ b := fun z => by rw [z, hbf] at h; cases h
      rw [upd_ne this]; exact h
    have kp2 : ∀ t ob, t ≠ a → H1 t = some ob → (upd H' b (.lst zs)) t = some ob := fun t ob h2 h3 => by
      by_cases e : t = b
      · subst e
        rw [hbz] at h3
        cases h3
        exact upd_same
      · rw [upd_ne e]; exact kp t ob h2 e h3
    obtain ⟨E2, g2⟩ := E1.call h1 hx0 kp2 (by rw [upd_ne ne]; exact ha') (by rw [hK]; exact IsAll.flat tup ps' xs' f2 ix')
    exact ⟨v', _, I4, ru, k d' _ v' _ q3 (g.trans g2) E2 (by rw [hK]; exact Is.flat tup d' v' f1 iv)⟩
end
end DL
namespace DL
open PySem PySem.Spec PyProof.Rows L2
/-! ### zip of two lists, of two tuples, of a tuple and a list -/
theorem zipD_length (xs ys : List D) : (zipD xs ys).length = min xs.length ys.length := by unfold zipD; rw [List.length_zipWith]
theorem zipD_get {xs ys : List D} {i : Nat} {d : D} (h : (zipD xs ys)[i]? = some d) : ∃ x y, xs[i]? = some x ∧ ys[i]? = some y ∧ d = .tuple [x, y] := by
  unfold zipD at h
  rw [List.getElem?_zipWith] at h
  cases h1 : xs[i]? with
  | none => rw [h1] at h; cases h
  | some x =>
    cases h2 : ys[i]? with
    | none => rw [h1, h2] at h; cases h
    | some y => rw [h1, h2] at h; cases h; exact ⟨x, y, rfl, rfl, rfl⟩
/-- the tuple at a, the list at b -/
def ItM (K : PySem.W.Frag) (a b : Addr) : It :=
  ⟨fun i H => ∃ (xs ys : List V) (x y : V), SqT K H a xs ∧ SqL K H b ys ∧ xs[i]? = some x ∧ ys[i]? = some y,
    fun i H v H' => ∃ T x y, v = .ref T ∧ H T = none ∧ H' = upd H T (.tup [x, y]) ∧ (∀ xs, SqT K H a xs → xs[i]? = some x) ∧ ∀ ys, SqL K H b ys → ys[i]? = some y,
    fun i H => ∃ xs ys : List V, SqT K H a xs ∧ SqL K H b ys ∧ (xs.length ≤ i ∨ ys.length ≤ i)⟩
theorem endT {prog : Program} {w : World} {A : Around} (hh : A.handled = none) {it t : Addr} {i : Nat} {items : Array Value} (hn : items[i]? = none) :
    Draws prog w A it [it, t] i (fun _ _ => True) (fun j h => j = i ∧ h.IsTupleIter it t i ∧ h.IsTuple t items) where
  live := fun j h q => let ⟨o, ho, _⟩ := q.2.1; ⟨o, ho⟩
  frame := fun j h h' q k => ⟨q.1, q.2.1.at fun o e => k it (by simp) o e, q.2.2.at fun o e => k t (by simp) o e⟩
  item := fun j s Q E hj q _ => by have := q.1; omega
  done := fun s Q E q k => wpAny_nextOf_tuple_end hh q.2.1 q.2.2 hn k
theorem endL {prog : Program} {w : World} {A : Around} (hh : A.handled = none) {it t : Addr} {i : Nat} {items : Array Value} (hn : items[i]? = none) :
    Draws prog w A it [it, t] i (fun _ _ => True) (fun j h => j = i ∧ h.IsListIter it t i ∧ h.IsList t items) where
  live := fun j h q => let ⟨o, ho, _⟩ := q.2.1; ⟨o, ho⟩
  frame := fun j h h' q k => ⟨q.1, q.2.1.at fun o e => k it (by simp) o e, q.2.2.at fun o e => k t (by simp) o e⟩
  item := fun j s Q E hj q _ => by have := q.1; omega
  done := fun s Q E q k => wpAny_nextOf_list_end hh q.2.1 q.2.2 hn k
def StM (z TI TO i1 i2 a b : Addr) (i : Nat) (h : Heap) : Prop := IsZip h z TI TO .none ∧ IsTupOf2 h TI (.ref i1) (.ref i2) ∧ (∃ x y, IsTupOf2 h TO x y) ∧ h.IsTupleIter i1 a i ∧ h.IsListIter i2 b i
theorem stM_cells {z TI TO i1 i2 a b : Addr} {i : Nat} {h : Heap} (st : StM z TI TO i1 i2 a b i h) {c : Addr} (hc : c ∈ [z, TI, TO, i1, i2]) : ∃ o, h.get? c = some o ∧ ∀ v, o.data ≠ .cell v := by
  obtain ⟨hz, hI, ⟨x, y, hO⟩, ⟨o1, e1, _, d1⟩, ⟨o2, e2, _, d2⟩⟩ := st
  simp only [List.mem_cons, List.not_mem_nil, or_false] at hc
  rcases hc with rfl | rfl | rfl | rfl | rfl
  · exact ⟨_, hz, fun v q => nomatch q⟩
  · exact ⟨_, hI, fun v q => nomatch q⟩
  · exact ⟨_, hO, fun v q => nomatch q⟩
  · exact ⟨o1, e1, fun v q => by rw [d1] at q; cases q⟩
  · exact ⟨o2, e2, fun v q => by rw [d2] at q; cases q⟩
theorem turn_M {P : Program} {w : World} {K : PySem.W.Frag} {elts : List Expr} {kk : Nat} {tpos : Pos} {a b z TI TO i1 i2 : Addr} (S : ZipSep2 z TI TO i1 i2 [i1, a] [i2, b]) (na : a ≠ i1) (nb : b ≠ i2) :
    Turn P w K (.Tuple elts kk tpos) (ItM K a b) [z, TI, TO, i1, i2] z (StM z TI TO i1 i2 a b) where
  mem := List.mem_cons_self ..
  obj := fun i h st c hc => stM_cells st hc
  keep := fun i h h' st k => by
    obtain ⟨hz, hI, ⟨x, y, hO⟩, h1, h2⟩ := st
    exact ⟨k z (by simp) _ hz, k TI (by simp) _ hI, ⟨x, y, k TO (by simp) _ hO⟩, h1.at fun o q => k i1 (by simp) o q, h2.at fun o q => k i2 (by simp) o q⟩
  item := by
    intro X hP hw hK hc i pins s σ H E I hf st hg
    subst hP hw hK
    obtain ⟨xs, ys, x, y, qx, qy, ex, ey⟩ := hg
    obtain ⟨us, rv, p, _⟩ := I.tuple qx
    obtain ⟨ws, rw', p2, _⟩ := I.list qy
    obtain ⟨u, eu, ru⟩ := rv.get ex
    obtain ⟨u2, eu2, ru2⟩ := rw'.get ey
    have old : ∀ c, c ∈ [z, TI, TO, i1, i2] → c < s.heap.objs.size := fun c hcm => let ⟨_, q, _⟩ := stM_cells st hcm; Heap.lt_size q
    obtain ⟨hz, hI, ⟨x0, y0, hO⟩, h1, h2⟩ := st
    refine wpAny_pyNext_zipD2_item S (Draws.tuple (A := X.A.in1) (I.ok.hd hc) i1 a na us.toArray) (Draws.list (A := X.A.in1) (I.ok.hd hc) i2 b nb ws.toArray) hz hI hO ⟨h1, p⟩ ⟨h2, p2.isList⟩ (i := i)
      (by rw [List.size_toArray]; exact (List.getElem?_eq_some_iff.mp eu).1) (by rw [List.size_toArray]; exact (List.getElem?_eq_some_iff.mp eu2).1) fun v1 v2 h' tk q1 q2 hz' hO' t1 t2 hT _ hk => ?_
    have e1 : v1 = u := by
      have q1 : us[i]? = some v1 := by simpa using q1
      rw [eu] at q1; cases q1; rfl
    have e2 : v2 = u2 := by
      have q2 : ws[i]? = some v2 := by simpa using q2
      rw [eu2] at q2; cases q2; rfl
    subst e1 e2
    refine ⟨_, rfl, wpAny_letOwnedTupleGo_zip (s := { s with heap := h', toks := tk }) hz' fun h2 hz2 sb => ?_⟩
    have far : ∀ c, c < s.heap.objs.size → c ≠ s.heap.objs.size := fun c hl => Nat.ne_of_lt hl
    have atT : h2.get? s.heap.objs.size = some { cls := .type "tuple", data := .seq #[v1, v2] } := (sb.2 _ (Ne.symm (far z (old z (by simp))))).trans hT
    have I1 := I.turnedNew (t' := tk) (ch := [z, TI, TO, i1, i2]) (h' := h2) (ob := .tup [x, y]) (fun c o hb q => (sb.2 c (fun w => hb (by simp [w]))).trans (hk c o (fun w => hb (by simp [w])) (fun w => hb (by simp [w])) (fun w => hb (by simp [w])) (fun w => hb (by simp [w])) q)) hf (Nat.le_refl _)
      ⟨by show 2 ≤ sizeLine; decide, [v1, v2], .cons ru (.cons ru2 .nil), ⟨_, atT, rfl, _, rfl⟩⟩
    refine ⟨.ref s.heap.objs.size, _, I1, rfl, ⟨_, x, y, rfl, I.hok.fresh (Nat.le_refl _), rfl, fun l hl => by rw [I.tuple_inj hl qx]; exact ex, fun l hl => ?_⟩, ⟨hz2, ?_, ⟨v1, v2, ?_⟩, ?_, ?_⟩, fun c hcm => ?_⟩
    · obtain ⟨ws2, rw2, p3, _⟩ := I.list hl
      rw [I.list_inj hl qy]; exact ey
    · exact (sb.2 _ S.TIz).trans (hk _ _ S.TIz S.TITO S.TIi1 S.TIi2 hI)
    · exact (sb.2 _ S.TOz).trans hO'
    · exact t1.1.at fun o q => (sb.2 _ (Ne.symm S.zi1)).trans q
    · exact t2.1.at fun o q => (sb.2 _ (Ne.symm S.zi2)).trans q
    · rw [upd_ne (far c (old c hcm))]
      exact (hf c hcm).1
  done := by
    intro X hP hw hK hc i pins s σ H E I hf st hg
    subst hP hw hK
    obtain ⟨xs, ys, qx, qy, he⟩ := hg
    obtain ⟨us, rv, p, _⟩ := I.tuple qx
    obtain ⟨ws, rw', p2, _⟩ := I.list qy
    have n1 := rv.length
    have n2 := rw'.length
    obtain ⟨hz, hI, ⟨x0, y0, hO⟩, h1, h2⟩ := st
    have fin : ∀ (h' : Heap) (tk : Nat), (∀ c o, c ≠ z → c ≠ TO → c ≠ i1 → c ≠ i2 → s.heap.get? c = some o → h'.get? c = some o) → True ∧ Inv X pins σ H { s with heap := h', toks := tk } := fun h' tk hk =>
      ⟨trivial, I.turnedL (t' := tk) (ch := [z, TI, TO, i1, i2]) (fun c o hb q => hk c o (fun w => hb (by simp [w])) (fun w => hb (by simp [w])) (fun w => hb (by simp [w])) (fun w => hb (by simp [w])) q) hf⟩
    by_cases c1 : xs.length ≤ i
    · have D1 := endT (prog := X.prog) (w := X.w) (A := X.A.in1) (it := i1) (t := a) (I.ok.hd hc) (i := i) (items := us.toArray) (by simp; omega)
      by_cases c2 : ys.length ≤ i
      · have D2 := endL (prog := X.prog) (w := X.w) (A := X.A.in1) (it := i2) (t := b) (I.ok.hd hc) (i := i) (items := ws.toArray) (by simp; omega)
        exact wpAny_pyNext_zipD2_end S D1 D2 hz hI hO ⟨rfl, h1, p⟩ ⟨rfl, h2, p2.isList⟩ (Nat.le_refl _) (Nat.le_refl _) (.inl rfl) fun h' tk hk => ⟨rfl, (fin h' tk hk).2⟩
      · exact wpAny_pyNext_zipD2_end S D1 (Draws.list (A := X.A.in1) (I.ok.hd hc) i2 b nb ws.toArray) hz hI hO ⟨rfl, h1, p⟩ ⟨h2, p2.isList⟩ (Nat.le_refl _) (by rw [List.size_toArray]; omega) (.inl rfl) fun h' tk hk => ⟨rfl, (fin h' tk hk).2⟩
    · have D2 := endL (prog := X.prog) (w := X.w) (A := X.A.in1) (it := i2) (t := b) (I.ok.hd hc) (i := i) (items := ws.toArray) (by simp; omega)
      exact wpAny_pyNext_zipD2_end S (Draws.tuple (A := X.A.in1) (I.ok.hd hc) i1 a na us.toArray) D2 hz hI hO ⟨h1, p⟩ ⟨rfl, h2, p2.isList⟩ (by rw [List.size_toArray]; omega) (Nat.le_refl _) (.inr rfl) fun h' tk hk => ⟨rfl, (fin h' tk hk).2⟩
  self := fun A i s Q E st h => wpAny_pyIter_zip st.1 h
def iZM (K : PySem.W.Frag) (ta : TA) : TI := fun σ H R => ta σ H fun vs H1 => ∃ a b xs ys, vs = [.ref a, .ref b] ∧ SqT K H1 a xs ∧ SqL K H1 b ys ∧ R (ItM K a b) H1
theorem pi_zM {X : Cx} {e e2 : Expr} {ta : TA} {p pos tpos : Pos} {elts : List Expr} {kk : Nat} (hg : Gl X "zip") (hm : X.mg "zip" = none) (ha : PA X [e, e2] ta)
    (hs : starEach [e, e2] X.env = (false, eval e X.env) :: starEach [e2] X.env := by rfl) (hpl : (backTo pos (starEach [e2] X.env)).any (·.1) = false := by rfl) :
    PI X (.Tuple elts kk tpos) (.Call (.Name "zip" p) [e, e2] [] pos) (iZM X.K ta) := by
  refine ⟨fun pins s σ H R I h => Call_ (ld_blt I hg hm PyProof.Rows.boot_zip (PyProof.Rows.callWith_type1 (thn (ha.run pos pins s σ H _ I h) fun us s1 ⟨vs, H1, I1, rr, q1⟩ => ?_) hs hpl))⟩
  obtain ⟨a, b, xs, ys, ex, qx, qy, q⟩ := q1
  subst ex
  obtain ⟨u0, u1, rfl, r0, r1⟩ := vals2 rr
  obtain rfl : u0 = Value.ref a := r0
  obtain rfl : u1 = Value.ref b := r1
  obtain ⟨its, rv, p1, _⟩ := I1.tuple qx
  obtain ⟨its2, rv2, p2, _⟩ := I1.list qy
  obtain ⟨o1, ho1, _⟩ := id p1
  have la : a < s1.heap.objs.size := Heap.lt_size ho1
  have lb : b < s1.heap.objs.size := p2.lt
  refine zip_begins2 (begins_tuple a its.toArray) (begins_list b its2.toArray) p1 p2.isList fun h' hz hI hO g1 g2 _ hk => wpAny_pyIter_zip hz ?_
  have I2 : Inv X pins σ H1 { s1 with heap := h' } := I1.kept (t' := s1.toks) hk
  refine ⟨s1.heap.objs.size + 4, [s1.heap.objs.size + 4, s1.heap.objs.size + 2, s1.heap.objs.size + 3, s1.heap.objs.size, s1.heap.objs.size + 1], _, _, H1, rfl, I2,
    turn_M (zip_sep2 (fp1 := [a]) (fp2 := [b]) (fun c hc => by rw [List.mem_singleton.mp hc]; exact la) (fun c hc => by rw [List.mem_singleton.mp hc]; exact lb)) (Nat.ne_of_lt la) (Nat.ne_of_lt (Nat.lt_succ_of_lt lb)), ⟨hz, hI, ⟨_, _, hO⟩, ⟨_, g1, rfl, rfl⟩, ⟨_, g2, rfl, rfl⟩⟩, fun c hcm => ?_, q⟩
  have hle : s1.heap.objs.size ≤ c := by
    simp only [List.mem_cons, List.not_mem_nil, or_false] at hcm
    rcases hcm with z | z | z | z | z <;> (rw [z]; first | exact Nat.le_refl _ | exact Nat.le_add_right _ _)
  exact I1.fpOk hle (I1.hok.fresh hle)
section
variable {X : Cx} {c : Ctx} {e e2 : Expr} {pos : Pos}
theorem isw_pair {K : PySem.W.Frag} {H H1 : Hp} {T : Addr} {vx vy : V} {x y : D} (n : H T = none) (f : Fx H1 H) (ix : Is K H1 vx x) (iy : Is K H1 vy y) : Same H (upd H T (.tup [vx, vy])) ∧ IsW K (upd H T (.tup [vx, vy])) (.ref T) (.tuple [x, y]) := by
  have sm := upd_same' (o := .tup [vx, vy]) n
  have fx := f.trans (Same.fx sm)
  exact ⟨sm, .inr ⟨T, _, _, rfl, rfl, SqT.of upd_same, .cons (Is.mono fx _ _ ix) (.cons (Is.mono fx _ _ iy) .nil)⟩⟩
def wZip (wa : LW) : LW := fun ρ Q => wa ρ fun ds ρ1 => ∃ xs ys, (ds = [.list xs, .list ys] ∨ ds = [.tuple xs, .tuple ys]) ∧ Q (zipD xs ys) ρ1
theorem di_zip {p tpos : Pos} {elts : List Expr} {kk : Nat} {wa : LW} (hg : Gl X "zip") (hm : X.mg "zip" = none) (ha : PA X [e, e2] (tA c wa)) (hs : starEach [e, e2] X.env = (false, eval e X.env) :: starEach [e2] X.env := by rfl) (hpl : (backTo pos (starEach [e2] X.env)).any (·.1) = false := by rfl) (hK : c.K = X.K := by rfl) :
    PI X (.Tuple elts kk tpos) (.Call (.Name "zip" p) [e, e2] [] pos) (iW c (wZip wa)) := by
  refine PI.imp (RZ.pi_zipA hg hm ha hs hpl) ?_
  rintro σ H Q ⟨ρ, Q0, E, hw, k⟩
  refine ⟨ρ, _, E, hw, fun ds ρ' vs H' q g E1 i1 => ?_⟩
  obtain ⟨xs, ys, hd, q⟩ := q
  rcases hd with rfl | rfl
  · cases i1 with
    | cons h3 h4 =>
      cases h4 with
      | cons h5 h6 =>
        cases h6
        cases h3 with
        | @lst a o us _ g1 g2 =>
          cases h5 with
          | @lst b o2 ws _ g3 g4 =>
            have s1 : ∀ H2, Fx H' H2 → SqL X.K H2 a us := fun H2 f => .inl (.inr ⟨o, f _ _ rfl g1⟩)
            have s2 : ∀ H2, Fx H' H2 → SqL X.K H2 b ws := fun H2 f => .inl (.inr ⟨o2, f _ _ rfl g3⟩)
            refine ⟨a, b, us, ws, rfl, .inl ⟨s1 H' (Fx.refl _), s2 H' (Fx.refl _), k _ ρ' _ H' q g E1 ⟨fun i H2 f hi => ?_, fun i x H2 H3 d f hd y => ?_, fun i H2 f hi => ⟨us, ws, s1 H2 f, s2 H2 f, ?_⟩⟩⟩⟩
            · rw [zipD_length] at hi
              have l1 := g2.length
              have l2 := g4.length
              exact ⟨us, ws, us[i]'(by omega), ws[i]'(by omega), s1 H2 f, s2 H2 f, List.getElem?_eq_getElem _, List.getElem?_eq_getElem _⟩
            · obtain ⟨T, x', y', rfl, n, rfl, y1, y2⟩ := y
              obtain ⟨dx, dy, e1, e2, rfl⟩ := zipD_get hd
              obtain ⟨v, hv, iv⟩ := g2.get e1
              obtain ⟨u, hu, iu⟩ := g4.get e2
              have z1 := (y1 us (s1 _ f)).symm.trans hv
              have z2 := (y2 ws (s2 _ f)).symm.trans hu
              cases z1
              cases z2
              exact isw_pair n f iv iu
            · rw [zipD_length] at hi
              have l1 := g2.length
              have l2 := g4.length
              omega
  · cases i1 with
    | cons h3 h4 =>
      cases h4 with
      | cons h5 h6 =>
        cases h6
        cases h3 with
        | @tup a us _ g1 g2 =>
          cases h5 with
          | @tup b ws _ g3 g4 =>
            have s1 : ∀ H2, Fx H' H2 → SqT X.K H2 a us := fun H2 f => by rw [← hK]; exact (f.tupK g1).sqT
            have s2 : ∀ H2, Fx H' H2 → SqT X.K H2 b ws := fun H2 f => by rw [← hK]; exact (f.tupK g3).sqT
            refine ⟨a, b, us, ws, rfl, .inr ⟨s1 H' (Fx.refl _), s2 H' (Fx.refl _), k _ ρ' _ H' q g E1 ⟨fun i H2 f hi => ?_, fun i x H2 H3 d f hd y => ?_, fun i H2 f hi => ⟨us, ws, s1 H2 f, s2 H2 f, ?_⟩⟩⟩⟩
            · rw [zipD_length] at hi
              have l1 := g2.length
              have l2 := g4.length
              exact ⟨us, ws, us[i]'(by omega), ws[i]'(by omega), s1 H2 f, s2 H2 f, List.getElem?_eq_getElem _, List.getElem?_eq_getElem _⟩
            · obtain ⟨T, x', y', rfl, n, rfl, y1, y2⟩ := y
              obtain ⟨dx, dy, e1, e2, rfl⟩ := zipD_get hd
              obtain ⟨v, hv, iv⟩ := g2.get e1
              obtain ⟨u, hu, iu⟩ := g4.get e2
              have z1 := (y1 us (s1 _ f)).symm.trans hv
              have z2 := (y2 ws (s2 _ f)).symm.trans hu
              cases z1
              cases z2
              exact isw_pair n f iv iu
            · rw [zipD_length] at hi
              have l1 := g2.length
              have l2 := g4.length
              omega
def wZipM (wa : LW) : LW := fun ρ Q => wa ρ fun ds ρ1 => ∃ xs ys, ds = [.tuple xs, .list ys] ∧ Q (zipD xs ys) ρ1
theorem di_zipM {p tpos : Pos} {elts : List Expr} {kk : Nat} {wa : LW} (hg : Gl X "zip") (hm : X.mg "zip" = none) (ha : PA X [e, e2] (tA c wa)) (hs : starEach [e, e2] X.env = (false, eval e X.env) :: starEach [e2] X.env := by rfl) (hpl : (backTo pos (starEach [e2] X.env)).any (·.1) = false := by rfl) (hK : c.K = X.K := by rfl) :
    PI X (.Tuple elts kk tpos) (.Call (.Name "zip" p) [e, e2] [] pos) (iW c (wZipM wa)) := by
  refine PI.imp (pi_zM hg hm ha hs hpl) ?_
  rintro σ H Q ⟨ρ, Q0, E, hw, k⟩
  refine ⟨ρ, _, E, hw, fun ds ρ' vs H' q g E1 i1 => ?_⟩
  obtain ⟨xs, ys, rfl, q⟩ := q
  cases i1 with
  | cons h3 h4 =>
    cases h4 with
    | cons h5 h6 =>
      cases h6
      cases h3 with
      | @tup a us _ g1 g2 =>
        cases h5 with
        | @lst b o2 ws _ g3 g4 =>
          have s1 : ∀ H2, Fx H' H2 → SqT X.K H2 a us := fun H2 f => by rw [← hK]; exact (f.tupK g1).sqT
          have s2 : ∀ H2, Fx H' H2 → SqL X.K H2 b ws := fun H2 f => .inl (.inr ⟨o2, f _ _ rfl g3⟩)
          refine ⟨a, b, us, ws, rfl, s1 H' (Fx.refl _), s2 H' (Fx.refl _), k _ ρ' _ H' q g E1 ⟨fun i H2 f hi => ?_, fun i x H2 H3 d f hd y => ?_, fun i H2 f hi => ⟨us, ws, s1 H2 f, s2 H2 f, ?_⟩⟩⟩
          · rw [zipD_length] at hi
            have l1 := g2.length
            have l2 := g4.length
            exact ⟨us, ws, us[i]'(by omega), ws[i]'(by omega), s1 H2 f, s2 H2 f, List.getElem?_eq_getElem _, List.getElem?_eq_getElem _⟩
          · obtain ⟨T, x', y', rfl, n, rfl, y1, y2⟩ := y
            obtain ⟨dx, dy, e1, e2, rfl⟩ := zipD_get hd
            obtain ⟨v, hv, iv⟩ := g2.get e1
            obtain ⟨u, hu, iu⟩ := g4.get e2
            have z1 := (y1 us (s1 _ f)).symm.trans hv
            have z2 := (y2 ws (s2 _ f)).symm.trans hu
            cases z1
            cases z2
            exact isw_pair n f iv iu
          · rw [zipD_length] at hi
            have l1 := g2.length
            have l2 := g4.length
            omega
end
end DL
namespace DL
open PySem PySem.Spec PyProof.Rows L2
section
variable {X : Cx} {c : Ctx} {e a b o : Expr} {es : List Expr} {pos apos cpos : Pos}
theorem is_strs {K : PySem.W.Frag} {H : Hp} : ∀ {ys : List Str} {vs : List V}, IsAll K H vs (ys.map .str) → vs = ys.map V.str
  | [], _, .nil => rfl
  | y :: ys, _, .cons h t => by
    cases h
    rw [is_strs t]; rfl
theorem strs_is {K : PySem.W.Frag} {H : Hp} : ∀ ys : List Str, IsAll K H (ys.map V.str) (ys.map .str)
  | [] => .nil
  | y :: ys => .cons (.str y) (strs_is ys)
/-! ### join, split -/
def wJoin (ws wl : DW) : DW := fun ρ Q => ws ρ fun d ρ1 => ∃ y, d = .str y ∧ wl ρ1 fun l ρ2 => ∃ ys : List Str, (l = .list (ys.map .str) ∨ l = .tuple (ys.map .str)) ∧ (ys.map (·.length)).sum + ys.length * y.length ≤ 16777216 ∧ Q (.str (Txt.join y ys)) ρ2
theorem de_join {ws wl : DW} (ho : PE X o (tD c ws)) (he : PE X e (tD c wl)) (hs : starEach [e] X.env = [(false, eval e X.env)] := by rfl) (hbase : attributeBase o "join" X.env (eval o X.env) = eval o X.env := by rfl) (hline : (apos.endLine == pos.line) = true := by rfl) (hK : c.K = X.K := by rfl) :
    PE X (.Call (.Attribute o "join" apos) [e] [] pos) (tD c (wJoin ws wl)) := by
  refine PE.imp (pe_join ho he hs hbase hline) ?_
  rintro σ H Q ⟨ρ, Q0, E, hw, k⟩
  refine ⟨ρ, _, E, hw, fun d ρ1 v H1 q g E1 i1 => ?_⟩
  obtain ⟨y, rfl, q⟩ := q
  cases i1
  refine ⟨⟨y, rfl⟩, ρ1, _, E1, q, fun l ρ2 u H2 q2 g2 E2 i2 => ?_⟩
  obtain ⟨ys, hl, hz, q3⟩ := q2
  rcases hl with rfl | rfl
  · cases i2 with
    | @lst p ob xs _ h1 h2 =>
      have := is_strs h2
      subst this
      exact ⟨y, p, ys, rfl, rfl, .inl (.inl (.inr ⟨ob, h1⟩)), hz, k _ ρ2 _ H2 q3 (g.trans g2) E2 (.str _)⟩
  · cases i2 with
    | @tup p xs _ h1 h2 =>
      have := is_strs h2
      subst this
      exact ⟨y, p, ys, rfl, rfl, .inr (by rw [← hK]; exact h1.sqT), hz, k _ ρ2 _ H2 q3 (g.trans g2) E2 (.str _)⟩
def wSplit (ws we : DW) : LW := fun ρ Q => ws ρ fun d ρ1 => ∃ x, d = .str x ∧ we ρ1 fun f ρ2 => ∃ y, f = .str y ∧ (y.length == 0) = false ∧ x.length + 2 ≤ sizeLine ∧ Q ((Txt.split x y).map .str) ρ2
theorem df_split {ws we : DW} (ho : PE X o (tD c ws)) (he : PE X e (tD c we)) (hs : starEach [e] X.env = [(false, eval e X.env)] := by rfl) (hbase : attributeBase o "split" X.env (eval o X.env) = eval o X.env := by rfl) (hline : (apos.endLine == pos.line) = true := by rfl) :
    PE X (.Call (.Attribute o "split" apos) [e] [] pos) (tF c (wSplit ws we)) := by
  refine PE.imp (pe_split ho he hs hbase hline) ?_
  rintro σ H Q ⟨ρ, Q0, E, hw, k⟩
  refine ⟨ρ, _, E, hw, fun d ρ1 v H1 q g E1 i1 => ?_⟩
  obtain ⟨x, rfl, q⟩ := q
  cases i1
  refine ⟨⟨x, rfl⟩, ρ1, _, E1, q, fun l ρ2 u H2 q2 g2 E2 i2 => ?_⟩
  obtain ⟨y, rfl, hy, hx, q3⟩ := q2
  cases i2
  refine ⟨x, y, rfl, rfl, hy, hx, fun p hp => ?_⟩
  have sm := upd_same' (o := .lst ((Txt.split x y).map V.str)) hp
  exact k _ ρ2 p _ _ q3 ((g.trans g2).trans (Gr.same sm)) (E2.same sm) (((g.trans g2)).free E2 hp) upd_same (strs_is _)
/-! ### f'..' -/
def wFmt (w : DW) : DW := fun ρ Q => w ρ fun d ρ1 => (∃ y, d = .str y ∧ y.length ≤ sizeLine ∧ Q (.str y) ρ1) ∨ ∃ i : Int, d = .int i ∧ i.natAbs.log2 < 1920 ∧ Q (.str (toString i : String)) ρ1
theorem de_fmt {w : DW} (he : PE X e (tD c w)) : PE X (.FormattedValue e (-1) none pos) (tD c (wFmt w)) := by
  refine PE.imp (pe_fmt he) ?_
  rintro σ H Q ⟨ρ, Q0, E, hw, k⟩
  refine ⟨ρ, _, E, hw, fun d ρ1 v H1 q g E1 i1 => ?_⟩
  rcases q with ⟨y, rfl, hz, q⟩ | ⟨i, rfl, hz, q⟩
  · cases i1
    exact .inl ⟨y, rfl, hz, k _ ρ1 _ H1 q g E1 (.str y)⟩
  · cases i1
    exact .inr ⟨i, rfl, hz, k _ ρ1 _ H1 q g E1 (.str _)⟩
def wJs : List DW → Str → List Sl → (Str → List Sl → Prop) → Prop
  | [], acc, ρ, Q => Q acc ρ
  | w :: ws, acc, ρ, Q => w ρ fun d ρ1 => ∃ y : Str, d = .str y ∧ (acc ++ y).length ≤ sizeLine ∧ wJs ws (acc ++ y) ρ1 Q
theorem js_imp {σ : Sg} {Q : Str → Hp → Prop} {Q0 : Str → List Sl → Prop} : ∀ {ws : List DW} {acc : Str} {H : Hp} {ρ : List Sl}, En c H σ ρ → wJs ws acc ρ Q0 → (∀ out ρ' H', Q0 out ρ' → Gr c σ H H' → En c H' σ ρ' → Q out H') → tJs (ws.map (tD c)) acc σ H Q
  | [], acc, H, ρ, E, h, k => k acc ρ H h (Gr.refl H) E
  | w :: ws, acc, H, ρ, E, h, k => ⟨ρ, _, E, h, fun d ρ1 v H1 q g E1 i1 => by
      obtain ⟨y, rfl, hy, q⟩ := q
      cases i1
      exact ⟨y, rfl, hy, js_imp E1 q fun out ρ' H' q' g' E' => k out ρ' H' q' (g.trans g') E'⟩⟩
def wJoined (ws : List DW) : DW := fun ρ Q => wJs ws Str.empty ρ fun out ρ' => Q (.str out) ρ'
theorem de_joined {v1 v2 : Expr} {rest : List Expr} (ws : List DW) (h : PJ X (v1 :: v2 :: rest) (ws.map (tD c))) : PE X (.JoinedStr (v1 :: v2 :: rest) pos) (tD c (wJoined ws)) := by
  refine PE.imp (pe_joined h) ?_
  rintro σ H Q ⟨ρ, Q0, E, hw, k⟩
  exact js_imp E hw fun out ρ' H' q g E' => k _ ρ' _ H' q g E' (.str out)
/-! ### str(x), int(text) -/
def strL : List D → Option D
  | [.int i] => if i.natAbs.log2 < 1920 then some (.str (toString i : String)) else none
  | [.str y] => some (.str y)
  | _ => none
theorem cr_strD : CallR X (.type "str") (rCl X.K strL) := by
  intro pins s σ H xs us Q I r h
  obtain ⟨ds, r', hd, hr, q⟩ := h
  cases hd with
  | nil => exact nomatch hr
  | cons h1 h2 =>
    cases h2 with
    | cons _ _ => cases h1 <;> exact nomatch hr
    | nil =>
      cases h1 with
      | int i =>
        have hr : (if i.natAbs.log2 < 1920 then some (PyData.str (toString i : String)) else none) = some r' := hr
        split at hr
        · rename_i hz
          cases hr
          exact call_str_int pins s σ H _ us Q I r ⟨i, rfl, hz, q _ H (Same.refl H) (.str _)⟩
        · cases hr
      | str y =>
        cases hr
        exact SkE.call_str_str pins s σ H _ us Q I r ⟨y, rfl, q _ H (Same.refl H) (.str y)⟩
      | _ => exact nomatch hr
def intTL : List D → Option D
  | [.str x] => if x.length ≤ 640 then (PySem.intText? x).map .int else none
  | _ => none
theorem cr_intT : CallR X (.type "int") (rCl X.K intTL) := by
  intro pins s σ H xs us Q I r h
  obtain ⟨ds, r', hd, hr, q⟩ := h
  cases hd with
  | nil => exact nomatch hr
  | cons h1 h2 =>
    cases h2 with
    | cons _ _ => cases h1 <;> exact nomatch hr
    | nil =>
      cases h1 with
      | str x =>
        have hr : (if x.length ≤ 640 then (PySem.intText? x).map PyData.int else none) = some r' := hr
        split at hr
        · rename_i hz
          cases hn : PySem.intText? x with
          | none => rw [hn] at hr; cases hr
          | some n =>
            rw [hn] at hr
            cases hr
            exact call_int_str pins s σ H _ us Q I r ⟨x, n, rfl, hn, hz, q _ H (Same.refl H) (.int n)⟩
        · cases hr
      | _ => exact nomatch hr
/-! ### a, b, .. = a list -/
def wUnpL (is : List Nat) : GW := fun d ρ Q => ∃ ds, d = .list ds ∧ ds.length = is.length ∧ Q (setN ρ is ds)
theorem dg_lst {is vs : List Nat} {kk : Nat} (hc : X.calm = true) (h : PGs X es (gsD c vs is)) (hn : (assignEach es X.env).length = is.length := by rfl) (hst : (assignEach es X.env).findIdx? (·.1) = none := by rfl) (hK : c.K = X.K := by rfl) : PG X (.Tuple es kk pos) (gD c vs (wUnpL is)) := by
  refine PG.imp (pg_lst hc h hn hst) ?_
  rintro v σ H Q ⟨d, ρ, Q0, iv, E, ⟨ds, rfl, hl, g⟩, k⟩
  cases iv with
  | @lst a o xs _ h1 h2 => exact ⟨a, xs, rfl, .inl (.inr ⟨o, h1⟩), by rw [h2.length]; exact hl, ds, ρ, Q0, h2, hl, E, g, k⟩
/-- a statement that is never reached -/
theorem ds_never {st : Stmt} : PS X st (sD c fun _ _ => False) := ⟨fun _ _ _ _ _ _ ⟨_, _, _, h, _⟩ => h.elim⟩
end
end DL
namespace DL
open PySem PySem.Spec PyProof.Rows L2
/-! ### a list of one's own that a test has looked at is one's own again -/
def flatSl : Sl → Bool
  | .un => true
  | .dat d => flatD d
  | .own ds => flatA ds
  | _ => false
def flatSs (i : Nat) (ρ : List Sl) : Prop := ∀ j s, j ≠ i → ρ[j]? = some s → flatSl s = true
theorem En.thaw {c : Ctx} {H H' : Hp} {σ : Sg} {ρ0 ρ : List Sl} {i : Nat} {a : Addr} {o : Obj} {xs : List V} {ds0 ds : List D} (E0 : En c H σ ρ0) (h0 : ρ0[i]? = some (.own ds0)) (E : En c H' σ ρ) (hi : ρ[i]? = some (.dat (.list ds))) (hx : σ[i]? = some (some (.ref a))) (ha : H' a = some (.frz o (.lst xs))) (ix : IsAll c.K H' xs ds)
    (hp : c.pot = none ∨ i ≠ 0) (fd : flatA ds = true) (fs : flatSs i ρ) : En c (upd H' a (.lst xs)) σ (ρ.set i (.own ds)) := by
  have tup : ∀ (t : Addr) (ob : Obj) (ys : List V), H' t = some (.frz ob (.tup ys)) → (upd H' a (.lst xs)) t = some (.frz ob (.tup ys)) := fun t ob ys h => by
    have : t ≠ a := fun z => by rw [z, ha] at h; cases h
    rw [upd_ne this]; exact h
  have na : c.H0 a = none := by
    rcases E0.new i ds0 a h0 hx with e | ⟨e1, e2⟩
    · exact e
    · rcases hp with y | y
      · rw [y] at e1; cases e1
      · exact absurd e2 y
  have nown : ∀ (j : Nat) (es : List D), ρ[j]? = some (Sl.own es) → σ[j]? ≠ some (some (V.ref a)) := fun j es h1 h2 => by
    obtain ⟨x, hx2, b, ys, e, hb, _⟩ := E.at h1
    rw [h2] at hx2
    cases hx2
    cases e
    rw [ha] at hb
    cases hb
  refine ⟨by rw [List.length_set]; exact E.len, fun j s x q1 q2 => ?_, fun j es q1 => ?_, fun j k es fs' b q1 q2 q3 q4 => ?_, fun j es b q1 q2 => ?_, fun b ob q n => ?_, E.potS, fun j b hj q => ?_, E.potM, fun j ks b q1 q2 => ?_, fun j ks q1 => ?_, fun j k ks ls q1 q2 => ?_⟩
  · rcases getSet q1 with ⟨rfl, rfl⟩ | ⟨n, q1⟩
    · rw [hx] at q2
      cases q2
      exact ⟨a, xs, rfl, upd_same, IsAll.flat tup ds xs fd ix⟩
    · have z := E.sl j s x q1 q2
      have f := fs j s (Ne.symm n) q1
      cases s with
      | un => trivial
      | dat d => obtain ⟨v, e, iv⟩ := z; exact ⟨v, e, Is.flat tup d v f iv⟩
      | own es =>
        obtain ⟨b, ys, e, hb, iy⟩ := z
        refine ⟨b, ys, e, ?_, IsAll.flat tup es ys f iy⟩
        have : b ≠ a := fun w => by rw [w, ha] at hb; cases hb
        rw [upd_ne this]; exact hb
      | _ => cases f
  · rcases getSet q1 with ⟨rfl, _⟩ | ⟨_, q1⟩
    · exact E0.ownM i ds0 h0
    · exact E.ownM j es q1
  · rcases getSet q1 with ⟨rfl, _⟩ | ⟨n1, q1⟩
    · rcases getSet q2 with ⟨rfl, _⟩ | ⟨n2, q2⟩
      · rfl
      · rw [hx] at q3
        cases q3
        exact absurd q4 (nown k _ q2)
    · rcases getSet q2 with ⟨rfl, _⟩ | ⟨n2, q2⟩
      · rw [hx] at q4
        cases q4
        exact absurd q3 (nown j _ q1)
      · exact E.sep j k es fs' b q1 q2 q3 q4
  · rcases getSet q1 with ⟨rfl, _⟩ | ⟨_, q1⟩
    · exact E0.new i ds0 b h0 q2
    · exact E.new j es b q1 q2
  · have nb : b ≠ a := fun z => by rw [z, na] at q; cases q
    rw [upd_ne nb]; exact E.keep b ob q n
  · by_cases e : b = a
    · rw [e, upd_same]; rfl
    · rw [upd_ne e]; exact E.trk j b hj q
  · rcases getSet q1 with ⟨_, e⟩ | ⟨_, q1⟩
    · cases e
    · exact E.bagN j ks b q1 q2
  · rcases getSet q1 with ⟨_, e⟩ | ⟨_, q1⟩
    · cases e
    · exact E.bagM j ks q1
  · rcases getSet q1 with ⟨_, e⟩ | ⟨_, q1⟩
    · cases e
    rcases getSet q2 with ⟨_, e⟩ | ⟨_, q2⟩
    · cases e
    exact E.bag1 j k ks ls q1 q2
def wThawT (i : Nat) (t : BW) : BW := fun ρ Q => (∃ ds, ρ[i]? = some (.own ds)) ∧ t ρ fun b ρ' => ∃ ds, ρ'[i]? = some (.dat (.list ds)) ∧ flatA ds = true ∧ flatSs i ρ' ∧ Q b (ρ'.set i (.own ds))
section
variable {X : Cx} {c : Ctx} {e : Expr}
theorem dt_thaw (i : Nat) {t : BW} (h : PT X e (tT c t)) (hp : c.pot = none ∨ i ≠ 0) (hH : c.H0 = X.H_0 := by rfl) : PT X e (tT c (wThawT i t)) := by
  refine ⟨fun pins s σ H Q I hq => ?_⟩
  obtain ⟨ρ, Q0, E, ⟨⟨ds0, h0⟩, ht⟩, k⟩ := hq
  obtain ⟨x0, hx, a, xs0, rfl, ha0, _⟩ := E.at h0
  have hO : Ow c σ a := ⟨i, E.ownM i ds0 h0, hx⟩
  refine thn (h.run pins s σ H (fun b H' => ∃ ρ', Gr c σ H H' ∧ En c H' σ ρ' ∧ ∃ ds, ρ'[i]? = some (.dat (.list ds)) ∧ flatA ds = true ∧ flatSs i ρ' ∧ Q0 b (ρ'.set i (.own ds))) I ⟨ρ, _, E, ht, fun b ρ' H' q g E' => ⟨ρ', g, E', q⟩⟩) fun b s1 hb => ?_
  obtain ⟨H', I1, ρ', g, E', ds, hi, fd, fs, q⟩ := hb
  obtain ⟨x1, hx1, v, e1, iv⟩ := E'.at hi
  rw [hx] at hx1
  cases hx1
  cases e1
  cases iv with
  | @lst _ o xs _ h1 h2 =>
    have hnf : ∀ o v, X.H_0 a ≠ some (.frz o v) := fun o v z => by
      rw [← hH] at z
      rcases E.new i ds0 a h0 hx with e | ⟨e1, e2⟩
      · rw [z] at e; cases e
      · rcases hp with y | y
        · rw [y] at e1; cases e1
        · exact y e2
    have I2 := DL.Inv.thaw I1 h1 hnf
    refine ⟨_, I2, k b _ _ q ⟨fun t ob f e => ?_, fun t ob e w => ?_⟩ (En.thaw E h0 E' hi hx h1 h2 hp fd fs)⟩
    · have : t ≠ a := fun z => by rw [z, ha0] at e; cases e; cases f
      rw [upd_ne this]; exact g.fx t ob f e
    · have : t ≠ a := fun z => by rw [z] at w; exact w hO
      rw [upd_ne this]; exact g.kp t ob e w
end
end DL
namespace K50
open PySem PySem.Spec PyProof.Rows L2 DL
abbrev N__law_stream : List Str := ["script", "k", "cell", "own"]
def wb__law_stream : SW := (wSeq (wSet 2 (wIf (wTst (wBin ltD (wVar 1) (wLenI 0))) (wIxI 0 (wVar 1)) (wBin addD (wBin mulD (wC (.int 13)) (wVar 1)) (wC (.int 4))))) (wSeq (wSet 3 (wBin mulD (wBin modD (wCl absL (wCons (wVar 2) wNil)) (wBin powD (wBin powD (wC (.int 10)) (wC (.int 60))) (wC (.int 5)))) (wCl intL (wCons (wBin geD (wCl absL (wCons (wVar 2) wNil)) (wBin powD (wC (.int 10)) (wC (.int 18)))) wNil)))) (wRetF (wLst (wCons (wVar 3) (wCons (wBin modD (wBin addD (wBin addD (wBin mulD (wBin modD (wVar 2) (wC (.int 2305843009213693951))) (wC (.int 69621))) (wBin mulD (wBin mulD (wC (.int 104729)) (wVar 1)) (wVar 1))) (wC (.int 31))) (wC (.int 2305843009213693921))) (wCons (wC (.int 0)) wNil)))))))
def w__law_stream : PI' := dI N__law_stream wb__law_stream
abbrev N__law_draw : List Str := ["stream", "many", "digit", "prime", "mixed"]
def wb__law_draw : SW := (wSeq (wIfS (wTst (wBin gtD (wIxN 0 (wC (.int 0))) (wC (.int 0)))) (wSeq (wSet 2 (wBin modD (wIxN 0 (wC (.int 0))) (wVar 1))) (wSeq (wSetIx 0 0 (wBin fdivD (wIxN 0 (wC (.int 0))) (wVar 1))) (wRet (wVar 2)))) wNext) (wSeq (wSetIx 0 2 (wBin addD (wIxN 0 (wC (.int 2))) (wC (.int 1)))) (wSeq (wSet 3 (wBin ixD (wL (wLst (wCons (wC (.int 2147483647)) (wCons (wC (.int 2147483629)) (wCons (wC (.int 2147483587)) (wCons (wC (.int 2147483579)) (wCons (wC (.int 2147483563)) wNil))))))) (wBin modD (wIxN 0 (wC (.int 2))) (wC (.int 5))))) (wSeq (wSet 4 (wBin modD (wBin powD (wBin addD (wBin addD (wIxN 0 (wC (.int 1))) (wBin mulD (wBin mulD (wC (.int 65537)) (wIxN 0 (wC (.int 2)))) (wIxN 0 (wC (.int 2))))) (wC (.int 37))) (wC (.int 3))) (wVar 3))) (wRet (wBin modD (wBin fdivD (wBin modD (wBin mulD (wVar 4) (wBin addD (wBin modD (wVar 4) (wC (.int 10007))) (wBin mulD (wC (.int 97)) (wIxN 0 (wC (.int 2)))))) (wC (.int 2305843009213693907))) (wC (.int 97))) (wVar 1)))))))
def w__law_draw : PP := dP N__law_draw wb__law_draw
abbrev N__law_pick : List Str := ["stream", "some"]
def wb__law_pick : SW := (wRet (wIxN 1 (wCallP 0 1 w__law_draw (wCons (wLenN 1) wNil))))
def w__law_pick : PP := dP N__law_pick wb__law_pick
abbrev N__law_names : List Str := ["stream", "many", "words", "letters", "first", "leap", "stem", "turn", "nth"]
def wb__law_names : SW := (wSeq (wSetO 2 (wLst (wCons (wC (.str (Str.ofString "add"))) (wCons (wC (.str (Str.ofString "one"))) (wCons (wC (.str (Str.ofString "neg"))) (wCons (wC (.str (Str.ofString "mix"))) (wCons (wC (.str (Str.ofString "to"))) (wCons (wC (.str (Str.ofString "as"))) (wCons (wC (.str (Str.ofString "wrap"))) (wCons (wC (.str (Str.ofString "kind"))) (wCons (wC (.str (Str.ofString "limit"))) (wCons (wC (.str (Str.ofString "implicit"))) (wCons (wC (.str (Str.ofString "explicit"))) (wCons (wC (.str (Str.ofString "input"))) wNil)))))))))))))) (wSeq (wSetO 2 (wAddF (wVar 2) (wL (wLst (wCons (wC (.str (Str.ofString "call"))) (wCons (wC (.str (Str.ofString "cast"))) wNil)))))) (wSeq (wIfS (wTst (wBin eqD (wCallP 0 1 w__law_draw (wCons (wC (.int 3)) wNil)) (wC (.int 0)))) (wRetF (wLc ([7] : List Nat) (wRange1 (wCons (wVar 1) wNil)) (wName 7) wYes (wPopAt 2 (wCallP 0 1 w__law_draw (wCons (wLenN 2) wNil))))) wNext) (wSeq (wSet 3 (wC (.str (Str.ofString "abcdefghijklmnopqrstuvwxyz")))) (wSeq (wAsg (wTup (wCons (wCallP 0 1 w__law_draw (wCons (wC (.int 26)) wNil)) (wCons (wCallP 0 1 w__law_pick (wCons (wL (wLst (wCons (wC (.int 1)) (wCons (wC (.int 3)) (wCons (wC (.int 5)) (wCons (wC (.int 7)) (wCons (wC (.int 9)) (wCons (wC (.int 11)) wNil)))))))) wNil)) wNil))) (wUnp [4, 5])) (wSeq (wSet 6 (wCallP 0 1 w__law_pick (wCons (wL (wLst (wCons (wC (.str (Str.ofString ""))) (wCons (wC (.str (Str.ofString ""))) (wCons (wC (.str (Str.ofString "x"))) (wCons (wC (.str (Str.ofString "abc"))) (wCons (wC (.str (Str.ofString "zzzzzzz"))) wNil))))))) wNil))) (wRetF (wLc ([8] : List Nat) (wRange1 (wCons (wVar 1) wNil)) (wName 8) wYes (wBin addD (wVar 6) (wIxN 3 (wBin modD (wBin addD (wVar 4) (wBin mulD (wVar 5) (wVar 8))) (wC (.int 26)))))))))))))
def w__law_names : PP := dP N__law_names wb__law_names
abbrev N__law_kinds : List Str := ["stream", "most", "values", "found", "name"]
def wb__law_kinds : SW := (wSeq (wSet 3 (wL (wSort (wCons (wL (wCallPF 0 1 w__law_names (wCons (wBin addD (wC (.int 1)) (wCallP 0 1 w__law_draw (wCons (wVar 1) wNil))) wNil))) wNil)))) (wRet (wCl tupL (wCons (wL (wLc ([4] : List Nat) (wItems (wVar 3)) (wName 4) wYes (wTup (wCons (wVar 4) (wCons (wBin addD (wC (.int 1)) (wCallP 0 1 w__law_draw (wCons (wVar 2) wNil))) wNil))))) wNil))))
def w__law_kinds : PP := dP N__law_kinds wb__law_kinds
abbrev N__law_conversion : List Str := ["stream", "kinds", "name", "one", "other", "by_remainder", "entries", "kind", "value"]
def wb__law_conversion : SW := (wSeq (wSet 3 (wCallP 0 1 w__law_pick (wCons (wVar 1) wNil))) (wSeq (wAsg (wTup (wCons (wCallP 0 1 w__law_pick (wCons (wL (wLc ([7] : List Nat) (wItems (wVar 1)) (wName 7) (wTst (wBin neD (wVar 7) (wVar 3))) (wVar 7))) wNil)) (wCons (wBin eqD (wCallP 0 1 w__law_draw (wCons (wC (.int 2)) wNil)) (wC (.int 0))) wNil))) (wUnp [4, 5])) (wSeq (wSet 6 (wL (wLc ([8] : List Nat) (wRange1 (wCons (wIxN 3 (wC (.int 1))) wNil)) (wName 8) wYes (wIf (wTru (wVar 5)) (wBin modD (wVar 8) (wIxN 4 (wC (.int 1)))) (wCallP 0 1 w__law_draw (wCons (wIxN 4 (wC (.int 1))) wNil)))))) (wRet (wTup (wCons (wC (.str (Str.ofString "conversion"))) (wCons (wVar 2) (wCons (wIxN 3 (wC (.int 0))) (wCons (wIxN 4 (wC (.int 0))) (wCons (wBin gtD (wCallP 0 1 w__law_draw (wCons (wC (.int 3)) wNil)) (wC (.int 0))) (wCons (wCl tupL (wCons (wVar 6) wNil)) wNil)))))))))))
def w__law_conversion : PP := dP N__law_conversion wb__law_conversion
abbrev N__law_rows : List Str := ["counts", "found", "count", "longer", "row", "value"]
def wb__law_rows : SW := (wSeq (wSet 1 (wL (wLst (wCons (wTup wNil) wNil)))) (wSeq (wFor (wItems (wVar 0)) (wName 2) (wSeq (wSetO 3 (wLst wNil)) (wSeq (wFor (wItems (wVar 1)) (wName 4) (wDrop (wExt 3 (wL (wLc ([5] : List Nat) (wRange1 (wCons (wVar 2) wNil)) (wName 5) wYes (wBin addD (wVar 4) (wTup (wCons (wVar 5) wNil)))))))) (wSet 1 (wVar 3))))) (wRet (wVar 1))))
def w__law_rows : PN := dN N__law_rows wb__law_rows
abbrev N__law_definition : List Str := ["stream", "kinds", "operator", "most", "some", "name", "count", "way", "shift", "entries", "row", "turn", "kind", "size_own"]
def wb__law_definition : SW := (wSeq (wSetO 4 (wLc ([11] : List Nat) (wRange1 (wCons (wCallP 0 1 w__law_draw (wCons (wBin addD (wVar 3) (wC (.int 1))) wNil)) wNil)) (wName 11) wYes (wCallP 0 1 w__law_pick (wCons (wVar 1) wNil)))) (wSeq (wWhile (wThawT 4 (wTst (wBin gtD (wCl lenL (wCons (wCall 1 w__law_rows (wCons (wL (wLc ([5, 6] : List Nat) (wItems (wVar 4)) (wUnp [5, 6]) wYes (wVar 6))) wNil)) wNil)) (wC (.int 64))))) (wDrop (wPop 4))) (wSeq (wAsg (wCallP 0 1 w__law_pick (wCons (wVar 1) wNil)) (wUnp [5, 6])) (wSeq (wPar3 7 8 9 (wMd (wCallP 0 1 w__law_draw (wCons (wC (.int 3)) wNil)) (wMd (wCallP 0 1 w__law_draw (wCons (wC (.int 2)) wNil)) (wMo (wLst wNil) wMnil)))) (wSeq (wFor (wItems (wCall 1 w__law_rows (wCons (wL (wLc ([12, 13] : List Nat) (wItems (wVar 4)) (wUnp [12, 13]) wYes (wVar 13))) wNil))) (wName 10) (wDrop (wApp 9 (wIf (wTst (wBin gtD (wVar 7) (wC (.int 0)))) (wBin modD (wBin addD (wCl sumTL (wCons (wVar 10) wNil)) (wVar 8)) (wVar 6)) (wCallP 0 1 w__law_draw (wCons (wVar 6) wNil)))))) (wRet (wTup (wCons (wC (.str (Str.ofString "definition"))) (wCons (wVar 2) (wCons (wCl tupL (wCons (wL (wLc ([12, 13] : List Nat) (wItems (wVar 4)) (wUnp [12, 13]) wYes (wVar 12))) wNil)) (wCons (wVar 5) (wCons (wCl tupL (wCons (wVar 9) wNil)) wNil))))))))))))
def w__law_definition : PP := dP N__law_definition wb__law_definition
abbrev N__law_item : List Str := ["stream", "kinds"]
def wb__law_item : SW := (wSeq (wIfS (wAnd (wTst (wBin gtD (wLenN 1) (wC (.int 1)))) (wTst (wBin eqD (wCallP 0 1 w__law_draw (wCons (wC (.int 3)) wNil)) (wC (.int 0))))) (wRet (wCallP 0 2 w__law_conversion (wCons (wVar 1) (wCons (wCallP 0 1 w__law_pick (wCons (wL (wLst (wCons (wC (.str (Str.ofString "to"))) (wCons (wC (.str (Str.ofString "as"))) (wCons (wC (.str (Str.ofString "add"))) (wCons (wC (.str (Str.ofString "one"))) (wCons (wC (.str (Str.ofString "cast"))) (wCons (wBin ixD (wIxN 1 (wC (.int 0))) (wC (.int 0))) wNil)))))))) wNil)) wNil)))) wNext) (wRet (wCallP 0 3 w__law_definition (wCons (wVar 1) (wCons (wCallP 0 1 w__law_pick (wCons (wL (wLst (wCons (wC (.str (Str.ofString "add"))) (wCons (wC (.str (Str.ofString "one"))) (wCons (wC (.str (Str.ofString "neg"))) (wCons (wC (.str (Str.ofString "mix"))) wNil)))))) wNil)) (wCons (wC (.int 2)) wNil))))))
def w__law_item : PP := dP N__law_item wb__law_item
abbrev N__law_commas : List Str := ["parts", "part_own"]
def wb__law_commas : SW := (wRet (wIf (wTst (wBin gtD (wLenN 0) (wC (.int 0)))) (wJoin (wC (.str (Str.ofString ","))) (wL (wLc ([1] : List Nat) (wItems (wVar 0)) (wName 1) wYes (wCl strL (wCons (wVar 1) wNil))))) (wC (.str (Str.ofString "-")))))
def w__law_commas : PN := dN N__law_commas wb__law_commas
abbrev N__law_item_text : List Str := ["item"]
def wb__law_item_text : SW := (wSeq (wIfS (wTst (wBin eqD (wIxN 0 (wC (.int 0))) (wC (.str (Str.ofString "definition"))))) (wRet (wJoin (wC (.str (Str.ofString " "))) (wL (wLst (wCons (wIxN 0 (wC (.int 0))) (wCons (wIxN 0 (wC (.int 1))) (wCons (wCall 1 w__law_commas (wCons (wIxN 0 (wC (.int 2))) wNil)) (wCons (wIxN 0 (wC (.int 3))) (wCons (wCall 1 w__law_commas (wCons (wIxN 0 (wC (.int 4))) wNil)) wNil))))))))) wNext) (wRet (wJoin (wC (.str (Str.ofString " "))) (wL (wLst (wCons (wIf (wTru (wIxN 0 (wC (.int 4)))) (wC (.str (Str.ofString "implicit"))) (wC (.str (Str.ofString "explicit")))) (wCons (wIxN 0 (wC (.int 1))) (wCons (wIxN 0 (wC (.int 2))) (wCons (wIxN 0 (wC (.int 3))) (wCons (wCall 1 w__law_commas (wCons (wIxN 0 (wC (.int 5))) wNil)) wNil))))))))))
def w__law_item_text : PN := dN N__law_item_text wb__law_item_text
abbrev N_show_table : List Str := ["table", "entry"]
def wb_show_table : SW := (wRet (wJoin (wC (.str (Str.ofString ","))) (wL (wLc ([1] : List Nat) (wItems (wVar 0)) (wName 1) wYes (wCl strL (wCons (wVar 1) wNil))))))
def w_show_table : PN := dN N_show_table wb_show_table
abbrev N_show_item : List Str := ["item", "_", "name", "source", "target", "is_implicit", "table", "word", "operator", "parameters", "result", "names"]
def wb_show_item : SW := (wSeq (wIfS (wTst (wBin eqD (wIxN 0 (wC (.int 0))) (wC (.str (Str.ofString "conversion"))))) (wSeq (wAsg (wVar 0) (wUnp [1, 2, 3, 4, 5, 6])) (wSeq (wSet 7 (wIf (wTru (wVar 5)) (wC (.str (Str.ofString "implicit"))) (wC (.str (Str.ofString "explicit"))))) (wRet (wJoined [(wFmt (wVar 7)), (wC (.str (Str.ofString " "))), (wFmt (wVar 2)), (wC (.str (Str.ofString " "))), (wFmt (wVar 3)), (wC (.str (Str.ofString " "))), (wFmt (wVar 4)), (wC (.str (Str.ofString " "))), (wFmt (wCall 1 w_show_table (wCons (wVar 6) wNil)))])))) wNext) (wSeq (wAsg (wVar 0) (wUnp [1, 8, 9, 10, 6])) (wSeq (wSet 11 (wIf (wTru (wVar 9)) (wJoin (wC (.str (Str.ofString ","))) (wVar 9)) (wC (.str (Str.ofString "-"))))) (wRet (wJoined [(wC (.str (Str.ofString "definition "))), (wFmt (wVar 8)), (wC (.str (Str.ofString " "))), (wFmt (wVar 11)), (wC (.str (Str.ofString " "))), (wFmt (wVar 10)), (wC (.str (Str.ofString " "))), (wFmt (wCall 1 w_show_table (wCons (wVar 6) wNil)))])))))
def w_show_item : PN := dN N_show_item wb_show_item
abbrev N_names_written : List Str := ["text"]
def wb_names_written : SW := (wRet (wIf (wTst (wBin eqD (wVar 0) (wC (.str (Str.ofString "-"))))) (wTup wNil) (wCl tupL (wCons (wL (wSplit (wVar 0) (wC (.str (Str.ofString ","))))) wNil))))
def w_names_written : PN := dN N_names_written wb_names_written
abbrev N_number_written : List Str := ["text", "most_digits", "sign"]
def wb_number_written : SW := (wSeq (wIfS (wOr (wNot (wTst (wChain leD leD (wC (.int 1)) (wLenN 0) (wVar 1)))) (wNot (wTru (wCl allL (wCons (wL (wLc ([2] : List Nat) (wSigns (wVar 0)) (wName 2) wYes (wChain leD leD (wC (.str (Str.ofString "0"))) (wVar 2) (wC (.str (Str.ofString "9")))))) wNil))))) (wRet (wC .none)) wNext) (wSeq (wIfS (wAnd (wTst (wBin eqD (wIxN 0 (wC (.int 0))) (wC (.str (Str.ofString "0"))))) (wTst (wBin gtD (wLenN 0) (wC (.int 1))))) (wRet (wC .none)) wNext) (wRet (wCl intTL (wCons (wVar 0) wNil)))))
def w_number_written : PN := dN N_number_written wb_number_written
abbrev N_table_written : List Str := ["text", "found", "word"]
def wb_table_written : SW := (wSeq (wSet 1 (wL (wLc ([2] : List Nat) (wItems (wL (wSplit (wVar 0) (wC (.str (Str.ofString ",")))))) (wName 2) wYes (wCall 2 w_number_written (wCons (wVar 2) (wCons (wC (.int 1)) wNil)))))) (wRet (wIf (wTst (wBin inD (wC .none) (wVar 1))) (wC .none) (wCl tupL (wCons (wVar 1) wNil)))))
def w_table_written : PN := dN N_table_written wb_table_written
abbrev N_is_kind : List Str := ["kinds", "value", "name", "_"]
def wb_is_kind : SW := (wRet (wBin inE (wVar 1) (wL (wLc ([2, 3] : List Nat) (wItems (wVar 0)) (wUnp [2, 3]) wYes (wVar 2)))))
def w_is_kind : PN := dN N_is_kind wb_is_kind
abbrev N_is_name : List Str := ["value", "letter"]
def wb_is_name : SW := (wSeq (wIfS (wOr (wNot (wTru (wIsi "str" (wVar 0)))) (wNot (wTst (wChain leD leD (wC (.int 1)) (wLenN 0) (wC (.int 8)))))) (wRet (wC (.bool false))) wNext) (wRet (wCl allL (wCons (wL (wLc ([1] : List Nat) (wSigns (wVar 0)) (wName 1) wYes (wChain leD leD (wC (.str (Str.ofString "a"))) (wVar 1) (wC (.str (Str.ofString "z")))))) wNil))))
def w_is_name : PN := dN N_is_name wb_is_name
abbrev N_is_integer : List Str := ["value"]
def wb_is_integer : SW := (wRet (wAndV (wIsi "int" (wVar 0)) (wNotV (wIsi "bool" (wVar 0)))))
def w_is_integer : PN := dN N_is_integer wb_is_integer
abbrev N_is_table : List Str := ["value", "length", "count", "entry"]
def wb_is_table : SW := (wSeq (wIfS (wOr (wNot (wTru (wIsi "tuple" (wVar 0)))) (wTst (wBin neD (wLenN 0) (wVar 1)))) (wRet (wC (.bool false))) wNext) (wRet (wCl allL (wCons (wL (wLc ([3] : List Nat) (wItems (wVar 0)) (wName 3) wYes (wAndV (wCall 1 w_is_integer (wCons (wVar 3) wNil)) (wChain leD ltD (wC (.int 0)) (wVar 3) (wVar 2))))) wNil))))
def w_is_table : PN := dN N_is_table wb_is_table
abbrev N_is_conversion : List Str := ["kinds", "value", "_", "name", "source", "target", "is_implicit", "table", "counts"]
def wb_is_conversion : SW := (wSeq (wAsg (wVar 1) (wUnp [2, 3, 4, 5, 6, 7])) (wSeq (wIfS (wOr (wNot (wTru (wCall 1 w_is_name (wCons (wVar 3) wNil)))) (wOr (wNot (wTru (wCall 2 w_is_kind (wCons (wVar 0) (wCons (wVar 4) wNil))))) (wNot (wTru (wCall 2 w_is_kind (wCons (wVar 0) (wCons (wVar 5) wNil))))))) (wRet (wC (.bool false))) wNext) (wSeq (wIfS (wOr (wTst (wBin eqD (wVar 4) (wVar 5))) (wNot (wTru (wIsi "bool" (wVar 6))))) (wRet (wC (.bool false))) wNext) (wSeq (wSet 8 (wCl dictL (wCons (wVar 0) wNil))) (wRet (wCall 3 w_is_table (wCons (wVar 7) (wCons (wIxN 8 (wVar 4)) (wCons (wIxN 8 (wVar 5)) wNil)))))))))
def w_is_conversion : PN := dN N_is_conversion wb_is_conversion
abbrev N_is_parameters : List Str := ["kinds", "value", "parameter"]
def wb_is_parameters : SW := (wSeq (wIfS (wOr (wNot (wTru (wIsi "tuple" (wVar 1)))) (wTst (wBin gtD (wLenN 1) (wC (.int 3))))) (wRet (wC (.bool false))) wNext) (wRet (wCl allL (wCons (wL (wLc ([2] : List Nat) (wItems (wVar 1)) (wName 2) wYes (wCall 2 w_is_kind (wCons (wVar 0) (wCons (wVar 2) wNil))))) wNil))))
def w_is_parameters : PN := dN N_is_parameters wb_is_parameters
abbrev N_is_definition : List Str := ["kinds", "value", "_", "operator", "parameters", "result", "table", "counts", "length", "parameter"]
def wb_is_definition : SW := (wSeq (wAsg (wVar 1) (wUnp [2, 3, 4, 5, 6])) (wSeq (wIfS (wOr (wNot (wTru (wCall 1 w_is_name (wCons (wVar 3) wNil)))) (wOr (wNot (wTru (wCall 2 w_is_parameters (wCons (wVar 0) (wCons (wVar 4) wNil))))) (wNot (wTru (wCall 2 w_is_kind (wCons (wVar 0) (wCons (wVar 5) wNil))))))) (wRet (wC (.bool false))) wNext) (wSeq (wSet 7 (wCl dictL (wCons (wVar 0) wNil))) (wSeq (wSet 8 (wC (.int 1))) (wSeq (wFor (wItems (wVar 4)) (wName 9) (wSet 8 (wBin mulD (wVar 8) (wIxN 7 (wVar 9))))) (wRet (wAndV (wBin leD (wVar 8) (wC (.int 64))) (wCall 3 w_is_table (wCons (wVar 6) (wCons (wVar 8) (wCons (wIxN 7 (wVar 5)) wNil)))))))))))
def w_is_definition : PN := dN N_is_definition wb_is_definition
abbrev N_is_item : List Str := ["kinds", "value"]
def wb_is_item : SW := (wSeq (wIfS (wNot (wTru (wIsi "tuple" (wVar 1)))) (wRet (wC (.bool false))) wNext) (wSeq (wIfS (wTst (wBin eqE (wLenN 1) (wC (.int 6)))) (wRet (wAndV (wBin eqE (wIxN 1 (wC (.int 0))) (wC (.str (Str.ofString "conversion")))) (wCall 2 w_is_conversion (wCons (wVar 0) (wCons (wVar 1) wNil))))) wNext) (wRet (wAndV (wBin eqE (wLenN 1) (wC (.int 5))) (wAndV (wBin eqE (wIxN 1 (wC (.int 0))) (wC (.str (Str.ofString "definition")))) (wCall 2 w_is_definition (wCons (wVar 0) (wCons (wVar 1) wNil))))))))
def w_is_item : PN := dN N_is_item wb_is_item
abbrev N_item_written : List Str := ["kinds", "text", "words", "first", "name", "middle", "target", "last", "item"]
def wb_item_written : SW := (wSeq (wSet 2 (wL (wSplit (wVar 1) (wC (.str (Str.ofString " ")))))) (wSeq (wIfS (wTst (wBin neD (wLenN 2) (wC (.int 5)))) (wRet (wC .none)) wNext) (wSeq (wAsg (wVar 2) (wUnpL [3, 4, 5, 6, 7])) (wSeq (wIfS (wTst (wBin eqD (wVar 3) (wC (.str (Str.ofString "definition"))))) (wSet 8 (wTup (wCons (wC (.str (Str.ofString "definition"))) (wCons (wVar 4) (wCons (wCall 1 w_names_written (wCons (wVar 5) wNil)) (wCons (wVar 6) (wCons (wCall 1 w_table_written (wCons (wVar 7) wNil)) wNil))))))) (wIfS (wTst (wBin inD (wVar 3) (wTup (wCons (wC (.str (Str.ofString "implicit"))) (wCons (wC (.str (Str.ofString "explicit"))) wNil))))) (wSet 8 (wTup (wCons (wC (.str (Str.ofString "conversion"))) (wCons (wVar 4) (wCons (wVar 5) (wCons (wVar 6) (wCons (wBin eqD (wVar 3) (wC (.str (Str.ofString "implicit")))) (wCons (wCall 1 w_table_written (wCons (wVar 7) wNil)) wNil)))))))) (wRet (wC .none)))) (wRet (wIf (wTru (wCall 2 w_is_item (wCons (wVar 0) (wCons (wVar 8) wNil)))) (wVar 8) (wC .none)))))))
def w_item_written : PN := dN N_item_written wb_item_written
abbrev N_read_item : List Str := ["kinds", "text", "item"]
def wb_read_item : SW := (wSeq (wSet 2 (wIf (wTru (wIsi "str" (wVar 1))) (wCall 2 w_item_written (wCons (wVar 0) (wCons (wVar 1) wNil))) (wC .none))) (wSeq (wIfS (wTst (wBin isND (wVar 2) (wC .none))) (fun _ _ => False) wNext) (wRet (wVar 2))))
def w_read_item : PN := dN N_read_item wb_read_item
abbrev N_law : List Str := ["script", "k", "stream", "kinds", "turn", "item", "page", "held"]
def wb_law : SW := (wSeq (wFor (wRange1 (wCons (wCl maxL (wCons (wC (.int 1)) (wCons (wCl minL (wCons (wC (.int 3)) (wCons (wLenI 0) wNil))) wNil))) wNil)) (wName 1) (wSeq (wSetO 2 (wCallIF 0 1 w__law_stream (wCons (wVar 1) wNil))) (wSeq (wSet 3 (wCallP 2 2 w__law_kinds (wCons (wC (.int 6)) (wCons (wC (.int 8)) wNil)))) (wFor (wRange1 (wCons (wC (.int 10)) wNil)) (wName 4) (wSeq (wSet 5 (wCallP 2 1 w__law_item (wCons (wVar 3) wNil))) (wSeq (wIfS (wTst (wBin eqD (wCallP 2 1 w__law_draw (wCons (wC (.int 3)) wNil)) (wC (.int 0)))) (wSet 5 (wCallP 2 3 w__law_definition (wCons (wVar 3) (wCons (wCallP 2 1 w__law_pick (wCons (wL (wLst (wCons (wC (.str (Str.ofString "f"))) (wCons (wC (.str (Str.ofString "long"))) (wCons (wC (.str (Str.ofString "lengthy"))) wNil))))) wNil)) (wCons (wC (.int 3)) wNil))))) wNext) (wSeq (wPar2 6 7 (wMd (wCall 1 w__law_item_text (wCons (wVar 5) wNil)) (wMd (wCl reprFL (wCons (wTup (wCons (wVar 3) (wCons (wVar 5) wNil))) wNil)) wMnil))) (wSeq (wIfS (wTst (wBin neD (wCl reprFL (wCons (wCall 1 w_show_item (wCons (wVar 5) wNil)) wNil)) (wCl reprFL (wCons (wVar 6) wNil)))) (wRet (wC (.bool false))) wNext) (wSeq (wIfS (wTst (wBin neD (wCl reprFL (wCons (wCall 2 w_read_item (wCons (wVar 3) (wCons (wVar 6) wNil))) wNil)) (wCl reprFL (wCons (wVar 5) wNil)))) (wRet (wC (.bool false))) wNext) (wIfS (wTst (wBin neD (wCl reprFL (wCons (wTup (wCons (wVar 3) (wCons (wVar 5) wNil))) wNil)) (wVar 7))) (wRet (wC (.bool false))) wNext)))))))))) (wRet (wC (.bool true))))
def w_law : PI' := dI N_law wb_law

def topS (i : Nat) : Stmt := PySem.Challenge.pw_samereading_k50_items_written_and_read.main.body.getD i (.Pass ⟨0, 0, 0, 0⟩)
abbrev s__law_stream : Stmt := topS 25
theorem sc__law_stream : FnScope N__law_stream ["script", "k"] (defScope s__law_stream) := ⟨rfl, rfl, rfl, by decide +kernel, rfl, by decide +kernel, by decide +kernel⟩
abbrev s__law_draw : Stmt := topS 26
theorem sc__law_draw : FnScope N__law_draw ["stream", "many"] (defScope s__law_draw) := ⟨rfl, rfl, rfl, by decide +kernel, rfl, by decide +kernel, by decide +kernel⟩
abbrev s__law_pick : Stmt := topS 27
theorem sc__law_pick : FnScope N__law_pick ["stream", "some"] (defScope s__law_pick) := ⟨rfl, rfl, rfl, by decide +kernel, rfl, by decide +kernel, by decide +kernel⟩
abbrev s__law_names : Stmt := topS 28
theorem sc__law_names : FnScope N__law_names ["stream", "many"] (defScope s__law_names) := ⟨rfl, rfl, rfl, by decide +kernel, rfl, by decide +kernel, by decide +kernel⟩
abbrev s__law_kinds : Stmt := topS 29
theorem sc__law_kinds : FnScope N__law_kinds ["stream", "most", "values"] (defScope s__law_kinds) := ⟨rfl, rfl, rfl, by decide +kernel, rfl, by decide +kernel, by decide +kernel⟩
abbrev s__law_conversion : Stmt := topS 31
theorem sc__law_conversion : FnScope N__law_conversion ["stream", "kinds", "name"] (defScope s__law_conversion) := ⟨rfl, rfl, rfl, by decide +kernel, rfl, by decide +kernel, by decide +kernel⟩
abbrev s__law_rows : Stmt := topS 30
theorem sc__law_rows : FnScope N__law_rows ["counts"] (defScope s__law_rows) := ⟨rfl, rfl, rfl, by decide +kernel, rfl, by decide +kernel, by decide +kernel⟩
abbrev s__law_definition : Stmt := topS 32
theorem sc__law_definition : FnScope N__law_definition ["stream", "kinds", "operator", "most"] (defScope s__law_definition) := ⟨rfl, rfl, rfl, by decide +kernel, rfl, by decide +kernel, by decide +kernel⟩
abbrev s__law_item : Stmt := topS 33
theorem sc__law_item : FnScope N__law_item ["stream", "kinds"] (defScope s__law_item) := ⟨rfl, rfl, rfl, by decide +kernel, rfl, by decide +kernel, by decide +kernel⟩
abbrev s__law_commas : Stmt := topS 34
theorem sc__law_commas : FnScope N__law_commas ["parts"] (defScope s__law_commas) := ⟨rfl, rfl, rfl, by decide +kernel, rfl, by decide +kernel, by decide +kernel⟩
abbrev s__law_item_text : Stmt := topS 35
theorem sc__law_item_text : FnScope N__law_item_text ["item"] (defScope s__law_item_text) := ⟨rfl, rfl, rfl, by decide +kernel, rfl, by decide +kernel, by decide +kernel⟩
abbrev s_show_table : Stmt := topS 21
theorem sc_show_table : FnScope N_show_table ["table"] (defScope s_show_table) := ⟨rfl, rfl, rfl, by decide +kernel, rfl, by decide +kernel, by decide +kernel⟩
abbrev s_show_item : Stmt := topS 22
theorem sc_show_item : FnScope N_show_item ["item"] (defScope s_show_item) := ⟨rfl, rfl, rfl, by decide +kernel, rfl, by decide +kernel, by decide +kernel⟩
abbrev s_names_written : Stmt := topS 18
theorem sc_names_written : FnScope N_names_written ["text"] (defScope s_names_written) := ⟨rfl, rfl, rfl, by decide +kernel, rfl, by decide +kernel, by decide +kernel⟩
abbrev s_number_written : Stmt := topS 16
theorem sc_number_written : FnScope N_number_written ["text", "most_digits"] (defScope s_number_written) := ⟨rfl, rfl, rfl, by decide +kernel, rfl, by decide +kernel, by decide +kernel⟩
abbrev s_table_written : Stmt := topS 17
theorem sc_table_written : FnScope N_table_written ["text"] (defScope s_table_written) := ⟨rfl, rfl, rfl, by decide +kernel, rfl, by decide +kernel, by decide +kernel⟩
abbrev s_is_kind : Stmt := topS 9
theorem sc_is_kind : FnScope N_is_kind ["kinds", "value"] (defScope s_is_kind) := ⟨rfl, rfl, rfl, by decide +kernel, rfl, by decide +kernel, by decide +kernel⟩
abbrev s_is_name : Stmt := topS 8
theorem sc_is_name : FnScope N_is_name ["value"] (defScope s_is_name) := ⟨rfl, rfl, rfl, by decide +kernel, rfl, by decide +kernel, by decide +kernel⟩
abbrev s_is_integer : Stmt := topS 7
theorem sc_is_integer : FnScope N_is_integer ["value"] (defScope s_is_integer) := ⟨rfl, rfl, rfl, by decide +kernel, rfl, by decide +kernel, by decide +kernel⟩
abbrev s_is_table : Stmt := topS 10
theorem sc_is_table : FnScope N_is_table ["value", "length", "count"] (defScope s_is_table) := ⟨rfl, rfl, rfl, by decide +kernel, rfl, by decide +kernel, by decide +kernel⟩
abbrev s_is_conversion : Stmt := topS 11
theorem sc_is_conversion : FnScope N_is_conversion ["kinds", "value"] (defScope s_is_conversion) := ⟨rfl, rfl, rfl, by decide +kernel, rfl, by decide +kernel, by decide +kernel⟩
abbrev s_is_parameters : Stmt := topS 12
theorem sc_is_parameters : FnScope N_is_parameters ["kinds", "value"] (defScope s_is_parameters) := ⟨rfl, rfl, rfl, by decide +kernel, rfl, by decide +kernel, by decide +kernel⟩
abbrev s_is_definition : Stmt := topS 13
theorem sc_is_definition : FnScope N_is_definition ["kinds", "value"] (defScope s_is_definition) := ⟨rfl, rfl, rfl, by decide +kernel, rfl, by decide +kernel, by decide +kernel⟩
abbrev s_is_item : Stmt := topS 14
theorem sc_is_item : FnScope N_is_item ["kinds", "value"] (defScope s_is_item) := ⟨rfl, rfl, rfl, by decide +kernel, rfl, by decide +kernel, by decide +kernel⟩
abbrev s_item_written : Stmt := topS 19
theorem sc_item_written : FnScope N_item_written ["kinds", "text"] (defScope s_item_written) := ⟨rfl, rfl, rfl, by decide +kernel, rfl, by decide +kernel, by decide +kernel⟩
abbrev s_read_item : Stmt := topS 23
theorem sc_read_item : FnScope N_read_item ["kinds", "text"] (defScope s_read_item) := ⟨rfl, rfl, rfl, by decide +kernel, rfl, by decide +kernel, by decide +kernel⟩
abbrev s_law : Stmt := topS 36
theorem sc_law : FnScope N_law ["script"] (defScope s_law) := ⟨rfl, rfl, rfl, by decide +kernel, rfl, by decide +kernel, by decide +kernel⟩
/-- what the top has left -/
structure Tx (K : PySem.W.Frag) (mg : Str → Option Value) where
  f__law_stream : Addr
  d__law_stream : FuncData
  F__law_stream : Fun K "_law_stream" "_law_stream" s__law_stream f__law_stream d__law_stream
  g__law_stream : mg "_law_stream" = some (.ref f__law_stream)
  b__law_stream : Binds K d__law_stream ["script", "k"] []
  f__law_draw : Addr
  d__law_draw : FuncData
  F__law_draw : Fun K "_law_draw" "_law_draw" s__law_draw f__law_draw d__law_draw
  g__law_draw : mg "_law_draw" = some (.ref f__law_draw)
  b__law_draw : Binds K d__law_draw ["stream", "many"] []
  f__law_pick : Addr
  d__law_pick : FuncData
  F__law_pick : Fun K "_law_pick" "_law_pick" s__law_pick f__law_pick d__law_pick
  g__law_pick : mg "_law_pick" = some (.ref f__law_pick)
  b__law_pick : Binds K d__law_pick ["stream", "some"] []
  f__law_names : Addr
  d__law_names : FuncData
  F__law_names : Fun K "_law_names" "_law_names" s__law_names f__law_names d__law_names
  g__law_names : mg "_law_names" = some (.ref f__law_names)
  b__law_names : Binds K d__law_names ["stream", "many"] []
  f__law_kinds : Addr
  d__law_kinds : FuncData
  F__law_kinds : Fun K "_law_kinds" "_law_kinds" s__law_kinds f__law_kinds d__law_kinds
  g__law_kinds : mg "_law_kinds" = some (.ref f__law_kinds)
  b__law_kinds : Binds K d__law_kinds ["stream", "most", "values"] []
  f__law_conversion : Addr
  d__law_conversion : FuncData
  F__law_conversion : Fun K "_law_conversion" "_law_conversion" s__law_conversion f__law_conversion d__law_conversion
  g__law_conversion : mg "_law_conversion" = some (.ref f__law_conversion)
  b__law_conversion : Binds K d__law_conversion ["stream", "kinds", "name"] []
  f__law_rows : Addr
  d__law_rows : FuncData
  F__law_rows : Fun K "_law_rows" "_law_rows" s__law_rows f__law_rows d__law_rows
  g__law_rows : mg "_law_rows" = some (.ref f__law_rows)
  b__law_rows : Binds K d__law_rows ["counts"] []
  f__law_definition : Addr
  d__law_definition : FuncData
  F__law_definition : Fun K "_law_definition" "_law_definition" s__law_definition f__law_definition d__law_definition
  g__law_definition : mg "_law_definition" = some (.ref f__law_definition)
  b__law_definition : Binds K d__law_definition ["stream", "kinds", "operator", "most"] []
  f__law_item : Addr
  d__law_item : FuncData
  F__law_item : Fun K "_law_item" "_law_item" s__law_item f__law_item d__law_item
  g__law_item : mg "_law_item" = some (.ref f__law_item)
  b__law_item : Binds K d__law_item ["stream", "kinds"] []
  f__law_commas : Addr
  d__law_commas : FuncData
  F__law_commas : Fun K "_law_commas" "_law_commas" s__law_commas f__law_commas d__law_commas
  g__law_commas : mg "_law_commas" = some (.ref f__law_commas)
  b__law_commas : Binds K d__law_commas ["parts"] []
  f__law_item_text : Addr
  d__law_item_text : FuncData
  F__law_item_text : Fun K "_law_item_text" "_law_item_text" s__law_item_text f__law_item_text d__law_item_text
  g__law_item_text : mg "_law_item_text" = some (.ref f__law_item_text)
  b__law_item_text : Binds K d__law_item_text ["item"] []
  f_show_table : Addr
  d_show_table : FuncData
  F_show_table : Fun K "show_table" "show_table" s_show_table f_show_table d_show_table
  g_show_table : mg "show_table" = some (.ref f_show_table)
  b_show_table : Binds K d_show_table ["table"] []
  f_show_item : Addr
  d_show_item : FuncData
  F_show_item : Fun K "show_item" "show_item" s_show_item f_show_item d_show_item
  g_show_item : mg "show_item" = some (.ref f_show_item)
  b_show_item : Binds K d_show_item ["item"] []
  f_names_written : Addr
  d_names_written : FuncData
  F_names_written : Fun K "names_written" "names_written" s_names_written f_names_written d_names_written
  g_names_written : mg "names_written" = some (.ref f_names_written)
  b_names_written : Binds K d_names_written ["text"] []
  f_number_written : Addr
  d_number_written : FuncData
  F_number_written : Fun K "number_written" "number_written" s_number_written f_number_written d_number_written
  g_number_written : mg "number_written" = some (.ref f_number_written)
  b_number_written : Binds K d_number_written ["text", "most_digits"] []
  f_table_written : Addr
  d_table_written : FuncData
  F_table_written : Fun K "table_written" "table_written" s_table_written f_table_written d_table_written
  g_table_written : mg "table_written" = some (.ref f_table_written)
  b_table_written : Binds K d_table_written ["text"] []
  f_is_kind : Addr
  d_is_kind : FuncData
  F_is_kind : Fun K "is_kind" "is_kind" s_is_kind f_is_kind d_is_kind
  g_is_kind : mg "is_kind" = some (.ref f_is_kind)
  b_is_kind : Binds K d_is_kind ["kinds", "value"] []
  f_is_name : Addr
  d_is_name : FuncData
  F_is_name : Fun K "is_name" "is_name" s_is_name f_is_name d_is_name
  g_is_name : mg "is_name" = some (.ref f_is_name)
  b_is_name : Binds K d_is_name ["value"] []
  f_is_integer : Addr
  d_is_integer : FuncData
  F_is_integer : Fun K "is_integer" "is_integer" s_is_integer f_is_integer d_is_integer
  g_is_integer : mg "is_integer" = some (.ref f_is_integer)
  b_is_integer : Binds K d_is_integer ["value"] []
  f_is_table : Addr
  d_is_table : FuncData
  F_is_table : Fun K "is_table" "is_table" s_is_table f_is_table d_is_table
  g_is_table : mg "is_table" = some (.ref f_is_table)
  b_is_table : Binds K d_is_table ["value", "length", "count"] []
  f_is_conversion : Addr
  d_is_conversion : FuncData
  F_is_conversion : Fun K "is_conversion" "is_conversion" s_is_conversion f_is_conversion d_is_conversion
  g_is_conversion : mg "is_conversion" = some (.ref f_is_conversion)
  b_is_conversion : Binds K d_is_conversion ["kinds", "value"] []
  f_is_parameters : Addr
  d_is_parameters : FuncData
  F_is_parameters : Fun K "is_parameters" "is_parameters" s_is_parameters f_is_parameters d_is_parameters
  g_is_parameters : mg "is_parameters" = some (.ref f_is_parameters)
  b_is_parameters : Binds K d_is_parameters ["kinds", "value"] []
  f_is_definition : Addr
  d_is_definition : FuncData
  F_is_definition : Fun K "is_definition" "is_definition" s_is_definition f_is_definition d_is_definition
  g_is_definition : mg "is_definition" = some (.ref f_is_definition)
  b_is_definition : Binds K d_is_definition ["kinds", "value"] []
  f_is_item : Addr
  d_is_item : FuncData
  F_is_item : Fun K "is_item" "is_item" s_is_item f_is_item d_is_item
  g_is_item : mg "is_item" = some (.ref f_is_item)
  b_is_item : Binds K d_is_item ["kinds", "value"] []
  f_item_written : Addr
  d_item_written : FuncData
  F_item_written : Fun K "item_written" "item_written" s_item_written f_item_written d_item_written
  g_item_written : mg "item_written" = some (.ref f_item_written)
  b_item_written : Binds K d_item_written ["kinds", "text"] []
  f_read_item : Addr
  d_read_item : FuncData
  F_read_item : Fun K "read_item" "read_item" s_read_item f_read_item d_read_item
  g_read_item : mg "read_item" = some (.ref f_read_item)
  b_read_item : Binds K d_read_item ["kinds", "text"] []
  f_law : Addr
  d_law : FuncData
  F_law : Fun K "law" "law" s_law f_law d_law
  g_law : mg "law" = some (.ref f_law)
  b_law : Binds K d_law ["script"] []
  m_int : mg "int" = none
  m_len : mg "len" = none
  m_abs : mg "abs" = none
  m_range : mg "range" = none
  m_sorted : mg "sorted" = none
  m_tuple : mg "tuple" = none
  m_sum : mg "sum" = none
  m_str : mg "str" = none
  m_all : mg "all" = none
  m_isinstance : mg "isinstance" = none
  m_bool : mg "bool" = none
  m_dict : mg "dict" = none
  m_max : mg "max" = none
  m_min : mg "min" = none
  m_repr : mg "repr" = none
  t_MOST_LETTERS : Tok
  c_MOST_LETTERS : mg "MOST_LETTERS" = some (.int 8 t_MOST_LETTERS)
  t_MOST_PARAMETERS : Tok
  c_MOST_PARAMETERS : mg "MOST_PARAMETERS" = some (.int 3 t_MOST_PARAMETERS)
  t_MOST_ENTRIES : Tok
  c_MOST_ENTRIES : mg "MOST_ENTRIES" = some (.int 64 t_MOST_ENTRIES)
theorem ok__law_stream {P : Program} {w : World} {K : PySem.W.Frag} {mg : Str → Option Value} {base : Heap} (T : Tx K mg) :
    FnOk P w K mg base CX0 1 T.f__law_stream T.d__law_stream ["script", "k"] (spI K 1 w__law_stream) := by
  refine okI T.F__law_stream sc__law_stream ([] : List Nat) wb__law_stream rfl (by decide) fun cdv A outer s H E hr => ?_
  have hu := hu120 hr
  have hu1 := hu_of hr
  exact (dss_cons (ds_set 2 sc__law_stream.nd rfl (by first | exact .inl rfl | exact .inr rfl) (show (2 : Nat) ∉ ([] : List Nat) by decide) (.inl rfl) (de_if (dt_cmp op_ltD (de_var 1) (de_lenI 0 (by rfl) T.m_len) (nomark _)) (de_ixI 0 (de_var 1)) (de_bin op_addD (de_bin op_mulD de_int (de_var 1)) de_int))) (dss_cons (ds_set 3 sc__law_stream.nd rfl (by first | exact .inl rfl | exact .inr rfl) (show (3 : Nat) ∉ ([] : List Nat) by decide) (.inl rfl) (de_bin op_mulD (de_bin op_modD (de_clB cr_abs (by rfl) T.m_abs (by decide +kernel) (da_cons (de_var 2) da_nil)) (de_bin op_powD (de_bin op_powD de_int de_int) de_int)) (de_clT cr_int (by rfl) T.m_int (by decide +kernel) (da_cons (de_cmp op_geD (de_clB cr_abs (by rfl) T.m_abs (by decide +kernel) (da_cons (de_var 2) da_nil)) (de_bin op_powD de_int de_int) (nomark _)) da_nil)))) (dss_one (ds_retF (de_lst (da_cons (de_var 3) (da_cons (de_bin op_modD (de_bin op_addD (de_bin op_addD (de_bin op_mulD (de_bin op_modD (de_var 2) de_int) de_int) (de_bin op_mulD (de_bin op_mulD de_int (de_var 1)) (de_var 1))) de_int) de_int) (da_cons de_int da_nil))))))))
theorem ok__law_draw {P : Program} {w : World} {K : PySem.W.Frag} {mg : Str → Option Value} {base : Heap} (T : Tx K mg) :
    FnOk P w K mg base CX0 1 T.f__law_draw T.d__law_draw ["stream", "many"] (spP K 1 w__law_draw) := by
  refine okP T.F__law_draw sc__law_draw ([0] : List Nat) wb__law_draw rfl (by decide) (by decide) fun cdv A outer s H E a hr => ?_
  have hu := hu120 hr
  have hu1 := hu_of hr
  exact (dss_cons (ds_if (dt_cmp op_gtD (de_ixN hu1 0 de_int) de_int (nomark _)) (dss_cons (ds_set 2 sc__law_draw.nd rfl (by first | exact .inl rfl | exact .inr rfl) (show (2 : Nat) ∉ ([0] : List Nat) by decide) (.inr (by decide)) (de_bin op_modD (de_ixN hu1 0 de_int) (de_var 1))) (dss_cons (ds_setIx 0 (de_bin op_fdivD (de_ixN hu1 0 de_int) (de_var 1))) (dss_one (ds_ret (de_var 2))))) dss_nil) (dss_cons (ds_setIx 0 (de_bin op_addD (de_ixN hu1 0 de_int) de_int)) (dss_cons (ds_set 3 sc__law_draw.nd rfl (by first | exact .inl rfl | exact .inr rfl) (show (3 : Nat) ∉ ([0] : List Nat) by decide) (.inr (by decide)) (de_ix hu1 (de_fz (de_lst (da_cons de_int (da_cons de_int (da_cons de_int (da_cons de_int (da_cons de_int da_nil))))))) (de_bin op_modD (de_ixN hu1 0 de_int) de_int))) (dss_cons (ds_set 4 sc__law_draw.nd rfl (by first | exact .inl rfl | exact .inr rfl) (show (4 : Nat) ∉ ([0] : List Nat) by decide) (.inr (by decide)) (de_bin op_modD (de_bin op_powD (de_bin op_addD (de_bin op_addD (de_ixN hu1 0 de_int) (de_bin op_mulD (de_bin op_mulD de_int (de_ixN hu1 0 de_int)) (de_ixN hu1 0 de_int))) de_int) de_int) (de_var 3))) (dss_one (ds_ret (de_bin op_modD (de_bin op_fdivD (de_bin op_modD (de_bin op_mulD (de_var 4) (de_bin op_addD (de_bin op_modD (de_var 4) de_int) (de_bin op_mulD de_int (de_ixN hu1 0 de_int)))) de_int) de_int) (de_var 1))))))))
theorem ok__law_pick {P : Program} {w : World} {K : PySem.W.Frag} {mg : Str → Option Value} {base : Heap} (T : Tx K mg)
    (G__law_draw : FnOk P w K mg base CX0 1 T.f__law_draw T.d__law_draw ["stream", "many"] (spP K 1 w__law_draw)) :
    FnOk P w K mg base CX0 2 T.f__law_pick T.d__law_pick ["stream", "some"] (spP K 1 w__law_pick) := by
  refine okP T.F__law_pick sc__law_pick ([0] : List Nat) wb__law_pick rfl (by decide) (by decide) fun cdv A outer s H E a hr => ?_
  have hu := hu120 hr
  have hu1 := hu_of hr
  exact (dss_one (ds_ret (de_ixN hu1 1 (de_callP 0 G__law_draw (hr.mono (by decide)) (by rfl) T.g__law_draw T.F__law_draw.kp T.b__law_draw pass0 (da_cons (de_lenN 1 (by rfl) T.m_len) da_nil)))))
theorem ok__law_names {P : Program} {w : World} {K : PySem.W.Frag} {mg : Str → Option Value} {base : Heap} (T : Tx K mg)
    (G__law_draw : FnOk P w K mg base CX0 1 T.f__law_draw T.d__law_draw ["stream", "many"] (spP K 1 w__law_draw))
    (G__law_pick : FnOk P w K mg base CX0 2 T.f__law_pick T.d__law_pick ["stream", "some"] (spP K 1 w__law_pick)) :
    FnOk P w K mg base CX0 3 T.f__law_names T.d__law_names ["stream", "many"] (spP K 1 w__law_names) := by
  refine okP T.F__law_names sc__law_names ([0, 2] : List Nat) wb__law_names rfl (by decide) (by decide) fun cdv A outer s H E a hr => ?_
  have hu := hu120 hr
  have hu1 := hu_of hr
  exact (dss_cons (ds_setO 2 sc__law_names.nd rfl (by first | exact .inl rfl | exact .inr rfl) (show (2 : Nat) ∈ ([0, 2] : List Nat) by decide) (.inr (by decide)) (de_lst (da_cons de_str (da_cons de_str (da_cons de_str (da_cons de_str (da_cons de_str (da_cons de_str (da_cons de_str (da_cons de_str (da_cons de_str (da_cons de_str (da_cons de_str (da_cons de_str da_nil)))))))))))))) (dss_cons (ds_setO 2 sc__law_names.nd rfl (by first | exact .inl rfl | exact .inr rfl) (show (2 : Nat) ∈ ([0, 2] : List Nat) by decide) (.inr (by decide)) (df_addF (de_var 2) (de_fz (de_lst (da_cons de_str (da_cons de_str da_nil)))))) (dss_cons (ds_if (dt_cmp (op_eqD' hu) (de_callP 0 G__law_draw (hr.mono (by decide)) (by rfl) T.g__law_draw T.F__law_draw.kp T.b__law_draw pass0 (da_cons de_int da_nil)) de_int (nomark _)) (dss_one (ds_retF (df_lc (R := Is) (own := [("turn", 7)]) rfl sc__law_names.nd (blkOk_by (own := [("turn", 7)]) (N := N__law_names) (sc := defScope s__law_names) (by decide +kernel)) (show ∀ i, i ∈ ([7] : List Nat) → i ∉ ([0, 2] : List Nat) by decide) (.inr (show (0 : Nat) ∉ ([7] : List Nat) by decide)) (di_range1 (by rfl) T.m_range (da_cons (de_var 1) da_nil)) (fun _ _ _ _ _ => (dg_name 7 ([7] : List Nat) sc__law_names.nd rfl (by first | exact .inl rfl | exact .inr rfl) (show (7 : Nat) ∉ ([0, 2] : List Nat) by decide) (.inr (by decide)) (by decide))) (fun _ _ _ _ _ => dts_nil) (fun _ _ _ _ _ => (de_popAt 2 (de_callP 0 G__law_draw (hr.mono (by decide)) (by rfl) T.g__law_draw T.F__law_draw.kp T.b__law_draw pass0 (da_cons (de_lenN 2 (by rfl) T.m_len) da_nil))))))) dss_nil) (dss_cons (ds_set 3 sc__law_names.nd rfl (by first | exact .inl rfl | exact .inr rfl) (show (3 : Nat) ∉ ([0, 2] : List Nat) by decide) (.inr (by decide)) de_str) (dss_cons (ds_asg (vs := ([4, 5] : List Nat)) (de_tup (da_cons (de_callP 0 G__law_draw (hr.mono (by decide)) (by rfl) T.g__law_draw T.F__law_draw.kp T.b__law_draw pass0 (da_cons de_int da_nil)) (da_cons (de_callP 0 G__law_pick (hr.mono (by decide)) (by rfl) T.g__law_pick T.F__law_pick.kp T.b__law_pick pass0 (da_cons (de_fz (de_lst (da_cons de_int (da_cons de_int (da_cons de_int (da_cons de_int (da_cons de_int (da_cons de_int da_nil)))))))) da_nil)) da_nil))) (dg_w (dg_tup (vs := ([4, 5] : List Nat)) rfl (dgs_cons 4 sc__law_names.nd rfl (by first | exact .inl rfl | exact .inr rfl) (show (4 : Nat) ∉ ([0, 2] : List Nat) by decide) (.inr (by decide)) (by decide) (dgs_cons 5 sc__law_names.nd rfl (by first | exact .inl rfl | exact .inr rfl) (show (5 : Nat) ∉ ([0, 2] : List Nat) by decide) (.inr (by decide)) (by decide) (dgs_nil _)))))) (dss_cons (ds_set 6 sc__law_names.nd rfl (by first | exact .inl rfl | exact .inr rfl) (show (6 : Nat) ∉ ([0, 2] : List Nat) by decide) (.inr (by decide)) (de_callP 0 G__law_pick (hr.mono (by decide)) (by rfl) T.g__law_pick T.F__law_pick.kp T.b__law_pick pass0 (da_cons (de_fz (de_lst (da_cons de_str (da_cons de_str (da_cons de_str (da_cons de_str (da_cons de_str da_nil))))))) da_nil))) (dss_one (ds_retF (df_lc (R := Is) (own := [("nth", 8)]) rfl sc__law_names.nd (blkOk_by (own := [("nth", 8)]) (N := N__law_names) (sc := defScope s__law_names) (by decide +kernel)) (show ∀ i, i ∈ ([8] : List Nat) → i ∉ ([0, 2] : List Nat) by decide) (.inr (show (0 : Nat) ∉ ([8] : List Nat) by decide)) (di_range1 (by rfl) T.m_range (da_cons (de_var 1) da_nil)) (fun _ _ _ _ _ => (dg_name 8 ([8] : List Nat) sc__law_names.nd rfl (by first | exact .inl rfl | exact .inr rfl) (show (8 : Nat) ∉ ([0, 2] : List Nat) by decide) (.inr (by decide)) (by decide))) (fun _ _ _ _ _ => dts_nil) (fun _ _ _ _ _ => (de_bin op_addD (de_var 6) (de_ixN hu1 3 (de_bin op_modD (de_bin op_addD (de_var 4) (de_bin op_mulD (de_var 5) (de_var 8))) de_int)))))))))))))
theorem ok__law_kinds {P : Program} {w : World} {K : PySem.W.Frag} {mg : Str → Option Value} {base : Heap} (T : Tx K mg)
    (G__law_names : FnOk P w K mg base CX0 3 T.f__law_names T.d__law_names ["stream", "many"] (spP K 1 w__law_names))
    (G__law_draw : FnOk P w K mg base CX0 1 T.f__law_draw T.d__law_draw ["stream", "many"] (spP K 1 w__law_draw)) :
    FnOk P w K mg base CX0 4 T.f__law_kinds T.d__law_kinds ["stream", "most", "values"] (spP K 2 w__law_kinds) := by
  refine okP T.F__law_kinds sc__law_kinds ([0] : List Nat) wb__law_kinds rfl (by decide) (by decide) fun cdv A outer s H E a hr => ?_
  have hu := hu120 hr
  have hu1 := hu_of hr
  exact (dss_cons (ds_set 3 sc__law_kinds.nd rfl (by first | exact .inl rfl | exact .inr rfl) (show (3 : Nat) ∉ ([0] : List Nat) by decide) (.inr (by decide)) (de_fz (df_sort (by rfl) T.m_sorted hu (da_cons (de_fz (df_callP 0 G__law_names (hr.mono (by decide)) (by rfl) T.g__law_names T.F__law_names.kp T.b__law_names pass0 (da_cons (de_bin op_addD de_int (de_callP 0 G__law_draw (hr.mono (by decide)) (by rfl) T.g__law_draw T.F__law_draw.kp T.b__law_draw pass0 (da_cons (de_var 1) da_nil))) da_nil))) da_nil)))) (dss_one (ds_ret (de_clT cr_tuple (by rfl) T.m_tuple (by decide +kernel) (da_cons (de_fz (df_lc (R := Is) (own := [("name", 4)]) rfl sc__law_kinds.nd (blkOk_by (own := [("name", 4)]) (N := N__law_kinds) (sc := defScope s__law_kinds) (by decide +kernel)) (show ∀ i, i ∈ ([4] : List Nat) → i ∉ ([0] : List Nat) by decide) (.inr (show (0 : Nat) ∉ ([4] : List Nat) by decide)) (di_of (de_var 3)) (fun _ _ _ _ _ => (dg_name 4 ([4] : List Nat) sc__law_kinds.nd rfl (by first | exact .inl rfl | exact .inr rfl) (show (4 : Nat) ∉ ([0] : List Nat) by decide) (.inr (by decide)) (by decide))) (fun _ _ _ _ _ => dts_nil) (fun _ _ _ _ _ => (de_tup (da_cons (de_var 4) (da_cons (de_bin op_addD de_int (de_callP 0 G__law_draw (hr.mono (by decide)) (by rfl) T.g__law_draw T.F__law_draw.kp T.b__law_draw pass0 (da_cons (de_var 2) da_nil))) da_nil)))))) da_nil)))))
theorem ok__law_conversion {P : Program} {w : World} {K : PySem.W.Frag} {mg : Str → Option Value} {base : Heap} (T : Tx K mg)
    (G__law_pick : FnOk P w K mg base CX0 2 T.f__law_pick T.d__law_pick ["stream", "some"] (spP K 1 w__law_pick))
    (G__law_draw : FnOk P w K mg base CX0 1 T.f__law_draw T.d__law_draw ["stream", "many"] (spP K 1 w__law_draw)) :
    FnOk P w K mg base CX0 3 T.f__law_conversion T.d__law_conversion ["stream", "kinds", "name"] (spP K 2 w__law_conversion) := by
  refine okP T.F__law_conversion sc__law_conversion ([0] : List Nat) wb__law_conversion rfl (by decide) (by decide) fun cdv A outer s H E a hr => ?_
  have hu := hu120 hr
  have hu1 := hu_of hr
  exact (dss_cons (ds_set 3 sc__law_conversion.nd rfl (by first | exact .inl rfl | exact .inr rfl) (show (3 : Nat) ∉ ([0] : List Nat) by decide) (.inr (by decide)) (de_callP 0 G__law_pick (hr.mono (by decide)) (by rfl) T.g__law_pick T.F__law_pick.kp T.b__law_pick pass0 (da_cons (de_var 1) da_nil))) (dss_cons (ds_asg (vs := ([4, 5] : List Nat)) (de_tup (da_cons (de_callP 0 G__law_pick (hr.mono (by decide)) (by rfl) T.g__law_pick T.F__law_pick.kp T.b__law_pick pass0 (da_cons (de_fz (df_lc (R := Is) (own := [("kind", 7)]) rfl sc__law_conversion.nd (blkOk_by (own := [("kind", 7)]) (N := N__law_conversion) (sc := defScope s__law_conversion) (by decide +kernel)) (show ∀ i, i ∈ ([7] : List Nat) → i ∉ ([0] : List Nat) by decide) (.inr (show (0 : Nat) ∉ ([7] : List Nat) by decide)) (di_of (de_var 1)) (fun _ _ _ _ _ => (dg_name 7 ([7] : List Nat) sc__law_conversion.nd rfl (by first | exact .inl rfl | exact .inr rfl) (show (7 : Nat) ∉ ([0] : List Nat) by decide) (.inr (by decide)) (by decide))) (fun _ _ _ _ _ => (dts_one (dt_cmp (op_neD' hu) (de_var 7) (de_var 3) (nomark _)))) (fun _ _ _ _ _ => (de_var 7)))) da_nil)) (da_cons (de_cmp (op_eqD' hu) (de_callP 0 G__law_draw (hr.mono (by decide)) (by rfl) T.g__law_draw T.F__law_draw.kp T.b__law_draw pass0 (da_cons de_int da_nil)) de_int (nomark _)) da_nil))) (dg_w (dg_tup (vs := ([4, 5] : List Nat)) rfl (dgs_cons 4 sc__law_conversion.nd rfl (by first | exact .inl rfl | exact .inr rfl) (show (4 : Nat) ∉ ([0] : List Nat) by decide) (.inr (by decide)) (by decide) (dgs_cons 5 sc__law_conversion.nd rfl (by first | exact .inl rfl | exact .inr rfl) (show (5 : Nat) ∉ ([0] : List Nat) by decide) (.inr (by decide)) (by decide) (dgs_nil _)))))) (dss_cons (ds_setLc (R := Is) 6 (own := [("value", 8)]) rfl sc__law_conversion.nd rfl rfl (sw_true rfl rfl rfl (by decide +kernel)) (blkOk_by (own := [("value", 8)]) (N := N__law_conversion) (sc := defScope s__law_conversion) (by decide +kernel)) (show ∀ i, i ∈ ([8] : List Nat) → i ∉ ([0] : List Nat) by decide) (.inr (show (0 : Nat) ∉ ([8] : List Nat) by decide)) (show (6 : Nat) ∉ ([0] : List Nat) by decide) (.inr (by decide)) (di_range1 (by rfl) T.m_range (da_cons (de_ixN hu1 3 de_int) da_nil)) (fun _ _ _ _ _ => (dg_name 8 ([8] : List Nat) sc__law_conversion.nd rfl (by first | exact .inl rfl | exact .inr rfl) (show (8 : Nat) ∉ ([0] : List Nat) by decide) (.inr (by decide)) (by decide))) (fun _ _ _ _ _ => dts_nil) (fun _ _ _ _ _ => (de_if (dt_tru (de_var 5)) (de_bin op_modD (de_var 8) (de_ixN hu1 4 de_int)) (de_callP 0 G__law_draw (hr.mono (by decide)) (by rfl) T.g__law_draw T.F__law_draw.kp T.b__law_draw pass0 (da_cons (de_ixN hu1 4 de_int) da_nil))))) (dss_one (ds_ret (de_tup (da_cons de_str (da_cons (de_var 2) (da_cons (de_ixN hu1 3 de_int) (da_cons (de_ixN hu1 4 de_int) (da_cons (de_cmp op_gtD (de_callP 0 G__law_draw (hr.mono (by decide)) (by rfl) T.g__law_draw T.F__law_draw.kp T.b__law_draw pass0 (da_cons de_int da_nil)) de_int (nomark _)) (da_cons (de_clT cr_tuple (by rfl) T.m_tuple (by decide +kernel) (da_cons (de_var 6) da_nil)) da_nil))))))))))))
theorem ok__law_rows {P : Program} {w : World} {K : PySem.W.Frag} {mg : Str → Option Value} {base : Heap} (T : Tx K mg) :
    FnOk P w K mg base CX0 1 T.f__law_rows T.d__law_rows ["counts"] (spN K 1 w__law_rows) := by
  refine okN T.F__law_rows sc__law_rows ([3] : List Nat) wb__law_rows rfl (by decide) fun cdv A outer s H E hr => ?_
  have hu := hu120 hr
  have hu1 := hu_of hr
  exact (dss_cons (ds_set 1 sc__law_rows.nd rfl (by first | exact .inl rfl | exact .inr rfl) (show (1 : Nat) ∉ ([3] : List Nat) by decide) (.inl rfl) (de_fz (de_lst (da_cons (de_tup da_nil) da_nil)))) (dss_cons (ds_for (R := Is) (vs := ([2] : List Nat)) PassesOwn.never rfl (di_of (de_var 0)) (dg_name 2 ([2] : List Nat) sc__law_rows.nd rfl (by first | exact .inl rfl | exact .inr rfl) (show (2 : Nat) ∉ ([3] : List Nat) by decide) (.inl rfl) (by decide)) (dss_cons (ds_setO 3 sc__law_rows.nd rfl (by first | exact .inl rfl | exact .inr rfl) (show (3 : Nat) ∈ ([3] : List Nat) by decide) (.inl rfl) (de_lst da_nil)) (dss_cons (ds_for (R := Is) (vs := ([4] : List Nat)) PassesOwn.never rfl (di_of (de_var 1)) (dg_name 4 ([4] : List Nat) sc__law_rows.nd rfl (by first | exact .inl rfl | exact .inr rfl) (show (4 : Nat) ∉ ([3] : List Nat) by decide) (.inl rfl) (by decide)) (dss_one (ds_expr (de_ext 3 (de_fz (df_lc (R := Is) (own := [("value", 5)]) rfl sc__law_rows.nd (blkOk_by (own := [("value", 5)]) (N := N__law_rows) (sc := defScope s__law_rows) (by decide +kernel)) (show ∀ i, i ∈ ([5] : List Nat) → i ∉ ([3] : List Nat) by decide) (.inl rfl) (di_range1 (by rfl) T.m_range (da_cons (de_var 2) da_nil)) (fun _ _ _ _ _ => (dg_name 5 ([5] : List Nat) sc__law_rows.nd rfl (by first | exact .inl rfl | exact .inr rfl) (show (5 : Nat) ∉ ([3] : List Nat) by decide) (.inl rfl) (by decide))) (fun _ _ _ _ _ => dts_nil) (fun _ _ _ _ _ => (de_bin op_addD (de_var 4) (de_tup (da_cons (de_var 5) da_nil)))))))))) (dss_one (ds_set 1 sc__law_rows.nd rfl (by first | exact .inl rfl | exact .inr rfl) (show (1 : Nat) ∉ ([3] : List Nat) by decide) (.inl rfl) (de_var 3)))))) (dss_one (ds_ret (de_var 1)))))
theorem ok__law_definition {P : Program} {w : World} {K : PySem.W.Frag} {mg : Str → Option Value} {base : Heap} (T : Tx K mg)
    (G__law_draw : FnOk P w K mg base CX0 1 T.f__law_draw T.d__law_draw ["stream", "many"] (spP K 1 w__law_draw))
    (G__law_pick : FnOk P w K mg base CX0 2 T.f__law_pick T.d__law_pick ["stream", "some"] (spP K 1 w__law_pick))
    (G__law_rows : FnOk P w K mg base CX0 1 T.f__law_rows T.d__law_rows ["counts"] (spN K 1 w__law_rows)) :
    FnOk P w K mg base CX0 3 T.f__law_definition T.d__law_definition ["stream", "kinds", "operator", "most"] (spP K 3 w__law_definition) := by
  refine okP T.F__law_definition sc__law_definition ([0, 4, 9] : List Nat) wb__law_definition rfl (by decide) (by decide) fun cdv A outer s H E a hr => ?_
  have hu := hu120 hr
  have hu1 := hu_of hr
  exact (dss_cons (ds_setLcO (R := Is) 4 (own := [("turn", 11)]) rfl sc__law_definition.nd rfl rfl (sw_true rfl rfl rfl (by decide +kernel)) (blkOk_by (own := [("turn", 11)]) (N := N__law_definition) (sc := defScope s__law_definition) (by decide +kernel)) (show ∀ i, i ∈ ([11] : List Nat) → i ∉ ([0, 4, 9] : List Nat) by decide) (.inr (show (0 : Nat) ∉ ([11] : List Nat) by decide)) (show (4 : Nat) ∈ ([0, 4, 9] : List Nat) by decide) (.inr (by decide)) (di_range1 (by rfl) T.m_range (da_cons (de_callP 0 G__law_draw (hr.mono (by decide)) (by rfl) T.g__law_draw T.F__law_draw.kp T.b__law_draw pass0 (da_cons (de_bin op_addD (de_var 3) de_int) da_nil)) da_nil)) (fun _ _ _ _ _ => (dg_name 11 ([11] : List Nat) sc__law_definition.nd rfl (by first | exact .inl rfl | exact .inr rfl) (show (11 : Nat) ∉ ([0, 4, 9] : List Nat) by decide) (.inr (by decide)) (by decide))) (fun _ _ _ _ _ => dts_nil) (fun _ _ _ _ _ => (de_callP 0 G__law_pick (hr.mono (by decide)) (by rfl) T.g__law_pick T.F__law_pick.kp T.b__law_pick pass0 (da_cons (de_var 1) da_nil)))) (dss_cons (ds_while PassesOwn.never (dt_thaw 4 (dt_cmp op_gtD (de_clB cr_len (by rfl) T.m_len (by decide +kernel) (da_cons (de_call G__law_rows (hr.mono (by decide)) (by rfl) T.g__law_rows T.F__law_rows.kp T.b__law_rows pass0 (da_cons (de_fz (df_lc (R := Is) (own := [("name", 5), ("count", 6)]) rfl sc__law_definition.nd (blkOk_by (own := [("name", 5), ("count", 6)]) (N := N__law_definition) (sc := defScope s__law_definition) (by decide +kernel)) (show ∀ i, i ∈ ([5, 6] : List Nat) → i ∉ ([0, 4, 9] : List Nat) by decide) (.inr (show (0 : Nat) ∉ ([5, 6] : List Nat) by decide)) (di_of (de_var 4)) (fun _ _ _ _ _ => (dg_w (dg_tup (vs := ([5, 6] : List Nat)) rfl (dgs_cons 5 sc__law_definition.nd rfl (by first | exact .inl rfl | exact .inr rfl) (show (5 : Nat) ∉ ([0, 4, 9] : List Nat) by decide) (.inr (by decide)) (by decide) (dgs_cons 6 sc__law_definition.nd rfl (by first | exact .inl rfl | exact .inr rfl) (show (6 : Nat) ∉ ([0, 4, 9] : List Nat) by decide) (.inr (by decide)) (by decide) (dgs_nil _)))))) (fun _ _ _ _ _ => dts_nil) (fun _ _ _ _ _ => (de_var 6)))) da_nil)) da_nil)) de_int (nomark _)) (.inr (by decide))) (dss_one (ds_expr (de_pop 4)))) (dss_cons (ds_asg (vs := ([5, 6] : List Nat)) (de_callP 0 G__law_pick (hr.mono (by decide)) (by rfl) T.g__law_pick T.F__law_pick.kp T.b__law_pick pass0 (da_cons (de_var 1) da_nil)) (dg_w (dg_tup (vs := ([5, 6] : List Nat)) rfl (dgs_cons 5 sc__law_definition.nd rfl (by first | exact .inl rfl | exact .inr rfl) (show (5 : Nat) ∉ ([0, 4, 9] : List Nat) by decide) (.inr (by decide)) (by decide) (dgs_cons 6 sc__law_definition.nd rfl (by first | exact .inl rfl | exact .inr rfl) (show (6 : Nat) ∉ ([0, 4, 9] : List Nat) by decide) (.inr (by decide)) (by decide) (dgs_nil _)))))) (dss_cons (ds_par3 (k1' := .d) (k2' := .d) (k3' := .o) 7 8 9 rfl rfl sc__law_definition.nd rfl rfl rfl (by decide) (by decide) (by decide) rfl rfl rfl (show (7 : Nat) ∉ ([0, 4, 9] : List Nat) by decide) (show (8 : Nat) ∉ ([0, 4, 9] : List Nat) by decide) (show (9 : Nat) ∈ ([0, 4, 9] : List Nat) by decide) (by simp) (.inr (by decide)) (.inr (by decide)) (.inr (by decide)) (dm_d (de_callP 0 G__law_draw (hr.mono (by decide)) (by rfl) T.g__law_draw T.F__law_draw.kp T.b__law_draw pass0 (da_cons de_int da_nil)) (dm_d (de_callP 0 G__law_draw (hr.mono (by decide)) (by rfl) T.g__law_draw T.F__law_draw.kp T.b__law_draw pass0 (da_cons de_int da_nil)) (dm_o (de_lst da_nil) dm_nil))) (by rfl)) (dss_cons (ds_for (R := Is) (vs := ([10] : List Nat)) PassesOwn.never rfl (di_of (de_call G__law_rows (hr.mono (by decide)) (by rfl) T.g__law_rows T.F__law_rows.kp T.b__law_rows pass0 (da_cons (de_fz (df_lc (R := Is) (own := [("kind", 12), ("size_own", 13)]) rfl sc__law_definition.nd (blkOk_by (own := [("kind", 12), ("size_own", 13)]) (N := N__law_definition) (sc := defScope s__law_definition) (by decide +kernel)) (show ∀ i, i ∈ ([12, 13] : List Nat) → i ∉ ([0, 4, 9] : List Nat) by decide) (.inr (show (0 : Nat) ∉ ([12, 13] : List Nat) by decide)) (di_of (de_var 4)) (fun _ _ _ _ _ => (dg_w (dg_tup (vs := ([12, 13] : List Nat)) rfl (dgs_cons 12 sc__law_definition.nd rfl (by first | exact .inl rfl | exact .inr rfl) (show (12 : Nat) ∉ ([0, 4, 9] : List Nat) by decide) (.inr (by decide)) (by decide) (dgs_cons 13 sc__law_definition.nd rfl (by first | exact .inl rfl | exact .inr rfl) (show (13 : Nat) ∉ ([0, 4, 9] : List Nat) by decide) (.inr (by decide)) (by decide) (dgs_nil _)))))) (fun _ _ _ _ _ => dts_nil) (fun _ _ _ _ _ => (de_var 13)))) da_nil))) (dg_name 10 ([10] : List Nat) sc__law_definition.nd rfl (by first | exact .inl rfl | exact .inr rfl) (show (10 : Nat) ∉ ([0, 4, 9] : List Nat) by decide) (.inr (by decide)) (by decide)) (dss_one (ds_expr (de_app 9 (de_if (dt_cmp op_gtD (de_var 7) de_int (nomark _)) (de_bin op_modD (de_bin op_addD (de_clB (cr_sumTD rfl) (by rfl) T.m_sum (by decide +kernel) (da_cons (de_var 10) da_nil)) (de_var 8)) (de_var 6)) (de_callP 0 G__law_draw (hr.mono (by decide)) (by rfl) T.g__law_draw T.F__law_draw.kp T.b__law_draw pass0 (da_cons (de_var 6) da_nil))))))) (dss_one (ds_ret (de_tup (da_cons de_str (da_cons (de_var 2) (da_cons (de_clT cr_tuple (by rfl) T.m_tuple (by decide +kernel) (da_cons (de_fz (df_lc (R := Is) (own := [("kind", 12), ("size_own", 13)]) rfl sc__law_definition.nd (blkOk_by (own := [("kind", 12), ("size_own", 13)]) (N := N__law_definition) (sc := defScope s__law_definition) (by decide +kernel)) (show ∀ i, i ∈ ([12, 13] : List Nat) → i ∉ ([0, 4, 9] : List Nat) by decide) (.inr (show (0 : Nat) ∉ ([12, 13] : List Nat) by decide)) (di_of (de_var 4)) (fun _ _ _ _ _ => (dg_w (dg_tup (vs := ([12, 13] : List Nat)) rfl (dgs_cons 12 sc__law_definition.nd rfl (by first | exact .inl rfl | exact .inr rfl) (show (12 : Nat) ∉ ([0, 4, 9] : List Nat) by decide) (.inr (by decide)) (by decide) (dgs_cons 13 sc__law_definition.nd rfl (by first | exact .inl rfl | exact .inr rfl) (show (13 : Nat) ∉ ([0, 4, 9] : List Nat) by decide) (.inr (by decide)) (by decide) (dgs_nil _)))))) (fun _ _ _ _ _ => dts_nil) (fun _ _ _ _ _ => (de_var 12)))) da_nil)) (da_cons (de_var 5) (da_cons (de_clT cr_tuple (by rfl) T.m_tuple (by decide +kernel) (da_cons (de_var 9) da_nil)) da_nil)))))))))))))
theorem ok__law_item {P : Program} {w : World} {K : PySem.W.Frag} {mg : Str → Option Value} {base : Heap} (T : Tx K mg)
    (G__law_draw : FnOk P w K mg base CX0 1 T.f__law_draw T.d__law_draw ["stream", "many"] (spP K 1 w__law_draw))
    (G__law_conversion : FnOk P w K mg base CX0 3 T.f__law_conversion T.d__law_conversion ["stream", "kinds", "name"] (spP K 2 w__law_conversion))
    (G__law_pick : FnOk P w K mg base CX0 2 T.f__law_pick T.d__law_pick ["stream", "some"] (spP K 1 w__law_pick))
    (G__law_definition : FnOk P w K mg base CX0 3 T.f__law_definition T.d__law_definition ["stream", "kinds", "operator", "most"] (spP K 3 w__law_definition)) :
    FnOk P w K mg base CX0 4 T.f__law_item T.d__law_item ["stream", "kinds"] (spP K 1 w__law_item) := by
  refine okP T.F__law_item sc__law_item ([0] : List Nat) wb__law_item rfl (by decide) (by decide) fun cdv A outer s H E a hr => ?_
  have hu := hu120 hr
  have hu1 := hu_of hr
  exact (dss_cons (ds_if (dt_bool (dw_and (dt_cmp op_gtD (de_lenN 1 (by rfl) T.m_len) de_int (nomark _)) (dw_and1 (dt_cmp (op_eqD' hu) (de_callP 0 G__law_draw (hr.mono (by decide)) (by rfl) T.g__law_draw T.F__law_draw.kp T.b__law_draw pass0 (da_cons de_int da_nil)) de_int (nomark _))))) (dss_one (ds_ret (de_callP 0 G__law_conversion (hr.mono (by decide)) (by rfl) T.g__law_conversion T.F__law_conversion.kp T.b__law_conversion pass0 (da_cons (de_var 1) (da_cons (de_callP 0 G__law_pick (hr.mono (by decide)) (by rfl) T.g__law_pick T.F__law_pick.kp T.b__law_pick pass0 (da_cons (de_fz (de_lst (da_cons de_str (da_cons de_str (da_cons de_str (da_cons de_str (da_cons de_str (da_cons (de_ix hu1 (de_ixN hu1 1 de_int) de_int) da_nil)))))))) da_nil)) da_nil))))) dss_nil) (dss_one (ds_ret (de_callP 0 G__law_definition (hr.mono (by decide)) (by rfl) T.g__law_definition T.F__law_definition.kp T.b__law_definition pass0 (da_cons (de_var 1) (da_cons (de_callP 0 G__law_pick (hr.mono (by decide)) (by rfl) T.g__law_pick T.F__law_pick.kp T.b__law_pick pass0 (da_cons (de_fz (de_lst (da_cons de_str (da_cons de_str (da_cons de_str (da_cons de_str da_nil)))))) da_nil)) (da_cons de_int da_nil)))))))
theorem ok__law_commas {P : Program} {w : World} {K : PySem.W.Frag} {mg : Str → Option Value} {base : Heap} (T : Tx K mg) :
    FnOk P w K mg base CX0 1 T.f__law_commas T.d__law_commas ["parts"] (spN K 1 w__law_commas) := by
  refine okN T.F__law_commas sc__law_commas ([] : List Nat) wb__law_commas rfl (by decide) fun cdv A outer s H E hr => ?_
  have hu := hu120 hr
  have hu1 := hu_of hr
  exact (dss_one (ds_ret (de_if (dt_cmp op_gtD (de_lenN 0 (by rfl) T.m_len) de_int (nomark _)) (de_join de_str (de_fz (df_lc (R := Is) (own := [("part_own", 1)]) rfl sc__law_commas.nd (blkOk_by (own := [("part_own", 1)]) (N := N__law_commas) (sc := defScope s__law_commas) (by decide +kernel)) (show ∀ i, i ∈ ([1] : List Nat) → i ∉ ([] : List Nat) by decide) (.inl rfl) (di_of (de_var 0)) (fun _ _ _ _ _ => (dg_name 1 ([1] : List Nat) sc__law_commas.nd rfl (by first | exact .inl rfl | exact .inr rfl) (show (1 : Nat) ∉ ([] : List Nat) by decide) (.inl rfl) (by decide))) (fun _ _ _ _ _ => dts_nil) (fun _ _ _ _ _ => (de_clT cr_strD (by rfl) T.m_str (by decide +kernel) (da_cons (de_var 1) da_nil)))))) de_str)))
theorem ok__law_item_text {P : Program} {w : World} {K : PySem.W.Frag} {mg : Str → Option Value} {base : Heap} (T : Tx K mg)
    (G__law_commas : FnOk P w K mg base CX0 1 T.f__law_commas T.d__law_commas ["parts"] (spN K 1 w__law_commas)) :
    FnOk P w K mg base CX0 2 T.f__law_item_text T.d__law_item_text ["item"] (spN K 1 w__law_item_text) := by
  refine okN T.F__law_item_text sc__law_item_text ([] : List Nat) wb__law_item_text rfl (by decide) fun cdv A outer s H E hr => ?_
  have hu := hu120 hr
  have hu1 := hu_of hr
  exact (dss_cons (ds_if (dt_cmp (op_eqD' hu) (de_ixN hu1 0 de_int) de_str (nomark _)) (dss_one (ds_ret (de_join de_str (de_fz (de_lst (da_cons (de_ixN hu1 0 de_int) (da_cons (de_ixN hu1 0 de_int) (da_cons (de_call G__law_commas (hr.mono (by decide)) (by rfl) T.g__law_commas T.F__law_commas.kp T.b__law_commas pass0 (da_cons (de_ixN hu1 0 de_int) da_nil)) (da_cons (de_ixN hu1 0 de_int) (da_cons (de_call G__law_commas (hr.mono (by decide)) (by rfl) T.g__law_commas T.F__law_commas.kp T.b__law_commas pass0 (da_cons (de_ixN hu1 0 de_int) da_nil)) da_nil)))))))))) dss_nil) (dss_one (ds_ret (de_join de_str (de_fz (de_lst (da_cons (de_if (dt_tru (de_ixN hu1 0 de_int)) de_str de_str) (da_cons (de_ixN hu1 0 de_int) (da_cons (de_ixN hu1 0 de_int) (da_cons (de_ixN hu1 0 de_int) (da_cons (de_call G__law_commas (hr.mono (by decide)) (by rfl) T.g__law_commas T.F__law_commas.kp T.b__law_commas pass0 (da_cons (de_ixN hu1 0 de_int) da_nil)) da_nil)))))))))))
theorem ok_show_table {P : Program} {w : World} {K : PySem.W.Frag} {mg : Str → Option Value} {base : Heap} (T : Tx K mg) :
    FnOk P w K mg base CX0 1 T.f_show_table T.d_show_table ["table"] (spN K 1 w_show_table) := by
  refine okN T.F_show_table sc_show_table ([] : List Nat) wb_show_table rfl (by decide) fun cdv A outer s H E hr => ?_
  have hu := hu120 hr
  have hu1 := hu_of hr
  exact (dss_one (ds_ret (de_join de_str (de_fz (df_lc (R := Is) (own := [("entry", 1)]) rfl sc_show_table.nd (blkOk_by (own := [("entry", 1)]) (N := N_show_table) (sc := defScope s_show_table) (by decide +kernel)) (show ∀ i, i ∈ ([1] : List Nat) → i ∉ ([] : List Nat) by decide) (.inl rfl) (di_of (de_var 0)) (fun _ _ _ _ _ => (dg_name 1 ([1] : List Nat) sc_show_table.nd rfl (by first | exact .inl rfl | exact .inr rfl) (show (1 : Nat) ∉ ([] : List Nat) by decide) (.inl rfl) (by decide))) (fun _ _ _ _ _ => dts_nil) (fun _ _ _ _ _ => (de_clT cr_strD (by rfl) T.m_str (by decide +kernel) (da_cons (de_var 1) da_nil))))))))
theorem ok_show_item {P : Program} {w : World} {K : PySem.W.Frag} {mg : Str → Option Value} {base : Heap} (T : Tx K mg)
    (G_show_table : FnOk P w K mg base CX0 1 T.f_show_table T.d_show_table ["table"] (spN K 1 w_show_table)) :
    FnOk P w K mg base CX0 2 T.f_show_item T.d_show_item ["item"] (spN K 1 w_show_item) := by
  refine okN T.F_show_item sc_show_item ([] : List Nat) wb_show_item rfl (by decide) fun cdv A outer s H E hr => ?_
  have hu := hu120 hr
  have hu1 := hu_of hr
  exact (dss_cons (ds_if (dt_cmp (op_eqD' hu) (de_ixN hu1 0 de_int) de_str (nomark _)) (dss_cons (ds_asg (vs := ([1, 2, 3, 4, 5, 6] : List Nat)) (de_var 0) (dg_w (dg_tup (vs := ([1, 2, 3, 4, 5, 6] : List Nat)) rfl (dgs_cons 1 sc_show_item.nd rfl (by first | exact .inl rfl | exact .inr rfl) (show (1 : Nat) ∉ ([] : List Nat) by decide) (.inl rfl) (by decide) (dgs_cons 2 sc_show_item.nd rfl (by first | exact .inl rfl | exact .inr rfl) (show (2 : Nat) ∉ ([] : List Nat) by decide) (.inl rfl) (by decide) (dgs_cons 3 sc_show_item.nd rfl (by first | exact .inl rfl | exact .inr rfl) (show (3 : Nat) ∉ ([] : List Nat) by decide) (.inl rfl) (by decide) (dgs_cons 4 sc_show_item.nd rfl (by first | exact .inl rfl | exact .inr rfl) (show (4 : Nat) ∉ ([] : List Nat) by decide) (.inl rfl) (by decide) (dgs_cons 5 sc_show_item.nd rfl (by first | exact .inl rfl | exact .inr rfl) (show (5 : Nat) ∉ ([] : List Nat) by decide) (.inl rfl) (by decide) (dgs_cons 6 sc_show_item.nd rfl (by first | exact .inl rfl | exact .inr rfl) (show (6 : Nat) ∉ ([] : List Nat) by decide) (.inl rfl) (by decide) (dgs_nil _)))))))))) (dss_cons (ds_set 7 sc_show_item.nd rfl (by first | exact .inl rfl | exact .inr rfl) (show (7 : Nat) ∉ ([] : List Nat) by decide) (.inl rfl) (de_if (dt_tru (de_var 5)) de_str de_str)) (dss_one (ds_ret (de_joined [(wFmt (wVar 7)), (wC (.str (Str.ofString " "))), (wFmt (wVar 2)), (wC (.str (Str.ofString " "))), (wFmt (wVar 3)), (wC (.str (Str.ofString " "))), (wFmt (wVar 4)), (wC (.str (Str.ofString " "))), (wFmt (wCall 1 w_show_table (wCons (wVar 6) wNil)))] (PJ.cons (de_fmt (de_var 7)) (PJ.cons de_str (PJ.cons (de_fmt (de_var 2)) (PJ.cons de_str (PJ.cons (de_fmt (de_var 3)) (PJ.cons de_str (PJ.cons (de_fmt (de_var 4)) (PJ.cons de_str (PJ.cons (de_fmt (de_call G_show_table (hr.mono (by decide)) (by rfl) T.g_show_table T.F_show_table.kp T.b_show_table pass0 (da_cons (de_var 6) da_nil))) PJ.nil)))))))))))))) dss_nil) (dss_cons (ds_asg (vs := ([1, 8, 9, 10, 6] : List Nat)) (de_var 0) (dg_w (dg_tup (vs := ([1, 8, 9, 10, 6] : List Nat)) rfl (dgs_cons 1 sc_show_item.nd rfl (by first | exact .inl rfl | exact .inr rfl) (show (1 : Nat) ∉ ([] : List Nat) by decide) (.inl rfl) (by decide) (dgs_cons 8 sc_show_item.nd rfl (by first | exact .inl rfl | exact .inr rfl) (show (8 : Nat) ∉ ([] : List Nat) by decide) (.inl rfl) (by decide) (dgs_cons 9 sc_show_item.nd rfl (by first | exact .inl rfl | exact .inr rfl) (show (9 : Nat) ∉ ([] : List Nat) by decide) (.inl rfl) (by decide) (dgs_cons 10 sc_show_item.nd rfl (by first | exact .inl rfl | exact .inr rfl) (show (10 : Nat) ∉ ([] : List Nat) by decide) (.inl rfl) (by decide) (dgs_cons 6 sc_show_item.nd rfl (by first | exact .inl rfl | exact .inr rfl) (show (6 : Nat) ∉ ([] : List Nat) by decide) (.inl rfl) (by decide) (dgs_nil _))))))))) (dss_cons (ds_set 11 sc_show_item.nd rfl (by first | exact .inl rfl | exact .inr rfl) (show (11 : Nat) ∉ ([] : List Nat) by decide) (.inl rfl) (de_if (dt_tru (de_var 9)) (de_join de_str (de_var 9)) de_str)) (dss_one (ds_ret (de_joined [(wC (.str (Str.ofString "definition "))), (wFmt (wVar 8)), (wC (.str (Str.ofString " "))), (wFmt (wVar 11)), (wC (.str (Str.ofString " "))), (wFmt (wVar 10)), (wC (.str (Str.ofString " "))), (wFmt (wCall 1 w_show_table (wCons (wVar 6) wNil)))] (PJ.cons de_str (PJ.cons (de_fmt (de_var 8)) (PJ.cons de_str (PJ.cons (de_fmt (de_var 11)) (PJ.cons de_str (PJ.cons (de_fmt (de_var 10)) (PJ.cons de_str (PJ.cons (de_fmt (de_call G_show_table (hr.mono (by decide)) (by rfl) T.g_show_table T.F_show_table.kp T.b_show_table pass0 (da_cons (de_var 6) da_nil))) PJ.nil))))))))))))))
theorem ok_names_written {P : Program} {w : World} {K : PySem.W.Frag} {mg : Str → Option Value} {base : Heap} (T : Tx K mg) :
    FnOk P w K mg base CX0 1 T.f_names_written T.d_names_written ["text"] (spN K 1 w_names_written) := by
  refine okN T.F_names_written sc_names_written ([] : List Nat) wb_names_written rfl (by decide) fun cdv A outer s H E hr => ?_
  have hu := hu120 hr
  have hu1 := hu_of hr
  exact (dss_one (ds_ret (de_if (dt_cmp (op_eqD' hu) (de_var 0) de_str (nomark _)) (de_tup da_nil) (de_clT cr_tuple (by rfl) T.m_tuple (by decide +kernel) (da_cons (de_fz (df_split (de_var 0) de_str)) da_nil)))))
theorem ok_number_written {P : Program} {w : World} {K : PySem.W.Frag} {mg : Str → Option Value} {base : Heap} (T : Tx K mg) :
    FnOk P w K mg base CX0 1 T.f_number_written T.d_number_written ["text", "most_digits"] (spN K 2 w_number_written) := by
  refine okN T.F_number_written sc_number_written ([] : List Nat) wb_number_written rfl (by decide) fun cdv A outer s H E hr => ?_
  have hu := hu120 hr
  have hu1 := hu_of hr
  exact (dss_cons (ds_if (dt_bool (dw_or (dt_not (dt_chain op_leD op_leD de_int (de_lenN 0 (by rfl) T.m_len) (de_var 1))) (dw_or1 (dt_not (dt_tru (de_clB (cr_allD rfl) (by rfl) T.m_all (by decide +kernel) (da_cons (de_fz (df_lc (R := Is) (own := [("sign", 2)]) rfl sc_number_written.nd (blkOk_by (own := [("sign", 2)]) (N := N_number_written) (sc := defScope s_number_written) (by decide +kernel)) (show ∀ i, i ∈ ([2] : List Nat) → i ∉ ([] : List Nat) by decide) (.inl rfl) (di_signs (de_var 0)) (fun _ _ _ _ _ => (dg_name 2 ([2] : List Nat) sc_number_written.nd rfl (by first | exact .inl rfl | exact .inr rfl) (show (2 : Nat) ∉ ([] : List Nat) by decide) (.inl rfl) (by decide))) (fun _ _ _ _ _ => dts_nil) (fun _ _ _ _ _ => (de_chain op_leD op_leD de_str (de_var 2) de_str)))) da_nil))))))) (dss_one (ds_ret de_non)) dss_nil) (dss_cons (ds_if (dt_bool (dw_and (dt_cmp (op_eqD' hu) (de_ixN hu1 0 de_int) de_str (nomark _)) (dw_and1 (dt_cmp op_gtD (de_lenN 0 (by rfl) T.m_len) de_int (nomark _))))) (dss_one (ds_ret de_non)) dss_nil) (dss_one (ds_ret (de_clT cr_intT (by rfl) T.m_int (by decide +kernel) (da_cons (de_var 0) da_nil))))))
theorem ok_table_written {P : Program} {w : World} {K : PySem.W.Frag} {mg : Str → Option Value} {base : Heap} (T : Tx K mg)
    (G_number_written : FnOk P w K mg base CX0 1 T.f_number_written T.d_number_written ["text", "most_digits"] (spN K 2 w_number_written)) :
    FnOk P w K mg base CX0 2 T.f_table_written T.d_table_written ["text"] (spN K 1 w_table_written) := by
  refine okN T.F_table_written sc_table_written ([] : List Nat) wb_table_written rfl (by decide) fun cdv A outer s H E hr => ?_
  have hu := hu120 hr
  have hu1 := hu_of hr
  exact (dss_cons (ds_setLc (R := Is) 1 (own := [("word", 2)]) rfl sc_table_written.nd rfl rfl (sw_true rfl rfl rfl (by decide +kernel)) (blkOk_by (own := [("word", 2)]) (N := N_table_written) (sc := defScope s_table_written) (by decide +kernel)) (show ∀ i, i ∈ ([2] : List Nat) → i ∉ ([] : List Nat) by decide) (.inl rfl) (show (1 : Nat) ∉ ([] : List Nat) by decide) (.inl rfl) (di_of (de_fz (df_split (de_var 0) de_str))) (fun _ _ _ _ _ => (dg_name 2 ([2] : List Nat) sc_table_written.nd rfl (by first | exact .inl rfl | exact .inr rfl) (show (2 : Nat) ∉ ([] : List Nat) by decide) (.inl rfl) (by decide))) (fun _ _ _ _ _ => dts_nil) (fun _ _ _ _ _ => (de_call G_number_written (hr.mono (by decide)) (by rfl) T.g_number_written T.F_number_written.kp T.b_number_written pass0 (da_cons (de_var 2) (da_cons de_int da_nil))))) (dss_one (ds_ret (de_if (dt_cmp (op_inD hu) de_non (de_var 1) (by with_unfolding_all rfl)) de_non (de_clT cr_tuple (by rfl) T.m_tuple (by decide +kernel) (da_cons (de_var 1) da_nil))))))
theorem ok_is_kind {P : Program} {w : World} {K : PySem.W.Frag} {mg : Str → Option Value} {base : Heap} (T : Tx K mg) :
    FnOk P w K mg base CX0 1 T.f_is_kind T.d_is_kind ["kinds", "value"] (spN K 2 w_is_kind) := by
  refine okN T.F_is_kind sc_is_kind ([] : List Nat) wb_is_kind rfl (by decide) fun cdv A outer s H E hr => ?_
  have hu := hu120 hr
  have hu1 := hu_of hr
  exact (dss_one (ds_ret (de_cmp (op_inE hu) (de_var 1) (de_fz (df_lc (R := Is) (own := [("name", 2), ("_", 3)]) rfl sc_is_kind.nd (blkOk_by (own := [("name", 2), ("_", 3)]) (N := N_is_kind) (sc := defScope s_is_kind) (by decide +kernel)) (show ∀ i, i ∈ ([2, 3] : List Nat) → i ∉ ([] : List Nat) by decide) (.inl rfl) (di_of (de_var 0)) (fun _ _ _ _ _ => (dg_w (dg_tup (vs := ([2, 3] : List Nat)) rfl (dgs_cons 2 sc_is_kind.nd rfl (by first | exact .inl rfl | exact .inr rfl) (show (2 : Nat) ∉ ([] : List Nat) by decide) (.inl rfl) (by decide) (dgs_cons 3 sc_is_kind.nd rfl (by first | exact .inl rfl | exact .inr rfl) (show (3 : Nat) ∉ ([] : List Nat) by decide) (.inl rfl) (by decide) (dgs_nil _)))))) (fun _ _ _ _ _ => dts_nil) (fun _ _ _ _ _ => (de_var 2)))) (by with_unfolding_all rfl))))
theorem ok_is_name {P : Program} {w : World} {K : PySem.W.Frag} {mg : Str → Option Value} {base : Heap} (T : Tx K mg) :
    FnOk P w K mg base CX0 1 T.f_is_name T.d_is_name ["value"] (spN K 1 w_is_name) := by
  refine okN T.F_is_name sc_is_name ([] : List Nat) wb_is_name rfl (by decide) fun cdv A outer s H E hr => ?_
  have hu := hu120 hr
  have hu1 := hu_of hr
  exact (dss_cons (ds_if (dt_bool (dw_or (dt_not (dt_tru (de_isi (de_var 0) (by rfl) T.m_isinstance (by rfl) T.m_str (by decide +kernel) isi_str))) (dw_or1 (dt_not (dt_chain op_leD op_leD de_int (de_lenN 0 (by rfl) T.m_len) (de_gint (by rfl) T.c_MOST_LETTERS)))))) (dss_one (ds_ret de_bl)) dss_nil) (dss_one (ds_ret (de_clB (cr_allD rfl) (by rfl) T.m_all (by decide +kernel) (da_cons (de_fz (df_lc (R := Is) (own := [("letter", 1)]) rfl sc_is_name.nd (blkOk_by (own := [("letter", 1)]) (N := N_is_name) (sc := defScope s_is_name) (by decide +kernel)) (show ∀ i, i ∈ ([1] : List Nat) → i ∉ ([] : List Nat) by decide) (.inl rfl) (di_signs (de_var 0)) (fun _ _ _ _ _ => (dg_name 1 ([1] : List Nat) sc_is_name.nd rfl (by first | exact .inl rfl | exact .inr rfl) (show (1 : Nat) ∉ ([] : List Nat) by decide) (.inl rfl) (by decide))) (fun _ _ _ _ _ => dts_nil) (fun _ _ _ _ _ => (de_chain op_leD op_leD de_str (de_var 1) de_str)))) da_nil)))))
theorem ok_is_integer {P : Program} {w : World} {K : PySem.W.Frag} {mg : Str → Option Value} {base : Heap} (T : Tx K mg) :
    FnOk P w K mg base CX0 1 T.f_is_integer T.d_is_integer ["value"] (spN K 1 w_is_integer) := by
  refine okN T.F_is_integer sc_is_integer ([] : List Nat) wb_is_integer rfl (by decide) fun cdv A outer s H E hr => ?_
  have hu := hu120 hr
  have hu1 := hu_of hr
  exact (dss_one (ds_ret (de_and (de_isi (de_var 0) (by rfl) T.m_isinstance (by rfl) T.m_int (by decide +kernel) isi_int) (de_one (de_not (de_isi (de_var 0) (by rfl) T.m_isinstance (by rfl) T.m_bool (by decide +kernel) isi_bool))))))
theorem ok_is_table {P : Program} {w : World} {K : PySem.W.Frag} {mg : Str → Option Value} {base : Heap} (T : Tx K mg)
    (G_is_integer : FnOk P w K mg base CX0 1 T.f_is_integer T.d_is_integer ["value"] (spN K 1 w_is_integer)) :
    FnOk P w K mg base CX0 2 T.f_is_table T.d_is_table ["value", "length", "count"] (spN K 3 w_is_table) := by
  refine okN T.F_is_table sc_is_table ([] : List Nat) wb_is_table rfl (by decide) fun cdv A outer s H E hr => ?_
  have hu := hu120 hr
  have hu1 := hu_of hr
  exact (dss_cons (ds_if (dt_bool (dw_or (dt_not (dt_tru (de_isi (de_var 0) (by rfl) T.m_isinstance (by rfl) T.m_tuple (by decide +kernel) isi_tuple))) (dw_or1 (dt_cmp (op_neD' hu) (de_lenN 0 (by rfl) T.m_len) (de_var 1) (nomark _))))) (dss_one (ds_ret de_bl)) dss_nil) (dss_one (ds_ret (de_clB (cr_allD rfl) (by rfl) T.m_all (by decide +kernel) (da_cons (de_fz (df_lc (R := Is) (own := [("entry", 3)]) rfl sc_is_table.nd (blkOk_by (own := [("entry", 3)]) (N := N_is_table) (sc := defScope s_is_table) (by decide +kernel)) (show ∀ i, i ∈ ([3] : List Nat) → i ∉ ([] : List Nat) by decide) (.inl rfl) (di_of (de_var 0)) (fun _ _ _ _ _ => (dg_name 3 ([3] : List Nat) sc_is_table.nd rfl (by first | exact .inl rfl | exact .inr rfl) (show (3 : Nat) ∉ ([] : List Nat) by decide) (.inl rfl) (by decide))) (fun _ _ _ _ _ => dts_nil) (fun _ _ _ _ _ => (de_and (de_call G_is_integer (hr.mono (by decide)) (by rfl) T.g_is_integer T.F_is_integer.kp T.b_is_integer pass0 (da_cons (de_var 3) da_nil)) (de_one (de_chain op_leD op_ltD de_int (de_var 3) (de_var 2))))))) da_nil)))))
theorem ok_is_conversion {P : Program} {w : World} {K : PySem.W.Frag} {mg : Str → Option Value} {base : Heap} (T : Tx K mg)
    (G_is_kind : FnOk P w K mg base CX0 1 T.f_is_kind T.d_is_kind ["kinds", "value"] (spN K 2 w_is_kind))
    (G_is_name : FnOk P w K mg base CX0 1 T.f_is_name T.d_is_name ["value"] (spN K 1 w_is_name))
    (G_is_table : FnOk P w K mg base CX0 2 T.f_is_table T.d_is_table ["value", "length", "count"] (spN K 3 w_is_table)) :
    FnOk P w K mg base CX0 3 T.f_is_conversion T.d_is_conversion ["kinds", "value"] (spN K 2 w_is_conversion) := by
  refine okN T.F_is_conversion sc_is_conversion ([] : List Nat) wb_is_conversion rfl (by decide) fun cdv A outer s H E hr => ?_
  have hu := hu120 hr
  have hu1 := hu_of hr
  exact (dss_cons (ds_asg (vs := ([2, 3, 4, 5, 6, 7] : List Nat)) (de_var 1) (dg_w (dg_tup (vs := ([2, 3, 4, 5, 6, 7] : List Nat)) rfl (dgs_cons 2 sc_is_conversion.nd rfl (by first | exact .inl rfl | exact .inr rfl) (show (2 : Nat) ∉ ([] : List Nat) by decide) (.inl rfl) (by decide) (dgs_cons 3 sc_is_conversion.nd rfl (by first | exact .inl rfl | exact .inr rfl) (show (3 : Nat) ∉ ([] : List Nat) by decide) (.inl rfl) (by decide) (dgs_cons 4 sc_is_conversion.nd rfl (by first | exact .inl rfl | exact .inr rfl) (show (4 : Nat) ∉ ([] : List Nat) by decide) (.inl rfl) (by decide) (dgs_cons 5 sc_is_conversion.nd rfl (by first | exact .inl rfl | exact .inr rfl) (show (5 : Nat) ∉ ([] : List Nat) by decide) (.inl rfl) (by decide) (dgs_cons 6 sc_is_conversion.nd rfl (by first | exact .inl rfl | exact .inr rfl) (show (6 : Nat) ∉ ([] : List Nat) by decide) (.inl rfl) (by decide) (dgs_cons 7 sc_is_conversion.nd rfl (by first | exact .inl rfl | exact .inr rfl) (show (7 : Nat) ∉ ([] : List Nat) by decide) (.inl rfl) (by decide) (dgs_nil _)))))))))) (dss_cons (ds_if (dt_bool (dw_or (dt_not (dt_tru (de_call G_is_name (hr.mono (by decide)) (by rfl) T.g_is_name T.F_is_name.kp T.b_is_name pass0 (da_cons (de_var 3) da_nil)))) (dw_or (dt_not (dt_tru (de_call G_is_kind (hr.mono (by decide)) (by rfl) T.g_is_kind T.F_is_kind.kp T.b_is_kind pass0 (da_cons (de_var 0) (da_cons (de_var 4) da_nil))))) (dw_or1 (dt_not (dt_tru (de_call G_is_kind (hr.mono (by decide)) (by rfl) T.g_is_kind T.F_is_kind.kp T.b_is_kind pass0 (da_cons (de_var 0) (da_cons (de_var 5) da_nil))))))))) (dss_one (ds_ret de_bl)) dss_nil) (dss_cons (ds_if (dt_bool (dw_or (dt_cmp (op_eqD' hu) (de_var 4) (de_var 5) (nomark _)) (dw_or1 (dt_not (dt_tru (de_isi (de_var 6) (by rfl) T.m_isinstance (by rfl) T.m_bool (by decide +kernel) isi_bool)))))) (dss_one (ds_ret de_bl)) dss_nil) (dss_cons (ds_set 8 sc_is_conversion.nd rfl (by first | exact .inl rfl | exact .inr rfl) (show (8 : Nat) ∉ ([] : List Nat) by decide) (.inl rfl) (de_clT (cr_dict rfl) (by rfl) T.m_dict (by decide +kernel) (da_cons (de_var 0) da_nil))) (dss_one (ds_ret (de_call G_is_table (hr.mono (by decide)) (by rfl) T.g_is_table T.F_is_table.kp T.b_is_table pass0 (da_cons (de_var 7) (da_cons (de_ixN hu1 8 (de_var 4)) (da_cons (de_ixN hu1 8 (de_var 5)) da_nil))))))))))
theorem ok_is_parameters {P : Program} {w : World} {K : PySem.W.Frag} {mg : Str → Option Value} {base : Heap} (T : Tx K mg)
    (G_is_kind : FnOk P w K mg base CX0 1 T.f_is_kind T.d_is_kind ["kinds", "value"] (spN K 2 w_is_kind)) :
    FnOk P w K mg base CX0 2 T.f_is_parameters T.d_is_parameters ["kinds", "value"] (spN K 2 w_is_parameters) := by
  refine okN T.F_is_parameters sc_is_parameters ([] : List Nat) wb_is_parameters rfl (by decide) fun cdv A outer s H E hr => ?_
  have hu := hu120 hr
  have hu1 := hu_of hr
  exact (dss_cons (ds_if (dt_bool (dw_or (dt_not (dt_tru (de_isi (de_var 1) (by rfl) T.m_isinstance (by rfl) T.m_tuple (by decide +kernel) isi_tuple))) (dw_or1 (dt_cmp op_gtD (de_lenN 1 (by rfl) T.m_len) (de_gint (by rfl) T.c_MOST_PARAMETERS) (nomark _))))) (dss_one (ds_ret de_bl)) dss_nil) (dss_one (ds_ret (de_clB (cr_allD rfl) (by rfl) T.m_all (by decide +kernel) (da_cons (de_fz (df_lc (R := Is) (own := [("parameter", 2)]) rfl sc_is_parameters.nd (blkOk_by (own := [("parameter", 2)]) (N := N_is_parameters) (sc := defScope s_is_parameters) (by decide +kernel)) (show ∀ i, i ∈ ([2] : List Nat) → i ∉ ([] : List Nat) by decide) (.inl rfl) (di_of (de_var 1)) (fun _ _ _ _ _ => (dg_name 2 ([2] : List Nat) sc_is_parameters.nd rfl (by first | exact .inl rfl | exact .inr rfl) (show (2 : Nat) ∉ ([] : List Nat) by decide) (.inl rfl) (by decide))) (fun _ _ _ _ _ => dts_nil) (fun _ _ _ _ _ => (de_call G_is_kind (hr.mono (by decide)) (by rfl) T.g_is_kind T.F_is_kind.kp T.b_is_kind pass0 (da_cons (de_var 0) (da_cons (de_var 2) da_nil)))))) da_nil)))))
theorem ok_is_definition {P : Program} {w : World} {K : PySem.W.Frag} {mg : Str → Option Value} {base : Heap} (T : Tx K mg)
    (G_is_kind : FnOk P w K mg base CX0 1 T.f_is_kind T.d_is_kind ["kinds", "value"] (spN K 2 w_is_kind))
    (G_is_parameters : FnOk P w K mg base CX0 2 T.f_is_parameters T.d_is_parameters ["kinds", "value"] (spN K 2 w_is_parameters))
    (G_is_name : FnOk P w K mg base CX0 1 T.f_is_name T.d_is_name ["value"] (spN K 1 w_is_name))
    (G_is_table : FnOk P w K mg base CX0 2 T.f_is_table T.d_is_table ["value", "length", "count"] (spN K 3 w_is_table)) :
    FnOk P w K mg base CX0 3 T.f_is_definition T.d_is_definition ["kinds", "value"] (spN K 2 w_is_definition) := by
  refine okN T.F_is_definition sc_is_definition ([] : List Nat) wb_is_definition rfl (by decide) fun cdv A outer s H E hr => ?_
  have hu := hu120 hr
  have hu1 := hu_of hr
  exact (dss_cons (ds_asg (vs := ([2, 3, 4, 5, 6] : List Nat)) (de_var 1) (dg_w (dg_tup (vs := ([2, 3, 4, 5, 6] : List Nat)) rfl (dgs_cons 2 sc_is_definition.nd rfl (by first | exact .inl rfl | exact .inr rfl) (show (2 : Nat) ∉ ([] : List Nat) by decide) (.inl rfl) (by decide) (dgs_cons 3 sc_is_definition.nd rfl (by first | exact .inl rfl | exact .inr rfl) (show (3 : Nat) ∉ ([] : List Nat) by decide) (.inl rfl) (by decide) (dgs_cons 4 sc_is_definition.nd rfl (by first | exact .inl rfl | exact .inr rfl) (show (4 : Nat) ∉ ([] : List Nat) by decide) (.inl rfl) (by decide) (dgs_cons 5 sc_is_definition.nd rfl (by first | exact .inl rfl | exact .inr rfl) (show (5 : Nat) ∉ ([] : List Nat) by decide) (.inl rfl) (by decide) (dgs_cons 6 sc_is_definition.nd rfl (by first | exact .inl rfl | exact .inr rfl) (show (6 : Nat) ∉ ([] : List Nat) by decide) (.inl rfl) (by decide) (dgs_nil _))))))))) (dss_cons (ds_if (dt_bool (dw_or (dt_not (dt_tru (de_call G_is_name (hr.mono (by decide)) (by rfl) T.g_is_name T.F_is_name.kp T.b_is_name pass0 (da_cons (de_var 3) da_nil)))) (dw_or (dt_not (dt_tru (de_call G_is_parameters (hr.mono (by decide)) (by rfl) T.g_is_parameters T.F_is_parameters.kp T.b_is_parameters pass0 (da_cons (de_var 0) (da_cons (de_var 4) da_nil))))) (dw_or1 (dt_not (dt_tru (de_call G_is_kind (hr.mono (by decide)) (by rfl) T.g_is_kind T.F_is_kind.kp T.b_is_kind pass0 (da_cons (de_var 0) (da_cons (de_var 5) da_nil))))))))) (dss_one (ds_ret de_bl)) dss_nil) (dss_cons (ds_set 7 sc_is_definition.nd rfl (by first | exact .inl rfl | exact .inr rfl) (show (7 : Nat) ∉ ([] : List Nat) by decide) (.inl rfl) (de_clT (cr_dict rfl) (by rfl) T.m_dict (by decide +kernel) (da_cons (de_var 0) da_nil))) (dss_cons (ds_set 8 sc_is_definition.nd rfl (by first | exact .inl rfl | exact .inr rfl) (show (8 : Nat) ∉ ([] : List Nat) by decide) (.inl rfl) de_int) (dss_cons (ds_for (R := Is) (vs := ([9] : List Nat)) PassesOwn.never rfl (di_of (de_var 4)) (dg_name 9 ([9] : List Nat) sc_is_definition.nd rfl (by first | exact .inl rfl | exact .inr rfl) (show (9 : Nat) ∉ ([] : List Nat) by decide) (.inl rfl) (by decide)) (dss_one (ds_set 8 sc_is_definition.nd rfl (by first | exact .inl rfl | exact .inr rfl) (show (8 : Nat) ∉ ([] : List Nat) by decide) (.inl rfl) (de_bin op_mulD (de_var 8) (de_ixN hu1 7 (de_var 9)))))) (dss_one (ds_ret (de_and (de_cmp op_leD (de_var 8) (de_gint (by rfl) T.c_MOST_ENTRIES) (nomark _)) (de_one (de_call G_is_table (hr.mono (by decide)) (by rfl) T.g_is_table T.F_is_table.kp T.b_is_table pass0 (da_cons (de_var 6) (da_cons (de_var 8) (da_cons (de_ixN hu1 7 (de_var 5)) da_nil)))))))))))))
theorem ok_is_item {P : Program} {w : World} {K : PySem.W.Frag} {mg : Str → Option Value} {base : Heap} (T : Tx K mg)
    (G_is_conversion : FnOk P w K mg base CX0 3 T.f_is_conversion T.d_is_conversion ["kinds", "value"] (spN K 2 w_is_conversion))
    (G_is_definition : FnOk P w K mg base CX0 3 T.f_is_definition T.d_is_definition ["kinds", "value"] (spN K 2 w_is_definition)) :
    FnOk P w K mg base CX0 4 T.f_is_item T.d_is_item ["kinds", "value"] (spN K 2 w_is_item) := by
  refine okN T.F_is_item sc_is_item ([] : List Nat) wb_is_item rfl (by decide) fun cdv A outer s H E hr => ?_
  have hu := hu120 hr
  have hu1 := hu_of hr
  exact (dss_cons (ds_if (dt_not (dt_tru (de_isi (de_var 1) (by rfl) T.m_isinstance (by rfl) T.m_tuple (by decide +kernel) isi_tuple))) (dss_one (ds_ret de_bl)) dss_nil) (dss_cons (ds_if (dt_cmp (op_eqE hu) (de_lenN 1 (by rfl) T.m_len) de_int (nomark _)) (dss_one (ds_ret (de_and (de_cmp (op_eqE hu) (de_ixN hu1 1 de_int) de_str (nomark _)) (de_one (de_call G_is_conversion (hr.mono (by decide)) (by rfl) T.g_is_conversion T.F_is_conversion.kp T.b_is_conversion pass0 (da_cons (de_var 0) (da_cons (de_var 1) da_nil))))))) dss_nil) (dss_one (ds_ret (de_and (de_cmp (op_eqE hu) (de_lenN 1 (by rfl) T.m_len) de_int (nomark _)) (de_and (de_cmp (op_eqE hu) (de_ixN hu1 1 de_int) de_str (nomark _)) (de_one (de_call G_is_definition (hr.mono (by decide)) (by rfl) T.g_is_definition T.F_is_definition.kp T.b_is_definition pass0 (da_cons (de_var 0) (da_cons (de_var 1) da_nil))))))))))
theorem ok_item_written {P : Program} {w : World} {K : PySem.W.Frag} {mg : Str → Option Value} {base : Heap} (T : Tx K mg)
    (G_names_written : FnOk P w K mg base CX0 1 T.f_names_written T.d_names_written ["text"] (spN K 1 w_names_written))
    (G_table_written : FnOk P w K mg base CX0 2 T.f_table_written T.d_table_written ["text"] (spN K 1 w_table_written))
    (G_is_item : FnOk P w K mg base CX0 4 T.f_is_item T.d_is_item ["kinds", "value"] (spN K 2 w_is_item)) :
    FnOk P w K mg base CX0 5 T.f_item_written T.d_item_written ["kinds", "text"] (spN K 2 w_item_written) := by
  refine okN T.F_item_written sc_item_written ([] : List Nat) wb_item_written rfl (by decide) fun cdv A outer s H E hr => ?_
  have hu := hu120 hr
  have hu1 := hu_of hr
  exact (dss_cons (ds_set 2 sc_item_written.nd rfl (by first | exact .inl rfl | exact .inr rfl) (show (2 : Nat) ∉ ([] : List Nat) by decide) (.inl rfl) (de_fz (df_split (de_var 1) de_str))) (dss_cons (ds_if (dt_cmp (op_neD' hu) (de_lenN 2 (by rfl) T.m_len) de_int (nomark _)) (dss_one (ds_ret de_non)) dss_nil) (dss_cons (ds_asg (vs := ([3, 4, 5, 6, 7] : List Nat)) (de_var 2) (dg_lst (vs := ([3, 4, 5, 6, 7] : List Nat)) rfl (dgs_cons 3 sc_item_written.nd rfl (by first | exact .inl rfl | exact .inr rfl) (show (3 : Nat) ∉ ([] : List Nat) by decide) (.inl rfl) (by decide) (dgs_cons 4 sc_item_written.nd rfl (by first | exact .inl rfl | exact .inr rfl) (show (4 : Nat) ∉ ([] : List Nat) by decide) (.inl rfl) (by decide) (dgs_cons 5 sc_item_written.nd rfl (by first | exact .inl rfl | exact .inr rfl) (show (5 : Nat) ∉ ([] : List Nat) by decide) (.inl rfl) (by decide) (dgs_cons 6 sc_item_written.nd rfl (by first | exact .inl rfl | exact .inr rfl) (show (6 : Nat) ∉ ([] : List Nat) by decide) (.inl rfl) (by decide) (dgs_cons 7 sc_item_written.nd rfl (by first | exact .inl rfl | exact .inr rfl) (show (7 : Nat) ∉ ([] : List Nat) by decide) (.inl rfl) (by decide) (dgs_nil _)))))))) (dss_cons (ds_if (dt_cmp (op_eqD' hu) (de_var 3) de_str (nomark _)) (dss_one (ds_set 8 sc_item_written.nd rfl (by first | exact .inl rfl | exact .inr rfl) (show (8 : Nat) ∉ ([] : List Nat) by decide) (.inl rfl) (de_tup (da_cons de_str (da_cons (de_var 4) (da_cons (de_call G_names_written (hr.mono (by decide)) (by rfl) T.g_names_written T.F_names_written.kp T.b_names_written pass0 (da_cons (de_var 5) da_nil)) (da_cons (de_var 6) (da_cons (de_call G_table_written (hr.mono (by decide)) (by rfl) T.g_table_written T.F_table_written.kp T.b_table_written pass0 (da_cons (de_var 7) da_nil)) da_nil)))))))) (dss_one (ds_if (dt_cmp (op_inD hu) (de_var 3) (de_tup (da_cons de_str (da_cons de_str da_nil))) (by with_unfolding_all rfl)) (dss_one (ds_set 8 sc_item_written.nd rfl (by first | exact .inl rfl | exact .inr rfl) (show (8 : Nat) ∉ ([] : List Nat) by decide) (.inl rfl) (de_tup (da_cons de_str (da_cons (de_var 4) (da_cons (de_var 5) (da_cons (de_var 6) (da_cons (de_cmp (op_eqD' hu) (de_var 3) de_str (nomark _)) (da_cons (de_call G_table_written (hr.mono (by decide)) (by rfl) T.g_table_written T.F_table_written.kp T.b_table_written pass0 (da_cons (de_var 7) da_nil)) da_nil))))))))) (dss_one (ds_ret de_non))))) (dss_one (ds_ret (de_if (dt_tru (de_call G_is_item (hr.mono (by decide)) (by rfl) T.g_is_item T.F_is_item.kp T.b_is_item pass0 (da_cons (de_var 0) (da_cons (de_var 8) da_nil)))) (de_var 8) de_non)))))))
theorem ok_read_item {P : Program} {w : World} {K : PySem.W.Frag} {mg : Str → Option Value} {base : Heap} (T : Tx K mg)
    (G_item_written : FnOk P w K mg base CX0 5 T.f_item_written T.d_item_written ["kinds", "text"] (spN K 2 w_item_written)) :
    FnOk P w K mg base CX0 6 T.f_read_item T.d_read_item ["kinds", "text"] (spN K 2 w_read_item) := by
  refine okN T.F_read_item sc_read_item ([] : List Nat) wb_read_item rfl (by decide) fun cdv A outer s H E hr => ?_
  have hu := hu120 hr
  have hu1 := hu_of hr
  exact (dss_cons (ds_set 2 sc_read_item.nd rfl (by first | exact .inl rfl | exact .inr rfl) (show (2 : Nat) ∉ ([] : List Nat) by decide) (.inl rfl) (de_if (dt_tru (de_isi (de_var 1) (by rfl) T.m_isinstance (by rfl) T.m_str (by decide +kernel) isi_str)) (de_call G_item_written (hr.mono (by decide)) (by rfl) T.g_item_written T.F_item_written.kp T.b_item_written pass0 (da_cons (de_var 0) (da_cons (de_var 1) da_nil))) de_non)) (dss_cons (ds_if (dt_cmp op_isND (de_var 2) de_non (by rfl)) (dss_one ds_never) dss_nil) (dss_one (ds_ret (de_var 2)))))
theorem ok_law {P : Program} {w : World} {K : PySem.W.Frag} {mg : Str → Option Value} {base : Heap} (T : Tx K mg)
    (G__law_stream : FnOk P w K mg base CX0 1 T.f__law_stream T.d__law_stream ["script", "k"] (spI K 1 w__law_stream))
    (G__law_kinds : FnOk P w K mg base CX0 4 T.f__law_kinds T.d__law_kinds ["stream", "most", "values"] (spP K 2 w__law_kinds))
    (G__law_item : FnOk P w K mg base CX0 4 T.f__law_item T.d__law_item ["stream", "kinds"] (spP K 1 w__law_item))
    (G__law_draw : FnOk P w K mg base CX0 1 T.f__law_draw T.d__law_draw ["stream", "many"] (spP K 1 w__law_draw))
    (G__law_definition : FnOk P w K mg base CX0 3 T.f__law_definition T.d__law_definition ["stream", "kinds", "operator", "most"] (spP K 3 w__law_definition))
    (G__law_pick : FnOk P w K mg base CX0 2 T.f__law_pick T.d__law_pick ["stream", "some"] (spP K 1 w__law_pick))
    (G__law_item_text : FnOk P w K mg base CX0 2 T.f__law_item_text T.d__law_item_text ["item"] (spN K 1 w__law_item_text))
    (G_show_item : FnOk P w K mg base CX0 2 T.f_show_item T.d_show_item ["item"] (spN K 1 w_show_item))
    (G_read_item : FnOk P w K mg base CX0 6 T.f_read_item T.d_read_item ["kinds", "text"] (spN K 2 w_read_item)) :
    FnG P w K mg base CX0 7 T.f_law T.d_law ["script"] (spI K 0 w_law) := by
  refine okIG T.F_law sc_law ([2] : List Nat) wb_law rfl (by decide) fun cdv A outer s H E gd hr => ?_
  have hu := hu120 hr
  have hu1 := hu_of hr
  have hg : Gd (A.deeper (envOfC "law" (defScope s_law) s.heap.objs.size T.f_law cdv)) := gd
  exact (dss_cons (ds_for (R := Is) (vs := ([1] : List Nat)) PassesOwn.never rfl (di_range1 (by rfl) T.m_range (da_cons (de_clB (cr_max2 rfl) (by rfl) T.m_max (by decide +kernel) (da_cons de_int (da_cons (de_clB (cr_min2 rfl) (by rfl) T.m_min (by decide +kernel) (da_cons de_int (da_cons (de_lenI 0 (by rfl) T.m_len) da_nil))) da_nil))) da_nil)) (dg_name 1 ([1] : List Nat) sc_law.nd rfl (by first | exact .inl rfl | exact .inr rfl) (show (1 : Nat) ∉ ([2] : List Nat) by decide) (.inl rfl) (by decide)) (dss_cons (ds_setO 2 sc_law.nd rfl (by first | exact .inl rfl | exact .inr rfl) (show (2 : Nat) ∈ ([2] : List Nat) by decide) (.inl rfl) (df_callI 0 G__law_stream (hr.mono (by decide)) (by rfl) T.g__law_stream T.F__law_stream.kp T.b__law_stream pass0 (da_cons (de_var 1) da_nil))) (dss_cons (ds_set 3 sc_law.nd rfl (by first | exact .inl rfl | exact .inr rfl) (show (3 : Nat) ∉ ([2] : List Nat) by decide) (.inl rfl) (de_callP 2 G__law_kinds (hr.mono (by decide)) (by rfl) T.g__law_kinds T.F__law_kinds.kp T.b__law_kinds pass0 (da_cons de_int (da_cons de_int da_nil)))) (dss_one (ds_for (R := Is) (vs := ([4] : List Nat)) PassesOwn.never rfl (di_range1 (by rfl) T.m_range (da_cons de_int da_nil)) (dg_name 4 ([4] : List Nat) sc_law.nd rfl (by first | exact .inl rfl | exact .inr rfl) (show (4 : Nat) ∉ ([2] : List Nat) by decide) (.inl rfl) (by decide)) (dss_cons (ds_set 5 sc_law.nd rfl (by first | exact .inl rfl | exact .inr rfl) (show (5 : Nat) ∉ ([2] : List Nat) by decide) (.inl rfl) (de_callP 2 G__law_item (hr.mono (by decide)) (by rfl) T.g__law_item T.F__law_item.kp T.b__law_item pass0 (da_cons (de_var 3) da_nil))) (dss_cons (ds_if (dt_cmp (op_eqD' hu) (de_callP 2 G__law_draw (hr.mono (by decide)) (by rfl) T.g__law_draw T.F__law_draw.kp T.b__law_draw pass0 (da_cons de_int da_nil)) de_int (nomark _)) (dss_one (ds_set 5 sc_law.nd rfl (by first | exact .inl rfl | exact .inr rfl) (show (5 : Nat) ∉ ([2] : List Nat) by decide) (.inl rfl) (de_callP 2 G__law_definition (hr.mono (by decide)) (by rfl) T.g__law_definition T.F__law_definition.kp T.b__law_definition pass0 (da_cons (de_var 3) (da_cons (de_callP 2 G__law_pick (hr.mono (by decide)) (by rfl) T.g__law_pick T.F__law_pick.kp T.b__law_pick pass0 (da_cons (de_fz (de_lst (da_cons de_str (da_cons de_str (da_cons de_str da_nil))))) da_nil)) (da_cons de_int da_nil)))))) dss_nil) (dss_cons (ds_par2 (k1' := .d) (k2' := .d) 6 7 rfl rfl sc_law.nd rfl rfl (by decide) rfl rfl (show (6 : Nat) ∉ ([2] : List Nat) by decide) (show (7 : Nat) ∉ ([2] : List Nat) by decide) (fun h => by cases h) (.inl rfl) (.inl rfl) (dm_d (de_call G__law_item_text (hr.mono (by decide)) (by rfl) T.g__law_item_text T.F__law_item_text.kp T.b__law_item_text pass0 (da_cons (de_var 5) da_nil)) (dm_d (de_clB (cr_reprF hg hu) (by rfl) T.m_repr (by decide +kernel) (da_cons (de_tup (da_cons (de_var 3) (da_cons (de_var 5) da_nil))) da_nil)) dm_nil)) (by rfl)) (dss_cons (ds_if (dt_cmp (op_neD' hu) (de_clB (cr_reprF hg hu) (by rfl) T.m_repr (by decide +kernel) (da_cons (de_call G_show_item (hr.mono (by decide)) (by rfl) T.g_show_item T.F_show_item.kp T.b_show_item pass0 (da_cons (de_var 5) da_nil)) da_nil)) (de_clB (cr_reprF hg hu) (by rfl) T.m_repr (by decide +kernel) (da_cons (de_var 6) da_nil)) (nomark _)) (dss_one (ds_ret de_bl)) dss_nil) (dss_cons (ds_if (dt_cmp (op_neD' hu) (de_clB (cr_reprF hg hu) (by rfl) T.m_repr (by decide +kernel) (da_cons (de_call G_read_item (hr.mono (by decide)) (by rfl) T.g_read_item T.F_read_item.kp T.b_read_item pass0 (da_cons (de_var 3) (da_cons (de_var 6) da_nil))) da_nil)) (de_clB (cr_reprF hg hu) (by rfl) T.m_repr (by decide +kernel) (da_cons (de_var 5) da_nil)) (nomark _)) (dss_one (ds_ret de_bl)) dss_nil) (dss_one (ds_if (dt_cmp (op_neD' hu) (de_clB (cr_reprF hg hu) (by rfl) T.m_repr (by decide +kernel) (da_cons (de_tup (da_cons (de_var 3) (da_cons (de_var 5) da_nil))) da_nil)) (de_var 7) (nomark _)) (dss_one (ds_ret de_bl)) dss_nil)))))))))))) (dss_one (ds_ret de_bl)))

theorem all_mk {l : PySem.W.OpenLaw} {w : World} {K : PySem.W.Frag} {h : Heap} {mg : Str → Option Value} {fa f__law_stream f__law_draw f__law_pick f__law_names f__law_kinds f__law_conversion f__law_rows f__law_definition f__law_item f__law_commas f__law_item_text f_show_table f_show_item f_names_written f_number_written f_table_written f_is_kind f_is_name f_is_integer f_is_table f_is_conversion f_is_parameters f_is_definition f_is_item f_item_written f_read_item f_law : Addr} (X : K.In h) (G : h.Ns mainGlobals mg) (hfa : mg "law" = some (.ref fa))
    {od__law_stream an__law_stream : Option Addr} {sl__law_stream : Array (Option Value)} {oc__law_stream kV__law_stream dc__law_stream pm__law_stream cd__law_stream ct__law_stream : Value} {od__law_draw an__law_draw : Option Addr} {sl__law_draw : Array (Option Value)} {oc__law_draw kV__law_draw dc__law_draw pm__law_draw cd__law_draw ct__law_draw : Value} {od__law_pick an__law_pick : Option Addr} {sl__law_pick : Array (Option Value)} {oc__law_pick kV__law_pick dc__law_pick pm__law_pick cd__law_pick ct__law_pick : Value} {od__law_names an__law_names : Option Addr} {sl__law_names : Array (Option Value)} {oc__law_names kV__law_names dc__law_names pm__law_names cd__law_names ct__law_names : Value} {od__law_kinds an__law_kinds : Option Addr} {sl__law_kinds : Array (Option Value)} {oc__law_kinds kV__law_kinds dc__law_kinds pm__law_kinds cd__law_kinds ct__law_kinds : Value} {od__law_conversion an__law_conversion : Option Addr} {sl__law_conversion : Array (Option Value)} {oc__law_conversion kV__law_conversion dc__law_conversion pm__law_conversion cd__law_conversion ct__law_conversion : Value} {od__law_rows an__law_rows : Option Addr} {sl__law_rows : Array (Option Value)} {oc__law_rows kV__law_rows dc__law_rows pm__law_rows cd__law_rows ct__law_rows : Value} {od__law_definition an__law_definition : Option Addr} {sl__law_definition : Array (Option Value)} {oc__law_definition kV__law_definition dc__law_definition pm__law_definition cd__law_definition ct__law_definition : Value} {od__law_item an__law_item : Option Addr} {sl__law_item : Array (Option Value)} {oc__law_item kV__law_item dc__law_item pm__law_item cd__law_item ct__law_item : Value} {od__law_commas an__law_commas : Option Addr} {sl__law_commas : Array (Option Value)} {oc__law_commas kV__law_commas dc__law_commas pm__law_commas cd__law_commas ct__law_commas : Value} {od__law_item_text an__law_item_text : Option Addr} {sl__law_item_text : Array (Option Value)} {oc__law_item_text kV__law_item_text dc__law_item_text pm__law_item_text cd__law_item_text ct__law_item_text : Value} {od_show_table an_show_table : Option Addr} {sl_show_table : Array (Option Value)} {oc_show_table kV_show_table dc_show_table pm_show_table cd_show_table ct_show_table : Value} {od_show_item an_show_item : Option Addr} {sl_show_item : Array (Option Value)} {oc_show_item kV_show_item dc_show_item pm_show_item cd_show_item ct_show_item : Value} {od_names_written an_names_written : Option Addr} {sl_names_written : Array (Option Value)} {oc_names_written kV_names_written dc_names_written pm_names_written cd_names_written ct_names_written : Value} {od_number_written an_number_written : Option Addr} {sl_number_written : Array (Option Value)} {oc_number_written kV_number_written dc_number_written pm_number_written cd_number_written ct_number_written : Value} {od_table_written an_table_written : Option Addr} {sl_table_written : Array (Option Value)} {oc_table_written kV_table_written dc_table_written pm_table_written cd_table_written ct_table_written : Value} {od_is_kind an_is_kind : Option Addr} {sl_is_kind : Array (Option Value)} {oc_is_kind kV_is_kind dc_is_kind pm_is_kind cd_is_kind ct_is_kind : Value} {od_is_name an_is_name : Option Addr} {sl_is_name : Array (Option Value)} {oc_is_name kV_is_name dc_is_name pm_is_name cd_is_name ct_is_name : Value} {od_is_integer an_is_integer : Option Addr} {sl_is_integer : Array (Option Value)} {oc_is_integer kV_is_integer dc_is_integer pm_is_integer cd_is_integer ct_is_integer : Value} {od_is_table an_is_table : Option Addr} {sl_is_table : Array (Option Value)} {oc_is_table kV_is_table dc_is_table pm_is_table cd_is_table ct_is_table : Value} {od_is_conversion an_is_conversion : Option Addr} {sl_is_conversion : Array (Option Value)} {oc_is_conversion kV_is_conversion dc_is_conversion pm_is_conversion cd_is_conversion ct_is_conversion : Value} {od_is_parameters an_is_parameters : Option Addr} {sl_is_parameters : Array (Option Value)} {oc_is_parameters kV_is_parameters dc_is_parameters pm_is_parameters cd_is_parameters ct_is_parameters : Value} {od_is_definition an_is_definition : Option Addr} {sl_is_definition : Array (Option Value)} {oc_is_definition kV_is_definition dc_is_definition pm_is_definition cd_is_definition ct_is_definition : Value} {od_is_item an_is_item : Option Addr} {sl_is_item : Array (Option Value)} {oc_is_item kV_is_item dc_is_item pm_is_item cd_is_item ct_is_item : Value} {od_item_written an_item_written : Option Addr} {sl_item_written : Array (Option Value)} {oc_item_written kV_item_written dc_item_written pm_item_written cd_item_written ct_item_written : Value} {od_read_item an_read_item : Option Addr} {sl_read_item : Array (Option Value)} {oc_read_item kV_read_item dc_read_item pm_read_item cd_read_item ct_read_item : Value} {od_law an_law : Option Addr} {sl_law : Array (Option Value)} {oc_law kV_law dc_law pm_law cd_law ct_law : Value}
    (a__law_stream : PySem.W.nsIn K mainGlobals "_law_stream" = some (some (.ref f__law_stream))) (l__law_stream : K.lookup f__law_stream = some ⟨oc__law_stream, od__law_stream, .func (PySem.W.fnOf "_law_stream" "_law_stream" (defArgs s__law_stream) (defBody s__law_stream) (defScope s__law_stream) .none kV__law_stream dc__law_stream pm__law_stream an__law_stream cd__law_stream ct__law_stream), sl__law_stream⟩) (c__law_stream : PySem.W.codeIn K cd__law_stream "_law_stream" = true) (k__law_stream : PySem.W.keepIn K (.ref f__law_stream) = true)
    (a__law_draw : PySem.W.nsIn K mainGlobals "_law_draw" = some (some (.ref f__law_draw))) (l__law_draw : K.lookup f__law_draw = some ⟨oc__law_draw, od__law_draw, .func (PySem.W.fnOf "_law_draw" "_law_draw" (defArgs s__law_draw) (defBody s__law_draw) (defScope s__law_draw) .none kV__law_draw dc__law_draw pm__law_draw an__law_draw cd__law_draw ct__law_draw), sl__law_draw⟩) (c__law_draw : PySem.W.codeIn K cd__law_draw "_law_draw" = true) (k__law_draw : PySem.W.keepIn K (.ref f__law_draw) = true)
    (a__law_pick : PySem.W.nsIn K mainGlobals "_law_pick" = some (some (.ref f__law_pick))) (l__law_pick : K.lookup f__law_pick = some ⟨oc__law_pick, od__law_pick, .func (PySem.W.fnOf "_law_pick" "_law_pick" (defArgs s__law_pick) (defBody s__law_pick) (defScope s__law_pick) .none kV__law_pick dc__law_pick pm__law_pick an__law_pick cd__law_pick ct__law_pick), sl__law_pick⟩) (c__law_pick : PySem.W.codeIn K cd__law_pick "_law_pick" = true) (k__law_pick : PySem.W.keepIn K (.ref f__law_pick) = true)
    (a__law_names : PySem.W.nsIn K mainGlobals "_law_names" = some (some (.ref f__law_names))) (l__law_names : K.lookup f__law_names = some ⟨oc__law_names, od__law_names, .func (PySem.W.fnOf "_law_names" "_law_names" (defArgs s__law_names) (defBody s__law_names) (defScope s__law_names) .none kV__law_names dc__law_names pm__law_names an__law_names cd__law_names ct__law_names), sl__law_names⟩) (c__law_names : PySem.W.codeIn K cd__law_names "_law_names" = true) (k__law_names : PySem.W.keepIn K (.ref f__law_names) = true)
    (a__law_kinds : PySem.W.nsIn K mainGlobals "_law_kinds" = some (some (.ref f__law_kinds))) (l__law_kinds : K.lookup f__law_kinds = some ⟨oc__law_kinds, od__law_kinds, .func (PySem.W.fnOf "_law_kinds" "_law_kinds" (defArgs s__law_kinds) (defBody s__law_kinds) (defScope s__law_kinds) .none kV__law_kinds dc__law_kinds pm__law_kinds an__law_kinds cd__law_kinds ct__law_kinds), sl__law_kinds⟩) (c__law_kinds : PySem.W.codeIn K cd__law_kinds "_law_kinds" = true) (k__law_kinds : PySem.W.keepIn K (.ref f__law_kinds) = true)
    (a__law_conversion : PySem.W.nsIn K mainGlobals "_law_conversion" = some (some (.ref f__law_conversion))) (l__law_conversion : K.lookup f__law_conversion = some ⟨oc__law_conversion, od__law_conversion, .func (PySem.W.fnOf "_law_conversion" "_law_conversion" (defArgs s__law_conversion) (defBody s__law_conversion) (defScope s__law_conversion) .none kV__law_conversion dc__law_conversion pm__law_conversion an__law_conversion cd__law_conversion ct__law_conversion), sl__law_conversion⟩) (c__law_conversion : PySem.W.codeIn K cd__law_conversion "_law_conversion" = true) (k__law_conversion : PySem.W.keepIn K (.ref f__law_conversion) = true)
    (a__law_rows : PySem.W.nsIn K mainGlobals "_law_rows" = some (some (.ref f__law_rows))) (l__law_rows : K.lookup f__law_rows = some ⟨oc__law_rows, od__law_rows, .func (PySem.W.fnOf "_law_rows" "_law_rows" (defArgs s__law_rows) (defBody s__law_rows) (defScope s__law_rows) .none kV__law_rows dc__law_rows pm__law_rows an__law_rows cd__law_rows ct__law_rows), sl__law_rows⟩) (c__law_rows : PySem.W.codeIn K cd__law_rows "_law_rows" = true) (k__law_rows : PySem.W.keepIn K (.ref f__law_rows) = true)
    (a__law_definition : PySem.W.nsIn K mainGlobals "_law_definition" = some (some (.ref f__law_definition))) (l__law_definition : K.lookup f__law_definition = some ⟨oc__law_definition, od__law_definition, .func (PySem.W.fnOf "_law_definition" "_law_definition" (defArgs s__law_definition) (defBody s__law_definition) (defScope s__law_definition) .none kV__law_definition dc__law_definition pm__law_definition an__law_definition cd__law_definition ct__law_definition), sl__law_definition⟩) (c__law_definition : PySem.W.codeIn K cd__law_definition "_law_definition" = true) (k__law_definition : PySem.W.keepIn K (.ref f__law_definition) = true)
    (a__law_item : PySem.W.nsIn K mainGlobals "_law_item" = some (some (.ref f__law_item))) (l__law_item : K.lookup f__law_item = some ⟨oc__law_item, od__law_item, .func (PySem.W.fnOf "_law_item" "_law_item" (defArgs s__law_item) (defBody s__law_item) (defScope s__law_item) .none kV__law_item dc__law_item pm__law_item an__law_item cd__law_item ct__law_item), sl__law_item⟩) (c__law_item : PySem.W.codeIn K cd__law_item "_law_item" = true) (k__law_item : PySem.W.keepIn K (.ref f__law_item) = true)
    (a__law_commas : PySem.W.nsIn K mainGlobals "_law_commas" = some (some (.ref f__law_commas))) (l__law_commas : K.lookup f__law_commas = some ⟨oc__law_commas, od__law_commas, .func (PySem.W.fnOf "_law_commas" "_law_commas" (defArgs s__law_commas) (defBody s__law_commas) (defScope s__law_commas) .none kV__law_commas dc__law_commas pm__law_commas an__law_commas cd__law_commas ct__law_commas), sl__law_commas⟩) (c__law_commas : PySem.W.codeIn K cd__law_commas "_law_commas" = true) (k__law_commas : PySem.W.keepIn K (.ref f__law_commas) = true)
    (a__law_item_text : PySem.W.nsIn K mainGlobals "_law_item_text" = some (some (.ref f__law_item_text))) (l__law_item_text : K.lookup f__law_item_text = some ⟨oc__law_item_text, od__law_item_text, .func (PySem.W.fnOf "_law_item_text" "_law_item_text" (defArgs s__law_item_text) (defBody s__law_item_text) (defScope s__law_item_text) .none kV__law_item_text dc__law_item_text pm__law_item_text an__law_item_text cd__law_item_text ct__law_item_text), sl__law_item_text⟩) (c__law_item_text : PySem.W.codeIn K cd__law_item_text "_law_item_text" = true) (k__law_item_text : PySem.W.keepIn K (.ref f__law_item_text) = true)
    (a_show_table : PySem.W.nsIn K mainGlobals "show_table" = some (some (.ref f_show_table))) (l_show_table : K.lookup f_show_table = some ⟨oc_show_table, od_show_table, .func (PySem.W.fnOf "show_table" "show_table" (defArgs s_show_table) (defBody s_show_table) (defScope s_show_table) .none kV_show_table dc_show_table pm_show_table an_show_table cd_show_table ct_show_table), sl_show_table⟩) (c_show_table : PySem.W.codeIn K cd_show_table "show_table" = true) (k_show_table : PySem.W.keepIn K (.ref f_show_table) = true)
    (a_show_item : PySem.W.nsIn K mainGlobals "show_item" = some (some (.ref f_show_item))) (l_show_item : K.lookup f_show_item = some ⟨oc_show_item, od_show_item, .func (PySem.W.fnOf "show_item" "show_item" (defArgs s_show_item) (defBody s_show_item) (defScope s_show_item) .none kV_show_item dc_show_item pm_show_item an_show_item cd_show_item ct_show_item), sl_show_item⟩) (c_show_item : PySem.W.codeIn K cd_show_item "show_item" = true) (k_show_item : PySem.W.keepIn K (.ref f_show_item) = true)
    (a_names_written : PySem.W.nsIn K mainGlobals "names_written" = some (some (.ref f_names_written))) (l_names_written : K.lookup f_names_written = some ⟨oc_names_written, od_names_written, .func (PySem.W.fnOf "names_written" "names_written" (defArgs s_names_written) (defBody s_names_written) (defScope s_names_written) .none kV_names_written dc_names_written pm_names_written an_names_written cd_names_written ct_names_written), sl_names_written⟩) (c_names_written : PySem.W.codeIn K cd_names_written "names_written" = true) (k_names_written : PySem.W.keepIn K (.ref f_names_written) = true)
    (a_number_written : PySem.W.nsIn K mainGlobals "number_written" = some (some (.ref f_number_written))) (l_number_written : K.lookup f_number_written = some ⟨oc_number_written, od_number_written, .func (PySem.W.fnOf "number_written" "number_written" (defArgs s_number_written) (defBody s_number_written) (defScope s_number_written) .none kV_number_written dc_number_written pm_number_written an_number_written cd_number_written ct_number_written), sl_number_written⟩) (c_number_written : PySem.W.codeIn K cd_number_written "number_written" = true) (k_number_written : PySem.W.keepIn K (.ref f_number_written) = true)
    (a_table_written : PySem.W.nsIn K mainGlobals "table_written" = some (some (.ref f_table_written))) (l_table_written : K.lookup f_table_written = some ⟨oc_table_written, od_table_written, .func (PySem.W.fnOf "table_written" "table_written" (defArgs s_table_written) (defBody s_table_written) (defScope s_table_written) .none kV_table_written dc_table_written pm_table_written an_table_written cd_table_written ct_table_written), sl_table_written⟩) (c_table_written : PySem.W.codeIn K cd_table_written "table_written" = true) (k_table_written : PySem.W.keepIn K (.ref f_table_written) = true)
    (a_is_kind : PySem.W.nsIn K mainGlobals "is_kind" = some (some (.ref f_is_kind))) (l_is_kind : K.lookup f_is_kind = some ⟨oc_is_kind, od_is_kind, .func (PySem.W.fnOf "is_kind" "is_kind" (defArgs s_is_kind) (defBody s_is_kind) (defScope s_is_kind) .none kV_is_kind dc_is_kind pm_is_kind an_is_kind cd_is_kind ct_is_kind), sl_is_kind⟩) (c_is_kind : PySem.W.codeIn K cd_is_kind "is_kind" = true) (k_is_kind : PySem.W.keepIn K (.ref f_is_kind) = true)
    (a_is_name : PySem.W.nsIn K mainGlobals "is_name" = some (some (.ref f_is_name))) (l_is_name : K.lookup f_is_name = some ⟨oc_is_name, od_is_name, .func (PySem.W.fnOf "is_name" "is_name" (defArgs s_is_name) (defBody s_is_name) (defScope s_is_name) .none kV_is_name dc_is_name pm_is_name an_is_name cd_is_name ct_is_name), sl_is_name⟩) (c_is_name : PySem.W.codeIn K cd_is_name "is_name" = true) (k_is_name : PySem.W.keepIn K (.ref f_is_name) = true)
    (a_is_integer : PySem.W.nsIn K mainGlobals "is_integer" = some (some (.ref f_is_integer))) (l_is_integer : K.lookup f_is_integer = some ⟨oc_is_integer, od_is_integer, .func (PySem.W.fnOf "is_integer" "is_integer" (defArgs s_is_integer) (defBody s_is_integer) (defScope s_is_integer) .none kV_is_integer dc_is_integer pm_is_integer an_is_integer cd_is_integer ct_is_integer), sl_is_integer⟩) (c_is_integer : PySem.W.codeIn K cd_is_integer "is_integer" = true) (k_is_integer : PySem.W.keepIn K (.ref f_is_integer) = true)
    (a_is_table : PySem.W.nsIn K mainGlobals "is_table" = some (some (.ref f_is_table))) (l_is_table : K.lookup f_is_table = some ⟨oc_is_table, od_is_table, .func (PySem.W.fnOf "is_table" "is_table" (defArgs s_is_table) (defBody s_is_table) (defScope s_is_table) .none kV_is_table dc_is_table pm_is_table an_is_table cd_is_table ct_is_table), sl_is_table⟩) (c_is_table : PySem.W.codeIn K cd_is_table "is_table" = true) (k_is_table : PySem.W.keepIn K (.ref f_is_table) = true)
    (a_is_conversion : PySem.W.nsIn K mainGlobals "is_conversion" = some (some (.ref f_is_conversion))) (l_is_conversion : K.lookup f_is_conversion = some ⟨oc_is_conversion, od_is_conversion, .func (PySem.W.fnOf "is_conversion" "is_conversion" (defArgs s_is_conversion) (defBody s_is_conversion) (defScope s_is_conversion) .none kV_is_conversion dc_is_conversion pm_is_conversion an_is_conversion cd_is_conversion ct_is_conversion), sl_is_conversion⟩) (c_is_conversion : PySem.W.codeIn K cd_is_conversion "is_conversion" = true) (k_is_conversion : PySem.W.keepIn K (.ref f_is_conversion) = true)
    (a_is_parameters : PySem.W.nsIn K mainGlobals "is_parameters" = some (some (.ref f_is_parameters))) (l_is_parameters : K.lookup f_is_parameters = some ⟨oc_is_parameters, od_is_parameters, .func (PySem.W.fnOf "is_parameters" "is_parameters" (defArgs s_is_parameters) (defBody s_is_parameters) (defScope s_is_parameters) .none kV_is_parameters dc_is_parameters pm_is_parameters an_is_parameters cd_is_parameters ct_is_parameters), sl_is_parameters⟩) (c_is_parameters : PySem.W.codeIn K cd_is_parameters "is_parameters" = true) (k_is_parameters : PySem.W.keepIn K (.ref f_is_parameters) = true)
    (a_is_definition : PySem.W.nsIn K mainGlobals "is_definition" = some (some (.ref f_is_definition))) (l_is_definition : K.lookup f_is_definition = some ⟨oc_is_definition, od_is_definition, .func (PySem.W.fnOf "is_definition" "is_definition" (defArgs s_is_definition) (defBody s_is_definition) (defScope s_is_definition) .none kV_is_definition dc_is_definition pm_is_definition an_is_definition cd_is_definition ct_is_definition), sl_is_definition⟩) (c_is_definition : PySem.W.codeIn K cd_is_definition "is_definition" = true) (k_is_definition : PySem.W.keepIn K (.ref f_is_definition) = true)
    (a_is_item : PySem.W.nsIn K mainGlobals "is_item" = some (some (.ref f_is_item))) (l_is_item : K.lookup f_is_item = some ⟨oc_is_item, od_is_item, .func (PySem.W.fnOf "is_item" "is_item" (defArgs s_is_item) (defBody s_is_item) (defScope s_is_item) .none kV_is_item dc_is_item pm_is_item an_is_item cd_is_item ct_is_item), sl_is_item⟩) (c_is_item : PySem.W.codeIn K cd_is_item "is_item" = true) (k_is_item : PySem.W.keepIn K (.ref f_is_item) = true)
    (a_item_written : PySem.W.nsIn K mainGlobals "item_written" = some (some (.ref f_item_written))) (l_item_written : K.lookup f_item_written = some ⟨oc_item_written, od_item_written, .func (PySem.W.fnOf "item_written" "item_written" (defArgs s_item_written) (defBody s_item_written) (defScope s_item_written) .none kV_item_written dc_item_written pm_item_written an_item_written cd_item_written ct_item_written), sl_item_written⟩) (c_item_written : PySem.W.codeIn K cd_item_written "item_written" = true) (k_item_written : PySem.W.keepIn K (.ref f_item_written) = true)
    (a_read_item : PySem.W.nsIn K mainGlobals "read_item" = some (some (.ref f_read_item))) (l_read_item : K.lookup f_read_item = some ⟨oc_read_item, od_read_item, .func (PySem.W.fnOf "read_item" "read_item" (defArgs s_read_item) (defBody s_read_item) (defScope s_read_item) .none kV_read_item dc_read_item pm_read_item an_read_item cd_read_item ct_read_item), sl_read_item⟩) (c_read_item : PySem.W.codeIn K cd_read_item "read_item" = true) (k_read_item : PySem.W.keepIn K (.ref f_read_item) = true)
    (a_law : PySem.W.nsIn K mainGlobals "law" = some (some (.ref f_law))) (l_law : K.lookup f_law = some ⟨oc_law, od_law, .func (PySem.W.fnOf "law" "law" (defArgs s_law) (defBody s_law) (defScope s_law) .none kV_law dc_law pm_law an_law cd_law ct_law), sl_law⟩) (c_law : PySem.W.codeIn K cd_law "law" = true) (k_law : PySem.W.keepIn K (.ref f_law) = true)
    (z_int : PySem.W.nsIn K mainGlobals "int" = some none)
    (z_len : PySem.W.nsIn K mainGlobals "len" = some none)
    (z_abs : PySem.W.nsIn K mainGlobals "abs" = some none)
    (z_range : PySem.W.nsIn K mainGlobals "range" = some none)
    (z_sorted : PySem.W.nsIn K mainGlobals "sorted" = some none)
    (z_tuple : PySem.W.nsIn K mainGlobals "tuple" = some none)
    (z_sum : PySem.W.nsIn K mainGlobals "sum" = some none)
    (z_str : PySem.W.nsIn K mainGlobals "str" = some none)
    (z_all : PySem.W.nsIn K mainGlobals "all" = some none)
    (z_isinstance : PySem.W.nsIn K mainGlobals "isinstance" = some none)
    (z_bool : PySem.W.nsIn K mainGlobals "bool" = some none)
    (z_dict : PySem.W.nsIn K mainGlobals "dict" = some none)
    (z_max : PySem.W.nsIn K mainGlobals "max" = some none)
    (z_min : PySem.W.nsIn K mainGlobals "min" = some none)
    (z_repr : PySem.W.nsIn K mainGlobals "repr" = some none)
    {tok_MOST_LETTERS : Tok} (v_MOST_LETTERS : PySem.W.nsIn K mainGlobals "MOST_LETTERS" = some (some (.int 8 tok_MOST_LETTERS)))
    {tok_MOST_PARAMETERS : Tok} (v_MOST_PARAMETERS : PySem.W.nsIn K mainGlobals "MOST_PARAMETERS" = some (some (.int 3 tok_MOST_PARAMETERS)))
    {tok_MOST_ENTRIES : Tok} (v_MOST_ENTRIES : PySem.W.nsIn K mainGlobals "MOST_ENTRIES" = some (some (.int 64 tok_MOST_ENTRIES))) :
    ∃ fd : FuncData, (∀ (s : Shared) (v : Value), BindsTo s fd ⟨[v], []⟩ [("script", v)]) ∧ ∀ base : Heap, K.In base → base.Ns mainGlobals mg → FnG l.prog w K mg base CX0 7 fa fd ["script"] (spI K 0 w_law) := by
  have e := hfa.symm.trans (PySem.W.mg_of X G a_law)
  cases e
  have F__law_stream := fun_mk (st := s__law_stream) l__law_stream c__law_stream k__law_stream
  have b__law_stream := F__law_stream.binds (ps := ["script", "k"]) fun _ _ _ _ _ _ us hl => match us, hl with | [_, _], _ => rfl
  have F__law_draw := fun_mk (st := s__law_draw) l__law_draw c__law_draw k__law_draw
  have b__law_draw := F__law_draw.binds (ps := ["stream", "many"]) fun _ _ _ _ _ _ us hl => match us, hl with | [_, _], _ => rfl
  have F__law_pick := fun_mk (st := s__law_pick) l__law_pick c__law_pick k__law_pick
  have b__law_pick := F__law_pick.binds (ps := ["stream", "some"]) fun _ _ _ _ _ _ us hl => match us, hl with | [_, _], _ => rfl
  have F__law_names := fun_mk (st := s__law_names) l__law_names c__law_names k__law_names
  have b__law_names := F__law_names.binds (ps := ["stream", "many"]) fun _ _ _ _ _ _ us hl => match us, hl with | [_, _], _ => rfl
  have F__law_kinds := fun_mk (st := s__law_kinds) l__law_kinds c__law_kinds k__law_kinds
  have b__law_kinds := F__law_kinds.binds (ps := ["stream", "most", "values"]) fun _ _ _ _ _ _ us hl => match us, hl with | [_, _, _], _ => rfl
  have F__law_conversion := fun_mk (st := s__law_conversion) l__law_conversion c__law_conversion k__law_conversion
  have b__law_conversion := F__law_conversion.binds (ps := ["stream", "kinds", "name"]) fun _ _ _ _ _ _ us hl => match us, hl with | [_, _, _], _ => rfl
  have F__law_rows := fun_mk (st := s__law_rows) l__law_rows c__law_rows k__law_rows
  have b__law_rows := F__law_rows.binds (ps := ["counts"]) fun _ _ _ _ _ _ us hl => match us, hl with | [_], _ => rfl
  have F__law_definition := fun_mk (st := s__law_definition) l__law_definition c__law_definition k__law_definition
  have b__law_definition := F__law_definition.binds (ps := ["stream", "kinds", "operator", "most"]) fun _ _ _ _ _ _ us hl => match us, hl with | [_, _, _, _], _ => rfl
  have F__law_item := fun_mk (st := s__law_item) l__law_item c__law_item k__law_item
  have b__law_item := F__law_item.binds (ps := ["stream", "kinds"]) fun _ _ _ _ _ _ us hl => match us, hl with | [_, _], _ => rfl
  have F__law_commas := fun_mk (st := s__law_commas) l__law_commas c__law_commas k__law_commas
  have b__law_commas := F__law_commas.binds (ps := ["parts"]) fun _ _ _ _ _ _ us hl => match us, hl with | [_], _ => rfl
  have F__law_item_text := fun_mk (st := s__law_item_text) l__law_item_text c__law_item_text k__law_item_text
  have b__law_item_text := F__law_item_text.binds (ps := ["item"]) fun _ _ _ _ _ _ us hl => match us, hl with | [_], _ => rfl
  have F_show_table := fun_mk (st := s_show_table) l_show_table c_show_table k_show_table
  have b_show_table := F_show_table.binds (ps := ["table"]) fun _ _ _ _ _ _ us hl => match us, hl with | [_], _ => rfl
  have F_show_item := fun_mk (st := s_show_item) l_show_item c_show_item k_show_item
  have b_show_item := F_show_item.binds (ps := ["item"]) fun _ _ _ _ _ _ us hl => match us, hl with | [_], _ => rfl
  have F_names_written := fun_mk (st := s_names_written) l_names_written c_names_written k_names_written
  have b_names_written := F_names_written.binds (ps := ["text"]) fun _ _ _ _ _ _ us hl => match us, hl with | [_], _ => rfl
  have F_number_written := fun_mk (st := s_number_written) l_number_written c_number_written k_number_written
  have b_number_written := F_number_written.binds (ps := ["text", "most_digits"]) fun _ _ _ _ _ _ us hl => match us, hl with | [_, _], _ => rfl
  have F_table_written := fun_mk (st := s_table_written) l_table_written c_table_written k_table_written
  have b_table_written := F_table_written.binds (ps := ["text"]) fun _ _ _ _ _ _ us hl => match us, hl with | [_], _ => rfl
  have F_is_kind := fun_mk (st := s_is_kind) l_is_kind c_is_kind k_is_kind
  have b_is_kind := F_is_kind.binds (ps := ["kinds", "value"]) fun _ _ _ _ _ _ us hl => match us, hl with | [_, _], _ => rfl
  have F_is_name := fun_mk (st := s_is_name) l_is_name c_is_name k_is_name
  have b_is_name := F_is_name.binds (ps := ["value"]) fun _ _ _ _ _ _ us hl => match us, hl with | [_], _ => rfl
  have F_is_integer := fun_mk (st := s_is_integer) l_is_integer c_is_integer k_is_integer
  have b_is_integer := F_is_integer.binds (ps := ["value"]) fun _ _ _ _ _ _ us hl => match us, hl with | [_], _ => rfl
  have F_is_table := fun_mk (st := s_is_table) l_is_table c_is_table k_is_table
  have b_is_table := F_is_table.binds (ps := ["value", "length", "count"]) fun _ _ _ _ _ _ us hl => match us, hl with | [_, _, _], _ => rfl
  have F_is_conversion := fun_mk (st := s_is_conversion) l_is_conversion c_is_conversion k_is_conversion
  have b_is_conversion := F_is_conversion.binds (ps := ["kinds", "value"]) fun _ _ _ _ _ _ us hl => match us, hl with | [_, _], _ => rfl
  have F_is_parameters := fun_mk (st := s_is_parameters) l_is_parameters c_is_parameters k_is_parameters
  have b_is_parameters := F_is_parameters.binds (ps := ["kinds", "value"]) fun _ _ _ _ _ _ us hl => match us, hl with | [_, _], _ => rfl
  have F_is_definition := fun_mk (st := s_is_definition) l_is_definition c_is_definition k_is_definition
  have b_is_definition := F_is_definition.binds (ps := ["kinds", "value"]) fun _ _ _ _ _ _ us hl => match us, hl with | [_, _], _ => rfl
  have F_is_item := fun_mk (st := s_is_item) l_is_item c_is_item k_is_item
  have b_is_item := F_is_item.binds (ps := ["kinds", "value"]) fun _ _ _ _ _ _ us hl => match us, hl with | [_, _], _ => rfl
  have F_item_written := fun_mk (st := s_item_written) l_item_written c_item_written k_item_written
  have b_item_written := F_item_written.binds (ps := ["kinds", "text"]) fun _ _ _ _ _ _ us hl => match us, hl with | [_, _], _ => rfl
  have F_read_item := fun_mk (st := s_read_item) l_read_item c_read_item k_read_item
  have b_read_item := F_read_item.binds (ps := ["kinds", "text"]) fun _ _ _ _ _ _ us hl => match us, hl with | [_, _], _ => rfl
  have F_law := fun_mk (st := s_law) l_law c_law k_law
  have b_law := F_law.binds (ps := ["script"]) fun _ _ _ _ _ _ us hl => match us, hl with | [_], _ => rfl
  let T : Tx K mg := ⟨_, _, F__law_stream, PySem.W.mg_of X G a__law_stream, b__law_stream, _, _, F__law_draw, PySem.W.mg_of X G a__law_draw, b__law_draw, _, _, F__law_pick, PySem.W.mg_of X G a__law_pick, b__law_pick, _, _, F__law_names, PySem.W.mg_of X G a__law_names, b__law_names, _, _, F__law_kinds, PySem.W.mg_of X G a__law_kinds, b__law_kinds, _, _, F__law_conversion, PySem.W.mg_of X G a__law_conversion, b__law_conversion, _, _, F__law_rows, PySem.W.mg_of X G a__law_rows, b__law_rows, _, _, F__law_definition, PySem.W.mg_of X G a__law_definition, b__law_definition, _, _, F__law_item, PySem.W.mg_of X G a__law_item, b__law_item, _, _, F__law_commas, PySem.W.mg_of X G a__law_commas, b__law_commas, _, _, F__law_item_text, PySem.W.mg_of X G a__law_item_text, b__law_item_text, _, _, F_show_table, PySem.W.mg_of X G a_show_table, b_show_table, _, _, F_show_item, PySem.W.mg_of X G a_show_item, b_show_item, _, _, F_names_written, PySem.W.mg_of X G a_names_written, b_names_written, _, _, F_number_written, PySem.W.mg_of X G a_number_written, b_number_written, _, _, F_table_written, PySem.W.mg_of X G a_table_written, b_table_written, _, _, F_is_kind, PySem.W.mg_of X G a_is_kind, b_is_kind, _, _, F_is_name, PySem.W.mg_of X G a_is_name, b_is_name, _, _, F_is_integer, PySem.W.mg_of X G a_is_integer, b_is_integer, _, _, F_is_table, PySem.W.mg_of X G a_is_table, b_is_table, _, _, F_is_conversion, PySem.W.mg_of X G a_is_conversion, b_is_conversion, _, _, F_is_parameters, PySem.W.mg_of X G a_is_parameters, b_is_parameters, _, _, F_is_definition, PySem.W.mg_of X G a_is_definition, b_is_definition, _, _, F_is_item, PySem.W.mg_of X G a_is_item, b_is_item, _, _, F_item_written, PySem.W.mg_of X G a_item_written, b_item_written, _, _, F_read_item, PySem.W.mg_of X G a_read_item, b_read_item, _, _, F_law, PySem.W.mg_of X G a_law, b_law, PySem.W.mg_none_of X G z_int, PySem.W.mg_none_of X G z_len, PySem.W.mg_none_of X G z_abs, PySem.W.mg_none_of X G z_range, PySem.W.mg_none_of X G z_sorted, PySem.W.mg_none_of X G z_tuple, PySem.W.mg_none_of X G z_sum, PySem.W.mg_none_of X G z_str, PySem.W.mg_none_of X G z_all, PySem.W.mg_none_of X G z_isinstance, PySem.W.mg_none_of X G z_bool, PySem.W.mg_none_of X G z_dict, PySem.W.mg_none_of X G z_max, PySem.W.mg_none_of X G z_min, PySem.W.mg_none_of X G z_repr, _, PySem.W.mg_of X G v_MOST_LETTERS, _, PySem.W.mg_of X G v_MOST_PARAMETERS, _, PySem.W.mg_of X G v_MOST_ENTRIES⟩
  refine ⟨PySem.W.fnOf "law" "law" (defArgs s_law) (defBody s_law) (defScope s_law) .none kV_law dc_law pm_law an_law cd_law ct_law, fun s v => .of_eq rfl, fun base _ _ => ?_⟩
  have G__law_stream := ok__law_stream (P := l.prog) (w := w) (base := base) T
  have G__law_draw := ok__law_draw (P := l.prog) (w := w) (base := base) T
  have G__law_pick := ok__law_pick (P := l.prog) (w := w) (base := base) T G__law_draw
  have G__law_names := ok__law_names (P := l.prog) (w := w) (base := base) T G__law_draw G__law_pick
  have G__law_kinds := ok__law_kinds (P := l.prog) (w := w) (base := base) T G__law_names G__law_draw
  have G__law_conversion := ok__law_conversion (P := l.prog) (w := w) (base := base) T G__law_pick G__law_draw
  have G__law_rows := ok__law_rows (P := l.prog) (w := w) (base := base) T
  have G__law_definition := ok__law_definition (P := l.prog) (w := w) (base := base) T G__law_draw G__law_pick G__law_rows
  have G__law_item := ok__law_item (P := l.prog) (w := w) (base := base) T G__law_draw G__law_conversion G__law_pick G__law_definition
  have G__law_commas := ok__law_commas (P := l.prog) (w := w) (base := base) T
  have G__law_item_text := ok__law_item_text (P := l.prog) (w := w) (base := base) T G__law_commas
  have G_show_table := ok_show_table (P := l.prog) (w := w) (base := base) T
  have G_show_item := ok_show_item (P := l.prog) (w := w) (base := base) T G_show_table
  have G_names_written := ok_names_written (P := l.prog) (w := w) (base := base) T
  have G_number_written := ok_number_written (P := l.prog) (w := w) (base := base) T
  have G_table_written := ok_table_written (P := l.prog) (w := w) (base := base) T G_number_written
  have G_is_kind := ok_is_kind (P := l.prog) (w := w) (base := base) T
  have G_is_name := ok_is_name (P := l.prog) (w := w) (base := base) T
  have G_is_integer := ok_is_integer (P := l.prog) (w := w) (base := base) T
  have G_is_table := ok_is_table (P := l.prog) (w := w) (base := base) T G_is_integer
  have G_is_conversion := ok_is_conversion (P := l.prog) (w := w) (base := base) T G_is_kind G_is_name G_is_table
  have G_is_parameters := ok_is_parameters (P := l.prog) (w := w) (base := base) T G_is_kind
  have G_is_definition := ok_is_definition (P := l.prog) (w := w) (base := base) T G_is_kind G_is_parameters G_is_name G_is_table
  have G_is_item := ok_is_item (P := l.prog) (w := w) (base := base) T G_is_conversion G_is_definition
  have G_item_written := ok_item_written (P := l.prog) (w := w) (base := base) T G_names_written G_table_written G_is_item
  have G_read_item := ok_read_item (P := l.prog) (w := w) (base := base) T G_item_written
  have G_law := ok_law (P := l.prog) (w := w) (base := base) T G__law_stream G__law_kinds G__law_item G__law_draw G__law_definition G__law_pick G__law_item_text G_show_item G_read_item
  exact G_law
theorem walk {l : PySem.W.OpenLaw} {q : Program} {loose : List Str} {XP : (Str → Option Value) → Heap → Prop} {YP : World → Heap → Prop} {d : DefRec} {K : Params → PySem.W.Frag} (hn : l.most = some 63) (hdf : d.params.defaults = [])
    (hY : ∀ (w : World) (h : Heap), YP w h → (K w.params).In h)
    (F : ∀ (w : World) (mg : Str → Option Value) (fa : Addr) (h : Heap), (K w.params).In h → h.Ns mainGlobals mg → mg d.name = some (.ref fa) →
      ∃ fd : FuncData, (∀ (s : Shared) (u : Value), BindsTo s fd ⟨[u], []⟩ [("script", u)]) ∧ ∀ base : Heap, (K w.params).In base → base.Ns mainGlobals mg → FnG l.prog w (K w.params) mg base CX0 7 fa fd ["script"] (spI (K w.params) 0 w_law))
    (true_law : ∀ ns : List Int, ns.length ≤ 63 → w_law ns [] fun r => r = .d (.bool true)) :
    PySem.W.WalkO q loose XP YP l.row.toRowW d [] (fun f vs => PySem.call f vs) :=
  DL.walkG (n := 63) (k := 7) (x := "script") (sp := fun w => spI (K w.params) 0 w_law) hn (by decide) hdf ⟨rfl, by decide, by decide⟩ hY F
    fun _ _ a ns hl hO hS => ⟨a, [], ns, [], fun r => r = .d (.bool true), rfl, ints_of hO hS, .nil, rfl, true_law ns hl, fun r v H' e _ rv => by subst e; cases rv; rfl⟩

end K50
namespace K50
open PySem PySem.Spec PyProof.Rows L2 DL
/-- a pot: at most c of its numbers are drawn -/
def Pot (c : Nat) (ps : List D) : Prop := ∃ a b n : Int, ps = [.int a, .int b, .int n] ∧ 0 ≤ a ∧ 0 ≤ b ∧ b < 2305843009213693952 ∧ 0 ≤ n ∧ n ≤ c
theorem log_lt {i : Int} {k : Nat} (h0 : 0 ≤ i) (h : i < 2 ^ k) (hk : 0 < k) : i.natAbs.log2 < k := by
  by_cases z : i.natAbs = 0
  · rw [z]; simpa using hk
  · rw [Nat.log2_lt z]
    have : (i.natAbs : Int) = i := Int.natAbs_of_nonneg h0
    have h2 : ((i.natAbs : Nat) : Int) < ((2 ^ k : Nat) : Int) := by rw [this]; push_cast; exact h
    exact Int.ofNat_lt.mp h2
theorem mod_ok {i j : Int} (h : 0 < j) : modD (.int i) (.int j) = some (.int (i % j)) := if_pos h
theorem fdiv_ok {i j : Int} (h : 0 < j) (h2 : j < 2 ^ 64) : fdivD (.int i) (.int j) = some (.int (i / j)) := if_pos ⟨h, by have := log_lt (by omega) h2 (by decide); omega⟩
theorem mul_ok {i j : Int} (hi : 0 ≤ i) (hi2 : i < 2 ^ 1400) (hj : 0 ≤ j) (hj2 : j < 2 ^ 1400) : mulD (.int i) (.int j) = some (.int (i * j)) :=
  if_pos (by have := log_lt hi hi2 (by decide); have := log_lt hj hj2 (by decide); omega)
theorem pow_ok {i j : Int} (h0 : 0 ≤ i) (h : i < 2 ^ 1400) (hj : 0 ≤ j) (hj2 : j ≤ 1000) : powD (.int i) (.int j) = some (.int (i ^ j.toNat)) := by
  refine if_pos ⟨hj, ?_⟩
  have hb : Builtin.Int.intBits i ≤ 1401 := by
    have := log_lt h0 h (by decide)
    unfold Builtin.Int.intBits
    split <;> omega
  have h1 : (Builtin.Int.intBits i : Int) * j ≤ 1401 * 1000 := Int.mul_le_mul (by omega) hj2 hj (by decide)
  have h2 : (1401 * 1000 : Int) ≤ 2 ^ 27 := by decide
  exact Int.le_trans h1 h2
/-- an item of a list by a number -/
theorem atI_ok {α : Type} {xs : List α} {j : Int} (h0 : 0 ≤ j) (h : j < xs.length) : ∃ d, L2.atI xs j = some d ∧ xs[j.toNat]? = some d := by
  have hk : j.toNat < xs.length := by omega
  have e : j = ((j.toNat : Nat) : Int) := by omega
  refine ⟨xs[j.toNat], ?_, List.getElem?_eq_getElem hk⟩
  have z : L2.atI xs ((j.toNat : Nat) : Int) = some xs[j.toNat] := atI_nat (List.getElem?_eq_getElem hk)
  rw [← e] at z
  exact z
theorem ixL_ok {xs : List D} {j : Int} (h0 : 0 ≤ j) (h : j < xs.length) : ∃ d, ixD (.list xs) (.int j) = some d ∧ xs[j.toNat]? = some d := atI_ok h0 h
theorem ixT_ok {xs : List D} {j : Int} (h0 : 0 ≤ j) (h : j < xs.length) : ∃ d, ixD (.tuple xs) (.int j) = some d ∧ xs[j.toNat]? = some d := atI_ok h0 h
def primes : List D := [.int 2147483647, .int 2147483629, .int 2147483587, .int 2147483579, .int 2147483563]
theorem primes_at {j : Int} (h0 : 0 ≤ j) (h : j < 5) : ∃ p : Int, ixD (.list primes) (.int j) = some (.int p) ∧ 1000 < p ∧ p < 2 ^ 31 := by
  obtain ⟨d, e, m⟩ := ixL_ok (xs := primes) h0 h
  have hm := List.mem_of_getElem? m
  simp only [primes, List.mem_cons, List.not_mem_nil, or_false] at hm
  rcases hm with rfl | rfl | rfl | rfl | rfl <;> exact ⟨_, e, by decide, by decide⟩
theorem take_ok {c : Nat} {ps : List D} {u : Int} {Q : Rv → List D → Prop} (hp : Pot c ps) (hc : c < 1000000) (h0 : 0 < u) (h1 : u ≤ 1000) (q : ∀ r ps', 0 ≤ r → r < u → Pot (c + 1) ps' → Q (.d (.int r)) ps') : w__law_draw ps [.int u] Q := by
  obtain ⟨a, b, n, rfl, ha, hb, hb2, hn, hn2⟩ := hp
  refine ⟨.inr ⟨_, rfl⟩, .inr ⟨_, _, rfl, rfl, _, rfl, _, rfl, ?_⟩⟩
  refine ite2 (fun c1 => ?_) (fun c1 => ?_)
  · refine ⟨.inr ⟨_, rfl⟩, .inr ⟨_, _, rfl, rfl, .inl ⟨_, rfl, _, mod_ok h0, ?_⟩⟩⟩
    refine ⟨.inr ⟨_, rfl⟩, .inr ⟨_, _, rfl, rfl, .inl ⟨_, rfl, _, fdiv_ok h0 (by omega), _, _, rfl, rfl, ?_⟩⟩⟩
    refine .inl ⟨_, rfl, _, rfl, q _ _ (Int.emod_nonneg _ (by omega)) (Int.emod_lt_of_pos _ h0) ⟨_, _, _, rfl, Int.ediv_nonneg ha (by omega), hb, hb2, hn, by omega⟩⟩
  · refine ⟨.inr ⟨_, rfl⟩, .inr ⟨_, _, rfl, rfl, _, rfl, _, _, rfl, rfl, ?_⟩⟩
    have hn' : 0 ≤ n + 1 := by omega
    obtain ⟨p, ep, hp1, hp2⟩ := primes_at (Int.emod_nonneg (n + 1) (by decide : (5 : Int) ≠ 0)) (Int.emod_lt_of_pos (n + 1) (by decide))
    refine ⟨by decide, .inr ⟨_, rfl⟩, .inr ⟨_, _, rfl, rfl, _, mod_ok (by decide), _, ep, ?_⟩⟩
    have m1 : 65537 * (n + 1) < 2 ^ 64 := by omega
    have m0 : 0 ≤ 65537 * (n + 1) := by omega
    have mm : 65537 * (n + 1) * (n + 1) ≤ 65537 * 1000001 * 1000001 := Int.mul_le_mul (by omega) (by omega) hn' (by decide)
    have mz : 0 ≤ 65537 * (n + 1) * (n + 1) := Int.mul_nonneg m0 hn'
    have hb3 : 0 ≤ b + 65537 * (n + 1) * (n + 1) + 37 := by omega
    have hb4 : b + 65537 * (n + 1) * (n + 1) + 37 < 2 ^ 1400 := by
      have : b + 65537 * (n + 1) * (n + 1) + 37 < 2 ^ 64 := by omega
      exact Int.lt_trans this (by decide)
    have c1 : n + 1 < 2 ^ 1400 := Int.lt_trans (by omega : n + 1 < 2 ^ 64) (by decide)
    refine ⟨.inr ⟨_, rfl⟩, .inr ⟨_, _, rfl, rfl, .inr ⟨_, rfl⟩, .inr ⟨_, _, rfl, rfl, _, mul_ok (by decide) (by decide) hn' c1, .inr ⟨_, rfl⟩, .inr ⟨_, _, rfl, rfl, _, mul_ok m0 (Int.lt_trans m1 (by decide)) hn' c1, _, rfl, _, rfl, _, pow_ok hb3 hb4 (by decide) (by decide), .inl ⟨_, rfl, _, mod_ok (by omega), ?_⟩⟩⟩⟩⟩
    have d0 : 0 ≤ (b + 65537 * (n + 1) * (n + 1) + 37) ^ (3 : Int).toNat % p := Int.emod_nonneg _ (by omega)
    have d1 : (b + 65537 * (n + 1) * (n + 1) + 37) ^ (3 : Int).toNat % p < p := Int.emod_lt_of_pos _ (by omega)
    generalize (b + 65537 * (n + 1) * (n + 1) + 37) ^ (3 : Int).toNat % p = d at d0 d1 ⊢
    have d2 : 0 ≤ d % 10007 := Int.emod_nonneg _ (by decide)
    have d3 : d % 10007 < 10007 := Int.emod_lt_of_pos _ (by decide)
    refine .inl ⟨_, rfl, .inl ⟨_, rfl, _, mod_ok (by decide), .inr ⟨_, rfl⟩, .inr ⟨_, _, rfl, rfl, _, mul_ok (by decide) (by decide) hn' c1, _, rfl, _, mul_ok d0 (Int.lt_trans (by omega : d < 2 ^ 64) (by decide)) (by omega) (Int.lt_trans (by omega : d % 10007 + 97 * (n + 1) < 2 ^ 64) (by decide)), _, mod_ok (by decide), _, fdiv_ok (by decide) (by decide), .inl ⟨_, rfl, _, mod_ok h0, ?_⟩⟩⟩⟩
    exact ⟨_, rfl, q _ _ (Int.emod_nonneg _ (by omega)) (Int.emod_lt_of_pos _ h0) ⟨a, b, n + 1, rfl, ha, hb, hb2, hn', by omega⟩⟩
end K50
namespace K50
open PySem PySem.Spec PyProof.Rows L2 DL
theorem Pot.mono {c c' : Nat} {ps : List D} (h : Pot c ps) (hc : c ≤ c') : Pot c' ps := by
  obtain ⟨a, b, n, e, h1, h2, h3, h4, h5⟩ := h
  exact ⟨a, b, n, e, h1, h2, h3, h4, by omega⟩
theorem of_ok {c : Nat} {ps ds : List D} {Q : Rv → List D → Prop} (hp : Pot c ps) (hc : c < 1000000) (h0 : ds ≠ []) (h1 : ds.length ≤ 1000) (q : ∀ d ps', d ∈ ds → Pot (c + 1) ps' → Q (.d d) ps') : w__law_pick ps [.list ds] Q := by
  have hl : 0 < ds.length := List.length_pos_iff.mpr h0
  refine ⟨.inl ⟨_, rfl⟩, ⟨_, rfl⟩, .inl ⟨_, _, rfl, rfl, _, rfl, rfl, take_ok hp hc (by omega) (by omega) fun r ps' r0 r1 hp' => ⟨_, rfl, ?_⟩⟩⟩
  obtain ⟨d, e, m⟩ := ixL_ok (xs := ds) r0 r1
  exact .inl ⟨_, _, rfl, e, _, rfl, q d ps' (List.mem_of_getElem? m) hp'⟩
theorem bit0 (b : Bool) : (0 : Int) ≤ if b = true then 1 else 0 := by cases b <;> decide
theorem bit1 (b : Bool) : (if b = true then 1 else 0 : Int) < 2 ^ 1400 := by cases b <;> decide
theorem of_okT {c : Nat} {ps ds : List D} {Q : Rv → List D → Prop} (hp : Pot c ps) (hc : c < 1000000) (h0 : ds ≠ []) (h1 : ds.length ≤ 1000) (q : ∀ d ps', d ∈ ds → Pot (c + 1) ps' → Q (.d d) ps') : w__law_pick ps [.tuple ds] Q := by
  have hl : 0 < ds.length := List.length_pos_iff.mpr h0
  refine ⟨.inl ⟨_, rfl⟩, ⟨_, rfl⟩, .inl ⟨_, _, rfl, rfl, _, rfl, rfl, take_ok hp hc (by omega) (by omega) fun r ps' r0 r1 hp' => ⟨_, rfl, ?_⟩⟩⟩
  obtain ⟨d, e, m⟩ := ixT_ok (xs := ds) r0 r1
  exact .inl ⟨_, _, rfl, e, _, rfl, q d ps' (List.mem_of_getElem? m) hp'⟩
theorem stream_ok {ns : List Int} {k : Int} {Q : Rv → Prop} (k0 : 0 ≤ k) (k1 : k ≤ 100) (q : ∀ ps, Pot 0 ps → Q (.f ps)) : w__law_stream ns [.int k] Q := by
  have rest : ∀ cell : Int, (wSeq (wSet 3 (wBin mulD (wBin modD (wCl absL (wCons (wVar 2) wNil)) (wBin powD (wBin powD (wC (.int 10)) (wC (.int 60))) (wC (.int 5)))) (wCl intL (wCons (wBin geD (wCl absL (wCons (wVar 2) wNil)) (wBin powD (wC (.int 10)) (wC (.int 18)))) wNil)))) (wRetF (wLst (wCons (wVar 3) (wCons (wBin modD (wBin addD (wBin addD (wBin mulD (wBin modD (wVar 2) (wC (.int 2305843009213693951))) (wC (.int 69621))) (wBin mulD (wBin mulD (wC (.int 104729)) (wVar 1)) (wVar 1))) (wC (.int 31))) (wC (.int 2305843009213693921))) (wCons (wC (.int 0)) wNil))))))
      ⟨fun _ => Q (.d .none), fun r _ => Q r, fun _ => False, fun _ => False⟩ [.ints ns, .dat (.int k), .dat (.int cell), .un] := fun cell => by
    refine .inl ⟨_, rfl, _, rfl, _, pow_ok (by decide) (by decide) (by decide) (by decide), _, pow_ok (by decide +kernel) (by decide +kernel) (by decide) (by decide), _, mod_ok (by decide +kernel), ?_⟩
    refine .inl ⟨_, rfl, _, rfl, _, pow_ok (by decide) (by decide) (by decide) (by decide), _, rfl, _, rfl, _, mul_ok (Int.emod_nonneg _ (by decide +kernel)) (Int.lt_trans (Int.emod_lt_of_pos _ (by decide +kernel)) (by decide +kernel)) (bit0 _) (bit1 _), ?_⟩
    have c0 : 0 ≤ cell % 2305843009213693951 := Int.emod_nonneg _ (by decide)
    have c1 : cell % 2305843009213693951 < 2305843009213693951 := Int.emod_lt_of_pos _ (by decide)
    refine .inl ⟨_, rfl, .inl ⟨_, rfl, _, mod_ok (by decide), _, mul_ok c0 (Int.lt_trans c1 (by decide)) (by decide) (by decide), .inl ⟨_, rfl, _, mul_ok (by decide) (by decide) k0 (Int.lt_of_le_of_lt k1 (by decide)), .inl ⟨_, rfl, _, mul_ok (by omega) (Int.lt_of_le_of_lt (by omega : (104729 : Int) * k ≤ 2 ^ 64) (by decide)) k0 (Int.lt_of_le_of_lt k1 (by decide)), _, rfl, _, rfl, _, mod_ok (by decide), ?_⟩⟩⟩⟩
    refine ⟨show 3 ≤ sizeLine by decide, q _ ⟨_, _, _, rfl, ?_, Int.emod_nonneg _ (by decide), Int.lt_trans (Int.emod_lt_of_pos _ (by decide)) (by decide), by decide, by decide⟩⟩
    exact Int.mul_nonneg (Int.emod_nonneg _ (by decide +kernel)) (bit0 _)
  refine .inl ⟨_, rfl, ns, rfl, _, rfl, _, rfl, ?_⟩
  refine ite2 (fun c1 => ?_) (fun c1 => ?_)
  · have c2 : k < ns.length := of_decide_eq_true c1
    obtain ⟨z, e, _⟩ := atI_ok (xs := ns) k0 c2
    exact ⟨⟨ns, rfl⟩, .inl ⟨_, rfl, ns, k, z, rfl, rfl, e, rest z⟩⟩
  · exact .inl ⟨_, rfl, _, mul_ok (by decide) (by decide) k0 (Int.lt_of_le_of_lt k1 (by decide)), _, rfl, rest _⟩
end K50
namespace K50
open PySem PySem.Spec PyProof.Rows L2 DL
theorem ifT {A B : Prop} (h : A) : if (true : Bool) = true then A else B := h
theorem ifF {A B : Prop} (h : B) : if (false : Bool) = true then A else B := h
theorem noBag_of {ρ : List Sl} (h : ∀ s ∈ ρ, ∀ ks, s ≠ .bag ks) : NoBag ρ := fun j ks e => h _ (List.mem_of_getElem? e) ks rfl
theorem take_map {α β : Type} {f : α → β} {xs : List α} {i : Nat} {a : α} (h : xs[i]? = some a) : (xs.take (i + 1)).map f = (xs.take i).map f ++ [f a] := by
  rw [List.take_add_one, h, List.map_append]; rfl
theorem bools_map : ∀ bs : List Bool, bools (bs.map .bool) = some bs
  | [] => rfl
  | b :: bs => by show (bools (bs.map .bool)).map (b :: ·) = _; rw [bools_map bs]; rfl
theorem all_map {α : Type} (f : α → Bool) (xs : List α) : allL [.list (xs.map fun d => .bool (f d))] = some (.bool (xs.all f)) := by
  have e : (xs.map fun d => PyData.bool (f d)) = (xs.map f).map .bool := by rw [List.map_map]; rfl
  show (bools _).map _ = _
  rw [e, bools_map]
  show some (PyData.bool ((xs.map f).all id)) = _
  rw [List.all_map]; rfl
/-! ### names -/
def letB : D → Bool
  | .str x => match x.cps.toList with
    | [k] => decide (97 ≤ k) && decide (k ≤ 122)
    | _ => false
  | _ => false
def nameB : D → Bool
  | .str x => decide (1 ≤ x.length ∧ x.length ≤ 8) && (signsD x).all letB
  | _ => false
theorem a_cps : (Str.ofString "a").cps.toList = [97] := by decide +kernel
theorem z_cps : (Str.ofString "z").cps.toList = [122] := by decide +kernel
theorem abc_cps : (Str.ofString "abcdefghijklmnopqrstuvwxyz").cps.toList = (List.range 26).map (97 + ·) := by decide +kernel
theorem lt1 (a b : Nat) : ([a] : List Nat) < [b] ↔ a < b := by
  rw [List.cons_lt_cons_iff]
  constructor
  · rintro (h | ⟨_, h⟩)
    · exact h
    · exact absurd h (by decide)
  · exact .inl
theorem le_a (k : Nat) : leD (.str (Str.ofString "a")) (.str ⟨#[k]⟩) = some (.bool (decide (97 ≤ k))) := by
  show some (PyData.bool (!decide (([k] : List Nat) < (Str.ofString "a").cps.toList))) = _
  rw [a_cps]
  congr 2
  rw [Bool.eq_iff_iff]
  simp only [Bool.not_eq_true', decide_eq_false_iff_not, decide_eq_true_eq, lt1]
  omega
theorem le_z (k : Nat) : leD (.str ⟨#[k]⟩) (.str (Str.ofString "z")) = some (.bool (decide (k ≤ 122))) := by
  show some (PyData.bool (!decide ((Str.ofString "z").cps.toList < ([k] : List Nat)))) = _
  rw [z_cps]
  congr 2
  rw [Bool.eq_iff_iff]
  simp only [Bool.not_eq_true', decide_eq_false_iff_not, decide_eq_true_eq, lt1]
  omega
theorem in_abc (k : Nat) : inD (.str ⟨#[k]⟩) (.str (Str.ofString "abcdefghijklmnopqrstuvwxyz")) = some (.bool (decide (97 ≤ k) && decide (k ≤ 122))) := by
  show some (PyData.bool (!(Builtin.Str.occurrences _ _ _ _ _).isEmpty)) = _
  rw [StrLaws.found_one, abc_cps]
  congr 2
  rw [Bool.eq_iff_iff]
  simp only [decide_eq_true_eq, Bool.and_eq_true, List.mem_map, List.mem_range]
  constructor
  · rintro ⟨a, h1, rfl⟩; omega
  · rintro ⟨h1, h2⟩; exact ⟨k - 97, by omega, by omega⟩
end K50
namespace K50
open PySem PySem.Spec PyProof.Rows L2 DL
mutual
/-- short, of small numbers -/
def good : D → Bool
  | .int i => decide (i.natAbs.log2 < 1920) && decide ((PyData.shown (.int i)).length ≤ 22)
  | .str x => decide (x.length ≤ 20) && decide ((reprText x).length ≤ 22)
  | .list xs => decide (xs.length ≤ 1000) && goodAll xs
  | .tuple xs => decide (xs.length ≤ 1000) && goodAll xs
  | .dict es => decide (es.length ≤ 1000) && goodKv es
  | _ => true
def goodAll : List D → Bool
  | [] => true
  | d :: ds => good d && goodAll ds
def goodKv : List (D × D) → Bool
  | [] => true
  | (k, d) :: es => good k && good d && goodKv es
end
theorem goodAll_mem : ∀ {ds : List D}, goodAll ds = true ↔ ∀ d ∈ ds, good d = true
  | [] => by simp [goodAll]
  | d :: ds => by simp [goodAll, goodAll_mem]
theorem good_tup {xs : List D} : good (.tuple xs) = true ↔ xs.length ≤ 1000 ∧ ∀ d ∈ xs, good d = true := by
  simp [good, goodAll_mem]
theorem good_lst {xs : List D} : good (.list xs) = true ↔ xs.length ≤ 1000 ∧ ∀ d ∈ xs, good d = true := by
  simp [good, goodAll_mem]
theorem good_str {x : Str} (h : good (.str x) = true) : x.length ≤ 20 ∧ (reprText x).length ≤ 22 := by
  simpa [good] using h
theorem small : (100000 : Nat) < sizeLine := by decide
theorem len_str {x : Str} (h : good (.str x) = true) : lenD (.str x) = some (x.length : Int) := if_pos (by have := (good_str h).1; have := small; omega)
theorem signs_let {x : Str} {i : Nat} {d : D} (h : (signsD x)[i]? = some d) : ∃ k, d = .str ⟨#[k]⟩ ∧ letB d = (decide (97 ≤ k) && decide (k ≤ 122)) := by
  obtain ⟨k, _, rfl⟩ := signs_get h
  exact ⟨k, rfl, rfl⟩
theorem is_name_ok {d : D} (g : good d = true) {Q : Rv → Prop} (q : Q (.d (.bool (nameB d)))) : w_is_name [d] Q := by
  cases d with
  | str x =>
    have hl := len_str g
    have h20 := (good_str g).1
    have main : (wRet (wCl allL (wCons (wL (wLc ([1] : List Nat) (wSigns (wVar 0)) (wName 1) wYes (wChain leD leD (wC (.str (Str.ofString "a"))) (wVar 1) (wC (.str (Str.ofString "z")))))) wNil)))
        ⟨fun _ => Q (.d .none), fun r _ => Q r, fun _ => False, fun _ => False⟩ [.dat (.str x), .un] ∨ ¬ (1 ≤ x.length ∧ x.length ≤ 8) := by
      by_cases hz : 1 ≤ x.length ∧ x.length ≤ 8
      · refine .inl (.inl ⟨_, rfl, x, rfl, fun i acc ρ => acc = ((signsD x).take i).map (fun d => .bool (letB d)) ∧ ρ = [.dat (.str x), .un], ⟨rfl, rfl⟩, ?_, ?_⟩)
        · rintro i y acc ρ hy ⟨rfl, rfl⟩
          obtain ⟨k, rfl, hb⟩ := signs_let hy
          have hlt := (List.getElem?_eq_some_iff.mp hy).1
          rw [signs_len] at hlt
          have fin : ∀ b : Bool, b = letB (.str ⟨#[k]⟩) → (((signsD x).take i).map (fun d => PyData.bool (letB d))).length < sizeLine ∧ ((signsD x).take i).map (fun d => PyData.bool (letB d)) ++ [.bool b] = ((signsD x).take (i + 1)).map (fun d => .bool (letB d)) ∧ ([.dat (.str x), .un] : List Sl) = [.dat (.str x), .un] := fun b e => by
            subst e
            refine ⟨?_, (take_map (f := fun d => PyData.bool (letB d)) hy).symm, rfl⟩
            have := small
            have : x.length = x.cps.size := rfl
            rw [List.length_map, List.length_take, signs_len]; omega
          refine .inl ⟨_, rfl, _, le_a k, ?_⟩
          refine ite2 (fun c1 => ⟨_, le_z k, fin _ (by rw [hb, c1, Bool.true_and])⟩) (fun c1 => fin _ (by rw [hb, eq_false_of_ne_true c1, Bool.false_and]))
        · rintro acc ρ ⟨rfl, rfl⟩
          rw [List.take_length]
          refine ⟨_, all_map _ _, ?_⟩
          have e : nameB (.str x) = (signsD x).all letB := by simp [nameB, hz]
          rw [← e]; exact q
      · exact .inr hz
    refine .inl ⟨_, rfl, _, rfl, ifF (.inl ⟨_, _, rfl, hl, _, rfl, ?_⟩)⟩
    have out : ¬ (1 ≤ x.length ∧ x.length ≤ 8) → Q (.d (.bool false)) := fun z => by
      have e : nameB (.str x) = false := by simp [nameB, z]
      rw [← e]; exact q
    refine ite2 (fun c1 => ⟨_, rfl, _, rfl, ite2 (fun c2 => ?_) (fun c2 => ?_)⟩) (fun c1 => ⟨_, rfl, ifT (out fun z => ?_)⟩)
    · exact out fun z => by
        have c1 := of_decide_eq_true c1
        simp at c2
        omega
    · rcases main with m | m
      · exact m
      · exfalso
        have c1 := of_decide_eq_true c1
        simp at c2
        omega
    · have c1 := of_decide_eq_false (eq_false_of_ne_true c1)
      omega
  | _ => exact .inl ⟨_, rfl, _, rfl, ifT q⟩
def intB : D → Bool
  | .int _ => true
  | _ => false
theorem is_integer_ok {d : D} {Q : Rv → Prop} (q : Q (.d (.bool (intB d)))) : w_is_integer [d] Q := by
  cases d with
  | bool b => exact .inl ⟨_, rfl, _, rfl, ifT (.inl ⟨_, rfl, _, rfl, q⟩)⟩
  | int b => exact .inl ⟨_, rfl, _, rfl, ifT (.inl ⟨_, rfl, _, rfl, q⟩)⟩
  | _ => exact .inl ⟨_, rfl, _, rfl, q⟩
def numB (lo hi : Int) : D → Bool
  | .int i => decide (lo ≤ i) && decide (i ≤ hi)
  | _ => false
def tabB (n m : Int) : D → Bool
  | .tuple xs => decide ((xs.length : Int) = n) && xs.all (numB 0 (m - 1))
  | _ => false
theorem table_ok {d : D} (g : good d = true) {n m : Int} {Q : Rv → Prop} (q : Q (.d (.bool (tabB n m d)))) : w_is_table [d, .int n, .int m] Q := by
  cases d with
  | tuple xs =>
    have hx := (good_tup.mp g).1
    refine .inl ⟨_, rfl, _, rfl, ifF (.inl ⟨_, _, rfl, rfl, .inl ⟨_, rfl, _, rfl, _, rfl, ?_⟩⟩)⟩
    have e : tabB n m (.tuple xs) = (decide ((xs.length : Int) = n) && xs.all (numB 0 (m - 1))) := rfl
    rw [e] at q
    refine ite2 (fun c1 => ?_) (fun c1 => ?_)
    · have c1 : ¬ (xs.length : Int) = n := fun z => by subst z; simp [PyData.eqv] at c1
      rw [decide_eq_false c1, Bool.false_and] at q; exact q
    · have c1 : (xs.length : Int) = n := by
        have z : (!PyData.eqv (.int (xs.length : Int)) (.int n)) = false := eq_false_of_ne_true c1
        simpa [PyData.eqv] using z
      rw [decide_eq_true c1, Bool.true_and] at q
      refine .inl ⟨_, rfl, xs, rfl, fun i acc ρ => acc = (xs.take i).map (fun d => .bool (numB 0 (m - 1) d)) ∧ ρ = [.dat (.tuple xs), .dat (.int n), .dat (.int m), .un], ⟨rfl, rfl⟩, ?_, ?_⟩
      · rintro i y acc ρ hy ⟨rfl, rfl⟩
        have hlt := (List.getElem?_eq_some_iff.mp hy).1
        have fin : ∀ b : Bool, b = numB 0 (m - 1) y → ((xs.take i).map (fun d => PyData.bool (numB 0 (m - 1) d))).length < sizeLine ∧ (xs.take i).map (fun d => PyData.bool (numB 0 (m - 1) d)) ++ [.bool b] = (xs.take (i + 1)).map (fun d => .bool (numB 0 (m - 1) d)) ∧ ([.dat (.tuple xs), .dat (.int n), .dat (.int m), .un] : List Sl) = [.dat (.tuple xs), .dat (.int n), .dat (.int m), .un] := fun b e => by
          subst e
          refine ⟨?_, (take_map (f := fun d => PyData.bool (numB 0 (m - 1) d)) hy).symm, rfl⟩
          have := small
          rw [List.length_map, List.length_take]; omega
        refine .inl ⟨_, rfl, rfl, is_integer_ok ⟨_, rfl, _, rfl, ?_⟩⟩
        cases y with
        | int j =>
          refine ifT (.inl ⟨_, rfl, _, rfl, ite2 (fun c2 => .inl ⟨_, rfl, _, rfl, fin _ ?_⟩) (fun c2 => fin _ ?_)⟩)
          · have c2 : decide (0 ≤ j) = true := c2
            show decide (j < m) = (decide (0 ≤ j) && decide (j ≤ m - 1))
            rw [c2, Bool.true_and]
            exact decide_eq_decide.mpr (by omega)
          · have c2 : decide (0 ≤ j) = false := eq_false_of_ne_true c2
            show false = (decide (0 ≤ j) && decide (j ≤ m - 1))
            rw [c2, Bool.false_and]
        | _ => exact ifF (fin _ rfl)
      · rintro acc ρ ⟨rfl, rfl⟩
        rw [List.take_length]
        exact ⟨_, all_map _ _, q⟩
  | _ => exact .inl ⟨_, rfl, _, rfl, ifT q⟩
end K50
namespace K50
open PySem PySem.Spec PyProof.Rows L2 DL
/-! ### kinds -/
def pD (p : Str × Int) : D := .tuple [.str p.1, .int p.2]
def cnB : D → Bool
  | .tuple [n, c] => nameB n && numB 1 8 c
  | _ => false
theorem name_of {d : D} (h : nameB d = true) : ∃ x, d = .str x ∧ 1 ≤ x.length := by
  cases d with
  | str x =>
    refine ⟨x, rfl, ?_⟩
    simp only [nameB, Bool.and_eq_true, decide_eq_true_eq] at h
    exact h.1.1
  | _ => cases h
theorem num_of {d : D} {lo hi : Int} (h : numB lo hi d = true) : ∃ i, d = .int i ∧ lo ≤ i ∧ i ≤ hi := by
  cases d with
  | int i => exact ⟨i, rfl, by simpa [numB] using h⟩
  | _ => cases h
theorem cn_of {d : D} (h : cnB d = true) : ∃ p : Str × Int, d = pD p ∧ 1 ≤ p.1.length ∧ 1 ≤ p.2 ∧ p.2 ≤ 8 := by
  unfold cnB at h
  split at h
  · rename_i n c
    rw [Bool.and_eq_true] at h
    obtain ⟨x, rfl, hx⟩ := name_of h.1
    obtain ⟨i, rfl, h1, h2⟩ := num_of h.2
    exact ⟨(x, i), rfl, hx, h1, h2⟩
  · cases h
theorem cns_of : ∀ {xs : List D}, xs.all cnB = true → ∃ ps : List (Str × Int), xs = ps.map pD ∧ ∀ p ∈ ps, 1 ≤ p.1.length
  | [], _ => ⟨[], rfl, fun _ h => nomatch h⟩
  | d :: xs, h => by
    rw [List.all_cons, Bool.and_eq_true] at h
    obtain ⟨p, rfl, hp, _⟩ := cn_of h.1
    obtain ⟨ps, rfl, hps⟩ := cns_of h.2
    exact ⟨p :: ps, rfl, fun q hq => by
      rcases List.mem_cons.mp hq with rfl | hq
      · exact hp
      · exact hps q hq⟩
def ltS (a b : Str) : Prop := a.cps.toList < b.cps.toList
instance (a b : Str) : Decidable (ltS a b) := inferInstanceAs (Decidable (a.cps.toList < b.cps.toList))
theorem lt_trans' {a b c : Str} (h1 : ltS a b) (h2 : ltS b c) : ltS a c := List.lt_trans h1 h2
/-- each name after the last one -/
def ascL (last : Str) : List (Str × Int) → Bool
  | [] => true
  | p :: ps => decide (ltS last p.1) && ascL p.1 ps
theorem asc_iff : ∀ (ps : List (Str × Int)) (last : Str), ascL last ps = true ↔ (∀ x ∈ ps.map (·.1), ltS last x) ∧ (ps.map (·.1)).Pairwise ltS
  | [], last => by simp [ascL]
  | p :: ps, last => by
    rw [ascL, Bool.and_eq_true, decide_eq_true_eq, asc_iff ps p.1, List.map_cons, List.pairwise_cons]
    constructor
    · rintro ⟨h1, h2, h3⟩
      refine ⟨fun x hx => ?_, h2, h3⟩
      rcases List.mem_cons.mp hx with rfl | hx
      · exact h1
      · exact lt_trans' h1 (h2 x hx)
    · rintro ⟨h1, h2, h3⟩
      exact ⟨h1 _ (.head _), h2, h3⟩
theorem nil_lt {x : Str} (h : 1 ≤ x.length) : ltS (Str.ofString "") x := by
  unfold ltS
  have e : (Str.ofString "").cps.toList = [] := by decide +kernel
  rw [e]
  cases hx : x.cps.toList with
  | nil =>
    have : x.length = x.cps.toList.length := by rw [Array.length_toList]; rfl
    rw [hx] at this
    rw [this] at h
    exact absurd h (by decide)
  | cons a l => exact List.nil_lt_cons a l
theorem sorted_iff (ns : List Str) : (ns = srtS (ded ns)) ↔ ns.Pairwise ltS := by
  have le_of : ∀ {a b : Str}, ltS a b → leS a b = true := fun h => decide_eq_true (List.le_of_lt h)
  have irr : ∀ a : Str, ¬ ltS a a := fun a => List.lt_irrefl _
  constructor
  · intro h
    have nd : ns.Nodup := by
      rw [h]
      exact ((List.mergeSort_perm (ded ns) leS).nodup_iff).mpr (ded_nodup ns)
    have pw : ns.Pairwise fun a b => leS a b = true := by
      have z := srtS_pair (ded ns)
      rwa [← h] at z
    refine List.Pairwise.imp₂ (R := fun a b => leS a b = true) (S := fun a b => a ≠ b) ?_ pw nd
    intro a b h1 h2
    show a.cps.toList < b.cps.toList
    have h1 := of_decide_eq_true h1
    by_cases z : a.cps.toList < b.cps.toList
    · exact z
    · exact absurd (str_ext (List.le_antisymm h1 (List.not_lt.mp z))) h2
  · intro h
    have nd : ns.Nodup := List.Pairwise.imp (S := fun a b => a ≠ b) (fun {a b} z e => by subst e; exact irr _ z) h
    have p : (ded ns).Perm ns := (List.perm_ext_iff_of_nodup (ded_nodup ns) nd).mpr fun a => mem_ded
    rw [srtS_perm p]
    exact (List.mergeSort_of_pairwise (h.imp fun z => le_of z)).symm
end K50
namespace K50
open PySem PySem.Spec PyProof.Rows L2 DL
def ascD (last : Str) : List D → Bool
  | [] => true
  | .tuple (.str x :: _) :: r => decide (ltS last x) && ascD x r
  | _ :: _ => false
theorem ascD_pD : ∀ (ps : List (Str × Int)) (last : Str), ascD last (ps.map pD) = ascL last ps
  | [], _ => rfl
  | p :: ps, last => by
    show (decide (ltS last p.1) && ascD p.1 (ps.map pD)) = (decide (ltS last p.1) && ascL p.1 ps)
    rw [ascD_pD ps p.1]
def kindsB : D → Bool
  | .tuple xs => decide (1 ≤ xs.length ∧ xs.length ≤ 6) && (xs.all cnB && ascD (Str.ofString "") xs)
  | _ => false
theorem strs_plain : ∀ xs : List Str, PyData.plainAll (xs.map .str) = true
  | [] => rfl
  | x :: xs => by
    show (PyData.plain (.str x) && PyData.plainAll (xs.map .str)) = true
    rw [strs_plain xs]; rfl
theorem strs_depth : ∀ xs : List Str, PyData.depthAll (xs.map .str) = 0
  | [] => rfl
  | x :: xs => by simp only [List.map_cons, PyData.depthAll, PyData.depth]; rw [strs_depth xs]; rfl
theorem strs_eqv : ∀ xs ys : List Str, PyData.eqvAll (xs.map .str) (ys.map .str) = decide (xs = ys)
  | [], [] => rfl
  | [], y :: ys => by simp [PyData.eqvAll]
  | x :: xs, [] => by simp [PyData.eqvAll]
  | x :: xs, y :: ys => by
    simp only [List.map_cons, PyData.eqvAll, strs_eqv xs ys]
    have e : PyData.eqv (.str x) (.str y) = decide (x = y) := by
      show (x == y) = _
      by_cases h : x = y
      · subst h; simp
      · simp [h]
    rw [e, Bool.eq_iff_iff]
    simp
theorem eq_strs (xs ys : List Str) : eqD (.list (xs.map .str)) (.list (ys.map .str)) = some (.bool (decide (xs = ys))) := by
  unfold eqD
  rw [if_pos]
  · show some (PyData.bool (PyData.eqvAll _ _)) = _
    rw [strs_eqv]
  · unfold pl2
    simp [PyData.plain, strs_plain, PyData.depth, strs_depth]
end K50
namespace K50
open PySem PySem.Spec PyProof.Rows L2 DL
theorem cons_all {xs : List D} {i : Nat} {y : D} (h : xs[i]? = some y) : xs.drop i = y :: xs.drop (i + 1) := by
  obtain ⟨hlt, e⟩ := List.getElem?_eq_some_iff.mp h
  rw [List.drop_eq_getElem_cons hlt, e]
end K50
namespace K50
open PySem PySem.Spec PyProof.Rows L2 DL
/-! ### kinds of a library, looked at -/
theorem putP_new {es : List (Key × D)} {k : Key} {d : D} (h : ∀ p ∈ es, p.1 ≠ k) : putP es k d = es ++ [(k, d)] := by
  unfold putP
  rw [if_neg]
  intro z
  obtain ⟨p, hp, e⟩ := List.any_eq_true.mp z
  exact h p hp (of_decide_eq_true e)
theorem mergeP_nd : ∀ (more acc : List (Key × D)), ((acc ++ more).map (·.1)).Nodup → mergeP acc more = acc ++ more
  | [], acc, _ => by simp [mergeP]
  | (k, d) :: more, acc, h => by
    have hk : ∀ p ∈ acc, p.1 ≠ k := fun p hp e => by
      rw [List.map_append, List.nodup_append] at h
      exact h.2.2 p.1 (List.mem_map_of_mem hp) k (by simp) e
    show mergeP (putP acc k d) more = _
    rw [putP_new hk, mergeP_nd more (acc ++ [(k, d)]) (by simpa using h)]
    simp
theorem lookD_mem : ∀ {es : List (Key × D)} {k : Key} {d : D}, (es.map (·.1)).Nodup → (k, d) ∈ es → lookD (kD es) k = some d
  | [], _, _, _, h => by simp at h
  | (k', d') :: es, k, d, hn, h => by
    unfold lookD kD
    simp only [List.map_cons, List.find?_cons, keyOf_keyD]
    rcases List.mem_cons.mp h with e | e
    · cases e
      simp
    · have hne : k' ≠ k := fun z => by
        subst z
        rw [List.map_cons, List.nodup_cons] at hn
        exact hn.1 (List.mem_map_of_mem (f := (·.1)) e)
      have hne' : ¬ (some k' = some k) := fun z => hne (Option.some.inj z)
      simp only [hne', decide_false]
      rw [List.map_cons, List.nodup_cons] at hn
      exact lookD_mem hn.2 e
/-- kinds -/
structure KS (ks : List (Str × Int)) : Prop where
  len : ks.length ≤ 6
  nd : (ks.map (·.1)).Nodup
  cnt : ∀ p ∈ ks, 1 ≤ p.2 ∧ p.2 ≤ 8
def kd (ks : List (Str × Int)) : D := .tuple (ks.map pD)
def cntE (ss : List (Str × Int)) : List (Key × D) := ss.map fun p => (.inr p.1, .int p.2)
theorem pairs_cnt : ∀ ss : List (Str × Int), pairsD (ss.map pD) = some (cntE ss)
  | [] => rfl
  | p :: ss => by
    show (pairD (pD p)).bind (fun q => (pairsD (ss.map pD)).map fun es => q :: es) = _
    rw [pairs_cnt ss]; rfl
theorem cnt_nd {ss : List (Str × Int)} (h : (ss.map (·.1)).Nodup) : ((cntE ss).map (·.1)).Nodup := by
  have e : (cntE ss).map (·.1) = (ss.map (·.1)).map Sum.inr := by simp [cntE]
  rw [e]
  exact List.Pairwise.map _ (fun a b hab z => hab (Sum.inr.inj z)) h
theorem dict_cnt {ss : List (Str × Int)} (h : KS ss) : dictL [kd ss] = some (.dict (kD (cntE ss))) := by
  show (pairsD (ss.map pD)).map (fun es => PyData.dict (kD (mergeP [] es))) = _
  rw [pairs_cnt, Option.map_some, mergeP_nd _ _ (by simpa using cnt_nd h.nd)]
  rfl
theorem dict_cntL {ss : List (Str × Int)} (h : KS ss) : dictL [.list (ss.map pD)] = some (.dict (kD (cntE ss))) := by
  show (pairsD (ss.map pD)).map (fun es => PyData.dict (kD (mergeP [] es))) = _
  rw [pairs_cnt, Option.map_some, mergeP_nd _ _ (by simpa using cnt_nd h.nd)]
  rfl
theorem cnt_at {ss : List (Str × Int)} (h : KS ss) {p : Str × Int} (hp : p ∈ ss) : ixD (.dict (kD (cntE ss))) (.str p.1) = some (.int p.2) :=
  lookD_mem (cnt_nd h.nd) (List.mem_map_of_mem (f := fun p : Str × Int => ((.inr p.1 : Key), PyData.int p.2)) hp)
def kindB (ks : List (Str × Int)) (d : D) : Bool := (ks.map (·.1)).any fun b => eqS d b
def cntD (ks : List (Str × Int)) (d : D) : Int := match ks.find? fun p => eqS d p.1 with
  | some p => p.2
  | none => 0
theorem txts_map : ∀ xs : List Str, txts (xs.map .str) = some xs
  | [] => rfl
  | x :: xs => by show (txts (xs.map .str)).map (x :: ·) = _; rw [txts_map xs]; rfl
theorem kind_ok {ks : List (Str × Int)} (h : KS ks) {d : D} {Q : Rv → Prop} (q : Q (.d (.bool (kindB ks d)))) : w_is_kind [kd ks, d] Q := by
  have sm := small
  have hl := h.len
  refine .inl ⟨_, rfl, .inl ⟨_, rfl, _, rfl, fun i acc ρ => acc = (ks.take i).map (fun p : Str × Int => PyData.str p.1) ∧ ρ = [.dat (kd ks), .dat d, .un, .un], ⟨rfl, rfl⟩, ?_, ?_⟩⟩
  · rintro i y acc ρ hy ⟨rfl, rfl⟩
    rw [List.getElem?_map] at hy
    cases hp : ks[i]? with
    | none => rw [hp] at hy; cases hy
    | some p =>
      rw [hp] at hy
      cases hy
      have hlt := (List.getElem?_eq_some_iff.mp hp).1
      refine ⟨_, rfl, rfl, .inl ⟨_, rfl, ?_, (take_map (f := fun p : Str × Int => PyData.str p.1) hp).symm, rfl⟩⟩
      rw [List.length_map, List.length_take]; omega
  rintro acc ρ ⟨rfl, rfl⟩
  rw [List.length_map, List.take_length]
  have en : (ks.map fun p => PyData.str p.1) = (ks.map (·.1)).map .str := by rw [List.map_map]; rfl
  rw [en]
  refine ⟨_, ?_, q⟩
  show (match txts ((ks.map fun p : Str × Int => p.1).map PyData.str) with | some bs => some (PyData.bool (bs.any fun b => eqS d b)) | none => inD d (.list ((ks.map fun p : Str × Int => p.1).map PyData.str))) = _
  rw [txts_map]; rfl
theorem find_drop {α : Type} {f : α → Bool} {xs : List α} {i : Nat} {y : α} (h : xs[i]? = some y) : (xs.drop i).find? f = if f y = true then some y else (xs.drop (i + 1)).find? f := by
  obtain ⟨hlt, e⟩ := List.getElem?_eq_some_iff.mp h
  rw [List.drop_eq_getElem_cons hlt, e, List.find?_cons]
  cases f y <;> rfl
theorem kind_of {ks : List (Str × Int)} {d : D} (h : kindB ks d = true) : ∃ p ∈ ks, d = .str p.1 := by
  obtain ⟨b, hb, e⟩ := List.any_eq_true.mp h
  obtain ⟨p, hp, rfl⟩ := List.mem_map.mp hb
  cases d with
  | str x =>
    have e : (x == p.1) = true := e
    rw [eq_of_beq e]
    exact ⟨p, hp, rfl⟩
  | _ => cases e
theorem cnt_mem {ks : List (Str × Int)} (h : KS ks) {p : Str × Int} (hp : p ∈ ks) : cntD ks (.str p.1) = p.2 := by
  unfold cntD
  cases e : ks.find? (fun q => eqS (.str p.1) q.1) with
  | none =>
    have := List.find?_eq_none.mp e p hp
    simp [eqS] at this
  | some q =>
    have h1 := List.mem_of_find?_eq_some e
    have h2 : (p.1 == q.1) = true := List.find?_some (p := fun q : Str × Int => eqS (.str p.1) q.1) e
    have h3 : p.1 = q.1 := eq_of_beq h2
    have : ∀ {l : List (Str × Int)}, (l.map (·.1)).Nodup → p ∈ l → q ∈ l → p.1 = q.1 → p = q := by
      intro l
      induction l with
      | nil => intro _ h; cases h
      | cons a l ih =>
        intro hn ha hb e
        rw [List.map_cons, List.nodup_cons] at hn
        rcases List.mem_cons.mp ha with e1 | ha2
        · rcases List.mem_cons.mp hb with e2 | hb2
          · rw [e1, e2]
          · exact absurd (show a.1 ∈ l.map (·.1) by rw [← e1, e]; exact List.mem_map_of_mem (f := (·.1)) hb2) hn.1
        · rcases List.mem_cons.mp hb with e2 | hb2
          · exact absurd (show a.1 ∈ l.map (·.1) by rw [← e2, ← e]; exact List.mem_map_of_mem (f := (·.1)) ha2) hn.1
          · exact ih hn.2 ha2 hb2 e
    show q.2 = p.2
    rw [this h.nd hp h1 h3]
theorem cnt_zero {ks : List (Str × Int)} {d : D} (h : kindB ks d = false) : cntD ks d = 0 := by
  unfold cntD
  cases e : ks.find? (fun q => eqS d q.1) with
  | none => rfl
  | some q =>
    have h1 := List.mem_of_find?_eq_some e
    have h2 := List.find?_some e
    have : kindB ks d = true := List.any_eq_true.mpr ⟨q.1, List.mem_map_of_mem h1, h2⟩
    rw [this] at h; cases h
theorem cnt_range {ks : List (Str × Int)} (h : KS ks) (d : D) : 0 ≤ cntD ks d ∧ cntD ks d ≤ 8 := by
  cases hk : kindB ks d with
  | false => rw [cnt_zero hk]; exact ⟨by decide, by decide⟩
  | true =>
    obtain ⟨p, hp, rfl⟩ := kind_of hk
    rw [cnt_mem h hp]
    have := h.cnt p hp
    omega
theorem cnt_pos {ks : List (Str × Int)} (h : KS ks) {d : D} (hk : kindB ks d = true) : 1 ≤ cntD ks d := by
  obtain ⟨p, hp, rfl⟩ := kind_of hk
  rw [cnt_mem h hp]
  exact (h.cnt p hp).1
theorem cnt_ix {ks : List (Str × Int)} (h : KS ks) {d : D} (hk : kindB ks d = true) : ixD (.dict (kD (cntE ks))) d = some (.int (cntD ks d)) := by
  obtain ⟨p, hp, rfl⟩ := kind_of hk
  rw [cnt_mem h hp, cnt_at h hp]
end K50
namespace K50
open PySem PySem.Spec PyProof.Rows L2 DL
def boolB : D → Bool
  | .bool _ => true
  | _ => false
def sameS : D → D → Bool
  | .str x, .str y => x == y
  | _, _ => false
def convB (ks : List (Str × Int)) (n s t b tb : D) : Bool := nameB n && (kindB ks s && (kindB ks t && (!sameS s t && (boolB b && tabB (cntD ks s) (cntD ks t) tb))))
theorem eq_kinds {ks : List (Str × Int)} {s t : D} (h1 : kindB ks s = true) (h2 : kindB ks t = true) : eqD s t = some (.bool (sameS s t)) := by
  obtain ⟨p, _, rfl⟩ := kind_of h1
  obtain ⟨p2, _, rfl⟩ := kind_of h2
  rfl
theorem conv_ok {ks : List (Str × Int)} (h : KS ks) {a n s t b tb : D} (gn : good n = true) (gt : good tb = true) {Q : Rv → Prop} (q : Q (.d (.bool (convB ks n s t b tb)))) : w_is_conversion [kd ks, .tuple [a, n, s, t, b, tb]] Q := by
  unfold convB at q
  refine .inl ⟨_, rfl, _, rfl, rfl, .inl ⟨_, rfl, rfl, is_name_ok gn ⟨_, rfl, _, rfl, ?_⟩⟩⟩
  cases c1 : nameB n with
  | false => rw [c1] at q; exact ifT q
  | true =>
    rw [c1, Bool.true_and] at q
    refine ifF (.inl ⟨_, rfl, .inl ⟨_, rfl, rfl, kind_ok h ⟨_, rfl, _, rfl, ?_⟩⟩⟩)
    cases c2 : kindB ks s with
    | false => rw [c2] at q; exact ifT (ifT q)
    | true =>
      rw [c2, Bool.true_and] at q
      refine ifF (.inl ⟨_, rfl, .inl ⟨_, rfl, rfl, kind_ok h ⟨_, rfl, _, rfl, ?_⟩⟩⟩)
      cases c3 : kindB ks t with
      | false => rw [c3] at q; exact ifT q
      | true =>
        rw [c3, Bool.true_and] at q
        refine ifF (.inl ⟨_, rfl, .inl ⟨_, rfl, _, eq_kinds c2 c3, _, rfl, ?_⟩⟩)
        cases c4 : sameS s t with
        | true => rw [c4] at q; exact ifT (ifT q)
        | false =>
          rw [c4, Bool.not_false, Bool.true_and] at q
          have fin : tabB (cntD ks s) (cntD ks t) tb = (boolB b && tabB (cntD ks s) (cntD ks t) tb) → Q (.d (.bool (tabB (cntD ks s) (cntD ks t) tb))) := fun e => by rw [e]; exact q
          cases b with
          | bool b =>
            refine ifF (.inl ⟨_, rfl, _, rfl, ifF (.inl ⟨_, rfl, _, dict_cnt h, .inl ⟨_, rfl, .inl ⟨_, rfl⟩, .inl ⟨_, rfl, .inl ⟨_, _, rfl, cnt_ix h c2, .inl ⟨_, rfl⟩, .inl ⟨_, rfl, .inl ⟨_, _, rfl, cnt_ix h c3, rfl, table_ok gt ⟨_, rfl, fin rfl⟩⟩⟩⟩⟩⟩⟩)⟩)
          | _ => exact ifF (.inl ⟨_, rfl, _, rfl, ifT q⟩)
/-- parameters -/
def parsB (ks : List (Str × Int)) : D → Bool
  | .tuple xs => decide (xs.length ≤ 3) && xs.all (kindB ks)
  | _ => false
def prodC (ks : List (Str × Int)) (xs : List D) : Int := xs.foldl (fun a x => a * cntD ks x) 1
def prodOf (ks : List (Str × Int)) : D → Int
  | .tuple xs => prodC ks xs
  | _ => 1
def defiB (ks : List (Str × Int)) (n ps r tb : D) : Bool := nameB n && (parsB ks ps && (kindB ks r && (decide (prodOf ks ps ≤ 64) && tabB (prodOf ks ps) (cntD ks r) tb)))
theorem pars_ok {ks : List (Str × Int)} (h : KS ks) {d : D} (g : good d = true) {Q : Rv → Prop} (q : Q (.d (.bool (parsB ks d)))) : w_is_parameters [kd ks, d] Q := by
  have sm := small
  cases d with
  | tuple xs =>
    have hx := (good_tup.mp g).1
    have e : parsB ks (.tuple xs) = (decide (xs.length ≤ 3) && xs.all (kindB ks)) := rfl
    rw [e] at q
    refine .inl ⟨_, rfl, _, rfl, ifF (.inl ⟨_, _, rfl, rfl, _, rfl, _, rfl, ?_⟩)⟩
    refine ite2 (fun c1 => ?_) (fun c1 => ?_)
    · have c1 : (3 : Int) < xs.length := of_decide_eq_true c1
      have z : ¬ xs.length ≤ 3 := by omega
      rw [decide_eq_false z, Bool.false_and] at q; exact q
    · have c1 : ¬ (3 : Int) < xs.length := of_decide_eq_false (eq_false_of_ne_true c1)
      have z : xs.length ≤ 3 := by omega
      rw [decide_eq_true z, Bool.true_and] at q
      refine .inl ⟨_, rfl, xs, rfl, fun i acc ρ => acc = (xs.take i).map (fun d => .bool (kindB ks d)) ∧ ρ = [.dat (kd ks), .dat (.tuple xs), .un], ⟨rfl, rfl⟩, ?_, ?_⟩
      · rintro i y acc ρ hy ⟨rfl, rfl⟩
        have hlt := (List.getElem?_eq_some_iff.mp hy).1
        refine .inl ⟨_, rfl, .inl ⟨_, rfl, rfl, kind_ok h ⟨_, rfl, ?_, (take_map (f := fun d => PyData.bool (kindB ks d)) hy).symm, rfl⟩⟩⟩
        rw [List.length_map, List.length_take]; omega
      · rintro acc ρ ⟨rfl, rfl⟩
        rw [List.take_length]
        exact ⟨_, all_map _ _, q⟩
  | _ => exact .inl ⟨_, rfl, _, rfl, ifT q⟩
theorem prod_take {ks : List (Str × Int)} {xs : List D} {i : Nat} {y : D} (h : xs[i]? = some y) : prodC ks (xs.take (i + 1)) = prodC ks (xs.take i) * cntD ks y := by
  unfold prodC
  rw [List.take_add_one, h, List.foldl_append]; rfl
theorem prod_range {ks : List (Str × Int)} (h : KS ks) : ∀ xs : List D, 0 ≤ prodC ks xs ∧ prodC ks xs ≤ 8 ^ xs.length := by
  intro xs
  unfold prodC
  have go : ∀ (xs : List D) (a : Int) (k : Nat), 0 ≤ a → a ≤ 8 ^ k → 0 ≤ xs.foldl (fun a x => a * cntD ks x) a ∧ xs.foldl (fun a x => a * cntD ks x) a ≤ 8 ^ (k + xs.length) := by
    intro xs
    induction xs with
    | nil => intro a k h0 h1; exact ⟨h0, h1⟩
    | cons x xs ih =>
      intro a k h0 h1
      have hc := cnt_range h x
      have e : k + (x :: xs).length = (k + 1) + xs.length := by simp; omega
      rw [e, List.foldl_cons]
      exact ih _ (k + 1) (Int.mul_nonneg h0 hc.1) (by rw [Int.pow_succ]; exact Int.mul_le_mul h1 hc.2 hc.1 (Int.pow_nonneg (by decide)))
  have := go xs 1 0 (by decide) (by decide)
  rwa [Nat.zero_add] at this
theorem prod_small {ks : List (Str × Int)} (h : KS ks) {xs : List D} (hl : xs.length ≤ 3) : 0 ≤ prodC ks xs ∧ prodC ks xs ≤ 512 := by
  have := prod_range h xs
  refine ⟨this.1, Int.le_trans this.2 ?_⟩
  have e : xs.length = 0 ∨ xs.length = 1 ∨ xs.length = 2 ∨ xs.length = 3 := by omega
  rcases e with e | e | e | e <;> rw [e] <;> decide
theorem defi_ok {ks : List (Str × Int)} (h : KS ks) {a n ps r tb : D} (gn : good n = true) (gp : good ps = true) (gt : good tb = true) {Q : Rv → Prop} (q : Q (.d (.bool (defiB ks n ps r tb)))) : w_is_definition [kd ks, .tuple [a, n, ps, r, tb]] Q := by
  unfold defiB at q
  refine .inl ⟨_, rfl, _, rfl, rfl, .inl ⟨_, rfl, rfl, is_name_ok gn ⟨_, rfl, _, rfl, ?_⟩⟩⟩
  cases c1 : nameB n with
  | false => rw [c1] at q; exact ifT q
  | true =>
    rw [c1, Bool.true_and] at q
    refine ifF (.inl ⟨_, rfl, .inl ⟨_, rfl, rfl, pars_ok h gp ⟨_, rfl, _, rfl, ?_⟩⟩⟩)
    cases c2 : parsB ks ps with
    | false => rw [c2] at q; exact ifT (ifT q)
    | true =>
      rw [c2, Bool.true_and] at q
      refine ifF (.inl ⟨_, rfl, .inl ⟨_, rfl, rfl, kind_ok h ⟨_, rfl, _, rfl, ?_⟩⟩⟩)
      cases c3 : kindB ks r with
      | false => rw [c3] at q; exact ifT q
      | true =>
        rw [c3, Bool.true_and] at q
        cases ps with
        | tuple xs =>
          simp only [parsB, Bool.and_eq_true, decide_eq_true_eq] at c2
          obtain ⟨hl, hk⟩ := c2
          refine ifF (.inl ⟨_, rfl, _, dict_cnt h, .inl ⟨_, rfl, xs, rfl, fun i ρ => ∃ s9, ρ = [.dat (kd ks), .dat (.tuple [a, n, .tuple xs, r, tb]), .dat a, .dat n, .dat (.tuple xs), .dat r, .dat tb, .dat (.dict (kD (cntE ks))), .dat (.int (prodC ks (xs.take i))), s9], ⟨_, rfl⟩, ?_, ?_⟩⟩)
          · rintro i y ρ hy ⟨s9, rfl⟩
            have hky : kindB ks y = true := List.all_eq_true.mp hk y (List.mem_of_getElem? hy)
            have hc := cnt_range h y
            have hp := prod_small h (xs := xs.take i) (by rw [List.length_take]; omega)
            refine .inl ⟨_, rfl, .inl ⟨_, rfl⟩, .inl ⟨_, rfl, .inl ⟨_, _, rfl, cnt_ix h hky, _, mul_ok hp.1 (Int.lt_of_le_of_lt hp.2 (by decide)) hc.1 (Int.lt_of_le_of_lt hc.2 (by decide)), ?_⟩⟩⟩
            rw [← prod_take hy]
            exact ⟨_, rfl⟩
          · rintro ρ ⟨s9, rfl⟩
            rw [List.take_length]
            have ep : prodOf ks (.tuple xs) = prodC ks xs := rfl
            rw [ep] at q
            refine .inl ⟨_, rfl, _, rfl, _, rfl, ?_⟩
            refine ite2 (fun c4 => ?_) (fun c4 => ?_)
            · have c4 : decide (prodC ks xs ≤ 64) = true := c4
              rw [c4, Bool.true_and] at q
              refine .inl ⟨_, rfl, .inl ⟨_, rfl, .inl ⟨_, rfl⟩, .inl ⟨_, rfl, .inl ⟨_, _, rfl, cnt_ix h c3, rfl, table_ok gt ⟨_, rfl, q⟩⟩⟩⟩⟩
            · have c4 : decide (prodC ks xs ≤ 64) = false := eq_false_of_ne_true c4
              rw [c4, Bool.false_and] at q; exact q
        | _ => cases c2
end K50
namespace K50
open PySem PySem.Spec PyProof.Rows L2 DL
def itemB (ks : List (Str × Int)) : D → Bool
  | .tuple [a, n, s, t, b, tb] => eqS a (Str.ofString "conversion") && convB ks n s t b tb
  | .tuple [a, n, ps, r, tb] => eqS a (Str.ofString "definition") && defiB ks n ps r tb
  | _ => false
theorem len6 {xs : List D} (h : xs.length = 6) : ∃ a n s t b tb, xs = [a, n, s, t, b, tb] := by
  match xs, h with
  | [a, n, s, t, b, tb], _ => exact ⟨_, _, _, _, _, _, rfl⟩
theorem len5 {xs : List D} (h : xs.length = 5) : ∃ a n s t b, xs = [a, n, s, t, b] := by
  match xs, h with
  | [a, n, s, t, b], _ => exact ⟨_, _, _, _, _, rfl⟩
theorem item_not {ks : List (Str × Int)} {xs : List D} (h6 : xs.length ≠ 6) (h5 : xs.length ≠ 5) : itemB ks (.tuple xs) = false := by
  match xs, h6, h5 with
  | [], _, _ => rfl
  | [_], _, _ => rfl
  | [_, _], _, _ => rfl
  | [_, _, _], _, _ => rfl
  | [_, _, _, _], _, _ => rfl
  | [_, _, _, _, _], _, h => exact absurd rfl h
  | [_, _, _, _, _, _], h, _ => exact absurd rfl h
  | _ :: _ :: _ :: _ :: _ :: _ :: _ :: _, _, _ => rfl
theorem ieq (a b : Int) : PyData.eqv (.int a) (.int b) = decide (a = b) := by
  show (a == b) = _
  by_cases h : a = b <;> simp [h]
theorem is_item_ok {ks : List (Str × Int)} (h : KS ks) {d : D} (g : good d = true) {Q : Rv → Prop} (q : Q (.d (.bool (itemB ks d)))) : w_is_item [kd ks, d] Q := by
  cases d with
  | tuple xs =>
    have gx := (good_tup.mp g).2
    refine .inl ⟨_, rfl, _, rfl, ifF (.inl ⟨_, _, rfl, rfl, _, rfl, _, rfl, ?_⟩)⟩
    refine ite2 (fun c1 => ?_) (fun c1 => ?_)
    · rw [ieq] at c1
      have c1 := of_decide_eq_true c1
      obtain ⟨a, n, s, t, b, tb, rfl⟩ := len6 (xs := xs) (by omega)
      have e : itemB ks (.tuple [a, n, s, t, b, tb]) = (eqS a (Str.ofString "conversion") && convB ks n s t b tb) := rfl
      rw [e] at q
      refine ⟨.inl ⟨_, rfl⟩, .inl ⟨_, _, rfl, rfl, _, rfl, _, rfl, ?_⟩⟩
      refine ite2 (fun c2 => ?_) (fun c2 => ?_)
      · have c2 : eqS a (Str.ofString "conversion") = true := c2
        rw [c2, Bool.true_and] at q
        exact .inl ⟨_, rfl, .inl ⟨_, rfl, rfl, conv_ok h (gx n (by simp)) (gx tb (by simp)) ⟨_, rfl, q⟩⟩⟩
      · have c2 : eqS a (Str.ofString "conversion") = false := eq_false_of_ne_true c2
        rw [c2, Bool.false_and] at q; exact q
    rw [ieq] at c1
    have c1 := of_decide_eq_false (eq_false_of_ne_true c1)
    refine .inl ⟨_, _, rfl, rfl, _, rfl, _, rfl, ?_⟩
    refine ite2 (fun c2 => ?_) (fun c2 => ?_)
    · rw [ieq] at c2
      have c2 := of_decide_eq_true c2
      obtain ⟨a, n, ps, r, tb, rfl⟩ := len5 (xs := xs) (by omega)
      have e : itemB ks (.tuple [a, n, ps, r, tb]) = (eqS a (Str.ofString "definition") && defiB ks n ps r tb) := rfl
      rw [e] at q
      refine ⟨.inl ⟨_, rfl⟩, .inl ⟨_, _, rfl, rfl, _, rfl, _, rfl, ?_⟩⟩
      refine ite2 (fun c2 => ?_) (fun c2 => ?_)
      · have c2 : eqS a (Str.ofString "definition") = true := c2
        rw [c2, Bool.true_and] at q
        exact .inl ⟨_, rfl, .inl ⟨_, rfl, rfl, defi_ok h (gx n (by simp)) (gx ps (by simp)) (gx tb (by simp)) ⟨_, rfl, q⟩⟩⟩
      · have c2 : eqS a (Str.ofString "definition") = false := eq_false_of_ne_true c2
        rw [c2, Bool.false_and] at q; exact q
    · rw [ieq] at c2
      have c2 := of_decide_eq_false (eq_false_of_ne_true c2)
      rw [item_not (by omega) (by omega)] at q
      exact q
  | _ => exact .inl ⟨_, rfl, _, rfl, ifT q⟩
theorem prod_zero {ks : List (Str × Int)} : ∀ {xs : List D} (a : Int), xs.all (kindB ks) = false → xs.foldl (fun a x => a * cntD ks x) a = 0
  | [], _, h => by simp at h
  | x :: xs, a, h => by
    rw [List.foldl_cons]
    cases hk : kindB ks x with
    | false =>
      rw [cnt_zero hk, Int.mul_zero]
      have : ∀ ys : List D, ys.foldl (fun a x => a * cntD ks x) 0 = 0 := by
        intro ys
        induction ys with
        | nil => rfl
        | cons y ys ih => rw [List.foldl_cons, Int.zero_mul, ih]
      exact this xs
    | true =>
      rw [List.all_cons, hk, Bool.true_and] at h
      exact prod_zero _ h
theorem prod_pos {ks : List (Str × Int)} (h : KS ks) : ∀ {xs : List D} (a : Int), 1 ≤ a → xs.all (kindB ks) = true → 1 ≤ xs.foldl (fun a x => a * cntD ks x) a
  | [], _, ha, _ => ha
  | x :: xs, a, ha, hk => by
    rw [List.all_cons, Bool.and_eq_true] at hk
    rw [List.foldl_cons]
    have := Int.mul_le_mul ha (cnt_pos h hk.1) (by decide) (by omega)
    exact prod_pos h _ (by omega) hk.2
end K50
namespace K50
open PySem PySem.Spec PyProof.Rows L2 DL
/-! ### what is shown -/
mutual
def cost : D → Nat
  | .list xs => costAll xs + 24
  | .tuple xs => costAll xs + 24
  | .dict es => costKv es + 24
  | _ => 24
def costAll : List D → Nat
  | [] => 0
  | d :: ds => cost d + 2 + costAll ds
def costKv : List (D × D) → Nat
  | [] => 0
  | (k, d) :: es => cost k + cost d + 4 + costKv es
end
theorem piled_sum : ∀ ds : List D, piled (PyData.shownAll ds) = (ds.map fun d => d.shown.length + 2).sum
  | [] => rfl
  | d :: ds => by
    have := piled_sum ds
    simp only [PyData.shownAll, piled_cons, List.map_cons, List.sum_cons]
    omega
theorem tuple_len (ds : List D) : (PyData.shown (.tuple ds)).length ≤ (ds.map fun d => d.shown.length + 2).sum + 3 := by
  rw [← piled_sum]
  have e : PyData.shown (.tuple ds) = tupleText (PyData.shownAll ds) := by simp only [PyData.shown]
  rw [e]
  unfold tupleText
  rw [strLen_append, strLen_append]
  have e1 : ((("(" : String) : Str)).length = 1 := rfl
  have e3 : (((if (PyData.shownAll ds).length == 1 then ",)" else ")" : String) : Str)).length ≤ 2 := by split <;> decide
  rw [e1]
  by_cases h : PyData.shownAll ds = []
  · rw [h] at e3 ⊢
    have : (Str.join ", " []).length = 0 := rfl
    omega
  · have := join_length_add _ h
    omega
theorem text_len : ∀ (ts : List Str) (k : Nat) (acc : Str), (textFrom k acc ts).length ≤ acc.length + piled ts
  | [], k, acc => Nat.le_add_right _ _
  | t :: r, k, acc => by
    have ih := text_len r (k + 1) (acc ++ (if k > 0 then ", " else "" : String) ++ t)
    rw [strLen_append, strLen_append] at ih
    have e : (((if k > 0 then ", " else "" : String) : Str)).length ≤ 2 := by split <;> decide
    rw [piled_cons]
    have z : textFrom k acc (t :: r) = textFrom (k + 1) (acc ++ (if k > 0 then ", " else "" : String) ++ t) r := rfl
    rw [z]
    omega
theorem list_len (ds : List D) : (PyData.shown (.list ds)).length ≤ (ds.map fun d => d.shown.length + 2).sum + 2 := by
  rw [← piled_sum]
  have e : PyData.shown (.list ds) = listText (PyData.shownAll ds) := by simp only [PyData.shown]
  rw [e]
  have h := text_len (PyData.shownAll ds) 0 "["
  have hX : (listText (PyData.shownAll ds)).length = (textFrom 0 "[" (PyData.shownAll ds)).length + 1 := by
    show (textFrom 0 "[" (PyData.shownAll ds) ++ "]").length = _
    rw [strLen_append]; rfl
  have e1 : ((("[" : String) : Str)).length = 1 := rfl
  omega
theorem kv_sum : ∀ es : List (D × D), piled (PyData.shownKv es) = (es.map fun p => p.1.shown.length + p.2.shown.length + 4).sum
  | [] => rfl
  | (k, d) :: es => by
    have := kv_sum es
    simp only [PyData.shownKv, piled_cons, List.map_cons, List.sum_cons]
    rw [strLen_append, strLen_append]
    have e : (((": " : String) : Str)).length = 2 := rfl
    omega
theorem dict_len (es : List (D × D)) : (PyData.shown (.dict es)).length ≤ (es.map fun p => p.1.shown.length + p.2.shown.length + 4).sum + 3 := by
  rw [← kv_sum]
  have e : PyData.shown (.dict es) = dictText (PyData.shownKv es) := by simp only [PyData.shown]
  rw [e]
  unfold dictText
  rw [strLen_append, strLen_append]
  have e1 : ((("{" : String) : Str)).length = 1 := rfl
  have e2 : ((("}" : String) : Str)).length = 1 := rfl
  rw [e1, e2]
  by_cases h : PyData.shownKv es = []
  · rw [h]
    have : (Str.join ", " []).length = 0 := rfl
    omega
  · have := join_length_add _ h
    omega
mutual
theorem shown_le : ∀ d : D, good d = true → d.showable = true ∧ d.shown.length ≤ cost d
  | .none, _ => ⟨rfl, by decide +kernel⟩
  | .bool b, _ => ⟨rfl, by cases b <;> decide +kernel⟩
  | .int i, h => by
    simp only [good, Bool.and_eq_true, decide_eq_true_eq] at h
    refine ⟨by simp only [PyData.showable, decide_eq_true_eq]; exact h.1, ?_⟩
    have : cost (.int i) = 24 := rfl
    omega
  | .str x, h => by
    have h2 := (good_str h).2
    refine ⟨rfl, ?_⟩
    have : cost (.str x) = 24 := rfl
    have e : (PyData.shown (.str x)).length = (reprText x).length := by simp only [PyData.shown]
    omega
  | .list ds, h => by
    simp only [good, Bool.and_eq_true, decide_eq_true_eq] at h
    obtain ⟨b, c⟩ := shown_leAll ds h.2
    have := list_len ds
    have e : cost (.list ds) = costAll ds + 24 := rfl
    exact ⟨by simp only [PyData.showable]; exact b, by omega⟩
  | .tuple ds, h => by
    simp only [good, Bool.and_eq_true, decide_eq_true_eq] at h
    obtain ⟨b, c⟩ := shown_leAll ds h.2
    have := tuple_len ds
    have e : cost (.tuple ds) = costAll ds + 24 := rfl
    exact ⟨by simp only [PyData.showable]; exact b, by omega⟩
  | .dict es, h => by
    simp only [good, Bool.and_eq_true, decide_eq_true_eq] at h
    obtain ⟨b, c⟩ := shown_leKv es h.2
    have := dict_len es
    have e : cost (.dict es) = costKv es + 24 := rfl
    exact ⟨by simp only [PyData.showable]; exact b, by omega⟩
theorem shown_leAll : ∀ ds : List D, goodAll ds = true → PyData.showableAll ds = true ∧ (ds.map fun d => d.shown.length + 2).sum ≤ costAll ds
  | [], _ => ⟨rfl, Nat.zero_le _⟩
  | d :: ds, h => by
    simp only [goodAll, Bool.and_eq_true] at h
    obtain ⟨b, c⟩ := shown_le d h.1
    obtain ⟨b2, c2⟩ := shown_leAll ds h.2
    refine ⟨by simp only [PyData.showableAll, b, b2, Bool.and_self], ?_⟩
    rw [List.map_cons, List.sum_cons]
    have e : costAll (d :: ds) = cost d + 2 + costAll ds := rfl
    omega
theorem shown_leKv : ∀ es : List (D × D), goodKv es = true → PyData.showableKv es = true ∧ (es.map fun p => p.1.shown.length + p.2.shown.length + 4).sum ≤ costKv es
  | [], _ => ⟨rfl, Nat.zero_le _⟩
  | (k, d) :: es, h => by
    simp only [goodKv, Bool.and_eq_true] at h
    obtain ⟨b, c⟩ := shown_le k h.1.1
    obtain ⟨b1, c1⟩ := shown_le d h.1.2
    obtain ⟨b2, c2⟩ := shown_leKv es h.2
    refine ⟨by simp only [PyData.showableKv, b, b1, b2, Bool.and_self], ?_⟩
    rw [List.map_cons, List.sum_cons]
    have e : costKv ((k, d) :: es) = cost k + cost d + 4 + costKv es := rfl
    simp only
    omega
end
theorem repr_ok {d : D} (g : good d = true) (hd : d.depth ≤ 100) (hc : cost d ≤ 16000000) : reprFL [d] = some (.str d.shown) := by
  obtain ⟨b, c⟩ := shown_le d g
  have s : (16000000 : Nat) ≤ sizeLine := by decide
  refine if_pos ?_
  simp only [b, Bool.true_and, Bool.and_eq_true, decide_eq_true_eq]
  exact ⟨hd, by omega⟩
theorem eq_str (x : Str) : eqD (.str x) (.str x) = some (.bool true) := by
  show some (PyData.bool (x == x)) = _
  rw [beq_self_eq_true]
end K50
namespace K50
open PySem PySem.Spec PyProof.Rows L2 DL
theorem costAll_app : ∀ xs ys : List D, costAll (xs ++ ys) = costAll xs + costAll ys
  | [], ys => by simp [costAll]
  | x :: xs, ys => by
    have := costAll_app xs ys
    show cost x + 2 + costAll (xs ++ ys) = cost x + 2 + costAll xs + costAll ys
    omega
theorem cost_ge (d : D) : 24 ≤ cost d := by
  cases d with
  | list xs => show 24 ≤ costAll xs + 24; omega
  | tuple xs => show 24 ≤ costAll xs + 24; omega
  | dict es => show 24 ≤ costKv es + 24; omega
  | _ => exact Nat.le_refl _
theorem costAll_len : ∀ xs : List D, 26 * xs.length ≤ costAll xs
  | [] => Nat.zero_le _
  | x :: xs => by
    have := costAll_len xs
    have := cost_ge x
    show 26 * (xs.length + 1) ≤ cost x + 2 + costAll xs
    omega
theorem cost_rev : ∀ xs : List D, costAll xs.reverse = costAll xs
  | [] => rfl
  | x :: xs => by
    rw [List.reverse_cons, costAll_app, cost_rev xs]
    show costAll xs + (cost x + 2 + 0) = cost x + 2 + costAll xs
    omega
theorem depth_mem {p : Nat} : ∀ {xs : List D}, PyData.depthAll xs ≤ p ↔ ∀ d ∈ xs, d.depth ≤ p
  | [] => by simp [PyData.depthAll]
  | x :: xs => by
    simp only [PyData.depthAll, List.mem_cons, forall_eq_or_imp]
    rw [← depth_mem (xs := xs)]
    omega
/-- good, not deep, not costly -/
structure Nc (p k : Nat) (d : D) : Prop where
  g : good d = true
  dp : d.depth ≤ p
  ct : cost d ≤ k
theorem Nc.mono {p k p' k' : Nat} {d : D} (h : Nc p k d) (hp : p ≤ p') (hk : k ≤ k') : Nc p' k' d := ⟨h.g, Nat.le_trans h.dp hp, Nat.le_trans h.ct hk⟩
theorem nc_tup {p k : Nat} {xs : List D} (h : ∀ d ∈ xs, good d = true ∧ d.depth ≤ p) (hc : costAll xs + 24 ≤ k) (hl : xs.length ≤ 1000) : Nc (p + 1) k (.tuple xs) :=
  ⟨good_tup.mpr ⟨hl, fun d hd => (h d hd).1⟩, by have := depth_mem.mpr fun d hd => (h d hd).2
                                                 simp only [PyData.depth]; omega, hc⟩
theorem nc_lst {p k : Nat} {xs : List D} (h : ∀ d ∈ xs, good d = true ∧ d.depth ≤ p) (hc : costAll xs + 24 ≤ k) (hl : xs.length ≤ 1000) : Nc (p + 1) k (.list xs) :=
  ⟨good_lst.mpr ⟨hl, fun d hd => (h d hd).1⟩, by have := depth_mem.mpr fun d hd => (h d hd).2
                                                 simp only [PyData.depth]; omega, hc⟩
end K50
namespace K50
open PySem PySem.Spec PyProof.Rows L2 DL
def NmOk (n : Str) : Prop := good (.str n) = true ∧ nameB (.str n) = true
inductive It where
  | conv (n s t : Str) (b : Bool) (r : List Int)
  | defi (n : Str) (ps : List Str) (e : Str) (r : List Int)
def tI (r : List Int) : D := .tuple (r.map .int)
def It.d : It → D
  | .conv n s t b r => .tuple [.str (Str.ofString "conversion"), .str n, .str s, .str t, .bool b, tI r]
  | .defi n ps e r => .tuple [.str (Str.ofString "definition"), .str n, .tuple (ps.map .str), .str e, tI r]
def prodS (ks : List (Str × Int)) (ps : List Str) : Int := prodC ks (ps.map .str)
def IOk (ks : List (Str × Int)) : It → Prop
  | .conv n s t _ r => NmOk n ∧ (∃ p ∈ ks, s = p.1 ∧ (r.length : Int) = p.2) ∧ (∃ p ∈ ks, t = p.1 ∧ ∀ j ∈ r, 0 ≤ j ∧ j < p.2) ∧ s ≠ t
  | .defi n ps e r => NmOk n ∧ ps.length ≤ 3 ∧ (∀ q ∈ ps, ∃ p ∈ ks, q = p.1) ∧ (r.length : Int) = prodS ks ps ∧ r.length ≤ 64 ∧ ∃ p ∈ ks, e = p.1 ∧ ∀ j ∈ r, 0 ≤ j ∧ j < p.2
theorem ix_end {pre : List D} {x : D} : ixD (.tuple (pre ++ [x])) (.int (-1)) = some x := by
  show L2.atI (pre ++ [x]) (-1) = some x
  unfold L2.atI
  have e1 : ixN (pre ++ [x]).length (-1) = some pre.length := by
    unfold ixN
    rw [if_neg (by decide), if_pos (by simp; omega)]
    congr 1
    simp
    omega
  rw [e1]
  show (pre ++ [x])[pre.length]? = some x
  simp
theorem ix_nat {xs : List D} {k : Nat} {d : D} (h : xs[k]? = some d) : ixD (.tuple xs) (.int (k : Nat)) = some d := atI_nat h
theorem add_tup {xs ys : List D} (h : xs.length + ys.length ≤ 100000) : addD (.tuple xs) (.tuple ys) = some (.tuple (xs ++ ys)) := if_pos (by have := small; omega)
theorem cons_any {α : Type} {xs : List α} {i : Nat} {y : α} (h : xs[i]? = some y) : xs.drop i = y :: xs.drop (i + 1) := by
  obtain ⟨hlt, e⟩ := List.getElem?_eq_some_iff.mp h
  rw [List.drop_eq_getElem_cons hlt, e]
def It.row : It → List Int
  | .conv _ _ _ _ r => r
  | .defi _ _ _ r => r
def It.tgt : It → Str
  | .conv _ _ t _ _ => t
  | .defi _ _ e _ => e
def It.pre : It → List D
  | .conv n s t b _ => [.str (Str.ofString "conversion"), .str n, .str s, .str t, .bool b]
  | .defi n ps e _ => [.str (Str.ofString "definition"), .str n, .tuple (ps.map .str), .str e]
theorem It.d_eq (it : It) : it.d = .tuple (it.pre ++ [tI it.row]) := by cases it <;> rfl
theorem It.plen (it : It) : it.pre.length = 4 ∨ it.pre.length = 5 := by cases it; exact .inr rfl; exact .inl rfl
theorem It.p3 (it : It) : it.pre[3]? = some (.str it.tgt) := by cases it <;> rfl
theorem kind_mem {ks : List (Str × Int)} {p : Str × Int} (h : p ∈ ks) : kindB ks (.str p.1) = true :=
  List.any_eq_true.mpr ⟨p.1, List.mem_map_of_mem h, by show (p.1 == p.1) = true; exact beq_self_eq_true _⟩
theorem kinds_all {ks : List (Str × Int)} {ps : List Str} (h : ∀ q ∈ ps, ∃ p ∈ ks, q = p.1) : (ps.map PyData.str).all (kindB ks) = true := by
  rw [List.all_eq_true]
  intro x hx
  obtain ⟨q, hq, rfl⟩ := List.mem_map.mp hx
  obtain ⟨p, hp, rfl⟩ := h q hq
  exact kind_mem hp
theorem IOk.row {ks : List (Str × Int)} (hk : KS ks) {it : It} (h : IOk ks it) : it.row ≠ [] ∧ it.row.length ≤ 64 ∧ ∃ p ∈ ks, it.tgt = p.1 ∧ ∀ j ∈ it.row, 0 ≤ j ∧ j < p.2 := by
  cases it with
  | conv n s t b r =>
    obtain ⟨_, ⟨p, hp, _, hl⟩, ⟨p2, hp2, e, hr⟩, _⟩ := h
    have := hk.cnt p hp
    refine ⟨fun z => ?_, show r.length ≤ 64 by omega, p2, hp2, e, hr⟩
    have z : r = [] := z
    subst z
    simp at hl
    omega
  | defi n ps e r =>
    obtain ⟨_, _, hq, hl, h64, p, hp, he, hr⟩ := h
    refine ⟨fun z => ?_, h64, p, hp, he, hr⟩
    have z : r = [] := z
    subst z
    have := prod_pos hk (xs := ps.map .str) 1 (by decide) (kinds_all hq)
    have e2 : prodS ks ps = (ps.map PyData.str).foldl (fun a x => a * cntD ks x) 1 := rfl
    simp at hl
    omega
theorem name_len {x : Str} (h : nameB (.str x) = true) : 1 ≤ x.length := by
  simp only [nameB, Bool.and_eq_true, decide_eq_true_eq] at h
  exact h.1.1
theorem tab_true {r : List Int} {n m : Int} (hl : (r.length : Int) = n) (hr : ∀ j ∈ r, 0 ≤ j ∧ j < m) : tabB n m (tI r) = true := by
  show (decide (((r.map PyData.int).length : Int) = n) && (r.map PyData.int).all (numB 0 (m - 1))) = true
  rw [List.length_map, decide_eq_true hl, Bool.true_and, List.all_eq_true]
  intro x hx
  obtain ⟨j, hj, rfl⟩ := List.mem_map.mp hx
  have := hr j hj
  show (decide (0 ≤ j) && decide (j ≤ m - 1)) = true
  rw [decide_eq_true this.1, decide_eq_true (show j ≤ m - 1 by omega)]; rfl
theorem item_true {ks : List (Str × Int)} (hk : KS ks) {it : It} (h : IOk ks it) : itemB ks it.d = true := by
  cases it with
  | conv n s t b r =>
    obtain ⟨hn, ⟨p, hp, rfl, hl⟩, ⟨p2, hp2, rfl, hr⟩, ne⟩ := h
    show (eqS (.str (Str.ofString "conversion")) (Str.ofString "conversion") && convB ks (.str n) (.str p.1) (.str p2.1) (.bool b) (tI r)) = true
    have e1 : eqS (.str (Str.ofString "conversion")) (Str.ofString "conversion") = true := by show (_ == _) = true; exact beq_self_eq_true _
    have e2 : sameS (.str p.1) (.str p2.1) = false := by show (p.1 == p2.1) = false; exact beq_eq_false_iff_ne.mpr ne
    unfold convB
    rw [e1, hn.2, kind_mem hp, kind_mem hp2, e2, cnt_mem hk hp, cnt_mem hk hp2, tab_true hl hr]; rfl
  | defi n ps e r =>
    obtain ⟨hn, h3, hq, hl, h64, p, hp, rfl, hr⟩ := h
    show (eqS (.str (Str.ofString "definition")) (Str.ofString "definition") && defiB ks (.str n) (.tuple (ps.map .str)) (.str p.1) (tI r)) = true
    have e1 : eqS (.str (Str.ofString "definition")) (Str.ofString "definition") = true := by show (_ == _) = true; exact beq_self_eq_true _
    have e2 : parsB ks (.tuple (ps.map .str)) = true := by
      show (decide ((ps.map PyData.str).length ≤ 3) && (ps.map PyData.str).all (kindB ks)) = true
      rw [List.length_map, decide_eq_true h3, kinds_all hq]; rfl
    have e3 : prodOf ks (.tuple (ps.map .str)) = prodS ks ps := rfl
    unfold defiB
    rw [e1, hn.2, e2, kind_mem hp, e3, cnt_mem hk hp, decide_eq_true (show prodS ks ps ≤ 64 by omega), tab_true hl hr]; rfl
theorem int_good {j : Int} (h : 0 ≤ j ∧ j < 8) : good (.int j) = true := by
  have : j = 0 ∨ j = 1 ∨ j = 2 ∨ j = 3 ∨ j = 4 ∨ j = 5 ∨ j = 6 ∨ j = 7 := by omega
  rcases this with rfl | rfl | rfl | rfl | rfl | rfl | rfl | rfl <;> decide +kernel
theorem cost_const {α : Type} {f : α → D} {k : Nat} : ∀ {xs : List α}, (∀ x ∈ xs, cost (f x) ≤ k) → costAll (xs.map f) ≤ xs.length * (k + 2)
  | [], _ => Nat.zero_le _
  | x :: xs, h => by
    have h1 := h x (.head _)
    have h2 := cost_const (xs := xs) fun y hy => h y (.tail _ hy)
    show cost (f x) + 2 + costAll (xs.map f) ≤ (xs.length + 1) * (k + 2)
    rw [Nat.add_mul, Nat.one_mul]; omega
theorem row_nc {r : List Int} {m : Int} (hm : m ≤ 8) (hl : r.length ≤ 64) (hr : ∀ j ∈ r, 0 ≤ j ∧ j < m) : Nc 1 1700 (tI r) := by
  refine nc_tup (p := 0) (fun d hd => ?_) ?_ (by rw [List.length_map]; omega)
  · obtain ⟨j, hj, rfl⟩ := List.mem_map.mp hd
    have := hr j hj
    exact ⟨int_good ⟨this.1, by omega⟩, Nat.le_refl _⟩
  · have := cost_const (f := PyData.int) (k := 24) (xs := r) fun x _ => Nat.le_refl _
    omega
theorem strs_nc {ps : List Str} (h : ∀ q ∈ ps, good (.str q) = true) (hl : ps.length ≤ 40) : Nc 1 1100 (.tuple (ps.map .str)) := by
  refine nc_tup (p := 0) (fun d hd => ?_) ?_ (by rw [List.length_map]; omega)
  · obtain ⟨j, hj, rfl⟩ := List.mem_map.mp hd
    exact ⟨h j hj, Nat.le_refl _⟩
  · have := cost_const (f := PyData.str) (k := 24) (xs := ps) fun x _ => Nat.le_refl _
    omega
theorem item_nc {ks : List (Str × Int)} (hk : KS ks) (hg : ∀ p ∈ ks, good (.str p.1) = true) {it : It} (h : IOk ks it) : Nc 2 3500 it.d := by
  cases it with
  | conv n s t b r =>
    obtain ⟨hn, ⟨p, hp, rfl, hl⟩, ⟨p2, hp2, rfl, hr⟩, ne⟩ := h
    have c1 := hk.cnt p hp
    have c2 := hk.cnt p2 hp2
    have hrow := row_nc c2.2 (by omega) hr
    refine nc_tup (p := 1) (fun d hd => ?_) ?_ (by simp)
    · simp only [List.mem_cons, List.not_mem_nil, or_false] at hd
      rcases hd with rfl | rfl | rfl | rfl | rfl | rfl
      · exact ⟨by decide +kernel, Nat.zero_le _⟩
      · exact ⟨hn.1, Nat.zero_le _⟩
      · exact ⟨hg p hp, Nat.zero_le _⟩
      · exact ⟨hg p2 hp2, Nat.zero_le _⟩
      · exact ⟨rfl, Nat.zero_le _⟩
      · exact ⟨hrow.g, hrow.dp⟩
    · have := hrow.ct
      show (24 + 2 + (24 + 2 + (24 + 2 + (24 + 2 + (24 + 2 + (cost (tI r) + 2 + 0)))))) + 24 ≤ 3500
      omega
  | defi n ps e r =>
    obtain ⟨hn, h3, hq, hl, h64, p, hp, rfl, hr⟩ := h
    have c1 := hk.cnt p hp
    have hrow := row_nc c1.2 h64 hr
    have hps := strs_nc (ps := ps) (fun q hq' => by obtain ⟨p, hp, rfl⟩ := hq q hq'; exact hg p hp) (by omega)
    refine nc_tup (p := 1) (fun d hd => ?_) ?_ (by simp)
    · simp only [List.mem_cons, List.not_mem_nil, or_false] at hd
      rcases hd with rfl | rfl | rfl | rfl | rfl
      · exact ⟨by decide +kernel, Nat.zero_le _⟩
      · exact ⟨hn.1, Nat.zero_le _⟩
      · exact ⟨hps.g, hps.dp⟩
      · exact ⟨hg p hp, Nat.zero_le _⟩
      · exact ⟨hrow.g, hrow.dp⟩
    · have := hrow.ct
      have := hps.ct
      show (24 + 2 + (24 + 2 + (cost (.tuple (ps.map .str)) + 2 + (24 + 2 + (cost (tI r) + 2 + 0))))) + 24 ≤ 3500
      omega
theorem kd_nc {ks : List (Str × Int)} (hk : KS ks) (hg : ∀ p ∈ ks, good (.str p.1) = true) : Nc 2 600 (kd ks) := by
  have hl := hk.len
  have each : ∀ p ∈ ks, Nc 1 76 (pD p) := fun p hp => by
    have c := hk.cnt p hp
    refine nc_tup (p := 0) (fun d hd => ?_) (show (24 + 2 + (24 + 2 + 0)) + 24 ≤ 76 by decide) (by simp)
    simp only [List.mem_cons, List.not_mem_nil, or_false] at hd
    rcases hd with rfl | rfl
    · exact ⟨hg p hp, Nat.le_refl _⟩
    · refine ⟨?_, Nat.le_refl _⟩
      by_cases h8 : p.2 < 8
      · exact int_good ⟨by omega, h8⟩
      · rw [show p.2 = 8 by omega]; decide +kernel
  refine nc_tup (p := 1) (fun d hd => ?_) ?_ (by rw [List.length_map]; omega)
  · obtain ⟨p, hp, rfl⟩ := List.mem_map.mp hd
    exact ⟨(each p hp).g, (each p hp).dp⟩
  · have := cost_const (f := pD) (k := 76) (xs := ks) fun p hp => (each p hp).ct
    omega
end K50
namespace K50
open PySem PySem.Spec PyProof.Rows L2 DL
/-! ### names -/
def words14 : List Str := ["add", "one", "neg", "mix", "to", "as", "wrap", "kind", "limit", "implicit", "explicit", "input", "call", "cast"]
def stems : List Str := ["", "", "x", "abc", "zzzzzzz"]
theorem words_ok : ∀ x ∈ words14, NmOk x := by
  have h : ∀ x ∈ words14, (good (.str x) && nameB (.str x)) = true := by decide +kernel
  intro x hx
  have := h x hx
  rw [Bool.and_eq_true] at this
  exact this
theorem words_nd : words14.Nodup := by decide +kernel
def bname (st : Str) (k : Nat) : Str := st ++ ⟨#[97 + k]⟩
theorem bname_ok {st : Str} (hs : st ∈ stems) {k : Nat} (hk : k < 26) : NmOk (bname st k) := by
  have h : ∀ st ∈ stems, ∀ k : Fin 26, (good (.str (bname st k.1)) && nameB (.str (bname st k.1))) = true := by decide +kernel
  have := h st hs ⟨k, hk⟩
  rw [Bool.and_eq_true] at this
  exact this
theorem bname_inj {st : Str} {a b : Nat} (h : bname st a = bname st b) : a = b := by
  have h := congrArg (fun x : Str => x.cps.toList) h
  have e : ∀ k, (bname st k).cps.toList = st.cps.toList ++ [97 + k] := fun k => by
    show (st.cps ++ #[97 + k]).toList = _
    simp
  simp only [e] at h
  have h := List.append_cancel_left h
  simp only [List.cons.injEq, and_true] at h
  omega
theorem abc_ix {i : Nat} (h : i < 26) : ixD (.str (Str.ofString "abcdefghijklmnopqrstuvwxyz")) (.int (i : Nat)) = some (.str ⟨#[97 + i]⟩) := by
  have z : (Str.ofString "abcdefghijklmnopqrstuvwxyz").length ≤ sizeLine := by decide +kernel
  show (if (Str.ofString "abcdefghijklmnopqrstuvwxyz").length ≤ sizeLine then (L2.atI (Str.ofString "abcdefghijklmnopqrstuvwxyz").cps.toList ((i : Nat) : Int)).map (fun c => PyData.str ⟨#[c]⟩) else none) = _
  rw [if_pos z, abc_cps]
  have e : L2.atI ((List.range 26).map (97 + ·)) ((i : Nat) : Int) = some (97 + i) := atI_nat (by rw [List.getElem?_map, List.getElem?_range h]; rfl)
  rw [e]; rfl
theorem leap_inj {f l n m : Nat} (hl : l = 1 ∨ l = 3 ∨ l = 5 ∨ l = 7 ∨ l = 9 ∨ l = 11) (hn : n < 6) (hm : m < 6) (h : (f + l * n) % 26 = (f + l * m) % 26) : n = m := by
  rcases hl with rfl | rfl | rfl | rfl | rfl | rfl <;> omega
theorem seq_ok {i : Int} {n : Nat} (h0 : 0 ≤ i) (h : i.toNat < n) : seqIndex? i n = some i.toNat := by
  unfold seqIndex?
  simp only [show ¬ i < 0 by omega, if_false]
  first
    | (rw [if_pos (by omega)])
    | (simp; omega)
theorem erase_map {α β : Type} {f : α → β} : ∀ (xs : List α) (k : Nat), (xs.map f).eraseIdx k = (xs.eraseIdx k).map f
  | [], _ => rfl
  | x :: xs, 0 => rfl
  | x :: xs, k + 1 => by simp [List.eraseIdx, erase_map xs k]
theorem perm_erase {α : Type} {xs : List α} {m : Nat} {x : α} (h : xs[m]? = some x) : xs.Perm (x :: xs.eraseIdx m) := by
  induction xs generalizing m with
  | nil => cases h
  | cons y ys ih =>
    cases m with
    | zero => cases h; exact .refl _
    | succ m =>
      have h : ys[m]? = some x := h
      exact ((ih h).cons y).trans (.swap ..)
end K50
namespace K50
open PySem PySem.Spec PyProof.Rows L2 DL
set_option maxHeartbeats 4000000 in
theorem names_ok {c : Nat} {ps : List D} {m : Int} {Q : Rv → List D → Prop} (hp : Pot c ps) (hc : c < 800000) (m0 : 1 ≤ m) (m6 : m ≤ 6)
    (q : ∀ (ns : List Str) ps', ns.length = m.toNat → ns.Nodup → (∀ n ∈ ns, NmOk n) → Pot (c + 20) ps' → Q (.f (ns.map .str)) ps') : w__law_names ps [.int m] Q := by
  have sm := small
  refine ⟨show 12 ≤ sizeLine by decide, .inr ⟨_, rfl, show 2 ≤ sizeLine by decide, _, _, rfl, rfl, show 14 ≤ sizeLine by decide, ?_⟩⟩
  refine ⟨⟨_, rfl⟩, ps, rfl, rfl, take_ok hp (by omega) (by decide) (by decide) fun r ps1 r0 r1 hp1 => ⟨_, rfl, _, rfl, _, rfl, ?_⟩⟩
  refine ite2 (fun c1 => ?_) (fun c1 => ?_)
  · refine .inl ⟨_, rfl, m, rfl, by omega, by omega, fun i acc ρ => ∃ (left got : List Str) (ps' : List D), acc = got.map .str ∧ got.length = i ∧ (got ++ left).Perm words14 ∧ Pot (c + 1 + i) ps' ∧ ρ = [.own ps', .dat (.int m), .own (left.map .str), .un, .un, .un, .un, .un, .un], ⟨words14, [], ps1, rfl, rfl, .refl _, hp1, rfl⟩, ?_, ?_⟩
    · rintro i x acc ρ hx ⟨left, got, ps', rfl, rfl, pm, hp', rfl⟩
      obtain ⟨rfl, hlt⟩ := upto_get hx
      have hll := pm.length_eq
      rw [List.length_append] at hll
      have h14 : words14.length = 14 := rfl
      have hpos : 0 < left.length := by omega
      have hl2 : (((left).map PyData.str).length : Int) = (left.length : Nat) := by rw [List.length_map]
      refine ⟨⟨_, rfl⟩, ⟨_, rfl⟩, .inr ⟨_, rfl, _, rfl, rfl, take_ok hp' (by omega) (by rw [hl2]; omega) (by rw [hl2]; omega) fun r ps2 r0 r1 hp2 => ⟨_, rfl, ?_⟩⟩⟩
      rw [hl2] at r1
      have hm : r.toNat < left.length := by omega
      refine ⟨_, r, r.toNat, .str left[r.toNat], rfl, rfl, by omega, by omega, seq_ok r0 (by rw [List.length_map]; exact hm), by rw [List.getElem?_map, List.getElem?_eq_getElem hm]; rfl, ?_⟩
      refine ⟨by rw [List.length_map]; omega, left.eraseIdx r.toNat, got ++ [left[r.toNat]], ps2, by rw [List.map_append]; rfl, by simp, ?_, hp2, ?_⟩
      · refine List.Perm.trans ?_ pm
        rw [List.append_assoc]
        exact (List.Perm.append_left got (perm_erase (List.getElem?_eq_getElem hm)).symm)
      · rw [erase_map]; rfl
    · rintro acc ρ ⟨left, got, ps', rfl, hg, pm, hp', rfl⟩
      rw [upto_length] at hg hp'
      refine ⟨ps', rfl, q got ps' hg ?_ (fun n hn => words_ok n (pm.mem_iff.mp (List.mem_append_left _ hn))) (hp'.mono (by omega))⟩
      have := pm.nodup_iff.mpr words_nd
      exact (List.nodup_append.mp this).1
  · refine ⟨⟨_, rfl⟩, ps1, rfl, rfl, take_ok hp1 (by omega) (by decide) (by decide) fun f ps2 f0 f1 hp2 => ⟨_, rfl, ⟨_, rfl⟩, show 6 ≤ sizeLine by decide, ps2, rfl, rfl, of_ok hp2 (by omega) (by simp) (by simp) fun l ps3 hl hp3 => ⟨_, rfl, show 2 ≤ sizeLine by decide, _, rfl, rfl, ?_⟩⟩⟩
    have hl' : ∃ a : Nat, l = .int (a : Nat) ∧ (a = 1 ∨ a = 3 ∨ a = 5 ∨ a = 7 ∨ a = 9 ∨ a = 11) := by
      simp only [List.mem_cons, List.not_mem_nil, or_false] at hl
      rcases hl with rfl | rfl | rfl | rfl | rfl | rfl
      · exact ⟨1, rfl, by decide⟩
      · exact ⟨3, rfl, by decide⟩
      · exact ⟨5, rfl, by decide⟩
      · exact ⟨7, rfl, by decide⟩
      · exact ⟨9, rfl, by decide⟩
      · exact ⟨11, rfl, by decide⟩
    obtain ⟨l, rfl, lodd⟩ := hl'
    obtain ⟨f, rfl⟩ : ∃ a : Nat, f = (a : Nat) := ⟨f.toNat, by omega⟩
    refine ⟨⟨_, rfl⟩, show 5 ≤ sizeLine by decide, ps3, rfl, rfl, of_ok hp3 (by omega) (by simp) (by simp) fun s ps4 hs hp4 => ⟨_, rfl, ?_⟩⟩
    have hst : ∃ st ∈ stems, s = .str st := by
      have hs : s ∈ stems.map PyData.str := hs
      obtain ⟨st, h, e⟩ := List.mem_map.mp hs
      exact ⟨st, h, e.symm⟩
    obtain ⟨st, hst, rfl⟩ := hst
    have hsl : st.length ≤ 7 := by
      have h : ∀ st ∈ stems, st.length ≤ 7 := by decide +kernel
      exact h st hst
    have hl11 : l ≤ 11 := by omega
    refine .inl ⟨_, rfl, m, rfl, by omega, by omega, fun i acc ρ => acc = ((List.range i).map fun n => PyData.str (bname st ((f + l * n) % 26))) ∧ ρ = [.own ps4, .dat (.int m), .own (words14.map .str), .dat (.str (Str.ofString "abcdefghijklmnopqrstuvwxyz")), .dat (.int (f : Nat)), .dat (.int (l : Nat)), .dat (.str st), .un, .un], ⟨rfl, rfl⟩, ?_, ?_⟩
    · rintro i x acc ρ hx ⟨rfl, rfl⟩
      obtain ⟨rfl, hlt⟩ := upto_get hx
      have hk : (f + l * i) % 26 < 26 := Nat.mod_lt _ (by decide)
      have e1 : ((f : Int) + (l : Int) * (0 + (i : Int))) % 26 = (((f + l * i) % 26 : Nat) : Int) := by
        rw [Int.zero_add]; push_cast; rfl
      have e2 : addD (.str st) (.str ⟨#[97 + (f + l * i) % 26]⟩) = some (.str (bname st ((f + l * i) % 26))) := by
        show (if st.length + _ ≤ sizeLine then some (PyData.str (st ++ _)) else none) = _
        rw [if_pos]
        · rfl
        · show st.length + 1 ≤ sizeLine
          omega
      refine .inl ⟨_, rfl, .inl ⟨_, rfl⟩, .inl ⟨_, rfl, .inl ⟨_, rfl, .inl ⟨_, rfl, _, mul_ok (by omega) (Int.lt_trans (by omega : (l : Int) < 2 ^ 64) (by decide)) (by omega) (Int.lt_trans (by omega : (0 + (i : Int)) < 2 ^ 64) (by decide)), _, rfl, _, mod_ok (by decide), .inl ⟨_, _, rfl, (by rw [e1]; exact abc_ix hk), _, e2, ?_, ?_, rfl⟩⟩⟩⟩⟩
      · rw [List.length_map, List.length_range]; omega
      · rw [List.range_succ, List.map_append]; rfl
    · rintro acc ρ ⟨rfl, rfl⟩
      rw [upto_length]
      have e : ((List.range m.toNat).map fun n => PyData.str (bname st ((f + l * n) % 26))) = ((List.range m.toNat).map fun n => bname st ((f + l * n) % 26)).map .str := by rw [List.map_map]; rfl
      rw [e]
      refine ⟨ps4, rfl, q _ ps4 (by simp) ?_ (fun n hn => ?_) (hp4.mono (by omega))⟩
      · unfold List.Nodup
        rw [List.pairwise_map]
        refine List.Pairwise.imp_of_mem (fun {a b} ha hb hne e => hne ?_) (List.nodup_range (n := m.toNat))
        have ha := List.mem_range.mp ha
        have hb := List.mem_range.mp hb
        exact leap_inj lodd (by omega) (by omega) (bname_inj e)
      · obtain ⟨n, _, rfl⟩ := List.mem_map.mp hn
        exact bname_ok hst (Nat.mod_lt _ (by decide))
/-! ### kinds -/
theorem sorted_strs {ns : List Str} : PyData.plainAll (ns.map .str) = true ∧ PySem.W.AllAlike (ns.map PyData.str) ∧ PySem.W.Sortable (ns.map PyData.str) ∧ ∀ d, d ∈ ns.map PyData.str → d.depth ≤ 100 := by
  have hm : ∀ d ∈ ns.map PyData.str, ∃ x, d = .str x := fun d hd => by
    obtain ⟨p, _, rfl⟩ := List.mem_map.mp hd
    exact ⟨_, rfl⟩
  refine ⟨strs_plain ns, fun d hd d' hd' => ?_, ?_, fun d hd => ?_⟩
  · obtain ⟨x, rfl⟩ := hm d hd
    obtain ⟨y, rfl⟩ := hm d' hd'
    rfl
  · exact .inr fun d hd => by
      obtain ⟨x, rfl⟩ := hm d hd
      exact ⟨(fun h => nomatch h), (fun xs h => nomatch h)⟩
  · obtain ⟨x, rfl⟩ := hm d hd
    exact Nat.zero_le _
def srtN (l : List Str) : List Str := l.mergeSort fun a b => PySem.W.dataLe false (fun d : D => d) (.str a) (.str b)
theorem srtN_map (l : List Str) : (l.map PyData.str).mergeSort (PySem.W.dataLe false fun d => d) = (srtN l).map .str := (List.map_mergeSort (f := PyData.str) (fun _ _ _ _ => rfl)).symm
theorem srtN_perm (l : List Str) : (srtN l).Perm l := List.mergeSort_perm _ _
structure KN (ks : List (Str × Int)) : Prop where
  s : KS ks
  nm : ∀ p ∈ ks, NmOk p.1
  ne : ks ≠ []
theorem kinds_drawn {c : Nat} {ps : List D} {Q : Rv → List D → Prop} (hp : Pot c ps) (hc : c < 700000) (q : ∀ ks ps', KN ks → Pot (c + 40) ps' → Q (.d (kd ks)) ps') : w__law_kinds ps [.int 6, .int 8] Q := by
  have sm := small
  refine ⟨⟨_, rfl⟩, ⟨_, rfl⟩, .inl ⟨_, rfl, ps, rfl, rfl, take_ok hp (by omega) (by decide) (by decide) fun r ps1 r0 r1 hp1 => ⟨_, rfl, _, rfl, ps1, rfl, rfl, names_ok hp1 (by omega) (by omega) (by omega) fun ns ps2 hl nd nok hp2 => ⟨_, rfl, ?_⟩⟩⟩⟩
  obtain ⟨s1, s2, s3, s4⟩ := sorted_strs (ns := ns)
  refine ⟨_, rfl, s1, s2, s3, s4, ?_⟩
  rw [srtN_map]
  have pm := srtN_perm ns
  have hl2 := pm.length_eq
  generalize srtN ns = ms at pm hl2
  refine .inl ⟨_, rfl, _, rfl, fun i acc ρ => ∃ (cs : List Int) (ps' : List D), acc = ((ms.take i).zip cs).map pD ∧ cs.length = i ∧ (∀ j ∈ cs, 1 ≤ j ∧ j ≤ 8) ∧ Pot (c + 21 + i) ps' ∧ ρ = [.own ps', .dat (.int 6), .dat (.int 8), .dat (.list (ms.map .str)), .un], ⟨[], ps2, by simp, rfl, (fun _ h => nomatch h), hp2, rfl⟩, ?_, ?_⟩
  · rintro i x acc ρ hx ⟨cs, ps', rfl, hcl, hcs, hp', rfl⟩
    rw [List.getElem?_map] at hx
    cases hn : ms[i]? with
    | none => rw [hn] at hx; cases hx
    | some n =>
      rw [hn] at hx
      cases hx
      have hlt := (List.getElem?_eq_some_iff.mp hn).1
      refine .inl ⟨_, rfl, ⟨_, rfl⟩, .inl ⟨_, rfl, ps', rfl, rfl, take_ok hp' (by omega) (by decide) (by decide) fun r ps3 r0 r1 hp3 => ⟨_, rfl, _, rfl, show 2 ≤ sizeLine by decide, ?_⟩⟩⟩
      refine ⟨?_, cs ++ [1 + r], ps3, ?_, by simp [hcl], fun j hj => ?_, hp3, rfl⟩
      · rw [List.length_map, List.length_zip, List.length_take]; omega
      · have e : ms.take (i + 1) = ms.take i ++ [n] := by
          have := take_map (f := id) hn
          simpa using this
        rw [e, List.zip_append (by rw [List.length_take]; omega), List.map_append]
        rfl
      · rcases List.mem_append.mp hj with z | z
        · exact hcs j z
        · rw [List.mem_singleton.mp z]; omega
  · rintro acc ρ ⟨cs, ps', rfl, hcl, hcs, hp', rfl⟩
    rw [List.length_map] at hcl hp' ⊢
    rw [List.take_length]
    have e1 : (ms.zip cs).map (·.1) = ms := List.map_fst_zip (by omega)
    refine ⟨_, rfl, ps', rfl, q (ms.zip cs) ps' ⟨⟨?_, ?_, fun p hp => hcs _ (List.of_mem_zip hp).2⟩, fun p hp => nok _ (pm.mem_iff.mp (List.of_mem_zip hp).1), fun z => ?_⟩ (hp'.mono (by omega))⟩
    · rw [List.length_zip]; omega
    · rw [e1]; exact pm.nodup_iff.mpr nd
    · have := congrArg List.length z
      rw [List.length_zip, List.length_nil] at this
      omega
end K50
namespace K50
open PySem PySem.Spec PyProof.Rows L2 DL
def prodL (cs : List Int) : Int := cs.foldl (· * ·) 1
theorem prodL_take {cs : List Int} {i : Nat} {p : Int} (h : cs[i]? = some p) : prodL (cs.take (i + 1)) = prodL (cs.take i) * p := by
  have := take_map (f := id) h
  simp only [List.map_id, id_eq] at this
  unfold prodL
  rw [this, List.foldl_append]; rfl
theorem rows_ok {cs : List Int} (hc : ∀ j ∈ cs, 1 ≤ j ∧ j ≤ 8) (hl : cs.length ≤ 3) {Q : Rv → Prop}
    (q : ∀ rs : List (List Int), (rs.length : Int) = prodL cs → rs.length ≤ 512 → (∀ r ∈ rs, r.length ≤ 3 ∧ ∀ j ∈ r, 0 ≤ j ∧ j < 8) → Q (.d (.list (rs.map tI)))) : w__law_rows [.list (cs.map .int)] Q := by
  have sm := small
  refine ⟨show 0 ≤ sizeLine by decide, show 1 ≤ sizeLine by decide, ?_⟩
  refine .inl ⟨_, rfl, _, rfl, fun i ρ => ∃ (rs : List (List Int)) (s2 s3 s4 s5 : Sl), ρ = [.dat (.list (cs.map .int)), .dat (.list (rs.map tI)), s2, s3, s4, s5] ∧ (rs.length : Int) = prodL (cs.take i) ∧ rs.length ≤ 8 ^ i ∧ (∀ r ∈ rs, r.length ≤ i ∧ ∀ j ∈ r, 0 ≤ j ∧ j < 8), ?_, ?_, ?_⟩
  · exact ⟨[[]], _, _, _, _, rfl, rfl, by simp, fun r hr => by rw [List.mem_singleton.mp hr]; exact ⟨Nat.zero_le _, fun _ h => nomatch h⟩⟩
  · rintro i x ρ hx ⟨rs, s2, s3, s4, s5, rfl, hpr, hlen, hnn⟩
    rw [List.getElem?_map] at hx
    cases hni : cs[i]? with
    | none => rw [hni] at hx; cases hx
    | some p =>
      rw [hni] at hx
      cases hx
      have hlt := (List.getElem?_eq_some_iff.mp hni).1
      have hp := hc p (List.mem_of_getElem? hni)
      have h64 : rs.length ≤ 64 := by
        refine Nat.le_trans hlen ?_
        have : i = 0 ∨ i = 1 ∨ i = 2 := by omega
        rcases this with rfl | rfl | rfl <;> decide
      refine ⟨show 0 ≤ sizeLine by decide, ?_⟩
      refine .inl ⟨_, rfl, _, rfl, fun j ρ => ∃ (rs2 : List (List Int)) (s4 s5 : Sl), ρ = [.dat (.list (cs.map .int)), .dat (.list (rs.map tI)), .dat (.int p), .own (rs2.map tI), s4, s5] ∧ (rs2.length : Int) = j * p ∧ rs2.length ≤ j * 8 ∧ (∀ r ∈ rs2, r.length ≤ i + 1 ∧ ∀ j ∈ r, 0 ≤ j ∧ j < 8), ?_, ?_, ?_⟩
      · exact ⟨[], _, _, rfl, by simp, Nat.zero_le _, fun r hr => nomatch hr⟩
      · rintro j y ρ hy ⟨rs2, s4, s5, rfl, hne2, hlen2, hnn2⟩
        rw [List.getElem?_map] at hy
        cases hrj : rs[j]? with
        | none => rw [hrj] at hy; cases hy
        | some r =>
          rw [hrj] at hy
          cases hy
          have hjl := (List.getElem?_eq_some_iff.mp hrj).1
          have hr := hnn r (List.mem_of_getElem? hrj)
          refine ⟨⟨_, rfl⟩, .inl ⟨_, rfl, p, rfl, by omega, by omega, fun k acc ρ => ∃ (ext : List (List Int)), acc = ext.map tI ∧ ext.length = k ∧ (∀ r ∈ ext, r.length ≤ i + 1 ∧ ∀ j ∈ r, 0 ≤ j ∧ j < 8) ∧ ρ = [.dat (.list (cs.map .int)), .dat (.list (rs.map tI)), .dat (.int p), .own (rs2.map tI), .dat (tI r), .un], ?_, ?_, ?_⟩⟩
          · exact ⟨[], rfl, rfl, (fun r hr => nomatch hr), rfl⟩
          · rintro k z acc ρ hz ⟨ext, rfl, rfl, hext, rfl⟩
            obtain ⟨rfl, hlt2⟩ := upto_get hz
            refine .inl ⟨_, rfl, .inl ⟨_, rfl, show 1 ≤ sizeLine by decide, tI (r ++ [0 + (ext.length : Int)]), ?_, ?_⟩⟩
            · show (if (r.map PyData.int).length + 1 ≤ sizeLine then some (PyData.tuple (r.map .int ++ [.int (0 + (ext.length : Int))])) else none) = _
              rw [if_pos (by rw [List.length_map]; omega)]
              unfold tI
              rw [List.map_append]; rfl
            · refine ⟨by rw [List.length_map]; omega, ext ++ [r ++ [0 + (ext.length : Int)]], by rw [List.map_append]; rfl, by simp, fun r2 h2 => ?_, rfl⟩
              rcases List.mem_append.mp h2 with z | z
              · exact hext r2 z
              · rw [List.mem_singleton.mp z]
                refine ⟨by simp; omega, fun j hj => ?_⟩
                rcases List.mem_append.mp hj with z | z
                · exact hr.2 j z
                · rw [List.mem_singleton.mp z]; omega
          · rintro acc ρ ⟨ext, rfl, he, hext, rfl⟩
            rw [upto_length] at he
            have e4 : ext.length ≤ 8 := by omega
            refine ⟨_, _, rfl, rfl, by simp only [List.length_map]; omega, rs2 ++ ext, _, _, by rw [List.map_append]; rfl, ?_, by rw [List.length_append]; omega, fun r2 h2 => ?_⟩
            · rw [List.length_append]
              push_cast
              rw [hne2, Int.add_mul, Int.one_mul, he]
              omega
            · rcases List.mem_append.mp h2 with z | z
              · exact hnn2 r2 z
              · exact hext r2 z
      · rintro ρ ⟨rs2, s4, s5, rfl, hne2, hlen2, hnn2⟩
        rw [List.length_map] at hne2 hlen2
        refine .inr ⟨_, rfl, rs2, _, _, _, _, rfl, ?_, ?_, hnn2⟩
        · rw [hne2, prodL_take hni, hpr]
        · rw [Nat.pow_succ]
          exact Nat.le_trans hlen2 (Nat.mul_le_mul_right 8 hlen)
  · rintro ρ ⟨rs, s2, s3, s4, s5, rfl, hpr, hlen, hnn⟩
    rw [List.length_map] at hlen hpr
    rw [List.take_length] at hpr
    refine .inl ⟨_, rfl, q rs hpr (Nat.le_trans hlen (Nat.le_trans (Nat.pow_le_pow_right (by decide) hl) (by decide))) fun r hr => ?_⟩
    have := hnn r hr
    rw [List.length_map] at this
    exact ⟨by omega, this.2⟩
/-! ### a conversion -/
theorem ne_pD (p r : Str × Int) : neD (pD p) (pD r) = some (.bool (!(p.1 == r.1 && decide (p.2 = r.2)))) := by
  unfold neD
  rw [if_pos (by rfl)]
  show some (PyData.bool (!(PyData.eqv (.str p.1) (.str r.1) && (PyData.eqv (.int p.2) (.int r.2) && true)))) = _
  rw [ieq, Bool.and_true]
  rfl
def offB (one p : Str × Int) : Bool := !(p.1 == one.1 && decide (p.2 = one.2))
theorem off_ne {ks : List (Str × Int)} (hk : KS ks) {one p : Str × Int} (h1 : one ∈ ks) (hp : p ∈ ks) (h : offB one p = true) : p.1 ≠ one.1 := fun e => by
  have e2 : p = one := by
    have := lookD_mem (es := cntE ks) (k := .inr p.1) (d := .int p.2) (cnt_nd hk.nd) (List.mem_map.mpr ⟨p, hp, rfl⟩)
    have t := lookD_mem (es := cntE ks) (k := .inr one.1) (d := .int one.2) (cnt_nd hk.nd) (List.mem_map.mpr ⟨one, h1, rfl⟩)
    rw [e] at this
    rw [this] at t
    have t := Option.some.inj t
    exact Prod.ext e (PyData.int.inj t)
  subst e2
  unfold offB at h
  simp at h
theorem off_some {ks : List (Str × Int)} (hk : KS ks) (h2 : 2 ≤ ks.length) (one : Str × Int) : (ks.filter (offB one)) ≠ [] := fun z => by
  have all : ∀ p ∈ ks, p.1 = one.1 := fun p hp => by
    have : ¬ offB one p = true := fun h => by
      have : p ∈ ks.filter (offB one) := List.mem_filter.mpr ⟨hp, h⟩
      rw [z] at this; cases this
    unfold offB at this
    simp at this
    exact this.1
  match ks, h2, hk.nd, all with
  | a :: b :: r, _, nd, all =>
    have ha := all a (by simp)
    have hb := all b (by simp)
    simp [ha, hb] at nd
set_option maxHeartbeats 2000000 in
theorem conv_drawn {c : Nat} {ps : List D} {ks : List (Str × Int)} {nm : Str} {Q : Rv → List D → Prop} (hk : KN ks) (h2 : 2 ≤ ks.length) (hn : NmOk nm) (hp : Pot c ps) (hc : c < 900000)
    (q : ∀ s t b r ps', IOk ks (.conv nm s t b r) → Pot (c + 50) ps' → Q (.d (It.conv nm s t b r).d) ps') : w__law_conversion ps [kd ks, .str nm] Q := by
  have sm := small
  have hl := hk.s.len
  have hne : ks.map pD ≠ [] := fun z => hk.ne (List.map_eq_nil_iff.mp z)
  refine ⟨⟨_, rfl⟩, .inl ⟨_, rfl, ps, rfl, rfl, of_okT hp (by omega) hne (by rw [List.length_map]; omega) fun d ps1 hd hp1 => ⟨_, rfl, ?_⟩⟩⟩
  obtain ⟨one, h1, rfl⟩ := List.mem_map.mp hd
  refine ⟨⟨_, rfl⟩, .inl ⟨_, rfl, _, rfl, fun i acc ρ => acc = ((ks.take i).filter (offB one)).map pD ∧ ρ = [.own ps1, .dat (kd ks), .dat (.str nm), .dat (pD one), .un, .un, .un, .un, .un], ⟨rfl, rfl⟩, ?_, ?_⟩⟩
  · rintro i y acc ρ hy ⟨rfl, rfl⟩
    rw [List.getElem?_map] at hy
    cases hq : ks[i]? with
    | none => rw [hq] at hy; cases hy
    | some p =>
      rw [hq] at hy
      cases hy
      have e : ks.take (i + 1) = ks.take i ++ [p] := by
        have := take_map (f := id) hq
        simpa using this
      refine .inl ⟨_, rfl, .inl ⟨_, rfl, _, ne_pD p one, _, rfl, ite2 (fun c1 => .inl ⟨_, rfl, ?_, ?_, rfl⟩) (fun c1 => ⟨?_, rfl⟩)⟩⟩
      · rw [List.length_map]
        have := List.length_filter_le (offB one) (ks.take i)
        rw [List.length_take] at this
        omega
      · rw [e, List.filter_append]
        have : offB one p = true := c1
        simp [this]
      · rw [e, List.filter_append]
        have : offB one p = false := Bool.eq_false_iff.mpr c1
        simp [this]
  rintro acc ρ ⟨rfl, rfl⟩
  have ek : ks.take (ks.map pD).length = ks := by rw [List.length_map, List.take_length]
  rw [ek]
  have hne2 : (ks.filter (offB one)).map pD ≠ [] := fun z => off_some hk.s h2 one (List.map_eq_nil_iff.mp z)
  refine ⟨ps1, rfl, rfl, of_ok hp1 (by omega) hne2 (by rw [List.length_map]; have := List.length_filter_le (offB one) ks; omega) fun d ps2 hd hp2 => ⟨_, rfl, ⟨_, rfl⟩, ps2, rfl, rfl, take_ok hp2 (by omega) (by decide) (by decide) fun r ps3 r0 r1 hp3 => ⟨_, rfl, _, rfl, show 2 ≤ sizeLine by decide, _, rfl, rfl, ?_⟩⟩⟩
  obtain ⟨other, ho, rfl⟩ := List.mem_map.mp hd
  obtain ⟨ho, hoff⟩ := List.mem_filter.mp ho
  have hne3 := off_ne hk.s h1 ho hoff
  have c1 := hk.s.cnt one h1
  have c2 := hk.s.cnt other ho
  generalize (PyData.int r).eqv (.int 0) = b
  refine ⟨.inl ⟨_, rfl⟩, .inl ⟨_, _, rfl, rfl, one.2, rfl, by omega, by omega, fun i acc ρ => ∃ (is : List Int) (ps' : List D), acc = is.map .int ∧ is.length = i ∧ (∀ j ∈ is, 0 ≤ j ∧ j < other.2) ∧ Pot (c + 3 + i) ps' ∧ ρ = [.own ps', .dat (kd ks), .dat (.str nm), .dat (pD one), .dat (pD other), .dat (.bool b), .un, .un, .un], ⟨[], ps3, rfl, rfl, (fun _ h => nomatch h), hp3, rfl⟩, ?_, ?_⟩⟩
  · rintro i x acc ρ hx ⟨is, ps', rfl, rfl, his, hp', rfl⟩
    obtain ⟨rfl, hlt⟩ := upto_get hx
    have put : ∀ (j : Int), 0 ≤ j → j < other.2 → ∀ x ∈ is ++ [j], 0 ≤ x ∧ x < other.2 := fun j j0 j1 x hx => by
      rcases List.mem_append.mp hx with z | z
      · exact his x z
      · rw [List.mem_singleton.mp z]; exact ⟨j0, j1⟩
    refine .inl ⟨_, rfl, _, rfl, ite2 (fun cb => ?_) (fun cb => ?_)⟩
    · refine .inl ⟨_, rfl, .inl ⟨_, rfl⟩, .inl ⟨_, _, rfl, rfl, _, mod_ok (by omega), ?_, is ++ [(0 + (is.length : Int)) % other.2], ps', by rw [List.map_append]; rfl, by simp, put _ (Int.emod_nonneg _ (by omega)) (Int.emod_lt_of_pos _ (by omega)), hp'.mono (by omega), rfl⟩⟩
      rw [List.length_map]; omega
    · refine ⟨⟨_, rfl⟩, .inl ⟨_, rfl⟩, .inl ⟨_, _, rfl, rfl, ps', rfl, rfl, take_ok hp' (by omega) (by omega) (by omega) fun r ps4 r0 r1 hp4 => ⟨_, rfl, ?_, is ++ [r], ps4, by rw [List.map_append]; rfl, by simp, put r r0 r1, hp4.mono (by omega), rfl⟩⟩⟩
      rw [List.length_map]; omega
  · rintro acc ρ ⟨is, ps4, rfl, hil, his, hp4, rfl⟩
    rw [upto_length] at hil hp4
    refine .inl ⟨_, rfl, .inl ⟨_, rfl⟩, .inl ⟨_, _, rfl, rfl, .inl ⟨_, rfl⟩, .inl ⟨_, _, rfl, rfl, ⟨_, rfl⟩, ps4, rfl, rfl, take_ok hp4 (by omega) (by decide) (by decide) fun r ps5 r0 r1 hp5 => ⟨_, rfl, _, rfl, .inl ⟨_, rfl, _, rfl, show 6 ≤ sizeLine by decide, ps5, rfl, ?_⟩⟩⟩⟩⟩
    exact q one.1 other.1 _ is ps5 ⟨hn, ⟨one, h1, rfl, by omega⟩, ⟨other, ho, rfl, his⟩, Ne.symm hne3⟩ (hp5.mono (by omega))
end K50
namespace K50
open PySem PySem.Spec PyProof.Rows L2 DL
def nbB (ρ : List Sl) : Bool := ρ.all fun s => match s with
  | .bag _ => false
  | _ => true
theorem noBag_b {ρ : List Sl} (h : nbB ρ = true) : NoBag ρ := fun j ks e => by
  have := List.all_eq_true.mp h _ (List.mem_of_getElem? e)
  cases this
theorem flat_pD : ∀ ss : List (Str × Int), flatA (ss.map pD) = true
  | [] => rfl
  | p :: ss => by
    show (flatD (pD p) && flatA (ss.map pD)) = true
    rw [flat_pD ss]; rfl
theorem prod_foldl {ks : List (Str × Int)} (hk : KS ks) : ∀ (ss : List (Str × Int)) (a : Int), (∀ p ∈ ss, p ∈ ks) → (ss.map fun p => PyData.str p.1).foldl (fun a x => a * cntD ks x) a = (ss.map (·.2)).foldl (· * ·) a
  | [], _, _ => rfl
  | p :: ss, a, h => by
    show (ss.map fun p => PyData.str p.1).foldl (fun a x => a * cntD ks x) (a * cntD ks (.str p.1)) = (ss.map (·.2)).foldl (· * ·) (a * p.2)
    rw [cnt_mem hk (h p (List.mem_cons_self ..)), prod_foldl hk ss _ fun q hq => h q (List.mem_cons_of_mem _ hq)]
theorem prod_eq {ks : List (Str × Int)} (hk : KS ks) {ss : List (Str × Int)} (h : ∀ p ∈ ss, p ∈ ks) : prodS ks (ss.map (·.1)) = prodL (ss.map (·.2)) := by
  unfold prodS prodC prodL
  rw [List.map_map]
  exact prod_foldl hk ss 1 h
set_option maxHeartbeats 8000000 in
theorem def_drawn {c : Nat} {ps : List D} {ks : List (Str × Int)} {op : Str} {most : Int} {Q : Rv → List D → Prop} (hk : KN ks) (hn : NmOk op) (m0 : 0 ≤ most) (m3 : most ≤ 3) (hp : Pot c ps) (hc : c < 900000)
    (q : ∀ qs e r ps', IOk ks (.defi op qs e r) → Pot (c + 600) ps' → Q (.d (It.defi op qs e r).d) ps') : w__law_definition ps [kd ks, .str op, .int most] Q := by
  have sm := small
  have hl := hk.s.len
  have hne : ks.map pD ≠ [] := fun z => hk.ne (List.map_eq_nil_iff.mp z)
  have hln : (ks.map pD).length ≤ 1000 := by rw [List.length_map]; omega
  refine ⟨⟨_, rfl⟩, .inl ⟨_, rfl, _, rfl, ps, rfl, rfl, take_ok hp (by omega) (by omega) (by omega) fun a ps1 a0 a1 hp1 => ⟨_, rfl, a, rfl, by omega, by omega, fun i acc ρ => ∃ (ss : List (Str × Int)) (ps' : List D), acc = ss.map pD ∧ ss.length = i ∧ (∀ p ∈ ss, p ∈ ks) ∧ Pot (c + 1 + i) ps' ∧ ρ = [.own ps', .dat (kd ks), .dat (.str op), .dat (.int most), .un, .un, .un, .un, .un, .un, .un, .un, .un, .un], ⟨[], ps1, rfl, rfl, (fun _ h => nomatch h), hp1, rfl⟩, ?_, ?_⟩⟩⟩
  · rintro i x acc ρ hx ⟨ss, ps', rfl, rfl, hss, hp', rfl⟩
    obtain ⟨rfl, hlt⟩ := upto_get hx
    refine ⟨⟨_, rfl⟩, .inl ⟨_, rfl, ps', rfl, rfl, of_okT hp' (by omega) hne hln fun d ps2 hd hp2 => ⟨_, rfl, ?_⟩⟩⟩
    obtain ⟨p, hpm, rfl⟩ := List.mem_map.mp hd
    refine ⟨by rw [List.length_map]; omega, ss ++ [p], ps2, by rw [List.map_append]; rfl, by simp, fun z hz => ?_, hp2, rfl⟩
    rcases List.mem_append.mp hz with y | y
    · exact hss z y
    · rw [List.mem_singleton.mp y]; exact hpm
  rintro acc ρ ⟨ss, ps1, rfl, hsl, hss, hp1, rfl⟩
  rw [upto_length] at hsl hp1
  have hs3 : ss.length ≤ 3 := by omega
  have hp1 := hp1.mono (show c + 1 + a.toNat ≤ c + 5 by omega)
  have hfp : flatA ps1 = true := by
    obtain ⟨_, _, _, e, _⟩ := hp1
    rw [e]; rfl
  -- too many rows
  refine ⟨fun m ρ => ∃ ss : List (Str × Int), ρ = [.own ps1, .dat (kd ks), .dat (.str op), .dat (.int most), .own (ss.map pD), .un, .un, .un, .un, .un, .un, .un, .un, .un] ∧ m = ss.length ∧ ss.length ≤ 3 ∧ (∀ p ∈ ss, p ∈ ks), ⟨_, ss, rfl, rfl, hs3, hss⟩, ?_⟩
  rintro m ρ ⟨ss, rfl, rfl, hs3, hss⟩
  have hcs : ∀ j ∈ ss.map (·.2), 1 ≤ j ∧ j ≤ 8 := fun j hj => by
    obtain ⟨p, hpm, rfl⟩ := List.mem_map.mp hj
    exact hk.s.cnt p (hss p hpm)
  refine ⟨⟨_, rfl⟩, .inr ⟨_, rfl, _, rfl, fun i acc ρ => acc = (ss.take i).map (fun p => PyData.int p.2) ∧ ρ = [.own ps1, .dat (kd ks), .dat (.str op), .dat (.int most), .dat (.list (ss.map pD)), .un, .un, .un, .un, .un, .un, .un, .un, .un], ⟨rfl, rfl⟩, ?_, ?_⟩⟩
  · rintro i y acc ρ hy ⟨rfl, rfl⟩
    rw [List.getElem?_map] at hy
    cases hq : ss[i]? with
    | none => rw [hq] at hy; cases hy
    | some p =>
      rw [hq] at hy
      cases hy
      refine ⟨_, rfl, rfl, .inl ⟨_, rfl, ?_, (take_map (f := fun p : Str × Int => PyData.int p.2) hq).symm, rfl⟩⟩
      rw [List.length_map, List.length_take]; omega
  rintro acc ρ ⟨rfl, rfl⟩
  have ea : (ss.take (ss.map pD).length).map (fun p => PyData.int p.2) = (ss.map (·.2)).map .int := by rw [List.length_map, List.take_length, List.map_map]; rfl
  rw [ea]
  refine ⟨rfl, rows_ok hcs (by rw [List.length_map]; exact hs3) fun rs e1 e2 e3 => ⟨_, rfl, .int rs.length, by show some (PyData.int ((rs.map tI).length : Nat)) = _; rw [List.length_map], _, rfl, _, rfl, ss.map pD, rfl, flat_pD ss, ?_, ?_⟩⟩
  · intro j s hj hs
    match j, hj, hs with
    | 0, _, hs => cases hs; exact hfp
    | 1, _, hs => cases hs; exact flat_pD ks
    | 2, _, hs => cases hs; rfl
    | 3, _, hs => cases hs; rfl
    | 4, hj, _ => exact absurd rfl hj
    | k + 5, _, hs =>
      have hm : s ∈ List.replicate 9 Sl.un := List.mem_of_getElem? (i := k) hs
      rw [List.eq_of_mem_replicate hm]; rfl
  refine ite2 (fun c1 => ?_) (fun c1 => ?_)
  · have c1 : (64 : Int) < rs.length := of_decide_eq_true c1
    have hpos : ss ≠ [] := fun z => by
      subst z
      have e1 : (rs.length : Int) = 1 := e1
      omega
    have es : ss.dropLast ++ [ss.getLast hpos] = ss := List.dropLast_concat_getLast hpos
    have em : ss.map pD = ss.dropLast.map pD ++ [pD (ss.getLast hpos)] := by rw [← List.map_singleton, ← List.map_append, es]
    have hlast : ss.dropLast.length < ss.length := by rw [List.length_dropLast]; have := List.length_pos_iff.mpr hpos; omega
    refine ⟨_, _, by rw [em]; rfl, ⟨ss.dropLast.length, hlast, ss.dropLast, rfl, rfl, by omega, fun p hp => hss p (List.dropLast_subset ss hp)⟩⟩
  have c1 : ¬ (64 : Int) < rs.length := fun z => c1 (decide_eq_true z)
  have hpr : prodL (ss.map (·.2)) ≤ 64 := by omega
  refine ⟨⟨_, rfl⟩, .inl ⟨_, rfl, ps1, rfl, rfl, of_okT hp1 (by omega) hne hln fun d ps2 hd hp2 => ⟨_, rfl, ?_⟩⟩⟩
  obtain ⟨p, hpm, rfl⟩ := List.mem_map.mp hd
  have hcp := hk.s.cnt p hpm
  refine ⟨_, rfl, rfl, ?_⟩
  refine ⟨⟨_, rfl⟩, ps2, rfl, rfl, take_ok hp2 (by omega) (by decide) (by decide) fun w ps3 w0 w1 hp3 => ⟨_, rfl, ⟨_, rfl⟩, ps3, rfl, rfl, take_ok hp3 (by omega) (by decide) (by decide) fun sh ps4 s0 s1 hp4 => ⟨_, rfl, show 0 ≤ sizeLine by decide, noBag_b rfl, _, _, _, rfl, ?_⟩⟩⟩
  refine .inr ⟨_, rfl, _, rfl, fun i acc ρ => acc = (ss.take i).map (fun p => PyData.int p.2) ∧ ρ = [.own ps4, .dat (kd ks), .dat (.str op), .dat (.int most), .dat (.list (ss.map pD)), .dat (.str p.1), .dat (.int p.2), .dat (.int w), .dat (.int sh), .own [], .un, .un, .un, .un], ⟨rfl, rfl⟩, ?_, ?_⟩
  · rintro i y acc ρ hy ⟨rfl, rfl⟩
    rw [List.getElem?_map] at hy
    cases hq : ss[i]? with
    | none => rw [hq] at hy; cases hy
    | some p =>
      rw [hq] at hy
      cases hy
      refine ⟨_, rfl, rfl, .inl ⟨_, rfl, ?_, (take_map (f := fun p : Str × Int => PyData.int p.2) hq).symm, rfl⟩⟩
      rw [List.length_map, List.length_take]; omega
  rintro acc ρ ⟨rfl, rfl⟩
  rw [ea]
  refine ⟨rfl, rows_ok hcs (by rw [List.length_map]; exact hs3) fun rs e1 e2 e3 => ⟨_, rfl, _, rfl, ?_⟩⟩
  have h64 : rs.length ≤ 64 := by omega
  refine ⟨fun i ρ => ∃ (es : List Int) (ps' : List D) (s10 : Sl), ρ = [.own ps', .dat (kd ks), .dat (.str op), .dat (.int most), .dat (.list (ss.map pD)), .dat (.str p.1), .dat (.int p.2), .dat (.int w), .dat (.int sh), .own (es.map .int), s10, .un, .un, .un] ∧ es.length = i ∧ (∀ j ∈ es, 0 ≤ j ∧ j < p.2) ∧ Pot (c + 8 + i) ps', ⟨[], ps4, _, rfl, rfl, (fun _ h => nomatch h), hp4⟩, ?_, ?_⟩
  · rintro i y ρ hy ⟨es, ps', s10, rfl, rfl, hes, hp'⟩
    rw [List.getElem?_map] at hy
    cases hr : rs[es.length]? with
    | none => rw [hr] at hy; cases hy
    | some r =>
      rw [hr] at hy
      cases hy
      have hlt := (List.getElem?_eq_some_iff.mp hr).1
      have put : ∀ (j : Int), 0 ≤ j → j < p.2 → ∀ x ∈ es ++ [j], 0 ≤ x ∧ x < p.2 := fun j j0 j1 x hx => by
        rcases List.mem_append.mp hx with z | z
        · exact hes x z
        · rw [List.mem_singleton.mp z]; exact ⟨j0, j1⟩
      refine ⟨⟨_, rfl⟩, .inl ⟨_, rfl, _, rfl, _, rfl, ite2 (fun cb => ?_) (fun cb => ?_)⟩⟩
      · refine .inl ⟨_, rfl, .int r.sum, ?_, .inl ⟨_, rfl, _, rfl, .inl ⟨_, rfl, _, mod_ok (by omega), es.map .int, rfl, by rw [List.length_map]; omega, es ++ [(r.sum + sh) % p.2], ps', _, by rw [List.map_append]; rfl, by simp, put _ (Int.emod_nonneg _ (by omega)) (Int.emod_lt_of_pos _ (by omega)), hp'.mono (by omega)⟩⟩⟩
        show (intsD (r.map .int)).map _ = _
        rw [intsD_map]; rfl
      · exact ⟨⟨_, rfl⟩, .inl ⟨_, rfl, ps', rfl, rfl, take_ok hp' (by omega) (by omega) (by omega) fun r2 ps5 r0 r1 hp5 => ⟨_, rfl, es.map .int, rfl, by rw [List.length_map]; omega, es ++ [r2], ps5, _, by rw [List.map_append]; rfl, by simp, put r2 r0 r1, hp5.mono (by omega)⟩⟩⟩
  rintro ρ ⟨es, ps5, s10, rfl, hel, hes, hp5⟩
  rw [List.length_map] at hel hp5
  refine .inl ⟨_, rfl, .inl ⟨_, rfl, _, rfl, fun i acc ρ => acc = (ss.take i).map (fun p => PyData.str p.1) ∧ ρ = [.own ps5, .dat (kd ks), .dat (.str op), .dat (.int most), .dat (.list (ss.map pD)), .dat (.str p.1), .dat (.int p.2), .dat (.int w), .dat (.int sh), .own (es.map .int), s10, .un, .un, .un], ⟨rfl, rfl⟩, ?_, ?_⟩⟩
  · rintro i y acc ρ hy ⟨rfl, rfl⟩
    rw [List.getElem?_map] at hy
    cases hq : ss[i]? with
    | none => rw [hq] at hy; cases hy
    | some p =>
      rw [hq] at hy
      cases hy
      refine ⟨_, rfl, rfl, .inl ⟨_, rfl, ?_, (take_map (f := fun p : Str × Int => PyData.str p.1) hq).symm, rfl⟩⟩
      rw [List.length_map, List.length_take]; omega
  rintro acc ρ ⟨rfl, rfl⟩
  rw [List.length_map, List.take_length]
  refine ⟨_, rfl, .inl ⟨_, rfl, .inr ⟨_, rfl, _, rfl, show 5 ≤ sizeLine by decide, ps5, rfl, ?_⟩⟩⟩
  have en : ss.map (fun p => PyData.str p.1) = (ss.map (·.1)).map .str := by rw [List.map_map]; rfl
  rw [en]
  refine q (ss.map (·.1)) p.1 es ps5 ⟨hn, by rw [List.length_map]; exact hs3, fun x hx => ?_, ?_, by omega, p, hpm, rfl, hes⟩ (hp5.mono (by omega))
  · obtain ⟨z, hz, rfl⟩ := List.mem_map.mp hx
    exact ⟨z, hss z hz, rfl⟩
  · rw [prod_eq hk.s hss, hel, e1]
end K50
namespace K50
open PySem PySem.Spec PyProof.Rows L2 DL
def someNames : List Str := [Str.ofString "to", Str.ofString "as", Str.ofString "add", Str.ofString "one", Str.ofString "cast", Str.ofString "neg", Str.ofString "mix", Str.ofString "f", Str.ofString "long", Str.ofString "lengthy"]
theorem someNames_ok : ∀ x ∈ someNames, NmOk x := by
  have : ∀ x ∈ someNames, good (.str x) = true ∧ nameB (.str x) = true := by decide +kernel
  exact this
set_option maxHeartbeats 4000000 in
theorem item_drawn {c : Nat} {ps : List D} {ks : List (Str × Int)} {Q : Rv → List D → Prop} (hk : KN ks) (hp : Pot c ps) (hc : c < 800000)
    (q : ∀ it ps', IOk ks it → Pot (c + 700) ps' → Q (.d it.d) ps') : w__law_item ps [kd ks] Q := by
  have sm := small
  have hl := hk.s.len
  have hne : ks.map pD ≠ [] := fun z => hk.ne (List.map_eq_nil_iff.mp z)
  have fin : ∀ (c' : Nat) (ps1 : List D), Pot c' ps1 → c' ≤ c + 1 → wRet (wCallP 0 3 w__law_definition (wCons (wVar 1) (wCons (wCallP 0 1 w__law_pick (wCons (wL (wLst (wCons (wC (.str (Str.ofString "add"))) (wCons (wC (.str (Str.ofString "one"))) (wCons (wC (.str (Str.ofString "neg"))) (wCons (wC (.str (Str.ofString "mix"))) wNil)))))) wNil)) (wCons (wC (.int 2)) wNil)))) ⟨fun ρ => ∃ ps', ρ[0]? = some (.own ps') ∧ Q (.d .none) ps', fun r ρ => ∃ ps', ρ[0]? = some (.own ps') ∧ Q r ps', fun _ => False, fun _ => False⟩ [.own ps1, .dat (kd ks)] := fun c' ps1 hp1 hc1 => by
    refine ⟨⟨_, rfl⟩, .inl ⟨_, rfl, ⟨_, rfl⟩, show 4 ≤ sizeLine by decide, ps1, rfl, rfl, of_ok hp1 (by omega) (by exact List.cons_ne_nil _ _) (by decide) fun d ps2 hd hp2 => ⟨_, rfl, ps2, rfl, rfl, ?_⟩⟩⟩
    have hd : ∃ x ∈ someNames, d = .str x := by
      simp only [List.nil_append, List.cons_append, List.mem_cons, List.not_mem_nil, or_false] at hd
      rcases hd with rfl | rfl | rfl | rfl <;> exact ⟨_, by decide +kernel, rfl⟩
    obtain ⟨x, hx, rfl⟩ := hd
    exact def_drawn hk (someNames_ok x hx) (by decide) (by decide) hp2 (by omega) fun qs e r ps3 hio hp3 => ⟨_, rfl, ps3, rfl, q _ ps3 hio (hp3.mono (by omega))⟩
  obtain ⟨k0, kr, ek⟩ : ∃ k0 kr, ks = k0 :: kr := by
    cases ks with
    | nil => exact absurd rfl hk.ne
    | cons a b => exact ⟨a, b, rfl⟩
  have hk0 : k0 ∈ ks := by rw [ek]; exact List.mem_cons_self ..
  have hix : ixD (kd ks) (.int 0) = some (pD k0) := by
    rw [ek]
    exact ix_nat (k := 0) rfl
  refine .inl ⟨_, _, rfl, rfl, _, rfl, _, rfl, ite2 (fun c1 => ?_) (fun c1 => ?_)⟩
  · have c1 : (1 : Int) < ((ks.map pD).length : Nat) := of_decide_eq_true c1
    have h2 : 2 ≤ ks.length := by rw [List.length_map] at c1; omega
    refine ⟨⟨_, rfl⟩, ps, rfl, rfl, take_ok hp (by omega) (by decide) (by decide) fun r ps1 r0 r1 hp1 => ⟨_, rfl, _, rfl, _, rfl, ite2 (fun c2 => ?_) (fun c2 => fin _ ps1 hp1 (by omega))⟩⟩
    refine ⟨⟨_, rfl⟩, .inl ⟨_, rfl, ⟨_, rfl⟩, ?_⟩⟩
    refine ⟨.inl ⟨_, rfl⟩, .inl ⟨_, _, rfl, hix, _, rfl, show 6 ≤ sizeLine by decide, ps1, rfl, rfl, of_ok hp1 (by omega) (by exact List.cons_ne_nil _ _) (show 6 ≤ 1000 by decide) fun d ps2 hd hp2 => ⟨_, rfl, ps2, rfl, rfl, ?_⟩⟩⟩
    have hd : ∃ x, NmOk x ∧ d = .str x := by
      simp only [List.nil_append, List.cons_append, List.mem_cons, List.not_mem_nil, or_false] at hd
      rcases hd with rfl | rfl | rfl | rfl | rfl | rfl
      · exact ⟨_, someNames_ok _ (by decide +kernel), rfl⟩
      · exact ⟨_, someNames_ok _ (by decide +kernel), rfl⟩
      · exact ⟨_, someNames_ok _ (by decide +kernel), rfl⟩
      · exact ⟨_, someNames_ok _ (by decide +kernel), rfl⟩
      · exact ⟨_, someNames_ok _ (by decide +kernel), rfl⟩
      · exact ⟨_, hk.nm _ hk0, rfl⟩
    obtain ⟨x, hx, rfl⟩ := hd
    exact conv_drawn hk h2 hx hp2 (by omega) fun s t b r ps3 hio hp3 => ⟨_, rfl, ps3, rfl, q _ ps3 hio (hp3.mono (by omega))⟩
  · exact fin c ps hp (by omega)
end K50
namespace K50
open PySem PySem.Spec PyProof.Rows L2 DL
open TL (tl tl_append tl_join join_eq joinL len_tl ext_tl)
theorem joinL_len (S : List Nat) : ∀ ps : List (List Nat), (joinL S ps).length ≤ (ps.map List.length).sum + ps.length * S.length
  | [] => Nat.zero_le _
  | [p] => by simp [joinL]
  | p :: q :: r => by
    have ih := joinL_len S (q :: r)
    show (p ++ (S ++ joinL S (q :: r))).length ≤ _
    rw [List.length_append, List.length_append]
    simp only [List.map_cons, List.sum_cons, List.length_cons, Nat.succ_mul] at ih ⊢
    omega
theorem join_len (y : Str) (ys : List Str) : (Txt.join y ys).length ≤ (ys.map (·.length)).sum + ys.length * y.length := by
  rw [join_eq, len_tl, tl_join]
  have := joinL_len (tl y) (ys.map tl)
  rw [List.map_map, List.length_map, ← len_tl] at this
  have e : ys.map (List.length ∘ tl) = ys.map (·.length) := List.map_congr_left fun x _ => (len_tl x).symm
  rw [e] at this
  exact this
theorem sum_le {α : Type} {f : α → Nat} {k : Nat} : ∀ {xs : List α}, (∀ x ∈ xs, f x ≤ k) → (xs.map f).sum ≤ xs.length * k
  | [], _ => Nat.zero_le _
  | x :: xs, h => by
    have := sum_le (f := f) (k := k) (xs := xs) fun z hz => h z (List.mem_cons_of_mem _ hz)
    have := h x (List.mem_cons_self ..)
    simp only [List.map_cons, List.sum_cons, List.length_cons, Nat.succ_mul]
    omega
def dash : Str := Str.ofString "-"
def comma : Str := Str.ofString ","
def gap : Str := Str.ofString " "
def num (j : Int) : Str := (toString j : String)
def nt (ps : List Str) : Str := if ps = [] then dash else Txt.join comma ps
def rt (r : List Int) : Str := Txt.join comma (r.map num)
def wordB (b : Bool) : Str := if b = true then Str.ofString "implicit" else Str.ofString "explicit"
def itW : It → List Str
  | .conv n s t b r => [wordB b, n, s, t, rt r]
  | .defi n ps e r => [Str.ofString "definition", n, nt ps, e, rt r]
def itT (it : It) : Str := Txt.join gap (itW it)
theorem num_dig : ∀ j : Nat, j < 8 → (num (j : Nat)).length = 1 ∧ tl (num (j : Nat)) = [48 + j] := by decide +kernel
theorem num_one {j : Int} (h : 0 ≤ j ∧ j < 8) : (num j).length = 1 ∧ tl (num j) = [48 + j.toNat] := by
  have := num_dig j.toNat (by omega)
  rw [Int.toNat_of_nonneg h.1] at this
  exact this
theorem sum_nums {r : List Int} (hr : ∀ j ∈ r, 0 ≤ j ∧ j < 8) : ((r.map num).map (·.length)).sum ≤ r.length := by
  rw [List.map_map]
  have := sum_le (f := (·.length) ∘ num) (k := 1) (xs := r) fun x hx => by rw [Function.comp, (num_one (hr x hx)).1]; exact Nat.le_refl _
  omega
theorem rt_len {r : List Int} (hl : r.length ≤ 64) (hr : ∀ j ∈ r, 0 ≤ j ∧ j < 8) : (rt r).length ≤ 128 := by
  have h1 := join_len comma (r.map num)
  have h2 := sum_nums hr
  have e : comma.length = 1 := rfl
  rw [List.length_map, e] at h1
  unfold rt
  omega
theorem good_len {x : Str} (h : good (.str x) = true) : x.length ≤ 20 := (good_str h).1
theorem nt_len {ps : List Str} (hl : ps.length ≤ 3) (hg : ∀ p ∈ ps, good (.str p) = true) : (nt ps).length ≤ 63 := by
  unfold nt
  split
  · decide
  · have h1 := join_len comma ps
    have h2 := sum_le (f := fun x : Str => x.length) (k := 20) (xs := ps) fun x hx => good_len (hg x hx)
    have e : comma.length = 1 := rfl
    rw [e] at h1
    omega
/-- the numbers' texts, listed -/
theorem strs_listed {d : D} {ds : List D} {ts : List Str} (hi : d = .tuple ds) (hs : ∀ (i : Nat) (x : D), ds[i]? = some x → ∃ t, ts[i]? = some t ∧ strL [x] = some (.str t)) (hlen : ts.length = ds.length) (hsm : ds.length ≤ 100) {Q : List D → List Sl → Prop} (q : Q (ts.map .str) [.dat d, .un]) :
    wLc ([1] : List Nat) (wItems (wVar 0)) (wName 1) wYes (wCl strL (wCons (wVar 1) wNil)) [.dat d, .un] Q := by
  have sm := small
  subst hi
  refine .inl ⟨_, rfl, ds, rfl, fun i acc ρ => acc = (ts.take i).map .str ∧ ρ = [.dat (.tuple ds), .un], ⟨rfl, rfl⟩, ?_, ?_⟩
  · rintro i y acc ρ hy ⟨rfl, rfl⟩
    obtain ⟨t, ht, hst⟩ := hs i y hy
    have hlt := (List.getElem?_eq_some_iff.mp hy).1
    refine .inl ⟨_, rfl, _, hst, ?_, (take_map (f := PyData.str) ht).symm, rfl⟩
    rw [List.length_map, List.length_take]; omega
  · rintro acc ρ ⟨rfl, rfl⟩
    rw [← hlen, List.take_length]; exact q
end K50
namespace K50
open PySem PySem.Spec PyProof.Rows L2 DL
open TL (tl tl_append tl_join join_eq joinL len_tl ext_tl)
theorem num_str {j : Int} (h : 0 ≤ j ∧ j < 8) : strL [.int j] = some (.str (num j)) := by
  have : j.natAbs.log2 < 1920 := by
    have := log_lt (i := j) (k := 3) h.1 (by omega) (by decide)
    omega
  exact if_pos this
theorem row_listed {r : List Int} (hl : r.length ≤ 64) (hr : ∀ j ∈ r, 0 ≤ j ∧ j < 8) : ∀ (i : Nat) (x : D), (r.map PyData.int)[i]? = some x → ∃ t, (r.map num)[i]? = some t ∧ strL [x] = some (.str t) := by
  intro i x hx
  rw [List.getElem?_map] at hx ⊢
  cases hq : r[i]? with
  | none => rw [hq] at hx; cases hx
  | some j =>
    rw [hq] at hx
    cases hx
    exact ⟨_, rfl, num_str (hr j (List.mem_of_getElem? hq))⟩
theorem nms_listed {ps : List Str} : ∀ (i : Nat) (x : D), (ps.map PyData.str)[i]? = some x → ∃ t, ps[i]? = some t ∧ strL [x] = some (.str t) := by
  intro i x hx
  rw [List.getElem?_map] at hx
  cases hq : ps[i]? with
  | none => rw [hq] at hx; cases hx
  | some j =>
    rw [hq] at hx
    cases hx
    exact ⟨_, rfl, rfl⟩
theorem comma1 : comma.length = 1 := rfl
theorem gap1 : gap.length = 1 := rfl
theorem commas_row {r : List Int} (h0 : r ≠ []) (hl : r.length ≤ 64) (hr : ∀ j ∈ r, 0 ≤ j ∧ j < 8) {Q : Rv → Prop} (q : Q (.d (.str (rt r)))) : w__law_commas [tI r] Q := by
  have hb := sum_nums hr
  have hp : 0 < r.length := List.length_pos_iff.mpr h0
  refine .inl ⟨_, _, rfl, rfl, _, rfl, _, rfl, ite2 (fun c1 => ?_) (fun c1 => ?_)⟩
  · refine ⟨_, rfl, strs_listed rfl (row_listed hl hr) (by rw [List.length_map, List.length_map]) (by rw [List.length_map]; omega) ⟨r.map num, .inl rfl, ?_, q⟩⟩
    show ((r.map num).map (·.length)).sum + (r.map num).length * comma.length ≤ _
    rw [comma1, List.length_map]; omega
  · have c1 : ¬ (0 : Int) < ((r.map PyData.int).length : Nat) := fun z => c1 (decide_eq_true z)
    rw [List.length_map] at c1
    exact absurd (by omega) c1
theorem table_shown {r : List Int} (hl : r.length ≤ 64) (hr : ∀ j ∈ r, 0 ≤ j ∧ j < 8) {Q : Rv → Prop} (q : Q (.d (.str (rt r)))) : w_show_table [tI r] Q := by
  have hb := sum_nums hr
  refine ⟨_, rfl, strs_listed rfl (row_listed hl hr) (by rw [List.length_map, List.length_map]) (by rw [List.length_map]; omega) ⟨r.map num, .inl rfl, ?_, q⟩⟩
  show ((r.map num).map (·.length)).sum + (r.map num).length * comma.length ≤ _
  rw [comma1, List.length_map]; omega
theorem commas_nms {ps : List Str} (hl : ps.length ≤ 3) (hg : ∀ p ∈ ps, good (.str p) = true) {Q : Rv → Prop} (q : Q (.d (.str (nt ps)))) : w__law_commas [.tuple (ps.map .str)] Q := by
  have h2 := sum_le (f := fun x : Str => x.length) (k := 20) (xs := ps) fun x hx => good_len (hg x hx)
  refine .inl ⟨_, _, rfl, rfl, _, rfl, _, rfl, ite2 (fun c1 => ?_) (fun c1 => ?_)⟩
  · have hne : ps ≠ [] := fun z => by subst z; exact absurd c1 (by decide)
    have q : Q (.d (.str (Txt.join comma ps))) := by
      have e : nt ps = Txt.join comma ps := if_neg hne
      rw [e] at q; exact q
    refine ⟨_, rfl, strs_listed rfl nms_listed (by rw [List.length_map]) (by rw [List.length_map]; omega) ⟨ps, .inl rfl, ?_, q⟩⟩
    show (ps.map (·.length)).sum + ps.length * comma.length ≤ _
    rw [comma1]; omega
  · have c1 : ¬ (0 : Int) < ((ps.map PyData.str).length : Nat) := fun z => c1 (decide_eq_true z)
    have hne : ps = [] := by
      rw [List.length_map] at c1
      exact List.length_eq_zero_iff.mp (by omega)
    subst hne
    exact q
/-- an item whose parts are small enough to be written -/
structure Wr (it : It) : Prop where
  w : ∀ x ∈ itW it, x.length ≤ 128
theorem IOk.good {ks : List (Str × Int)} (hk : KN ks) {it : It} (h : IOk ks it) : it.row ≠ [] ∧ it.row.length ≤ 64 ∧ (∀ j ∈ it.row, 0 ≤ j ∧ j < 8) := by
  obtain ⟨h1, h2, p, hp, _, h3⟩ := h.row hk.s
  have := hk.s.cnt p hp
  exact ⟨h1, h2, fun j hj => by have := h3 j hj; omega⟩
theorem wordB_le : ∀ b, (wordB b).length ≤ 128 := by decide +kernel
theorem IOk.wr {ks : List (Str × Int)} (hk : KN ks) {it : It} (h : IOk ks it) : Wr it := by
  obtain ⟨g1, g2, g3⟩ := h.good hk
  have hR := rt_len g2 g3
  refine ⟨fun x hx => ?_⟩
  cases it with
  | conv n s t b r =>
    obtain ⟨hn, ⟨p, hp, e1, _⟩, ⟨p2, hp2, e2, _⟩, _⟩ := h
    have := good_len hn.1
    have h3 := good_len (hk.nm p hp).1
    have h4 := good_len (hk.nm p2 hp2).1
    rw [← e1] at h3
    rw [← e2] at h4
    simp only [itW, List.mem_cons, List.not_mem_nil, or_false] at hx
    rcases hx with rfl | rfl | rfl | rfl | rfl
    · exact wordB_le b
    · omega
    · omega
    · omega
    · exact hR
  | defi n ps e r =>
    obtain ⟨hn, hl, hp, _, _, p2, hp2, e2, _⟩ := h
    have := good_len hn.1
    have h4 := good_len (hk.nm p2 hp2).1
    rw [← e2] at h4
    have h5 := nt_len hl fun q hq => by
      obtain ⟨p, hpk, rfl⟩ := hp q hq
      exact (hk.nm p hpk).1
    simp only [itW, List.mem_cons, List.not_mem_nil, or_false] at hx
    rcases hx with rfl | rfl | rfl | rfl | rfl
    · decide
    · omega
    · omega
    · omega
    · exact hR
theorem itW5 (it : It) : (itW it).length = 5 := by cases it <;> rfl
theorem Wr.sum {it : It} (h : Wr it) : ((itW it).map (·.length)).sum + (itW it).length * gap.length ≤ 645 := by
  have := sum_le (f := fun x : Str => x.length) (k := 128) (xs := itW it) h.w
  rw [itW5, gap1] at *
  omega
theorem Wr.len {it : It} (h : Wr it) : (itT it).length ≤ 645 := Nat.le_trans (join_len gap (itW it)) h.sum
set_option maxHeartbeats 2000000 in
theorem item_texted {ks : List (Str × Int)} (hk : KN ks) {it : It} (h : IOk ks it) {Q : Rv → Prop} (q : Q (.d (.str (itT it)))) : w__law_item_text [it.d] Q := by
  obtain ⟨g1, g2, g3⟩ := h.good hk
  have hs := (h.wr hk).sum
  cases it with
  | conv n s t b r =>
    refine ⟨.inl ⟨_, rfl⟩, .inl ⟨_, _, rfl, rfl, _, rfl, _, rfl, ifF ?_⟩⟩
    cases b with
    | true => exact ⟨_, rfl, ⟨.inl ⟨_, rfl⟩, .inl ⟨_, _, rfl, rfl, _, rfl, ifT ⟨.inl ⟨_, rfl⟩, .inl ⟨_, _, rfl, rfl, ⟨.inl ⟨_, rfl⟩, .inl ⟨_, _, rfl, rfl, ⟨.inl ⟨_, rfl⟩, .inl ⟨_, _, rfl, rfl, ⟨.inl ⟨_, rfl⟩, .inl ⟨_, _, rfl, rfl, rfl, commas_row g1 g2 g3 ⟨_, rfl, show 5 ≤ sizeLine by decide, itW (.conv n s t true r), .inl rfl, Nat.le_trans hs (by decide), q⟩⟩⟩⟩⟩⟩⟩⟩⟩⟩⟩⟩
    | false => exact ⟨_, rfl, ⟨.inl ⟨_, rfl⟩, .inl ⟨_, _, rfl, rfl, _, rfl, ifF ⟨.inl ⟨_, rfl⟩, .inl ⟨_, _, rfl, rfl, ⟨.inl ⟨_, rfl⟩, .inl ⟨_, _, rfl, rfl, ⟨.inl ⟨_, rfl⟩, .inl ⟨_, _, rfl, rfl, ⟨.inl ⟨_, rfl⟩, .inl ⟨_, _, rfl, rfl, rfl, commas_row g1 g2 g3 ⟨_, rfl, show 5 ≤ sizeLine by decide, itW (.conv n s t false r), .inl rfl, Nat.le_trans hs (by decide), q⟩⟩⟩⟩⟩⟩⟩⟩⟩⟩⟩⟩
  | defi n ps e r =>
    obtain ⟨hn, hl, hp, _, _, p2, hp2, e2, _⟩ := h
    refine ⟨.inl ⟨_, rfl⟩, .inl ⟨_, _, rfl, rfl, _, rfl, _, rfl, ifT ?_⟩⟩
    refine ⟨_, rfl, ⟨.inl ⟨_, rfl⟩, .inl ⟨_, _, rfl, rfl, ⟨.inl ⟨_, rfl⟩, .inl ⟨_, _, rfl, rfl, ⟨.inl ⟨_, rfl⟩, .inl ⟨_, _, rfl, rfl, rfl, commas_nms hl (fun q hq => by
      obtain ⟨p, hpk, rfl⟩ := hp q hq
      exact (hk.nm p hpk).1) ⟨_, rfl, ⟨.inl ⟨_, rfl⟩, .inl ⟨_, _, rfl, rfl, ⟨.inl ⟨_, rfl⟩, .inl ⟨_, _, rfl, rfl, rfl, commas_row g1 g2 g3 ⟨_, rfl, show 5 ≤ sizeLine by decide, itW (.defi n ps e r), .inl rfl, Nat.le_trans hs (by decide), q⟩⟩⟩⟩⟩⟩⟩⟩⟩⟩⟩⟩⟩
/-! ### what the program shows -/
theorem join5 (a b c d e : Str) : Txt.join gap [a, b, c, d, e] = Str.empty ++ a ++ gap ++ b ++ gap ++ c ++ gap ++ d ++ gap ++ e := by
  refine ext_tl ?_
  rw [join_eq, tl_join]
  simp only [tl_append, List.map_cons, List.map_nil, joinL, List.append_assoc]
  rfl
theorem app_len (x y : Str) : (x ++ y).length = x.length + y.length := by rw [len_tl, tl_append, List.length_append, ← len_tl, ← len_tl]
set_option maxHeartbeats 2000000 in
theorem item_shown {ks : List (Str × Int)} (hk : KN ks) {it : It} (h : IOk ks it) {Q : Rv → Prop} (q : Q (.d (.str (itT it)))) : w_show_item [it.d] Q := by
  obtain ⟨g1, g2, g3⟩ := h.good hk
  have hw := (h.wr hk).w
  have sm := small
  cases it with
  | conv n s t b r =>
    have h1 := hw (wordB b) (by simp [itW])
    have h2 := hw n (by simp [itW])
    have h3 := hw s (by simp [itW])
    have h4 := hw t (by simp [itW])
    have h5 := hw (rt r) (by simp [itW])
    have q : Q (.d (.str (Str.empty ++ wordB b ++ gap ++ n ++ gap ++ s ++ gap ++ t ++ gap ++ rt r))) := by
      rw [← join5]; exact q
    refine ⟨.inl ⟨_, rfl⟩, .inl ⟨_, _, rfl, rfl, _, rfl, _, rfl, ifT ?_⟩⟩
    have hg1 : (Str.ofString " ").length = 1 := rfl
    have he : Str.empty.length = 0 := rfl
    have hd : (Str.ofString "definition ").length = 11 := rfl
    cases b with
    | true => 
      have h1 : (Str.ofString "implicit").length ≤ 128 := h1
      exact .inl ⟨_, rfl, _, rfl, rfl, .inl ⟨_, rfl, _, rfl, ifT (.inl ⟨_, rfl, .inl ⟨_, rfl, by omega, _, rfl, (by simp only [app_len, hg1, he, hd]; omega), ⟨_, rfl, (by simp only [app_len, hg1, he, hd]; omega), .inl ⟨_, rfl, .inl ⟨_, rfl, by omega, _, rfl, (by simp only [app_len, hg1, he, hd]; omega), ⟨_, rfl, (by simp only [app_len, hg1, he, hd]; omega), .inl ⟨_, rfl, .inl ⟨_, rfl, by omega, _, rfl, (by simp only [app_len, hg1, he, hd]; omega), ⟨_, rfl, (by simp only [app_len, hg1, he, hd]; omega), .inl ⟨_, rfl, .inl ⟨_, rfl, by omega, _, rfl, (by simp only [app_len, hg1, he, hd]; omega), ⟨_, rfl, (by simp only [app_len, hg1, he, hd]; omega), .inl ⟨_, rfl, rfl, table_shown (r := r) g2 g3 ⟨_, rfl, .inl ⟨_, rfl, by omega, _, rfl, (by simp only [app_len, hg1, he, hd]; omega), q⟩⟩⟩⟩⟩⟩⟩⟩⟩⟩⟩⟩⟩⟩⟩)⟩⟩
    | false => 
      have h1 : (Str.ofString "explicit").length ≤ 128 := h1
      exact .inl ⟨_, rfl, _, rfl, rfl, .inl ⟨_, rfl, _, rfl, ifF (.inl ⟨_, rfl, .inl ⟨_, rfl, by omega, _, rfl, (by simp only [app_len, hg1, he, hd]; omega), ⟨_, rfl, (by simp only [app_len, hg1, he, hd]; omega), .inl ⟨_, rfl, .inl ⟨_, rfl, by omega, _, rfl, (by simp only [app_len, hg1, he, hd]; omega), ⟨_, rfl, (by simp only [app_len, hg1, he, hd]; omega), .inl ⟨_, rfl, .inl ⟨_, rfl, by omega, _, rfl, (by simp only [app_len, hg1, he, hd]; omega), ⟨_, rfl, (by simp only [app_len, hg1, he, hd]; omega), .inl ⟨_, rfl, .inl ⟨_, rfl, by omega, _, rfl, (by simp only [app_len, hg1, he, hd]; omega), ⟨_, rfl, (by simp only [app_len, hg1, he, hd]; omega), .inl ⟨_, rfl, rfl, table_shown (r := r) g2 g3 ⟨_, rfl, .inl ⟨_, rfl, by omega, _, rfl, (by simp only [app_len, hg1, he, hd]; omega), q⟩⟩⟩⟩⟩⟩⟩⟩⟩⟩⟩⟩⟩⟩⟩)⟩⟩
  | defi n ps e r =>
    have hl : ps.length ≤ 3 := h.2.1
    have hp := h.2.2.1
    have hg : ∀ q ∈ ps, good (.str q) = true := fun q hq => by
      obtain ⟨p, hpk, rfl⟩ := hp q hq
      exact (hk.nm p hpk).1
    have h2 := hw n (by simp [itW])
    have h3 := hw (nt ps) (by simp [itW])
    have h4 := hw e (by simp [itW])
    have h5 := hw (rt r) (by simp [itW])
    have hg1 : (Str.ofString " ").length = 1 := rfl
    have he : Str.empty.length = 0 := rfl
    have hd : (Str.ofString "definition ").length = 11 := rfl
    have ed : Str.empty ++ Str.ofString "definition" ++ gap = Str.empty ++ Str.ofString "definition " := by decide +kernel
    have q : Q (.d (.str (Str.empty ++ Str.ofString "definition " ++ n ++ gap ++ nt ps ++ gap ++ e ++ gap ++ rt r))) := by
      rw [← ed, ← join5]; exact q
    refine ⟨.inl ⟨_, rfl⟩, .inl ⟨_, _, rfl, rfl, _, rfl, _, rfl, ifF ?_⟩⟩
    refine .inl ⟨_, rfl, _, rfl, rfl, ?_⟩
    by_cases z : ps = []
    · subst z
      have h3 : (Str.ofString "-").length ≤ 128 := by decide
      exact .inl ⟨_, rfl, _, rfl, ifF (⟨_, rfl, (by simp only [app_len, hg1, he, hd]; omega), .inl ⟨_, rfl, .inl ⟨_, rfl, by omega, _, rfl, (by simp only [app_len, hg1, he, hd]; omega), ⟨_, rfl, (by simp only [app_len, hg1, he, hd]; omega), .inl ⟨_, rfl, .inl ⟨_, rfl, by omega, _, rfl, (by simp only [app_len, hg1, he, hd]; omega), ⟨_, rfl, (by simp only [app_len, hg1, he, hd]; omega), .inl ⟨_, rfl, .inl ⟨_, rfl, by omega, _, rfl, (by simp only [app_len, hg1, he, hd]; omega), ⟨_, rfl, (by simp only [app_len, hg1, he, hd]; omega), .inl ⟨_, rfl, rfl, table_shown (r := r) g2 g3 ⟨_, rfl, .inl ⟨_, rfl, by omega, _, rfl, (by simp only [app_len, hg1, he, hd]; omega), q⟩⟩⟩⟩⟩⟩⟩⟩⟩⟩⟩⟩⟩)⟩
    · have ht : truD (.tuple (ps.map .str)) = some true := by
        cases ps with
        | nil => exact absurd rfl z
        | cons a b => rfl
      have en : nt ps = Txt.join comma ps := if_neg z
      rw [en] at h3 q
      have h3 : (Txt.join (Str.ofString ",") ps).length ≤ 128 := h3
      have hsum := sum_le (f := fun x : Str => x.length) (k := 20) (xs := ps) fun x hx => good_len (hg x hx)
      refine .inl ⟨_, rfl, _, ht, ifT ⟨_, rfl, .inl ⟨_, rfl, ps, .inr rfl, ?_, ⟨_, rfl, (by simp only [app_len, hg1, he, hd]; omega), .inl ⟨_, rfl, .inl ⟨_, rfl, by omega, _, rfl, (by simp only [app_len, hg1, he, hd]; omega), ⟨_, rfl, (by simp only [app_len, hg1, he, hd]; omega), .inl ⟨_, rfl, .inl ⟨_, rfl, by omega, _, rfl, (by simp only [app_len, hg1, he, hd]; omega), ⟨_, rfl, (by simp only [app_len, hg1, he, hd]; omega), .inl ⟨_, rfl, .inl ⟨_, rfl, by omega, _, rfl, (by simp only [app_len, hg1, he, hd]; omega), ⟨_, rfl, (by simp only [app_len, hg1, he, hd]; omega), .inl ⟨_, rfl, rfl, table_shown (r := r) g2 g3 ⟨_, rfl, .inl ⟨_, rfl, by omega, _, rfl, (by simp only [app_len, hg1, he, hd]; omega), q⟩⟩⟩⟩⟩⟩⟩⟩⟩⟩⟩⟩⟩⟩⟩⟩
      show (ps.map (·.length)).sum + ps.length * comma.length ≤ _
      rw [comma1]; omega
end K50
namespace K50
open PySem PySem.Spec PyProof.Rows L2 DL
open TL (tl tl_append tl_join join_eq joinL len_tl ext_tl)
theorem mem_joinL {S : List Nat} {c : Nat} : ∀ {ps : List (List Nat)}, c ∈ joinL S ps → c ∈ S ∨ ∃ p ∈ ps, c ∈ p
  | [], h => nomatch h
  | [p], h => .inr ⟨p, List.mem_singleton.mpr rfl, h⟩
  | p :: q :: r, h => by
    have h : c ∈ p ++ (S ++ joinL S (q :: r)) := h
    rcases List.mem_append.mp h with z | z
    · exact .inr ⟨p, List.mem_cons_self .., z⟩
    · rcases List.mem_append.mp z with y | y
      · exact .inl y
      · rcases mem_joinL y with w | ⟨p2, h2, h3⟩
        · exact .inl w
        · exact .inr ⟨p2, List.mem_cons_of_mem _ h2, h3⟩
theorem name_let {x : Str} (h : nameB (.str x) = true) : ∀ c ∈ tl x, 97 ≤ c ∧ c ≤ 122 := by
  intro c hc
  have h2 : (signsD x).all letB = true := by
    have h : (decide (1 ≤ x.length ∧ x.length ≤ 8) && (signsD x).all letB) = true := h
    exact (Bool.and_eq_true_iff.mp h).2
  have hm : PyData.str ⟨#[c]⟩ ∈ signsD x := List.mem_map_of_mem (f := fun c => PyData.str ⟨#[c]⟩) hc
  have := List.all_eq_true.mp h2 _ hm
  have this : (decide (97 ≤ c) && decide (c ≤ 122)) = true := this
  simpa using this
theorem comma_tl : tl comma = [44] := by decide +kernel
theorem gap_tl : tl gap = [32] := by decide +kernel
theorem dash_tl : tl dash = [45] := by decide +kernel
theorem nt_signs {ps : List Str} (h : ∀ p ∈ ps, nameB (.str p) = true) : ∀ c ∈ tl (nt ps), 44 ≤ c := by
  intro c hc
  unfold nt at hc
  split at hc
  · rw [dash_tl] at hc
    rw [List.mem_singleton.mp hc]; decide
  · rw [join_eq, tl_join, comma_tl] at hc
    rcases mem_joinL hc with z | ⟨p, hp, z⟩
    · rw [List.mem_singleton.mp z]; decide
    · obtain ⟨x, hx, rfl⟩ := List.mem_map.mp hp
      have := name_let (h x hx) c z
      omega
theorem rt_signs {r : List Int} (hr : ∀ j ∈ r, 0 ≤ j ∧ j < 8) : ∀ c ∈ tl (rt r), 44 ≤ c := by
  intro c hc
  unfold rt at hc
  rw [join_eq, tl_join, comma_tl] at hc
  rcases mem_joinL hc with z | ⟨p, hp, z⟩
  · rw [List.mem_singleton.mp z]; decide
  · obtain ⟨x, hx, rfl⟩ := List.mem_map.mp hp
    obtain ⟨j, hj, rfl⟩ := List.mem_map.mp hx
    rw [(num_one (hr j hj)).2] at z
    rw [List.mem_singleton.mp z]; omega
theorem word_signs : ∀ b, ∀ c ∈ tl (wordB b), 44 ≤ c := by decide +kernel
theorem def_signs : ∀ c ∈ tl (Str.ofString "definition"), 44 ≤ c := by decide +kernel
theorem IOk.signs {ks : List (Str × Int)} (hk : KN ks) {it : It} (h : IOk ks it) : ∀ x ∈ itW it, 32 ∉ tl x := by
  obtain ⟨g1, g2, g3⟩ := h.good hk
  have nm : ∀ x, nameB (.str x) = true → 32 ∉ tl x := fun x hx hc => by have := name_let hx 32 hc; omega
  have hi : ∀ x, (∀ c ∈ tl x, 44 ≤ c) → 32 ∉ tl x := fun x hx hc => by have := hx 32 hc; omega
  intro x hx
  cases it with
  | conv n s t b r =>
    obtain ⟨hn, ⟨p, hp, e1, _⟩, ⟨p2, hp2, e2, _⟩, _⟩ := h
    simp only [itW, List.mem_cons, List.not_mem_nil, or_false] at hx
    rcases hx with rfl | rfl | rfl | rfl | rfl
    · exact hi _ (word_signs b)
    · exact nm _ hn.2
    · rw [e1]; exact nm _ (hk.nm p hp).2
    · rw [e2]; exact nm _ (hk.nm p2 hp2).2
    · exact hi _ (rt_signs g3)
  | defi n ps e r =>
    obtain ⟨hn, hl, hp, _, _, p2, hp2, e2, _⟩ := h
    simp only [itW, List.mem_cons, List.not_mem_nil, or_false] at hx
    rcases hx with rfl | rfl | rfl | rfl | rfl
    · exact hi _ def_signs
    · exact nm _ hn.2
    · exact hi _ (nt_signs fun q hq => by
        obtain ⟨p, hpk, rfl⟩ := hp q hq
        exact (hk.nm p hpk).2)
    · rw [e2]; exact nm _ (hk.nm p2 hp2).2
    · exact hi _ (rt_signs g3)
theorem words_back {ks : List (Str × Int)} (hk : KN ks) {it : It} (h : IOk ks it) : Txt.split (itT it) gap = itW it :=
  TL.split_join gap_tl (by decide +kernel) (fun z => by have := itW5 it; rw [z] at this; cases this) (h.signs hk)
theorem names_back {ps : List Str} (h0 : ps ≠ []) (h : ∀ p ∈ ps, nameB (.str p) = true) : Txt.split (nt ps) comma = ps := by
  have e : nt ps = Txt.join comma ps := if_neg h0
  rw [e]
  exact TL.split_join comma_tl (by decide +kernel) h0 fun p hp hc => by have := name_let (h p hp) 44 hc; omega
theorem row_back {r : List Int} (h0 : r ≠ []) (hr : ∀ j ∈ r, 0 ≤ j ∧ j < 8) : Txt.split (rt r) comma = r.map num := by
  refine TL.split_join comma_tl (by decide +kernel) (fun z => h0 (List.map_eq_nil_iff.mp z)) fun p hp hc => ?_
  obtain ⟨j, hj, rfl⟩ := List.mem_map.mp hp
  rw [(num_one (hr j hj)).2] at hc
  have := List.mem_singleton.mp hc
  omega
theorem nt_dash {ps : List Str} (h0 : ps ≠ []) (h : ∀ p ∈ ps, nameB (.str p) = true) : nt ps ≠ dash := fun z => by
  have e : nt ps = Txt.join comma ps := if_neg h0
  have hc : 45 ∈ tl (nt ps) := by rw [z, dash_tl]; exact List.mem_singleton.mpr rfl
  rw [e, join_eq, tl_join, comma_tl] at hc
  rcases mem_joinL hc with z | ⟨p, hp, z⟩
  · exact absurd (List.mem_singleton.mp z) (by decide)
  · obtain ⟨x, hx, rfl⟩ := List.mem_map.mp hp
    have := name_let (h x hx) 45 z
    omega
theorem eq_strd (x y : Str) : eqD (.str x) (.str y) = some (.bool (decide (x = y))) := by
  show some (PyData.bool (x == y)) = _
  congr 2
theorem names_read {ps : List Str} (hl : ps.length ≤ 3) (hg : ∀ p ∈ ps, NmOk p) {Q : Rv → Prop} (q : Q (.d (.tuple (ps.map .str)))) : w_names_written [.str (nt ps)] Q := by
  have sm := small
  have hlen := nt_len hl fun p hp => (hg p hp).1
  refine .inl ⟨_, rfl, _, eq_strd _ _, _, rfl, ite2 (fun c1 => ?_) (fun c1 => ?_)⟩
  · have c1 : nt ps = dash := of_decide_eq_true c1
    have : ps = [] := Classical.byContradiction fun z => nt_dash z (fun p hp => (hg p hp).2) c1
    subst this
    exact ⟨show 0 ≤ sizeLine by decide, q⟩
  · have c1 : ¬ nt ps = dash := fun z => c1 (decide_eq_true z)
    have h0 : ps ≠ [] := fun z => c1 (by rw [z]; rfl)
    refine .inl ⟨_, rfl, _, rfl, _, rfl, rfl, by omega, _, rfl, ?_⟩
    have e := names_back h0 fun p hp => (hg p hp).2
    have e : Txt.split (nt ps) (Str.ofString ",") = ps := e
    rw [e]
    exact q
theorem num_all : ∀ j : Nat, j < 8 → PySem.intText? (num (j : Nat)) = some ((j : Nat) : Int) := by decide +kernel
theorem num_back {j : Int} (h : 0 ≤ j ∧ j < 8) : intTL [.str (num j)] = some (.int j) := by
  have e := num_all j.toNat (by omega)
  rw [Int.toNat_of_nonneg h.1] at e
  show (if (num j).length ≤ 640 then (PySem.intText? (num j)).map PyData.int else none) = _
  rw [if_pos (by rw [(num_one h).1]; decide), e]; rfl
theorem cps0 : (Str.ofString "0").cps.toList = [48] := by decide +kernel
theorem cps9 : (Str.ofString "9").cps.toList = [57] := by decide +kernel
theorem le_0 (k : Nat) : leD (.str (Str.ofString "0")) (.str ⟨#[k]⟩) = some (.bool (decide (48 ≤ k))) := by
  show some (PyData.bool (!decide (([k] : List Nat) < (Str.ofString "0").cps.toList))) = _
  rw [cps0]
  congr 2
  rw [Bool.eq_iff_iff]
  simp [lt1]
theorem le_9 (k : Nat) : leD (.str ⟨#[k]⟩) (.str (Str.ofString "9")) = some (.bool (decide (k ≤ 57))) := by
  show some (PyData.bool (!decide ((Str.ofString "9").cps.toList < ([k] : List Nat)))) = _
  rw [cps9]
  congr 2
  rw [Bool.eq_iff_iff]
  simp [lt1]
theorem num_signs {j : Int} (h : 0 ≤ j ∧ j < 8) : signsD (num j) = [.str ⟨#[48 + j.toNat]⟩] := by
  have e : (num j).cps.toList = [48 + j.toNat] := (num_one h).2
  unfold signsD
  rw [e]; rfl
theorem number_read {j : Int} (h : 0 ≤ j ∧ j < 8) {Q : Rv → Prop} (q : Q (.d (.int j))) : w_number_written [.str (num j), .int 1] Q := by
  have sm := small
  have hl : lenD (.str (num j)) = some 1 := by
    show (if (num j).length ≤ sizeLine then some (((num j).length : Nat) : Int) else none) = _
    rw [(num_one h).1]; decide
  refine .inl ⟨_, _, rfl, hl, _, rfl, ifT (.inl ⟨_, rfl, _, rfl, _, rfl, ifF ?_⟩)⟩
  refine .inl ⟨_, rfl, _, rfl, fun i acc ρ => acc = ((signsD (num j)).take i).map (fun _ => .bool true) ∧ ρ = [.dat (.str (num j)), .dat (.int 1), .un], ⟨rfl, rfl⟩, ?_, ?_⟩
  · rintro i y acc ρ hy ⟨rfl, rfl⟩
    have hlt := (List.getElem?_eq_some_iff.mp hy).1
    have hy2 : y = .str ⟨#[48 + j.toNat]⟩ := by
      have := List.mem_of_getElem? hy
      rw [num_signs h] at this
      exact List.mem_singleton.mp this
    refine .inl ⟨_, rfl, _, by rw [hy2]; exact le_0 _, ?_⟩
    rw [decide_eq_true (show 48 ≤ 48 + j.toNat by omega)]
    refine ifT ⟨_, by rw [hy2]; exact le_9 _, ?_⟩
    rw [decide_eq_true (show 48 + j.toNat ≤ 57 by omega)]
    refine ⟨?_, (take_map (f := fun _ => PyData.bool true) hy).symm, rfl⟩
    rw [num_signs h] at hlt ⊢
    have : i = 0 := by simpa using hlt
    subst this
    show 0 < sizeLine
    omega
  · rintro acc ρ ⟨rfl, rfl⟩
    rw [List.take_length, num_signs h]
    refine ⟨_, rfl, _, rfl, ifF ?_⟩
    have hx : ixD (.str (num j)) (.int 0) = some (.str ⟨#[48 + j.toNat]⟩) := by
      have e : (num j).cps.toList = [48 + j.toNat] := (num_one h).2
      show (if (num j).length ≤ sizeLine then (L2.atI (num j).cps.toList 0).map (fun c => PyData.str ⟨#[c]⟩) else none) = _
      rw [if_pos (by rw [(num_one h).1]; omega), e]; rfl
    have fin : wRet (wCl intTL (wCons (wVar 0) wNil)) ⟨fun _ => Q (.d .none), fun r _ => Q r, fun _ => False, fun _ => False⟩ [.dat (.str (num j)), .dat (.int 1), .un] := .inl ⟨_, rfl, _, num_back h, q⟩
    refine ⟨.inl ⟨_, rfl⟩, .inl ⟨_, _, rfl, hx, _, eq_strd _ _, _, rfl, ite2 (fun c1 => ?_) (fun c1 => ?_)⟩⟩
    · exact .inl ⟨_, _, rfl, hl, _, rfl, _, rfl, ifF fin⟩
    · exact ifF fin
/-! ### a row's text, read -/
theorem none_eqv : ∀ r : List Int, ((r.map PyData.int).any fun y => PyData.eqv y .none) = false
  | [] => rfl
  | j :: r => by
    show ((PyData.int j).eqv .none || _) = false
    rw [none_eqv r]; rfl
theorem ints_plain : ∀ xs : List Int, PyData.plainAll (xs.map .int) = true
  | [] => rfl
  | x :: xs => by
    show ((PyData.int x).plain && PyData.plainAll (xs.map .int)) = true
    rw [ints_plain xs]; rfl
theorem none_in {r : List Int} : inD .none (.list (r.map .int)) = some (.bool false) := by
  show (if PyData.none.plain && PyData.plainAll (r.map .int) && decide (min (PyData.depthAll (r.map .int)) PyData.none.depth ≤ 100) then some ((r.map PyData.int).any fun y => PyData.eqv y .none) else none).map PyData.bool = _
  rw [ints_plain, none_eqv]
  have : PyData.none.depth = 0 := rfl
  rw [this, Nat.min_zero]; rfl
theorem row_read {r : List Int} (h0 : r ≠ []) (hl : r.length ≤ 64) (hr : ∀ j ∈ r, 0 ≤ j ∧ j < 8) {Q : Rv → Prop} (q : Q (.d (tI r))) : w_table_written [.str (rt r)] Q := by
  have sm := small
  have hlen := rt_len hl hr
  refine .inl ⟨_, rfl, _, rfl, _, rfl, rfl, by omega, ?_⟩
  have e : Txt.split (rt r) (Str.ofString ",") = r.map num := row_back h0 hr
  rw [e]
  refine ⟨_, rfl, fun i acc ρ => acc = (r.take i).map PyData.int ∧ ρ = [.dat (.str (rt r)), .un, .un], ⟨rfl, rfl⟩, ?_, ?_⟩
  · rintro i y acc ρ hy ⟨rfl, rfl⟩
    rw [List.getElem?_map, List.getElem?_map] at hy
    cases hq : r[i]? with
    | none => rw [hq] at hy; cases hy
    | some j =>
      rw [hq] at hy
      cases hy
      have hlt := (List.getElem?_eq_some_iff.mp hq).1
      refine .inl ⟨_, rfl, rfl, number_read (hr j (List.mem_of_getElem? hq)) ⟨_, rfl, ?_, (take_map (f := PyData.int) hq).symm, rfl⟩⟩
      rw [List.length_map, List.length_take]; omega
  · rintro acc ρ ⟨rfl, rfl⟩
    rw [List.length_map, List.length_map, List.take_length]
    refine .inl ⟨_, rfl, _, none_in, _, rfl, ifF (.inl ⟨_, rfl, _, rfl, q⟩)⟩
end K50
namespace K50
open PySem PySem.Spec PyProof.Rows L2 DL
open TL (tl tl_append tl_join join_eq joinL len_tl ext_tl)
theorem kg {ks : List (Str × Int)} (hk : KN ks) : ∀ p ∈ ks, good (.str p.1) = true := fun p hp => (hk.nm p hp).1
theorem in_words : ∀ b, inD (.str (wordB b)) (.tuple [.str (Str.ofString "implicit"), .str (Str.ofString "explicit")]) = some (.bool true) := by
  intro b
  have e : memD (.str (wordB b)) (.tuple [.str (Str.ofString "implicit"), .str (Str.ofString "explicit")]) = some true := by cases b <;> decide +kernel
  show (memD _ _).map PyData.bool = _
  rw [e]; rfl
theorem word_imp : ∀ b, decide (wordB b = Str.ofString "implicit") = b := by decide +kernel
theorem word_def : ∀ b, decide (wordB b = Str.ofString "definition") = false := by decide +kernel
set_option maxHeartbeats 2000000 in
theorem item_read {ks : List (Str × Int)} (hk : KN ks) {it : It} (h : IOk ks it) {Q : Rv → Prop} (q : Q (.d it.d)) : w_item_written [kd ks, .str (itT it)] Q := by
  have sm := small
  have hlen := (h.wr hk).len
  obtain ⟨g1, g2, g3⟩ := h.good hk
  have hg := (item_nc hk.s (kg hk) h).g
  have ht := item_true hk.s h
  refine .inl ⟨_, rfl, _, rfl, _, rfl, rfl, by omega, ?_⟩
  have e : Txt.split (itT it) (Str.ofString " ") = itW it := words_back hk h
  rw [e]
  have hl5 : ((itW it).map PyData.str).length = 5 := by rw [List.length_map, itW5]
  have fin : ∀ (s2 s3 s4 s5 s6 s7 : Sl), wRet (wIf (wTru (wCall 2 w_is_item (wCons (wVar 0) (wCons (wVar 8) wNil)))) (wVar 8) (wC .none)) ⟨fun _ => Q (.d .none), fun r _ => Q r, fun _ => False, fun _ => False⟩ [.dat (kd ks), .dat (.str (itT it)), s2, s3, s4, s5, s6, s7, .dat it.d] := fun s2 s3 s4 s5 s6 s7 => by
    refine .inl ⟨_, rfl, .inl ⟨_, rfl, rfl, is_item_ok hk.s hg ⟨_, rfl, _, rfl, ?_⟩⟩⟩
    rw [ht]
    exact ifT (.inl ⟨_, rfl, q⟩)
  refine .inl ⟨_, _, rfl, rfl, _, rfl, _, rfl, ?_⟩
  cases it with
  | conv n s t b r =>
    refine ifF (.inl ⟨_, rfl, _, rfl, rfl, .inl ⟨_, rfl, _, eq_strd _ _, _, rfl, ?_⟩⟩)
    rw [word_def b]
    refine ifF ?_
    refine .inl ⟨_, rfl, show 2 ≤ sizeLine by decide, _, in_words b, _, rfl, ifT ?_⟩
    refine .inl ⟨_, rfl, .inl ⟨_, rfl, .inl ⟨_, rfl, .inl ⟨_, rfl, _, eq_strd _ _, .inl ⟨_, rfl, rfl, row_read g1 g2 g3 ⟨_, rfl, show 6 ≤ sizeLine by decide, ?_⟩⟩⟩⟩⟩⟩
    rw [word_imp b]
    exact fin _ _ _ _ _ _
  | defi n ps e r =>
    refine ifF (.inl ⟨_, rfl, _, rfl, rfl, .inl ⟨_, rfl, _, eq_strd _ _, _, rfl, ifT ?_⟩⟩)
    obtain ⟨hn, hl, hp, _⟩ := h
    refine .inl ⟨_, rfl, .inl ⟨_, rfl, rfl, names_read hl (fun q hq => by
      obtain ⟨p, hpk, rfl⟩ := hp q hq
      exact hk.nm p hpk) ⟨_, rfl, .inl ⟨_, rfl, .inl ⟨_, rfl, rfl, row_read g1 g2 g3 ⟨_, rfl, show 5 ≤ sizeLine by decide, ?_⟩⟩⟩⟩⟩⟩
    exact fin _ _ _ _ _ _
theorem item_back {ks : List (Str × Int)} (hk : KN ks) {it : It} (h : IOk ks it) {Q : Rv → Prop} (q : Q (.d it.d)) : w_read_item [kd ks, .str (itT it)] Q := by
  have hn : isND it.d .none = some (.bool false) := by cases it <;> rfl
  refine .inl ⟨_, rfl, _, rfl, ifT (.inl ⟨_, rfl, .inl ⟨_, rfl, rfl, item_read hk h ⟨_, rfl, .inl ⟨_, rfl, _, hn, _, rfl, ifF (.inl ⟨_, rfl, q⟩)⟩⟩⟩⟩)⟩
end K50
namespace K50
open PySem PySem.Spec PyProof.Rows L2 DL
open TL (tl tl_append tl_join join_eq joinL len_tl ext_tl)
theorem nt_up {ps : List Str} (h : ∀ p ∈ ps, nameB (.str p) = true) : ∀ c ∈ tl (nt ps), c ≤ 122 := by
  intro c hc
  unfold nt at hc
  split at hc
  · rw [dash_tl] at hc
    rw [List.mem_singleton.mp hc]; decide
  · rw [join_eq, tl_join, comma_tl] at hc
    rcases mem_joinL hc with z | ⟨p, hp, z⟩
    · rw [List.mem_singleton.mp z]; decide
    · obtain ⟨x, hx, rfl⟩ := List.mem_map.mp hp
      have := name_let (h x hx) c z
      omega
theorem rt_up {r : List Int} (hr : ∀ j ∈ r, 0 ≤ j ∧ j < 8) : ∀ c ∈ tl (rt r), c ≤ 122 := by
  intro c hc
  unfold rt at hc
  rw [join_eq, tl_join, comma_tl] at hc
  rcases mem_joinL hc with z | ⟨p, hp, z⟩
  · rw [List.mem_singleton.mp z]; decide
  · obtain ⟨x, hx, rfl⟩ := List.mem_map.mp hp
    obtain ⟨j, hj, rfl⟩ := List.mem_map.mp hx
    rw [(num_one (hr j hj)).2] at z
    have := hr j hj
    rw [List.mem_singleton.mp z]; omega
theorem word_up : ∀ b, ∀ c ∈ tl (wordB b), c ≤ 122 := by decide +kernel
theorem def_up : ∀ c ∈ tl (Str.ofString "definition"), c ≤ 122 := by decide +kernel
theorem IOk.up {ks : List (Str × Int)} (hk : KN ks) {it : It} (h : IOk ks it) : ∀ x ∈ itW it, ∀ c ∈ tl x, c ≤ 122 := by
  obtain ⟨g1, g2, g3⟩ := h.good hk
  have nm : ∀ x, nameB (.str x) = true → ∀ c ∈ tl x, c ≤ 122 := fun x hx c hc => (name_let hx c hc).2
  have hi : ∀ x, (∀ c ∈ tl x, c ≤ 122) → ∀ c ∈ tl x, c ≤ 122 := fun x hx => hx
  intro x hx
  cases it with
  | conv n s t b r =>
    obtain ⟨hn, ⟨p, hp, e1, _⟩, ⟨p2, hp2, e2, _⟩, _⟩ := h
    simp only [itW, List.mem_cons, List.not_mem_nil, or_false] at hx
    rcases hx with rfl | rfl | rfl | rfl | rfl
    · exact hi _ (word_up b)
    · exact nm _ hn.2
    · rw [e1]; exact nm _ (hk.nm p hp).2
    · rw [e2]; exact nm _ (hk.nm p2 hp2).2
    · exact hi _ (rt_up g3)
  | defi n ps e r =>
    obtain ⟨hn, hl, hp, _, _, p2, hp2, e2, _⟩ := h
    simp only [itW, List.mem_cons, List.not_mem_nil, or_false] at hx
    rcases hx with rfl | rfl | rfl | rfl | rfl
    · exact hi _ def_up
    · exact nm _ hn.2
    · exact hi _ (nt_up fun q hq => by
        obtain ⟨p, hpk, rfl⟩ := hp q hq
        exact (hk.nm p hpk).2)
    · rw [e2]; exact nm _ (hk.nm p2 hp2).2
    · exact hi _ (rt_up g3)
theorem page_up {ks : List (Str × Int)} (hk : KN ks) {it : It} (h : IOk ks it) : ∀ c ∈ tl (itT it), c ≤ 122 := by
  intro c hc
  unfold itT at hc
  rw [join_eq, tl_join, gap_tl] at hc
  rcases mem_joinL hc with z | ⟨p, hp, z⟩
  · rw [List.mem_singleton.mp z]; decide
  · obtain ⟨x, hx, rfl⟩ := List.mem_map.mp hp
    exact h.up hk x hx c z
theorem page_repr {ks : List (Str × Int)} (hk : KN ks) {it : It} (h : IOk ks it) : reprFL [.str (itT it)] = some (.str (PyData.shown (.str (itT it)))) := by
  have sm := small
  have h1 := (h.wr hk).len
  have h2 := PySem.StrLaws.reprText_len (itT it) fun c hc => Nat.lt_of_le_of_lt (page_up hk h c hc) (by decide)
  have e : PyData.shown (.str (itT it)) = reprText (itT it) := by simp only [PyData.shown]
  refine if_pos ?_
  rw [e]
  have e1 : PyData.showable (.str (itT it)) = true := rfl
  have e2 : PyData.depth (.str (itT it)) = 0 := rfl
  rw [e1, e2, Bool.true_and, Bool.and_eq_true]
  exact ⟨rfl, decide_eq_true (by omega)⟩
theorem ne_str (x : Str) : neD (.str x) (.str x) = some (.bool false) := by
  show some (PyData.bool (!(x == x))) = _
  rw [beq_self_eq_true]; rfl
set_option maxHeartbeats 4000000 in
theorem turn_ok {ns : List Int} {k tn : Int} {ps : List D} {ks : List (Str × Int)} {it : It} {s6 s7 : Sl} (hk : KN ks) (h : IOk ks it) (nb : nbB [s6, s7] = true) {D : _} (q : ∀ a b : Str, D.nx [.ints ns, .dat (.int k), .own ps, .dat (kd ks), .dat (.int tn), .dat it.d, .dat (.str a), .dat (.str b)]) :
    (wSeq (wPar2 6 7 (wMd (wCall 1 w__law_item_text (wCons (wVar 5) wNil)) (wMd (wCl reprFL (wCons (wTup (wCons (wVar 3) (wCons (wVar 5) wNil))) wNil)) wMnil))) (wSeq (wIfS (wTst (wBin neD (wCl reprFL (wCons (wCall 1 w_show_item (wCons (wVar 5) wNil)) wNil)) (wCl reprFL (wCons (wVar 6) wNil)))) (wRet (wC (.bool false))) wNext) (wSeq (wIfS (wTst (wBin neD (wCl reprFL (wCons (wCall 2 w_read_item (wCons (wVar 3) (wCons (wVar 6) wNil))) wNil)) (wCl reprFL (wCons (wVar 5) wNil)))) (wRet (wC (.bool false))) wNext) (wIfS (wTst (wBin neD (wCl reprFL (wCons (wTup (wCons (wVar 3) (wCons (wVar 5) wNil))) wNil)) (wVar 7))) (wRet (wC (.bool false))) wNext)))) D [.ints ns, .dat (.int k), .own ps, .dat (kd ks), .dat (.int tn), .dat it.d, s6, s7] := by
  have sm := small
  have nk := kd_nc hk.s (kg hk)
  have ni := item_nc hk.s (kg hk) h
  have rp := page_repr hk h
  have ri := repr_ok ni.g (Nat.le_trans ni.dp (by decide)) (Nat.le_trans ni.ct (by decide))
  have rb : reprFL [.tuple [kd ks, it.d]] = some (.str (PyData.shown (.tuple [kd ks, it.d]))) := by
    refine repr_ok (good_tup.mpr ⟨by simp, fun d hd => ?_⟩) ?_ ?_
    · simp only [List.mem_cons, List.not_mem_nil, or_false] at hd
      rcases hd with rfl | rfl
      · exact nk.g
      · exact ni.g
    · have h1 := nk.dp
      have h2 := ni.dp
      simp only [PyData.depth, PyData.depthAll] at h1 h2 ⊢
      omega
    · have h1 := nk.ct
      have h2 := ni.ct
      show (cost (kd ks) + 2 + (cost it.d + 2 + 0)) + 24 ≤ 16000000
      omega
  have nba : ∀ x, x ∈ [s6, s7] → nbB [x] = true := fun x hx => by
    have := List.all_eq_true.mp nb x hx
    simp only [nbB, List.all_cons, List.all_nil, Bool.and_true]
    exact this
  have nbF : nbB [.ints ns, .dat (.int k), .own ps, .dat (kd ks), .dat (.int tn), .dat it.d, s6, s7] = true := by
    have h6 := nba s6 (by simp)
    have h7 := nba s7 (by simp)
    simp only [nbB, List.all_cons, List.all_nil, Bool.and_true] at h6 h7 ⊢
    simp only [h6, h7]; rfl
  refine .inl ⟨_, rfl, rfl, item_texted hk h ⟨_, rfl, ?_⟩⟩
  refine .inl ⟨_, rfl, .inl ⟨_, rfl, show 2 ≤ sizeLine by decide, _, rb, noBag_b nbF, _, _, rfl, ?_⟩⟩
  refine .inl ⟨_, rfl, rfl, item_shown hk h ⟨_, rfl, _, rp, .inl ⟨_, rfl, _, rp, _, ne_str _, _, rfl, ifF ?_⟩⟩⟩
  refine .inl ⟨_, rfl, .inl ⟨_, rfl, rfl, item_back hk h ⟨_, rfl, _, ri, .inl ⟨_, rfl, _, ri, _, ne_str _, _, rfl, ifF ?_⟩⟩⟩⟩
  refine .inl ⟨_, rfl, .inl ⟨_, rfl, show 2 ≤ sizeLine by decide, _, rb, .inl ⟨_, rfl, _, ne_str _, _, rfl, ifF ?_⟩⟩⟩
  exact q _ _
end K50
namespace K50
open PySem PySem.Spec PyProof.Rows L2 DL
theorem nb_all {l : List Sl} : nbB l = true ↔ ∀ x ∈ l, nbB [x] = true := by
  unfold nbB
  rw [List.all_eq_true]
  constructor
  · intro h x hx
    have := h x hx
    simp only [List.all_cons, List.all_nil, Bool.and_true]
    exact this
  · intro h x hx
    have := h x hx
    simp only [List.all_cons, List.all_nil, Bool.and_true] at this
    exact this
theorem long3 : ∀ x ∈ [Str.ofString "f", Str.ofString "long", Str.ofString "lengthy"], NmOk x := fun x hx => someNames_ok x (by
  simp only [List.mem_cons, List.not_mem_nil, or_false] at hx
  rcases hx with rfl | rfl | rfl <;> decide +kernel)
def Wk (ns : List Int) : Nat → List Sl → Prop := fun _ ρ => ∃ s1 s2 s3 s4 s5 s6 s7 : Sl, ρ = [.ints ns, s1, s2, s3, s4, s5, s6, s7] ∧ nbB [s1, s2, s3, s4, s5, s6, s7] = true
set_option maxHeartbeats 8000000 in
theorem true_law (ns : List Int) (hns : ns.length ≤ 63) : w_law ns [] fun r => r = .d (.bool true) := by
  have sm := small
  refine ⟨ns, rfl, _, rfl, _, rfl, ?_⟩
  generalize hj : (if (if (ns.length : Int) < 3 then (ns.length : Int) else 3) > 1 then (if (ns.length : Int) < 3 then (ns.length : Int) else 3) else 1) = j
  have hj3 : j ≤ 3 := by rw [← hj]; split <;> split <;> omega
  have hj0 : 0 ≤ j := by rw [← hj]; split <;> split <;> omega
  refine ⟨j, rfl, by omega, by omega, Wk ns, ?_, ?_, ?_⟩
  · exact ⟨_, _, _, _, _, _, _, rfl, rfl⟩
  · rintro i x ρ hx ⟨s1, s2, s3, s4, s5, s6, s7, rfl, nb⟩
    obtain ⟨rfl, hlt⟩ := upto_get hx
    have nbx := nb_all.mp nb
    have nb4 : nbB [s4, s5, s6, s7] = true := nb_all.mpr fun x hx => nbx x (by
      simp only [List.mem_cons, List.not_mem_nil, or_false] at hx ⊢
      rcases hx with h | h | h | h <;> simp [h])
    refine ⟨⟨_, rfl⟩, .inl ⟨_, rfl, ns, rfl, rfl, stream_ok (by omega) (by omega) fun ps hp => ⟨_, rfl, ?_⟩⟩⟩
    refine ⟨⟨_, rfl⟩, ps, rfl, rfl, kinds_drawn hp (by decide) fun ks ps1 hk hp1 => ⟨_, rfl, ?_⟩⟩
    have gk := kg hk
    have nk := kd_nc hk.s gk
    refine ⟨10, rfl, by decide, by decide, fun n ρ => ∃ (ps' : List D) (s4 s5 s6 s7 : Sl), ρ = [.ints ns, .dat (.int (0 + (i : Nat))), .own ps', .dat (kd ks), s4, s5, s6, s7] ∧ nbB [s4, s5, s6, s7] = true ∧ Pot (100 + 2000 * n) ps', ?_, ?_, ?_⟩
    · exact ⟨ps1, _, _, _, _, rfl, nb4, hp1.mono (by omega)⟩
    · rintro n x ρ hx ⟨ps', s4, s5, s6, s7, rfl, nb4, hp'⟩
      obtain ⟨rfl, hn⟩ := upto_get hx
      have hn : n < 10 := hn
      have nb6 := nb_all.mp nb4
      have b6 := nb6 s6 (by simp)
      have b7 := nb6 s7 (by simp)
      refine ⟨⟨_, rfl⟩, .inl ⟨_, rfl, ps', rfl, rfl, item_drawn hk hp' (by omega) fun it0 ps2 h0 hp2 => ⟨_, rfl, ?_⟩⟩⟩
      have nb67 : nbB [s6, s7] = true := nb_all.mpr fun x hx => by
        simp only [List.mem_cons, List.not_mem_nil, or_false] at hx
        rcases hx with rfl | rfl <;> assumption
      refine ⟨⟨_, rfl⟩, ps2, rfl, rfl, take_ok hp2 (by omega) (by decide) (by decide) fun r ps3 r0 r1 hp3 => ⟨_, rfl, _, rfl, _, rfl, ite2 (fun c1 => ?_) (fun c1 => ?_)⟩⟩
      · refine ⟨⟨_, rfl⟩, .inl ⟨_, rfl, ⟨_, rfl⟩, show 3 ≤ sizeLine by decide, ps3, rfl, rfl, of_ok hp3 (by omega) (by exact List.cons_ne_nil _ _) (show 3 ≤ 1000 by decide) fun d ps4 hd hp4 => ⟨_, rfl, ps4, rfl, rfl, ?_⟩⟩⟩
        have hd : ∃ x, NmOk x ∧ d = .str x := by
          simp only [List.nil_append, List.cons_append, List.mem_cons, List.not_mem_nil, or_false] at hd
          rcases hd with rfl | rfl | rfl
          · exact ⟨_, long3 _ (by simp), rfl⟩
          · exact ⟨_, long3 _ (by simp), rfl⟩
          · exact ⟨_, long3 _ (by simp), rfl⟩
        obtain ⟨x, hx, rfl⟩ := hd
        refine def_drawn hk hx (by decide) (by decide) hp4 (by omega) fun qs e r ps5 hio hp5 => ⟨_, rfl, ?_⟩
        exact turn_ok hk hio nb67 fun a b => ⟨ps5, _, _, _, _, rfl, rfl, hp5.mono (by omega)⟩
      · exact turn_ok hk h0 nb67 fun a b => ⟨ps3, _, _, _, _, rfl, rfl, hp3.mono (by omega)⟩
    · rintro ρ ⟨ps', s4, s5, s6, s7, rfl, nb4, _⟩
      refine ⟨_, _, _, _, _, _, _, rfl, nb_all.mpr fun x hx => ?_⟩
      have nb6 := nb_all.mp nb4
      simp only [List.mem_cons, List.not_mem_nil, or_false] at hx nb6
      rcases hx with h | h | h | h | h | h | h <;> first | (rw [h]; rfl) | exact nb6 x (by simp [h])
  · rintro ρ ⟨s1, s2, s3, s4, s5, s6, s7, rfl, _⟩
    rfl
end K50
open PySem PySem.W PyProof.Rows
set_option maxRecDepth 100000 in
set_option maxHeartbeats 0 in
theorem PySem.Challenge.cw_samereading_k50_items_written_and_read_holds : PySem.Challenge.rw_samereading_k50_items_written_and_read.Holds := by
  w_on; o_law; k_head; (case hw => w_witness2)
  k_fill
  refine K50.walk (l := PySem.Challenge.rw_samereading_k50_items_written_and_read) rfl rfl (fun w h Y => PySem.W.kIn_of Y) ?F K50.true_law
  case F =>
    intro w mg fa h KX G hmg
    refine' K50.all_mk KX G hmg ?a__law_stream ?l__law_stream ?c__law_stream ?k__law_stream ?a__law_draw ?l__law_draw ?c__law_draw ?k__law_draw ?a__law_pick ?l__law_pick ?c__law_pick ?k__law_pick ?a__law_names ?l__law_names ?c__law_names ?k__law_names ?a__law_kinds ?l__law_kinds ?c__law_kinds ?k__law_kinds ?a__law_conversion ?l__law_conversion ?c__law_conversion ?k__law_conversion ?a__law_rows ?l__law_rows ?c__law_rows ?k__law_rows ?a__law_definition ?l__law_definition ?c__law_definition ?k__law_definition ?a__law_item ?l__law_item ?c__law_item ?k__law_item ?a__law_commas ?l__law_commas ?c__law_commas ?k__law_commas ?a__law_item_text ?l__law_item_text ?c__law_item_text ?k__law_item_text ?a_show_table ?l_show_table ?c_show_table ?k_show_table ?a_show_item ?l_show_item ?c_show_item ?k_show_item ?a_names_written ?l_names_written ?c_names_written ?k_names_written ?a_number_written ?l_number_written ?c_number_written ?k_number_written ?a_table_written ?l_table_written ?c_table_written ?k_table_written ?a_is_kind ?l_is_kind ?c_is_kind ?k_is_kind ?a_is_name ?l_is_name ?c_is_name ?k_is_name ?a_is_integer ?l_is_integer ?c_is_integer ?k_is_integer ?a_is_table ?l_is_table ?c_is_table ?k_is_table ?a_is_conversion ?l_is_conversion ?c_is_conversion ?k_is_conversion ?a_is_parameters ?l_is_parameters ?c_is_parameters ?k_is_parameters ?a_is_definition ?l_is_definition ?c_is_definition ?k_is_definition ?a_is_item ?l_is_item ?c_is_item ?k_is_item ?a_item_written ?l_item_written ?c_item_written ?k_item_written ?a_read_item ?l_read_item ?c_read_item ?k_read_item ?a_law ?l_law ?c_law ?k_law ?z_int ?z_len ?z_abs ?z_range ?z_sorted ?z_tuple ?z_sum ?z_str ?z_all ?z_isinstance ?z_bool ?z_dict ?z_max ?z_min ?z_repr ?v_MOST_LETTERS ?v_MOST_PARAMETERS ?v_MOST_ENTRIES
    (case a__law_stream => k_is); (case l__law_stream => k_is); (case c__law_stream => k_is); (case k__law_stream => k_is)
    (case a__law_draw => k_is); (case l__law_draw => k_is); (case c__law_draw => k_is); (case k__law_draw => k_is)
    (case a__law_pick => k_is); (case l__law_pick => k_is); (case c__law_pick => k_is); (case k__law_pick => k_is)
    (case a__law_names => k_is); (case l__law_names => k_is); (case c__law_names => k_is); (case k__law_names => k_is)
    (case a__law_kinds => k_is); (case l__law_kinds => k_is); (case c__law_kinds => k_is); (case k__law_kinds => k_is)
    (case a__law_conversion => k_is); (case l__law_conversion => k_is); (case c__law_conversion => k_is); (case k__law_conversion => k_is)
    (case a__law_rows => k_is); (case l__law_rows => k_is); (case c__law_rows => k_is); (case k__law_rows => k_is)
    (case a__law_definition => k_is); (case l__law_definition => k_is); (case c__law_definition => k_is); (case k__law_definition => k_is)
    (case a__law_item => k_is); (case l__law_item => k_is); (case c__law_item => k_is); (case k__law_item => k_is)
    (case a__law_commas => k_is); (case l__law_commas => k_is); (case c__law_commas => k_is); (case k__law_commas => k_is)
    (case a__law_item_text => k_is); (case l__law_item_text => k_is); (case c__law_item_text => k_is); (case k__law_item_text => k_is)
    (case a_show_table => k_is); (case l_show_table => k_is); (case c_show_table => k_is); (case k_show_table => k_is)
    (case a_show_item => k_is); (case l_show_item => k_is); (case c_show_item => k_is); (case k_show_item => k_is)
    (case a_names_written => k_is); (case l_names_written => k_is); (case c_names_written => k_is); (case k_names_written => k_is)
    (case a_number_written => k_is); (case l_number_written => k_is); (case c_number_written => k_is); (case k_number_written => k_is)
    (case a_table_written => k_is); (case l_table_written => k_is); (case c_table_written => k_is); (case k_table_written => k_is)
    (case a_is_kind => k_is); (case l_is_kind => k_is); (case c_is_kind => k_is); (case k_is_kind => k_is)
    (case a_is_name => k_is); (case l_is_name => k_is); (case c_is_name => k_is); (case k_is_name => k_is)
    (case a_is_integer => k_is); (case l_is_integer => k_is); (case c_is_integer => k_is); (case k_is_integer => k_is)
    (case a_is_table => k_is); (case l_is_table => k_is); (case c_is_table => k_is); (case k_is_table => k_is)
    (case a_is_conversion => k_is); (case l_is_conversion => k_is); (case c_is_conversion => k_is); (case k_is_conversion => k_is)
    (case a_is_parameters => k_is); (case l_is_parameters => k_is); (case c_is_parameters => k_is); (case k_is_parameters => k_is)
    (case a_is_definition => k_is); (case l_is_definition => k_is); (case c_is_definition => k_is); (case k_is_definition => k_is)
    (case a_is_item => k_is); (case l_is_item => k_is); (case c_is_item => k_is); (case k_is_item => k_is)
    (case a_item_written => k_is); (case l_item_written => k_is); (case c_item_written => k_is); (case k_item_written => k_is)
    (case a_read_item => k_is); (case l_read_item => k_is); (case c_read_item => k_is); (case k_read_item => k_is)
    (case a_law => k_is); (case l_law => k_is); (case c_law => k_is); (case k_law => k_is)
    (case z_int => k_is)
    (case z_len => k_is)
    (case z_abs => k_is)
    (case z_range => k_is)
    (case z_sorted => k_is)
    (case z_tuple => k_is)
    (case z_sum => k_is)
    (case z_str => k_is)
    (case z_all => k_is)
    (case z_isinstance => k_is)
    (case z_bool => k_is)
    (case z_dict => k_is)
    (case z_max => k_is)
    (case z_min => k_is)
    (case z_repr => k_is)
    (case v_MOST_LETTERS => k_is)
    (case v_MOST_PARAMETERS => k_is)
    (case v_MOST_ENTRIES => k_is)

