import PyProof.Rows.All
import Wide.All
import OpenK.AllK
import Wide.FinOn
import HandS.ForMost
import HandS.TupAny
import HandS.DictComp
import HandS.IsInst
import HandS.Conv
import HandS.Wide
import KE.SortData
import KE.DataEq
import KE.KeyNested
import HandS.Style
import HandS.Defaults
import KE.KDictPairs
import PyProof.ListStr
import HandS.AnyAll
import KE.GoesMore
import PyProof.CallFns
import PyProof.CompUse
import PyProof.ReprRoads
import HandS.Rev
import KE.KRevSl
import HandS.Set
import HandS.Strs
import HandS.SetKeys
import HandS.SetBool
import HandS.SetFor
import HandS.TupSets
import HandS.Comp
import PySem.Challenge.RW_samereading_k07_chains_in_their_order
set_option Elab.async false
set_option linter.all false
set_option maxRecDepth 100000
set_option exponentiation.threshold 2000
/-! A layer over HandS: Python's values as data (PyData); lists that a def changes stand in its slots as its own. -/
namespace DL
open PySem PySem.Spec PyProof.Rows L2

abbrev D := PyData
def keyD : Key → D
  | .inl i => .int i
  | .inr s => .str s

/-- a plain tuple: tracked with its object, or a constant -/
def TupK (K : PySem.W.Frag) (H : Hp) (a : Addr) (xs : List V) : Prop :=
  (∃ o : Obj, o.dict = none ∧ H a = some (.frz o (.tup xs))) ∨
    ∃ (o : Obj) (its : Array Value) (n : Nat), K.lookup a = some o ∧ o.cls = .type "tuple" ∧ o.dict = none ∧ o.data = .seq its n ∧ its.size ≤ sizeLine ∧ Vals xs its.toList
theorem TupK.sqT {K : PySem.W.Frag} {H : Hp} {a : Addr} {xs : List V} (h : TupK K H a xs) : SqT K H a xs := by
  rcases h with ⟨o, _, h⟩ | ⟨o, its, n, h1, h2, _, h4, h5, h6⟩
  · exact .inl (.inr ⟨o, h⟩)
  · exact .inr ⟨o, its, n, h1, h2, h4, h5, h6⟩
mutual
/-- v is the data d, of objects that never change -/
inductive Is (K : PySem.W.Frag) (H : Hp) : V → D → Prop
  | non : Is K H .non .none
  | bl (b : Bool) : Is K H (.bl b) (.bool b)
  | int (i : Int) : Is K H (.int i) (.int i)
  | str (x : Str) : Is K H (.str x) (.str x)
  | lst {a : Addr} {o : Obj} {xs : List V} {ds : List D} : H a = some (.frz o (.lst xs)) → IsAll K H xs ds → Is K H (.ref a) (.list ds)
  | tup {a : Addr} {xs : List V} {ds : List D} : TupK K H a xs → IsAll K H xs ds → Is K H (.ref a) (.tuple ds)
  | dct {a : Addr} {o : Obj} {kvs : List (Key × V)} {es : List (D × D)} : H a = some (.frz o (.dK kvs)) → IsKv K H kvs es → Is K H (.ref a) (.dict es)
inductive IsAll (K : PySem.W.Frag) (H : Hp) : List V → List D → Prop
  | nil : IsAll K H [] []
  | cons {v : V} {vs : List V} {d : D} {ds : List D} : Is K H v d → IsAll K H vs ds → IsAll K H (v :: vs) (d :: ds)
inductive IsKv (K : PySem.W.Frag) (H : Hp) : List (Key × V) → List (D × D) → Prop
  | nil : IsKv K H [] []
  | cons {k : Key} {v : V} {vs : List (Key × V)} {d : D} {ds : List (D × D)} : Is K H v d → IsKv K H vs ds → IsKv K H ((k, v) :: vs) ((keyD k, d) :: ds)
end

def fixd : HO → Bool
  | .tup _ => true
  | .frz _ _ => true
  | _ => false
/-- what never changes has stayed -/
def Fx (H H' : Hp) : Prop := ∀ a o, fixd o = true → H a = some o → H' a = some o
theorem Fx.refl (H : Hp) : Fx H H := fun _ _ _ h => h
theorem Fx.trans {H H1 H2 : Hp} (a : Fx H H1) (b : Fx H1 H2) : Fx H H2 := fun c o f h => b c o f (a c o f h)
theorem Same.fx {H H' : Hp} (e : Same H H') : Fx H H' := fun a o _ h => e a o h
theorem Fx.sqT {K : PySem.W.Frag} {H H' : Hp} {a : Addr} {xs : List V} (e : Fx H H') (h : SqT K H a xs) : SqT K H' a xs := by
  rcases h with (h | ⟨o, h⟩) | h
  · exact .inl (.inl (e _ _ rfl h))
  · exact .inl (.inr ⟨o, e _ _ rfl h⟩)
  · exact .inr h
theorem Fx.tupK {K : PySem.W.Frag} {H H' : Hp} {a : Addr} {xs : List V} (e : Fx H H') (h : TupK K H a xs) : TupK K H' a xs := by
  rcases h with ⟨o, d, h⟩ | h
  · exact .inl ⟨o, d, e _ _ rfl h⟩
  · exact .inr h
mutual
theorem Is.mono {K : PySem.W.Frag} {H H' : Hp} (e : Fx H H') : ∀ (d : D) (v : V), Is K H v d → Is K H' v d
  | .none, _, h => by cases h; exact .non
  | .bool b, _, h => by cases h; exact .bl b
  | .int i, _, h => by cases h; exact .int i
  | .str x, _, h => by cases h; exact .str x
  | .list ds, _, h => by
    cases h with
    | lst h1 h2 => exact .lst (e _ _ rfl h1) (IsAll.mono e ds _ h2)
  | .tuple ds, _, h => by
    cases h with
    | tup h1 h2 => exact .tup (e.tupK h1) (IsAll.mono e ds _ h2)
  | .dict es, _, h => by
    cases h with
    | dct h1 h2 => exact .dct (e _ _ rfl h1) (IsKv.mono e es _ h2)
theorem IsAll.mono {K : PySem.W.Frag} {H H' : Hp} (e : Fx H H') : ∀ (ds : List D) (vs : List V), IsAll K H vs ds → IsAll K H' vs ds
  | [], _, h => by cases h; exact .nil
  | d :: ds, _, h => by
    cases h with
    | cons h1 h2 => exact .cons (Is.mono e d _ h1) (IsAll.mono e ds _ h2)
theorem IsKv.mono {K : PySem.W.Frag} {H H' : Hp} (e : Fx H H') : ∀ (ds : List (D × D)) (vs : List (Key × V)), IsKv K H vs ds → IsKv K H' vs ds
  | [], _, h => by cases h; exact .nil
  | (k, d) :: ds, _, h => by
    cases h with
    | cons h1 h2 => exact .cons (Is.mono e d _ h1) (IsKv.mono e ds _ h2)
end
section
variable {K : PySem.W.Frag} {H H' : Hp}
theorem IsAll.length : ∀ {vs : List V} {ds : List D}, IsAll K H vs ds → vs.length = ds.length
  | _, _, .nil => rfl
  | _, _, .cons _ t => by rw [List.length_cons, List.length_cons, t.length]
theorem IsAll.get : ∀ {vs : List V} {ds : List D} {i : Nat} {d : D}, IsAll K H vs ds → ds[i]? = some d → ∃ v, vs[i]? = some v ∧ Is K H v d
  | _, _, _, _, .nil, e => by simp at e
  | _, _, 0, _, .cons r _, e => by simp at e; subst e; exact ⟨_, rfl, r⟩
  | _, _, i + 1, d, .cons _ t, e => by
    obtain ⟨u, h1, h2⟩ := IsAll.get (i := i) (d := d) t (by simpa using e)
    exact ⟨u, by simpa using h1, h2⟩
theorem IsAll.getV : ∀ {vs : List V} {ds : List D} {i : Nat} {v : V}, IsAll K H vs ds → vs[i]? = some v → ∃ d, ds[i]? = some d ∧ Is K H v d
  | _, _, _, _, .nil, e => by simp at e
  | _, _, 0, _, .cons r _, e => by simp at e; subst e; exact ⟨_, rfl, r⟩
  | _, _, i + 1, d, .cons _ t, e => by
    obtain ⟨u, h1, h2⟩ := IsAll.getV (i := i) t (by simpa using e)
    exact ⟨u, by simpa using h1, h2⟩
theorem IsAll.append : ∀ {vs ws : List V} {ds es : List D}, IsAll K H vs ds → IsAll K H ws es → IsAll K H (vs ++ ws) (ds ++ es)
  | _, _, _, _, .nil, s => s
  | _, _, _, _, .cons r t, s => .cons r (IsAll.append t s)
theorem IsAll.one {v : V} {d : D} (h : Is K H v d) : IsAll K H [v] [d] := .cons h .nil
theorem IsAll.take : ∀ {vs : List V} {ds : List D} (n : Nat), IsAll K H vs ds → IsAll K H (vs.take n) (ds.take n)
  | _, _, 0, _ => .nil
  | _, _, _ + 1, .nil => .nil
  | _, _, n + 1, .cons r t => .cons r (IsAll.take n t)
theorem IsAll.drop : ∀ {vs : List V} {ds : List D} (n : Nat), IsAll K H vs ds → IsAll K H (vs.drop n) (ds.drop n)
  | _, _, 0, r => r
  | _, _, _ + 1, .nil => .nil
  | _, _, n + 1, .cons _ t => IsAll.drop n t
theorem IsAll.eraseIdx : ∀ {vs : List V} {ds : List D} (n : Nat), IsAll K H vs ds → IsAll K H (vs.eraseIdx n) (ds.eraseIdx n)
  | _, _, _, .nil => .nil
  | _, _, 0, .cons r t => t
  | _, _, n + 1, .cons r t => .cons r (IsAll.eraseIdx n t)
theorem IsAll.set {v : V} {d : D} (r : Is K H v d) : ∀ {vs : List V} {ds : List D} (n : Nat), IsAll K H vs ds → IsAll K H (vs.set n v) (ds.set n d)
  | _, _, _, .nil => .nil
  | _, _, 0, .cons _ t => .cons r t
  | _, _, n + 1, .cons q t => .cons q (IsAll.set r n t)
theorem IsAll.dropLast {vs : List V} {ds : List D} (h : IsAll K H vs ds) : IsAll K H vs.dropLast ds.dropLast := by
  rw [List.dropLast_eq_take, List.dropLast_eq_take, h.length]
  exact h.take _
/-- data without dicts is HandS's data -/
theorem plain_dict_false {es : List (D × D)} (h : PyData.plain (.dict es) = true) : False := by simp [PyData.plain] at h
mutual
theorem Is.dp : ∀ (d : D) (v : V), d.plain = true → Is K H v d → Dp K H v d
  | .none, _, _, h => by cases h; exact .non
  | .bool b, _, _, h => by cases h; exact .bl b
  | .int i, _, _, h => by cases h; exact .int i
  | .str x, _, _, h => by cases h; exact .str x
  | .list ds, _, p, h => by
    cases h with
    | lst h1 h2 => exact .lst (.inl (.inr ⟨_, h1⟩)) (IsAll.dp ds _ (by simpa only [PyData.plain] using p) h2)
  | .tuple ds, _, p, h => by
    cases h with
    | tup h1 h2 => exact .tup h1.sqT (IsAll.dp ds _ (by simpa only [PyData.plain] using p) h2)
  | .dict es, _, p, h => (plain_dict_false p).elim
theorem IsAll.dp : ∀ (ds : List D) (vs : List V), PyData.plainAll ds = true → IsAll K H vs ds → DpAll K H vs ds
  | [], _, _, h => by cases h; exact .nil
  | d :: ds, _, p, h => by
    cases h with
    | cons h1 h2 =>
      simp only [PyData.plainAll, Bool.and_eq_true] at p
      exact .cons (Is.dp d _ p.1 h1) (IsAll.dp ds _ p.2 h2)
end
end

/-! ### a list of one's own is frozen -/
theorem Inv.freeze {X : Cx} {pins : List (Addr × Obj)} {σ : L2.St} {H : Hp} {s : Shared} {a : Addr} {u : HO} (I : Inv X pins σ H s) (ha : H a = some u) (hu : Mut (some u)) (hx : ∀ C dx fs, u ≠ .ins C dx fs) (hx' : ∀ φ, u ≠ .ext φ) : ∃ o, Inv X pins σ (upd H a (.frz o u)) s := by
  have ok := I.hok a u ha
  have ex : ∃ o, s.heap.get? a = some o := by
    cases u with
    | lst xs => obtain ⟨_, _, _, _, e⟩ := ok; exact ⟨_, e⟩
    | dK kvs => obtain ⟨_, _, _, _, o, _, _, e, _⟩ := ok; exact ⟨_, e⟩
    | dT kvs => obtain ⟨_, _, _, _, o, _, _, e, _⟩ := ok; exact ⟨_, e⟩
    | set S n => obtain ⟨o, _, _, _, e, _⟩ := ok; exact ⟨_, e⟩
    | ins C dx fs => exact absurd rfl (hx C dx fs)
    | ext φ => exact absurd rfl (hx' φ)
    | _ => exact hu.elim
  obtain ⟨o, ho⟩ := ex
  have nm : ∀ b w, H b = some w → ¬ Mut (some w) → b ≠ a := fun b w q n z => by
    rw [z, ha] at q
    cases q
    exact n hu
  have nn : ∀ b, H b = none → b ≠ a := fun b q z => by rw [z, ha] at q; cases q
  have hdT : ∀ b w, (b ≠ a ∧ H b = some w) ∨ (b = a ∧ w = u) → ObjOk X.prog X.w (upd H a (.frz o u)) s.heap b w := fun b w z => by
    have e : H b = some w := by
      rcases z with ⟨_, e⟩ | ⟨rfl, rfl⟩
      · exact e
      · exact ha
    exact (I.hok b w e).stay (fun c v _ q => q) (fun c q => by rw [upd_ne (nm c _ q fun z => z)]; exact q) fun c xs q => by rw [upd_ne (nm c _ q fun z => z)]; exact q
  refine ⟨o, I.ok, I.os, I.bare, ⟨fun b w => I.base.keep b w, fun b w => I.base.slot b w, fun b w e n hx => ?_, I.base.there, fun b xs q => ?_, fun b w v q => ?_, fun b ps q => ?_⟩, I.loc, I.cell, ?_, fun x c e => ?_, fun p hp => ?_, fun b w q => ?_, I.len⟩
  · have q := I.base.free b w e n hx
    rw [upd_ne (nn b q)]; exact q
  · have q := I.base.tups b xs q
    rw [upd_ne (nm b _ q fun z => z)]; exact q
  · have q := I.base.frzs b w v q
    rw [upd_ne (nm b _ q fun z => z)]; exact q
  · obtain ⟨more, q⟩ := I.base.tbls b ps q
    exact ⟨more, by rw [upd_ne (nm b _ q fun z => z)]; exact q⟩
  · rw [upd_ne (nn _ I.free)]; exact I.free
  · rw [upd_ne (nn _ (I.freeC x c e))]; exact I.freeC x c e
  · obtain ⟨e, n, r⟩ := I.pin p hp
    exact ⟨e, by rw [upd_ne (nn _ n)]; exact n, r⟩
  · by_cases hb : b = a
    · subst hb
      rw [upd_same] at q
      cases q
      exact ⟨ho, hdT _ _ (.inr ⟨rfl, rfl⟩)⟩
    · rw [upd_ne hb] at q
      exact hdT _ _ (.inl ⟨hb, q⟩)
/-- a tuple just made -/
theorem Inv.newTup {X : Cx} {pins : List (Addr × Obj)} {σ : L2.St} {H : Hp} {s : Shared} {xs : List V} {its : List Value} (I : Inv X pins σ H s) (r : Vals xs its) (hz : xs.length ≤ sizeLine) (tk : Nat) :
    ∃ o : Obj, o.dict = none ∧ H s.heap.objs.size = none ∧ Inv X pins σ (upd H s.heap.objs.size (.frz o (.tup xs))) { s with heap := s.heap.push { cls := .type "tuple", data := .seq its.toArray }, toks := tk } := by
  refine ⟨{ cls := .type "tuple", data := .seq its.toArray }, rfl, I.hok.fresh (Nat.le_refl _), I.laid (t' := tk) (fun b ob q => Heap.get?_push_of_some _ q) (Nat.le_refl _) ?_⟩
  exact ⟨Heap.get?_push_size _ rfl, hz, its, r, IsTup.new _ _⟩
/-- a tuple of written items, its object told -/
def tTupZ (t : TA) : TE := fun σ H Q => t σ H fun xs H1 => xs.length ≤ sizeLine ∧ ∀ (p : Addr) (o : Obj), H1 p = none → o.dict = none → Q (.ref p) (upd H1 p (.frz o (.tup xs)))
theorem pe_tupZ {X : Cx} {es : List Expr} {t : TA} {pos : Pos} {x1} (h : PA X es t) : PE X (.Tuple es x1 pos) (tTupZ t) := by
  refine ⟨fun pins s σ H Q I hq => ?_⟩
  refine wpAny_Tuple_spliced (thn (h.run pos pins s σ H _ I hq) fun us s1 ⟨xs, H1, I1, r, z, q⟩ => ⟨by rw [← r.length]; exact z, ?_⟩)
  obtain ⟨o, d, n, I2⟩ := Inv.newTup I1 r z s1.toks
  exact ⟨.ref s1.heap.objs.size, _, I2, rfl, q _ o n d⟩
def rCatZ (K : PySem.W.Frag) : R2 := fun x y H Q => ∃ a b xs ys, x = .ref a ∧ y = .ref b ∧ SqT K H a xs ∧ SqT K H b ys ∧ xs.length + ys.length ≤ sizeLine ∧
  (xs = [] → Q (.ref b) H) ∧ (xs ≠ [] → ys = [] → Q (.ref a) H) ∧ (xs ≠ [] → ys ≠ [] → ∀ (p : Addr) (o : Obj), H p = none → o.dict = none → Q (.ref p) (upd H p (.frz o (.tup (xs ++ ys)))))
theorem op_catZ {X : Cx} : OpR X (binaryOp .Add) (rCatZ X.K) := by
  intro pins s σ H x y v u Q I rx ry h
  obtain ⟨a, b, xs, ys, rfl, rfl, ha, hb, hz, q0, q1, q2⟩ := h
  by_cases hx : xs = []
  · subst hx
    cases rx
    cases ry
    obtain ⟨its, r1, p1, _⟩ := I.tuple ha
    obtain ⟨its2, r2, p2, _⟩ := I.tuple hb
    cases r1
    exact cat_tup0 p1 p2 ⟨.ref b, H, I, rfl, q0 rfl⟩
  · cases rx
    cases ry
    obtain ⟨its, r1, p1, _⟩ := I.tuple ha
    obtain ⟨its2, r2, p2, _⟩ := I.tuple hb
    refine HT.cat_tup p1 p2 (fun z => hx (r1.nil_iff.mp z)) (fun z => ⟨.ref a, H, I, rfl, q1 hx (r2.nil_iff.mp z)⟩) (fun z => ?_) (by rw [← r1.length, ← r2.length]; exact hz)
    obtain ⟨o, d, n, I2⟩ := Inv.newTup I (r1.append r2) (by rw [List.length_append]; exact hz) s.toks
    exact ⟨.ref s.heap.objs.size, _, I2, rfl, q2 hx (fun w => z (r2.nil_iff.mpr w)) _ o n d⟩
def rSlZ (K : PySem.W.Frag) : V → Option Int → Option Int → Hp → VK → Prop := fun x lo hi H Q => ∃ a xs, x = .ref a ∧ SqT K H a xs ∧
  (HT.sIx xs.length 0 lo = 0 ∧ HT.sIx xs.length xs.length hi = xs.length → Q (.ref a) H) ∧ (¬ (HT.sIx xs.length 0 lo = 0 ∧ HT.sIx xs.length xs.length hi = xs.length) → ∀ (p : Addr) (o : Obj), H p = none → o.dict = none → Q (.ref p) (upd H p (.frz o (.tup (cutV xs lo hi)))))
theorem sl_tupZ {X : Cx} : SlR X (rSlZ X.K) := by
  intro pins s σ H x v vl vu lo hi sl Q I rx hs pl pu h
  obtain ⟨a, xs, rfl, hx, q1, q2⟩ := h
  cases rx
  obtain ⟨its, r, ht, hz⟩ := I.tuple hx
  have hlen : its.toArray.size = xs.length := by rw [List.size_toArray]; exact r.length.symm
  refine ⟨"tuple", _, PyProof.Rows.slot_tuple_getitem.lookup, ht.typeIs, ?_⟩
  by_cases hw : HT.sIx xs.length 0 lo = 0 ∧ HT.sIx xs.length xs.length hi = xs.length
  · exact getItem_tuple_whole ht hs pl pu (by rw [hlen]; exact hw) ⟨.ref a, H, I, rfl, q1 hw⟩
  · refine HT.getItem_tuple_cut ht hs pl pu (by rw [hlen]; exact hw) ?_ (by rw [hlen]; exact hz)
    rw [hlen]
    obtain ⟨o, d, n, I2⟩ := Inv.newTup I ((r.drop (HT.sIx xs.length 0 lo)).take (HT.sIx xs.length xs.length hi - HT.sIx xs.length 0 lo)) (Nat.le_trans (cutV_length xs lo hi) hz) s.toks
    exact ⟨.ref s.heap.objs.size, _, I2, rfl, q2 hw _ o n d⟩
theorem call_tuple_z {X : Cx} : CallR X (.type "tuple") (fun xs H Q => ∃ p ys, xs = [.ref p] ∧ ((SqL X.K H p ys ∧ ∀ (l : Addr) (o : Obj), H l = none → o.dict = none → Q (.ref l) (upd H l (.frz o (.tup ys)))) ∨ (SqT X.K H p ys ∧ Q (.ref p) H))) := by
  intro pins s σ H xs us Q I r h
  obtain ⟨p, ys, rfl, h⟩ := h
  obtain ⟨u, rfl, rx⟩ := vals1 r
  cases rx
  rcases h with ⟨hq, q⟩ | ⟨hq, q⟩
  · obtain ⟨its, r', pl, hz⟩ := I.list hq
    have hlen := r'.length
    refine call_tuple_list pl.isList (fun h' kp => ?_) (by simp only [List.size_toArray] <;> omega)
    have I1 : Inv X pins σ H { s with heap := h' } := I.kept (t' := s.toks) kp
    obtain ⟨o, d, n, I2⟩ := Inv.newTup I1 r' hz s.toks
    exact ⟨.ref h'.objs.size, _, I2, rfl, q _ o n d⟩
  · obtain ⟨its, r', pl, hz⟩ := I.tuple hq
    exact call_tuple_same pl ⟨.ref p, H, I, rfl, q⟩
end DL
/-! A dict whose keys are ints and (nested) tuples, mixed: in, d[k] = v. -/
namespace DL
open PySem PySem.Spec PyProof.Rows

abbrev NK := NestedKey
/-- an entry: the key as data, the key, its value -/
abbrev ME := NK × Value × Value
def topKey : Value → Bool
  | .int _ _ => true
  | .ref _ => true
  | _ => false
def entM (w : World) (x : ME) : DictEntry := ⟨x.1.hash w, x.2.1, x.2.2⟩
def KeyOk (h : Heap) (k : NK) (v : Value) : Prop := NestedIs h k v ∧ k.depth ≤ 8 ∧ topKey v = true
def MixOf (w : World) (h : Heap) (d : Addr) (xs : List ME) : Prop :=
  ∃ o es ep, h.get? d = some o ∧ o.ExactDict ∧ o.data = .dict es ep ∧ es.toList = xs.map (entM w) ∧ (∀ x ∈ xs, KeyOk h x.1 x.2.1) ∧ (xs.map (·.1)).Nodup
section
variable {prog : Program} {w : World} {A : Around} {E : Value → Shared → Prop} {s : Shared}
theorem eq_mix {x y : NK} {a b : Value} {Q : Bool → Shared → Prop} (hu : A.units + 8 < cLine) (ha : KeyOk s.heap x a) (hb : KeyOk s.heap y b) (h : Q (decide (x = y)) s) : wpAny (model prog w) A (eqBool a b) Q E s :=
  eqAt_key x y A s a b ha.1 hb.1 (by have := ha.2.1; omega) prog w E Q (by rw [← NestedKey.decide_eq]; exact h)
theorem ent_at {es : Array DictEntry} {xs : List ME} (he : es.toList = xs.map (entM w)) (j : Nat) : es[j]? = (xs[j]?).map (entM w) := by
  rw [← Array.getElem?_toList, he, List.getElem?_map]
theorem ent_size {es : Array DictEntry} {xs : List ME} (he : es.toList = xs.map (entM w)) : es.size = xs.length := by
  rw [← Array.length_toList, he, List.length_map]
theorem key_once {xs : List ME} (hn : (xs.map (·.1)).Nodup) {i j : Nat} {k : NK} {p q : Value × Value} (hi : xs[i]? = some (k, p)) (hj : xs[j]? = some (k, q)) : i = j := by
  have hi' : (xs.map (·.1))[i]? = some k := by rw [List.getElem?_map, hi]; rfl
  have hj' : (xs.map (·.1))[j]? = some k := by rw [List.getElem?_map, hj]; rfl
  exact (List.getElem?_inj (List.getElem?_eq_some_iff.mp hi').1 hn).mp (hi'.trans hj'.symm)
/-- no key k ahead of place i, or it stands at hit -/
def Seen (xs : List ME) (k : NK) (i : Nat) (hit : Option Nat) : Prop := (hit = none ∧ ∀ j p, j < i → xs[j]? ≠ some (k, p)) ∨ ∃ j p, hit = some j ∧ j < i ∧ xs[j]? = some (k, p)
theorem Seen.skip {xs : List ME} {k : NK} {i x : Nat} {hit : Option Nat} (h : Seen xs k i hit) (hx : i ≤ x) (hs : ∀ j, i ≤ j → j < x → ∀ p, xs[j]? ≠ some (k, p)) : Seen xs k x hit := by
  rcases h with ⟨h0, hno⟩ | ⟨j, p, h1, hji, hj⟩
  · refine .inl ⟨h0, fun j p hjx hj => ?_⟩
    by_cases hlt : j < i
    · exact hno j p hlt hj
    · exact hs j (by omega) hjx p hj
  · exact .inr ⟨j, p, h1, by omega, hj⟩
theorem Seen.other {xs : List ME} {k k' : NK} {x : Nat} {p : Value × Value} {hit : Option Nat} (h : Seen xs k x hit) (hx : xs[x]? = some (k', p)) (hne : ¬ k' = k) : Seen xs k (x + 1) hit :=
  h.skip (Nat.le_succ x) fun j h1 h2 q hq => by
    have : j = x := by omega
    subst this
    rw [hx] at hq
    injection hq with hq
    injection hq with hq
    exact hne hq
variable {d : Addr} {o : Obj} {es : Array DictEntry} {ep : Nat} {xs : List ME} {k : NK} {v : Value} {Q : Option Nat → Shared → Prop}
theorem mix_find (hu : A.units + 8 < cLine) (hk : KeyOk s.heap k v) (ho : s.heap.get? d = some o) (hd : o.data = .dict es ep) (he : es.toList = xs.map (entM w)) (his : ∀ x ∈ xs, KeyOk s.heap x.1 x.2.1) (hn : (xs.map (·.1)).Nodup)
    (hnone : (∀ (j : Nat) (p : Value × Value), xs[j]? ≠ some (k, p)) → Q none s) (hsome : ∀ (j : Nat) (p : Value × Value), xs[j]? = some (k, p) → Q (some j) s) :
    wpAny (model prog w) A (dictFind d v (k.hash w)) Q E s := by
  have hsz : es.size = xs.length := ent_size he
  have haskey : ∀ (j : Nat) (p : Value × Value), xs[j]? = some (k, p) → ((es[j]?.map (·.hash)) == some (k.hash w)) = true := fun j p hj => by
    rw [ent_at he j, hj]
    simp [entM]
  have skips : ∀ {i x : Nat}, (∀ j, i ≤ j → j < x → ((es[j]?.map (·.hash)) == some (k.hash w)) = false) → ∀ j, i ≤ j → j < x → ∀ p, xs[j]? ≠ some (k, p) := fun h j h1 h2 p hj => by
    have := h j h1 h2
    rw [haskey j p hj] at this
    cases this
  have hend : ∀ {i : Nat} {hit : Option Nat}, [] = (List.range' i (es.size - i)).filter (fun i => (es[i]?.map (·.hash)) == some (k.hash w)) → i ≤ es.size → Seen xs k i hit → Q hit s := by
    intro i hit hr hi hH
    rcases hH with ⟨rfl, hno⟩ | ⟨j, p, rfl, _, hj⟩
    · refine hnone fun j p hj => ?_
      by_cases hlt : j < i
      · exact hno j p hlt hj
      · have hjl : j < es.size := by
          rw [hsz]
          exact (List.getElem?_eq_some_iff.mp hj).1
        have := List.filter_eq_nil_iff.mp hr.symm j (List.mem_range'_1.mpr ⟨by omega, by omega⟩)
        rw [haskey j p hj] at this
        exact this rfl
    · exact hsome j p hj
  have hmem : ∀ e ∈ es, ∃ x ∈ xs, e = entM w x := fun e hin => by
    have : e ∈ xs.map (entM w) := he ▸ Array.mem_toList_iff.mpr hin
    obtain ⟨x, hx, rfl⟩ := List.mem_map.mp this
    exact ⟨x, hx, rfl⟩
  have hst : ∀ u ∈ (placesWithHash es.size (fun i => es[i]?.map (·.hash)) (k.hash w)).filterMap (fun i => es[i]?.map (·.key)), ∃ x ∈ xs, u = x.2.1 := by
    intro u hv
    obtain ⟨i, _, hi⟩ := List.mem_filterMap.mp hv
    cases hei : es[i]? with
    | none => rw [hei] at hi; cases hi
    | some e =>
      rw [hei] at hi
      obtain rfl : e.key = u := by simpa using hi
      obtain ⟨x, hx, rfl⟩ := hmem e (Array.mem_of_getElem? hei)
      exact ⟨x, hx, rfl⟩
  have hquiet : ∀ {u : Value} {x : NK}, KeyOk s.heap x u → QuietAt prog w 8 s u := fun {u x} h => quiet_key x u 8 s h.1 h.2.1
  have mayTell : ∀ (C : Bool → Shared → Prop), C false s → wpAny (model prog w) A (tableMayTell v ((placesWithHash es.size (fun i => es[i]?.map (·.hash)) (k.hash w)).filterMap (fun i => es[i]?.map (·.key)))) C E s := by
    intro C h
    unfold tableMayTell
    split
    · exact wpAny_pure h
    · refine wpAny_bind (hquiet hk A E _ ?_)
      simp only [Bool.not_true, Bool.false_eq_true, if_false]
      refine wpAny_bind ?_
      refine wpAny_forIn_list _ (fun rest r s' => s' = s ∧ r = (none, ()) ∧ ∀ u ∈ rest, ∃ x ∈ xs, u = x.2.1) _ ?_ ?_ _ _ ⟨rfl, rfl, hst⟩
      · rintro x rest r s' ⟨rfl, rfl, hr⟩
        obtain ⟨y, hy, rfl⟩ := hr x List.mem_cons_self
        refine wpAny_bind (hquiet (his y hy) A E _ ?_)
        simp only [Bool.not_true, Bool.false_eq_true, if_false]
        exact wpAny_pure ⟨rfl, rfl, fun u hu => hr u (List.mem_cons_of_mem _ hu)⟩
      · rintro r s' ⟨rfl, rfl, _⟩
        exact wpAny_pure h
  -- the walk where all is carried by value
  have plain : wpAny (model prog w) A (dictWalkPlain d v (k.hash w) es (placesWithHash es.size (fun i => es[i]?.map (·.hash)) (k.hash w))) Q E s := by
    refine wpAny_bind ?_
    refine wpAny_forIn_list _ (fun rest b s' => s' = s ∧ b = (none, ()) ∧ ∃ i, rest = (List.range' i (es.size - i)).filter (fun i => (es[i]?.map (·.hash)) == some (k.hash w)) ∧ i ≤ es.size ∧ Seen xs k i none) _ ?_ ?_ _ _
      ⟨rfl, rfl, 0, by rw [placesWithHash, List.range_eq_range', Nat.sub_zero], Nat.zero_le _, .inl ⟨rfl, fun _ _ h => absurd h (Nat.not_lt_zero _)⟩⟩
    · rintro x rest b s' ⟨rfl, rfl, i, hr, hi, hno⟩
      obtain ⟨hix, hxn, hpx, hskip, hrest⟩ := filter_range'_cons _ _ _ _ _ hr.symm
      have hlt : x < es.size := by omega
      obtain ⟨⟨k', b, v'⟩, hkv⟩ : ∃ y, xs[x]? = some y := ⟨xs[x]'(by rw [← hsz]; exact hlt), List.getElem?_eq_getElem _⟩
      have hib : KeyOk s'.heap k' b := his _ (List.mem_of_getElem? hkv)
      have hex : es[x]? = some ⟨k'.hash w, b, v'⟩ := by rw [ent_at he x, hkv]; rfl
      have hH := hno.skip hix (skips hskip)
      have hrest' : rest = (List.range' (x + 1) (es.size - (x + 1))).filter (fun i => (es[i]?.map (·.hash)) == some (k.hash w)) := by rw [hrest]; congr 2; omega
      rw [hex]
      dsimp only
      by_cases hh : (k'.hash w == k.hash w) = true
      · rw [if_pos hh]
        refine wpAny_bind (wpAny_dictEpoch ho hd (wpAny_bind (eq_mix hu hib hk (wpAny_bind (wpAny_dictEpoch ho hd ?_)))))
        show wpAny _ _ (if (ep != ep) = true then _ else _) _ E _
        rw [if_neg (by simp)]
        by_cases hkk : k' = k
        · rw [decide_eq_true hkk]
          subst hkk
          first | rw [if_pos rfl] | skip
          first
            | exact wpAny_bind (wpAny_rule (wpAny_pure (wpAny_pure (hsome x _ hkv))))
            | exact wpAny_bind (wpAny_bind (wpAny_rule (wpAny_pure (wpAny_pure (hsome x _ hkv)))))
        · rw [decide_eq_false hkk]
          simp only [Bool.false_eq_true, if_false]
          first
            | exact wpAny_bind (wpAny_rule (wpAny_pure ⟨rfl, rfl, x + 1, hrest', hlt, hH.other hkv hkk⟩))
            | exact wpAny_bind (wpAny_pure (wpAny_bind (wpAny_rule (wpAny_pure ⟨rfl, rfl, x + 1, hrest', hlt, hH.other hkv hkk⟩))))
      · rw [if_neg hh]
        refine wpAny_pure ⟨rfl, rfl, x + 1, hrest', hlt, hH.other hkv fun hkk => ?_⟩
        rw [hkk] at hh; simp at hh
    · rintro b s' ⟨rfl, rfl, i, hr, hi, hH⟩
      exact wpAny_pure (hend hr hi hH)
  obtain ⟨h1, h2, h3⟩ := id hk
  have hany : ∀ a, v = .ref a → ¬ (es.any fun e => e.key == Value.ref a && e.hash != k.hash w) = true := by
    intro a ea
    rw [← Array.any_toList, List.any_eq_true]
    rintro ⟨e, hin, hc⟩
    obtain ⟨x, hx, rfl⟩ := hmem e (Array.mem_toList_iff.mp hin)
    simp only [entM, Bool.and_eq_true, beq_iff_eq, bne_iff_ne, ne_eq] at hc
    obtain ⟨hxa, hne⟩ := hc
    have := (his x hx).1
    rw [hxa, ← ea] at this
    exact hne (by rw [NestedIs.inj _ _ _ this h1])
  cases v with
  | int i t =>
    unfold dictFind
    try with_reducible refine wpAny_holding ?_
    refine wpAny_bind (wpAny_dictEntries ho hd ?_)
    dsimp only
    by_cases hall : ((Value.int i t :: (placesWithHash es.size (fun i => es[i]?.map (·.hash)) (k.hash w)).filterMap (fun i => es[i]?.map (·.key))).all carriedByValue) = true
    · rw [if_pos hall]
      exact plain
    rw [if_neg hall]
    by_cases hone : (((placesWithHash es.size (fun i => es[i]?.map (·.hash)) (k.hash w)).filterMap (fun i => es[i]?.map (·.key))) == [Value.int i t]) = true <;>
    (first | rw [if_pos hone] | rw [if_neg hone]) <;> (first | refine wpAny_bind (wpAny_pure ?_) | refine wpAny_bind (mayTell _ ?_)) <;> (
      rw [if_neg (by simp)]
      refine wpAny_bind ?_
      refine wpAny_forIn_list _ (fun rest b s' => s' = s ∧ ∃ i hit, b = (none, hit) ∧ rest = (List.range' i (es.size - i)).filter (fun i => (es[i]?.map (·.hash)) == some (k.hash w)) ∧ i ≤ es.size ∧ Seen xs k i hit) _ ?_ ?_ _ _
        ⟨rfl, 0, none, rfl, by rw [placesWithHash, List.range_eq_range', Nat.sub_zero], Nat.zero_le _, .inl ⟨rfl, fun _ _ h => absurd h (Nat.not_lt_zero _)⟩⟩
      · rintro x rest b s' ⟨rfl, i, hit, rfl, hr, hi, hH⟩
        obtain ⟨hix, hxn, hpx, hskip, hrest⟩ := filter_range'_cons _ _ _ _ _ hr.symm
        have hlt : x < es.size := by omega
        have hrest' : rest = (List.range' (x + 1) (es.size - (x + 1))).filter (fun i => (es[i]?.map (·.hash)) == some (k.hash w)) := by rw [hrest]; congr 2; omega
        obtain ⟨⟨k', b, v'⟩, hkv⟩ : ∃ y, xs[x]? = some y := ⟨xs[x]'(by rw [← hsz]; exact hlt), List.getElem?_eq_getElem _⟩
        have hib : KeyOk s'.heap k' b := his _ (List.mem_of_getElem? hkv)
        have hex : es[x]? = some ⟨k'.hash w, b, v'⟩ := by rw [ent_at he x, hkv]; rfl
        have hHx := hH.skip hix (skips hskip)
        rw [hex]
        dsimp only
        by_cases hh : (k'.hash w == k.hash w) = true
        · rw [if_pos hh]
          refine wpAny_bind (wpAny_dictEpoch ho hd (wpAny_bind (eq_mix hu hib hk (wpAny_bind (wpAny_dictEpoch ho hd ?_)))))
          show wpAny _ _ (if (ep != ep) = true then _ else _) _ E _
          rw [if_neg (by simp)]
          by_cases hkk : k' = k
          · rw [decide_eq_true hkk]
            subst hkk
            rcases hHx with ⟨rfl, _⟩ | ⟨j, p, _, hjx, hj⟩
            · first | rw [if_pos rfl] | skip
              simp only [Option.isSome_none, Bool.false_eq_true, if_false]
              first | refine wpAny_bind (wpAny_pure ?_) | skip
              refine wpAny_bind (wpAny_rule ?_)
              split
              · exact wpAny_pure (wpAny_pure (hsome x _ hkv))
              · exact wpAny_pure ⟨rfl, x + 1, some x, rfl, hrest', hlt, .inr ⟨x, _, rfl, Nat.lt_succ_self x, hkv⟩⟩
            · exact absurd (key_once hn hj hkv) (by omega)
          · rw [decide_eq_false hkk]
            simp only [Bool.false_eq_true, if_false]
            refine wpAny_bind (wpAny_rule ?_)
            first | rw [if_neg (by simp)] | skip
            first
              | exact wpAny_pure ⟨rfl, x + 1, hit, rfl, hrest', hlt, hHx.other hkv hkk⟩
              | exact wpAny_bind (wpAny_pure (wpAny_pure ⟨rfl, x + 1, hit, rfl, hrest', hlt, hHx.other hkv hkk⟩))
        · rw [if_neg hh]
          refine wpAny_pure ⟨rfl, x + 1, hit, rfl, hrest', hlt, hHx.other hkv fun hkk => ?_⟩
          rw [hkk] at hh; simp at hh
      · rintro b s' ⟨rfl, i, hit, rfl, hr, hi, hH⟩
        exact wpAny_pure (hend hr hi hH))
  | ref a =>
    unfold dictFind
    try with_reducible refine wpAny_holding ?_
    refine wpAny_bind (wpAny_dictEntries ho hd ?_)
    dsimp only
    rw [if_neg (show ¬ ((Value.ref a :: (placesWithHash es.size (fun i => es[i]?.map (·.hash)) (k.hash w)).filterMap (fun i => es[i]?.map (·.key))).all carriedByValue) = true by simp [carriedByValue])]
    rw [if_neg (hany a rfl)]
    by_cases hone : (((placesWithHash es.size (fun i => es[i]?.map (·.hash)) (k.hash w)).filterMap (fun i => es[i]?.map (·.key))) == [Value.ref a]) = true <;>
    (first | rw [if_pos hone] | rw [if_neg hone]) <;> (first | refine wpAny_bind (wpAny_pure ?_) | refine wpAny_bind (mayTell _ ?_)) <;> (
      rw [if_neg (by simp)]
      refine wpAny_bind ?_
      refine wpAny_forIn_list _ (fun rest b s' => s' = s ∧ ∃ i hit, b = (none, hit) ∧ rest = (List.range' i (es.size - i)).filter (fun i => (es[i]?.map (·.hash)) == some (k.hash w)) ∧ i ≤ es.size ∧ Seen xs k i hit) _ ?_ ?_ _ _
        ⟨rfl, 0, none, rfl, by rw [placesWithHash, List.range_eq_range', Nat.sub_zero], Nat.zero_le _, .inl ⟨rfl, fun _ _ h => absurd h (Nat.not_lt_zero _)⟩⟩
      · rintro x rest b s' ⟨rfl, i, hit, rfl, hr, hi, hH⟩
        obtain ⟨hix, hxn, hpx, hskip, hrest⟩ := filter_range'_cons _ _ _ _ _ hr.symm
        have hlt : x < es.size := by omega
        have hrest' : rest = (List.range' (x + 1) (es.size - (x + 1))).filter (fun i => (es[i]?.map (·.hash)) == some (k.hash w)) := by rw [hrest]; congr 2; omega
        obtain ⟨⟨k', b, v'⟩, hkv⟩ : ∃ y, xs[x]? = some y := ⟨xs[x]'(by rw [← hsz]; exact hlt), List.getElem?_eq_getElem _⟩
        have hib : KeyOk s'.heap k' b := his _ (List.mem_of_getElem? hkv)
        have hex : es[x]? = some ⟨k'.hash w, b, v'⟩ := by rw [ent_at he x, hkv]; rfl
        have hHx := hH.skip hix (skips hskip)
        rw [hex]
        dsimp only
        by_cases hh : (k'.hash w == k.hash w) = true
        · rw [if_pos hh]
          refine wpAny_bind (wpAny_dictEpoch ho hd (wpAny_bind (eq_mix hu hib hk (wpAny_bind (wpAny_dictEpoch ho hd ?_)))))
          show wpAny _ _ (if (ep != ep) = true then _ else _) _ E _
          rw [if_neg (by simp)]
          by_cases hkk : k' = k
          · rw [decide_eq_true hkk]
            subst hkk
            rcases hHx with ⟨rfl, _⟩ | ⟨j, p, _, hjx, hj⟩
            · first | rw [if_pos rfl] | skip
              simp only [Option.isSome_none, Bool.false_eq_true, if_false]
              first | refine wpAny_bind (wpAny_pure ?_) | skip
              refine wpAny_bind (wpAny_rule ?_)
              split
              · exact wpAny_pure (wpAny_pure (hsome x _ hkv))
              · exact wpAny_pure ⟨rfl, x + 1, some x, rfl, hrest', hlt, .inr ⟨x, _, rfl, Nat.lt_succ_self x, hkv⟩⟩
            · exact absurd (key_once hn hj hkv) (by omega)
          · rw [decide_eq_false hkk]
            simp only [Bool.false_eq_true, if_false]
            refine wpAny_bind (wpAny_rule ?_)
            first | rw [if_neg (by simp)] | skip
            first
              | exact wpAny_pure ⟨rfl, x + 1, hit, rfl, hrest', hlt, hHx.other hkv hkk⟩
              | exact wpAny_bind (wpAny_pure (wpAny_pure ⟨rfl, x + 1, hit, rfl, hrest', hlt, hHx.other hkv hkk⟩))
        · rw [if_neg hh]
          refine wpAny_pure ⟨rfl, x + 1, hit, rfl, hrest', hlt, hHx.other hkv fun hkk => ?_⟩
          rw [hkk] at hh; simp at hh
      · rintro b s' ⟨rfl, i, hit, rfl, hr, hi, hH⟩
        exact wpAny_pure (hend hr hi hH))
  | _ => cases h3
theorem mix_in {Q : Value → Shared → Prop} (hu : A.units + 10 < cLine) (hk : KeyOk s.heap k v) (hd : (d == sysModules) = false) (hm : MixOf w s.heap d xs) (neg : Bool)
    (h : ∀ tk, Q (.bool (xor neg (decide (k ∈ xs.map (·.1))))) { s with toks := tk }) : wpAny (model prog w) A (compareOp (if neg then .NotIn else .In) v (.ref d)) Q E s := by
  obtain ⟨o, es, ep, ho, hc, hda, he, his, hn⟩ := hm
  have hT : s.TypeIs (.ref d) "dict" := ⟨o, ho, hc.1⟩
  have hnone : ∀ {xs : List ME}, (∀ (j : Nat) (p : Value × Value), xs[j]? ≠ some (k, p)) → decide (k ∈ xs.map (·.1)) = false := fun {xs} h => decide_eq_false fun hm => by
    obtain ⟨x, hx, rfl⟩ := List.mem_map.mp hm
    obtain ⟨j, hj⟩ := List.mem_iff_getElem?.mp hx
    exact h j x.2 hj
  have hsome : ∀ {xs : List ME} {j : Nat} {p : Value × Value}, xs[j]? = some (k, p) → decide (k ∈ xs.map (·.1)) = true := fun h => decide_eq_true (List.mem_map.mpr ⟨_, List.mem_of_getElem? h, rfl⟩)
  have core : ∀ (R : Bool → Shared → Prop), (∀ tk, R (decide (k ∈ xs.map (·.1))) { s with toks := tk }) → wpAny (model prog w) A (contains (.ref d) v) R E s := by
    intro R hR
    unfold contains
    try with_reducible refine wpAny_holding ?_
    refine wpAny_bind (wpAny_specialOf hT slot_dict_contains.lookup ?_)
    show wpAny _ _ (if (some (Value.builtin "dict.__contains__") == some Value.none) = true then _ else _) _ E s
    rw [if_neg (by rw [beq_builtin_none]; exact Bool.false_ne_true)]
    refine wpAny_bind (wpAny_callSpecialUnlessNone?_slot (name := Str.ofString "__contains__") hT slot_dict_contains
      (wpAny_call_entry slot_dict_contains hT entry_dict_contains ?_ (args_dict_contains _ _)))
    show wpAny _ _ (dictGet d v >>= _) _ _ s
    have hu1 : A.in1.units + 8 < cLine := by show A.units + 1 + 8 < cLine; omega
    refine wpAny_bind ?_
    unfold dictGet
    try with_reducible refine wpAny_holding ?_
    refine wpAny_bind (pyHash_key k v _ s _ hk.1 (by have := hk.2.1; omega) (wpAny_bind (mix_find (s := { s with toks := s.toks + k.draws }) hu1 hk ho hda he his hn ?_ ?_)))
    · intro hno
      refine wpAny_pure ?_
      show wpAny _ _ (Builtin.Dict.pendingKey? d v >>= _) _ _ _
      refine wpAny_bind (wpAny_pendingKey_other hd (wpAny_pure ⟨_, rfl, wpAny_truthy_bool ?_⟩))
      have := hR (s.toks + k.draws)
      rw [hnone hno] at this
      exact this
    · intro j p hj
      refine wpAny_bind (wpAny_dictEntries (s := { s with toks := s.toks + k.draws }) ho hda ?_)
      rw [ent_at he j, hj]
      refine wpAny_pure ?_
      show wpAny _ _ (ret (.bool true)) _ _ _
      have := hR (s.toks + k.draws)
      rw [hsome hj] at this
      exact wpAny_pure ⟨_, rfl, wpAny_truthy_bool this⟩
  cases neg with
  | false =>
    show wpAny _ _ (do return .bool (← contains (.ref d) v)) Q E s
    refine wpAny_bind (core _ fun tk => wpAny_pure ?_)
    have := h tk
    simpa using this
  | true =>
    show wpAny _ _ (do return .bool (!(← contains (.ref d) v))) Q E s
    refine wpAny_bind (core _ fun tk => wpAny_pure ?_)
    have := h tk
    simpa using this
/-- the entries behind d[k] = u -/
def putM (xs : List ME) (k : NK) (v u : Value) : List ME := if k ∈ xs.map (·.1) then xs.map (fun x => if x.1 = k then (x.1, x.2.1, u) else x) else xs ++ [(k, v, u)]
theorem mod_same {k : NK} {u : Value} : ∀ {xs : List ME} {j : Nat} {p : Value × Value}, (xs.map (·.1)).Nodup → xs[j]? = some (k, p) → (xs.map (entM w)).modify j (fun e : DictEntry => { e with val := u }) = (xs.map (fun x => if x.1 = k then (x.1, x.2.1, u) else x)).map (entM w)
  | [], _, _, _, h => by simp at h
  | x :: r, 0, p, nd, h => by
    simp only [List.getElem?_cons_zero, Option.some.injEq] at h
    subst h
    have hr : r.map (fun x => if x.1 = k then (x.1, x.2.1, u) else x) = r := by
      conv => rhs; rw [← List.map_id r]
      refine List.map_congr_left fun y hy => ?_
      have : ¬ y.1 = k := fun e => (List.nodup_cons.mp nd).1 (by rw [← e]; exact List.mem_map.mpr ⟨y, hy, rfl⟩)
      rw [if_neg this]; rfl
    rw [List.map_cons, List.map_cons, hr, if_pos rfl, List.map_cons]
    rfl
  | x :: r, j + 1, p, nd, h => by
    simp only [List.getElem?_cons_succ] at h
    have hne : ¬ x.1 = k := fun e => (List.nodup_cons.mp nd).1 (by show x.1 ∈ _; rw [e]; exact List.mem_map.mpr ⟨_, List.mem_of_getElem? h, rfl⟩)
    rw [List.map_cons, List.map_cons, if_neg hne, List.map_cons]
    show entM w x :: (r.map (entM w)).modify j _ = _
    rw [mod_same (List.nodup_cons.mp nd).2 h]
theorem mix_put {u : Value} {Q : Unit → Shared → Prop} (hu : A.units + 10 < cLine) (hk : KeyOk s.heap k v) (hm : MixOf w s.heap d xs) (hz : xs.length < sizeLine)
    (hQ : ∀ h' tk, (∃ o es ep, h'.get? d = some o ∧ o.ExactDict ∧ o.data = .dict es ep ∧ es.toList = (putM xs k v u).map (entM w)) → ((putM xs k v u).map (·.1)).Nodup → Heap.SameBut d s.heap h' → Q () { s with heap := h', toks := tk }) :
    wpAny (model prog w) A (setItem (.ref d) v u) Q E s := by
  obtain ⟨o, es, ep, ho, hc, hda, he, his, hn⟩ := hm
  have hT : s.TypeIs (.ref d) "dict" := ⟨o, ho, hc.1⟩
  unfold setItem
  try with_reducible refine wpAny_holding ?_
  refine wpAny_bind (wpAny_sequenceKey hT (by decide) ?_)
  refine wpAny_bind (wpAny_callSpecial?_slot (name := Str.ofString "__setitem__") hT slot_dict_setitem
    (wpAny_call_entry slot_dict_setitem hT entry_dict_setitem ?_ (args_dict_setitem _ _ _)))
  show wpAny _ _ (Builtin.Dict.notOrdered "__setitem__" ⟨[.ref d, v, u], []⟩ >>= _) _ _ s
  refine wpAny_bind (wpAny_notOrdered_dict hT ?_)
  show wpAny _ _ (dictSet d v u >>= _) _ _ s
  refine wpAny_bind ?_
  have hu1 : A.in1.units + 8 < cLine := by show A.units + 1 + 8 < cLine; omega
  unfold dictSet
  try with_reducible refine wpAny_holding ?_
  refine wpAny_bind (pyHash_key k v _ s _ hk.1 (by have := hk.2.1; omega) ?_)
  unfold dictSetHashed
  try with_reducible refine wpAny_holding ?_
  refine wpAny_bind (mix_find (s := { s with toks := s.toks + k.draws }) hu1 hk ho hda he his hn ?_ ?_)
  · intro hno
    have hnot : k ∉ xs.map (·.1) := fun hm => by
      obtain ⟨x, hx, rfl⟩ := List.mem_map.mp hm
      obtain ⟨j, hj⟩ := List.mem_iff_getElem?.mp hx
      exact hno j x.2 hj
    have ep' : putM xs k v u = xs ++ [(k, v, u)] := by unfold putM; rw [if_neg hnot]
    refine wpAny_bind (wpAny_rule (wpAny_updateDictKeys (hz := by have e := ent_size he; omega) (s := { s with toks := s.toks + k.draws }) ho hda (wpAny_pure ⟨.none, rfl, wpAny_pure (hQ _ _ ⟨_, _, ep + 1, Heap.get?_update_self _ ho (Obj.isFreed_of_dict (Obj.data_mapDictKeys hda _)),
      hc.mapDictKeys _, Obj.data_mapDictKeys hda _, ?_⟩ ?_ (Heap.SameBut.update ..))⟩)))
    · rw [ep']
      simp [he, entM]
    · rw [ep', List.map_append, List.nodup_append]
      refine ⟨hn, by simp, ?_⟩
      intro x hx y hy
      simp only [List.map_cons, List.map_nil, List.mem_singleton] at hy
      subst hy
      exact fun e => hnot (e ▸ hx)
  · intro j p hj
    have hin : k ∈ xs.map (·.1) := List.mem_map.mpr ⟨_, List.mem_of_getElem? hj, rfl⟩
    have ep' : putM xs k v u = xs.map (fun x => if x.1 = k then (x.1, x.2.1, u) else x) := by unfold putM; rw [if_pos hin]
    refine wpAny_bind (wpAny_rule (wpAny_bind (wpAny_updateDict (s := { s with toks := s.toks + k.draws }) ho hda (wpAny_point (wpAny_pure ⟨.none, rfl, wpAny_pure (hQ _ _ ⟨_, _, ep, Heap.get?_update_self _ ho (Obj.isFreed_of_dict (Obj.data_mapDict hda _)),
      hc.mapDict _, Obj.data_mapDict hda _, ?_⟩ ?_ (Heap.SameBut.update ..))⟩)))))
    · rw [ep', ← mod_same hn hj, ← he]
      obtain ⟨l⟩ := es
      simp
    · rw [ep', List.map_map]
      have : (Prod.fst ∘ fun x : ME => if x.1 = k then (x.1, x.2.1, u) else x) = Prod.fst := by
        funext x
        by_cases e : x.1 = k <;> simp [e]
      rw [this]
      exact hn
end

/-! ### data that may be a key -/
open L2
mutual
def nkOf : PyData → Option NK
  | .none => some .none
  | .int i => some (.num i)
  | .str x => some (.text x)
  | .tuple ds => (nkAll ds).map .tup
  | _ => none
def nkAll : List PyData → Option (List NK)
  | [] => some []
  | d :: ds => match nkOf d, nkAll ds with
    | some k, some ks => some (k :: ks)
    | _, _ => none
end
mutual
theorem nested_of {h : Heap} : ∀ (d : PyData) (k : NK) (u : Value) (as : List Addr), Reads h u d as → nkOf d = some k → NestedIs h k u
  | .none, k, u, _, r, e => by cases r; cases e; exact .none
  | .int i, k, u, _, r, e => by cases r; cases e; exact .int _ _
  | .str x, k, u, _, r, e => by cases r; cases e; exact .text _ _
  | .tuple ds, k, u, _, r, e => by
    cases r with
    | tuple h1 h2 h3 h4 =>
      simp only [nkOf] at e
      cases q : nkAll ds with
      | none => rw [q] at e; cases e
      | some ks =>
        rw [q] at e
        cases e
        exact .tup h1 h2 h3 (nested_all ds ks _ _ h4 q)
  | .bool b, k, u, _, r, e => by simp [nkOf] at e
  | .list _, k, u, _, r, e => by simp [nkOf] at e
  | .dict _, k, u, _, r, e => by simp [nkOf] at e
theorem nested_all {h : Heap} : ∀ (ds : List PyData) (ks : List NK) (us : List Value) (as : List Addr), ReadsAll h us ds as → nkAll ds = some ks → NestedAll h ks us
  | [], ks, us, _, r, e => by cases r; cases e; exact .nil
  | d :: ds, ks, us, _, r, e => by
    cases r with
    | cons h1 h2 =>
      simp only [nkAll] at e
      cases q1 : nkOf d with
      | none => rw [q1] at e; cases e
      | some k =>
        cases q2 : nkAll ds with
        | none => rw [q1, q2] at e; cases e
        | some ks' =>
          rw [q1, q2] at e
          cases e
          exact .cons (nested_of d k _ _ h1 q1) (nested_all ds ks' _ _ h2 q2)
end
mutual
theorem nk_plain : ∀ (d : PyData) (k : NK), nkOf d = some k → d.plain = true
  | .none, _, _ => rfl
  | .int _, _, _ => rfl
  | .str _, _, _ => rfl
  | .tuple ds, k, e => by
    simp only [nkOf] at e
    cases q : nkAll ds with
    | none => rw [q] at e; cases e
    | some ks => simp only [PyData.plain]; exact nk_plainAll ds ks q
  | .bool b, k, e => by simp [nkOf] at e
  | .list _, k, e => by simp [nkOf] at e
  | .dict _, k, e => by simp [nkOf] at e
theorem nk_plainAll : ∀ (ds : List PyData) (ks : List NK), nkAll ds = some ks → PyData.plainAll ds = true
  | [], _, _ => rfl
  | d :: ds, ks, e => by
    simp only [nkAll] at e
    cases q1 : nkOf d with
    | none => rw [q1] at e; cases e
    | some k =>
      cases q2 : nkAll ds with
      | none => rw [q1, q2] at e; cases e
      | some ks' => simp only [PyData.plainAll, nk_plain d k q1, nk_plainAll ds ks' q2, Bool.and_self]
end
def topD : PyData → Bool
  | .int _ => true
  | .tuple _ => true
  | _ => false
theorem topKey_of {K : PySem.W.Frag} {H : Hp} {v : V} {u : Value} {d : PyData} (h : Is K H v d) (r : RelV v u) (t : topD d = true) : topKey u = true := by
  cases h with
  | int i => obtain ⟨t, rfl⟩ := r; rfl
  | tup h1 h2 => cases r; rfl
  | _ => cases t
/-- the dict with the entries xs stands at a -/
def BagO (w : World) (a : Addr) (xs : List ME) : HO := .ext fun h => ∃ o es ep, h.get? a = some o ∧ o.ExactDict ∧ o.data = .dict es ep ∧ es.toList = xs.map (entM w)
def KeyIs (K : PySem.W.Frag) (H : Hp) (e : ME) : Prop := e.1.depth ≤ 8 ∧ topKey e.2.1 = true ∧ ∃ d v, RelV v e.2.1 ∧ Is K H v d ∧ nkOf d = some e.1
theorem KeyIs.mono {K : PySem.W.Frag} {H H' : Hp} {e : ME} (fx : Fx H H') (h : KeyIs K H e) : KeyIs K H' e := by
  obtain ⟨h1, h2, d, v, r, i, n⟩ := h
  exact ⟨h1, h2, d, v, r, Is.mono fx d v i, n⟩
theorem KeyIs.ok {X : Cx} {pins : List (Addr × Obj)} {σ : L2.St} {H : Hp} {s : Shared} {e : ME} (I : Inv X pins σ H s) (h : KeyIs X.K H e) : KeyOk s.heap e.1 e.2.1 := by
  obtain ⟨h1, h2, d, v, r, i, n⟩ := h
  obtain ⟨as, rd⟩ := Dp.reads I d v _ (Is.dp d v (nk_plain d _ n) i) r
  exact ⟨nested_of d _ _ _ rd n, h1, h2⟩
end DL
namespace DL
open PySem PySem.Spec PyProof.Rows L2
abbrev Sg := L2.St

/-- what a slot holds: anything; data; a list of the def's own; the script -/
inductive Sl where
  | un | dat (d : D) | own (ds : List D) | bag (ks : List NK) | ints (ns : List Int)
/-- what a def hands back: data, or a new list -/
inductive Rv where
  | d (d : D) | f (ds : List D)
structure Ctx where
  w : World
  K : PySem.W.Frag
  M : List Nat
  pot : Option Addr
  H0 : Hp
def SlIs (w : World) (K : PySem.W.Frag) (H : Hp) : Sl → Option V → Prop
  | .un, _ => True
  | .dat d, x => ∃ v, x = some v ∧ Is K H v d
  | .own ds, x => ∃ a xs, x = some (.ref a) ∧ H a = some (.lst xs) ∧ IsAll K H xs ds
  | .ints ns, x => ∃ a, x = some (.ref a) ∧ ∀ H', Fx H H' → SqL K H' a (ns.map V.int)
  | .bag ks, x => ∃ a xs, x = some (.ref a) ∧ H a = some (BagO w a xs) ∧ (a == sysModules) = false ∧ xs.map (·.1) = ks ∧ ks.Nodup ∧ ∀ e ∈ xs, KeyIs K H e
/-- such a slot's object changes -/
def Mine (s : Sl) : Prop := (∃ ds, s = .own ds) ∨ ∃ ks, s = .bag ks
def RvIs (K : PySem.W.Frag) (H0 H' : Hp) (v : V) : Rv → Prop
  | .d d => Is K H' v d
  | .f ds => ∃ a xs, v = .ref a ∧ H0 a = none ∧ H' a = some (.lst xs) ∧ IsAll K H' xs ds
structure En (c : Ctx) (H : Hp) (σ : Sg) (ρ : List Sl) : Prop where
  len : σ.length = ρ.length
  sl : ∀ (i : Nat) (s : Sl) (x : Option V), ρ[i]? = some s → σ[i]? = some x → SlIs c.w c.K H s x
  ownM : ∀ (i : Nat) (ds : List D), ρ[i]? = some (.own ds) → i ∈ c.M
  sep : ∀ (i j : Nat) (ds es : List D) (a : Addr), ρ[i]? = some (.own ds) → ρ[j]? = some (.own es) → σ[i]? = some (some (.ref a)) → σ[j]? = some (some (.ref a)) → i = j
  new : ∀ (i : Nat) (ds : List D) (a : Addr), ρ[i]? = some (.own ds) → σ[i]? = some (some (.ref a)) → c.H0 a = none ∨ (c.pot = some a ∧ i = 0)
  keep : ∀ b o, c.H0 b = some o → c.pot ≠ some b → H b = some o
  potS : ∀ a, c.pot = some a → σ[0]? = some (some (.ref a))
  trk : ∀ (i : Nat) (a : Addr), i ∈ c.M → σ[i]? = some (some (.ref a)) → (H a).isSome = true
  potM : c.pot ≠ none → 0 ∈ c.M
  bagN : ∀ (i : Nat) (ks : List NK) (a : Addr), ρ[i]? = some (.bag ks) → σ[i]? = some (some (.ref a)) → c.H0 a = none
  bagM : ∀ (i : Nat) (ks : List NK), ρ[i]? = some (.bag ks) → i ∈ c.M
  bag1 : ∀ (i j : Nat) (ks ls : List NK), ρ[i]? = some (.bag ks) → ρ[j]? = some (.bag ls) → i = j
/-- the addresses of the def's own lists (and what such slots hold else) -/
def Ow (c : Ctx) (σ : Sg) (a : Addr) : Prop := ∃ i, i ∈ c.M ∧ σ[i]? = some (some (.ref a))
structure Gr (c : Ctx) (σ : Sg) (H H' : Hp) : Prop where
  fx : Fx H H'
  kp : ∀ b o, H b = some o → ¬ Ow c σ b → H' b = some o
theorem Gr.refl {c : Ctx} {σ : Sg} (H : Hp) : Gr c σ H H := ⟨Fx.refl H, fun _ _ h _ => h⟩
theorem Gr.trans {c : Ctx} {σ : Sg} {H H1 H2 : Hp} (a : Gr c σ H H1) (b : Gr c σ H1 H2) : Gr c σ H H2 := ⟨a.fx.trans b.fx, fun x o h n => b.kp x o (a.kp x o h n) n⟩
theorem Gr.same {c : Ctx} {σ : Sg} {H H' : Hp} (e : Same H H') : Gr c σ H H' := ⟨Same.fx e, fun b o h _ => e b o h⟩
theorem Gr.free {c : Ctx} {σ : Sg} {H H' : Hp} {ρ : List Sl} {a : Addr} (g : Gr c σ H H') (E : En c H' σ ρ) (n : H' a = none) : H a = none := by
  cases q : H a with
  | none => rfl
  | some o =>
    by_cases w : Ow c σ a
    · obtain ⟨i, hi, e⟩ := w
      have := E.trk i a hi e
      rw [n] at this
      cases this
    · rw [g.kp a o q w] at n
      cases n
theorem En.notOw {c : Ctx} {σ : Sg} {H : Hp} {ρ : List Sl} {a : Addr} (E : En c H σ ρ) (n : H a = none) : ¬ Ow c σ a := fun ⟨i, hi, e⟩ => by
  have := E.trk i a hi e
  rw [n] at this
  cases this
theorem Ow.congr {c : Ctx} {σ σ' : Sg} {a : Addr} (h : ∀ i, i ∈ c.M → σ'[i]? = σ[i]?) : Ow c σ' a ↔ Ow c σ a :=
  ⟨fun ⟨i, hi, e⟩ => ⟨i, hi, by rw [← h i hi]; exact e⟩, fun ⟨i, hi, e⟩ => ⟨i, hi, by rw [h i hi]; exact e⟩⟩
theorem Gr.congr {c : Ctx} {σ σ' : Sg} {H H' : Hp} (h : ∀ i, i ∈ c.M → σ'[i]? = σ[i]?) (g : Gr c σ' H H') : Gr c σ H H' := ⟨g.fx, fun b o e n => g.kp b o e fun w => n ((Ow.congr h).mp w)⟩

section
variable {c : Ctx} {H H' : Hp} {σ : Sg} {ρ : List Sl}
theorem SlIs.mono {w : World} {K : PySem.W.Frag} (fx : Fx H H') : ∀ {s : Sl} {x : Option V}, (∀ a, Mine s → x = some (.ref a) → ∀ o, H a = some o → H' a = some o) → SlIs w K H s x → SlIs w K H' s x
  | .un, _, _, _ => trivial
  | .dat d, _, _, ⟨v, e, h⟩ => ⟨v, e, Is.mono fx d v h⟩
  | .own ds, _, k, ⟨a, xs, e, h1, h2⟩ => ⟨a, xs, e, k a (.inl ⟨ds, rfl⟩) e _ h1, IsAll.mono fx ds xs h2⟩
  | .ints ns, _, _, ⟨a, e, h⟩ => ⟨a, e, fun H2 f => h H2 (fx.trans f)⟩
  | .bag ks, _, k, ⟨a, xs, e, h1, h2, h3, h4, h5⟩ => ⟨a, xs, e, k a (.inr ⟨ks, rfl⟩) e _ h1, h2, h3, h4, fun e he => (h5 e he).mono fx⟩
/-- a list's place is no other such slot's -/
theorem En.ne {j : Nat} {b a : Addr} {xs : List V} {s : Sl} (E : En c H σ ρ) (hj : ρ[j]? = some s) (hm : Mine s) (hb : σ[j]? = some (some (V.ref b))) (ha : H a = some (.lst xs)) (hs : ∀ es, ρ[j]? = some (Sl.own es) → σ[j]? ≠ some (some (V.ref a))) : b ≠ a := fun z => by
  subst z
  rcases hm with ⟨ds, rfl⟩ | ⟨ks, rfl⟩
  · exact hs ds hj hb
  · obtain ⟨a, xs', e, h, _⟩ := E.sl j _ _ hj hb
    cases e
    rw [ha] at h
    cases h
theorem En.same (E : En c H σ ρ) (e : Same H H') : En c H' σ ρ where
  len := E.len
  sl := fun i s x h1 h2 => SlIs.mono (Same.fx e) (fun a _ _ o h => e a o h) (E.sl i s x h1 h2)
  ownM := E.ownM
  sep := E.sep
  new := E.new
  keep := fun b o h n => e b o (E.keep b o h n)
  potS := E.potS
  trk := fun i a hi h => by
    have q := E.trk i a hi h
    cases r : H a with
    | none => rw [r] at q; cases q
    | some o => rw [e a o r]; rfl
  potM := E.potM
  bagN := E.bagN
  bagM := E.bagM
  bag1 := E.bag1
theorem getSet {α : Type} {l : List α} {i j : Nat} {x y : α} (h : (l.set i x)[j]? = some y) : (i = j ∧ y = x) ∨ (i ≠ j ∧ l[j]? = some y) := by
  by_cases e : i = j
  · subst e
    by_cases hi : i < l.length
    · rw [List.getElem?_set_self hi] at h
      exact .inl ⟨rfl, (Option.some.inj h).symm⟩
    · rw [List.getElem?_eq_none (by simpa using hi)] at h
      cases h
  · rw [List.getElem?_set_ne e] at h
    exact .inr ⟨e, h⟩
theorem getSetLt {α : Type} {l : List α} {i j : Nat} {x y : α} (h : (l.set i x)[j]? = some y) : (i = j ∧ y = x ∧ i < l.length) ∨ (i ≠ j ∧ l[j]? = some y) := by
  rcases getSet h with ⟨a, b⟩ | q
  · refine .inl ⟨a, b, ?_⟩
    by_cases hi : i < l.length
    · exact hi
    · subst a
      rw [List.getElem?_eq_none (by simpa using hi)] at h
      cases h
  · exact .inr q
/-- a slot is given data -/
theorem En.setD {i : Nat} {v : V} {d : D} (E : En c H σ ρ) (hi : i ∉ c.M) (hp : c.pot = none ∨ i ≠ 0) (h : Is c.K H v d) : En c H (σ.set i (some v)) (ρ.set i (.dat d)) where
  len := by rw [List.length_set, List.length_set]; exact E.len
  sl := fun j s x h1 h2 => by
    rcases getSet h1 with ⟨e, rfl⟩ | ⟨e, h1⟩
    · rcases getSet h2 with ⟨_, rfl⟩ | ⟨e', _⟩
      · exact ⟨v, rfl, h⟩
      · exact absurd e e'
    · rcases getSet h2 with ⟨e', _⟩ | ⟨_, h2⟩
      · exact absurd e' e
      · exact E.sl j s x h1 h2
  ownM := fun j ds h1 => by
    rcases getSet h1 with ⟨_, e⟩ | ⟨_, h1⟩
    · cases e
    · exact E.ownM j ds h1
  sep := fun j k ds es a h1 h2 h3 h4 => by
    rcases getSet h1 with ⟨_, e⟩ | ⟨n1, h1⟩
    · cases e
    rcases getSet h2 with ⟨_, e⟩ | ⟨n2, h2⟩
    · cases e
    rcases getSet h3 with ⟨e, _⟩ | ⟨_, h3⟩
    · exact absurd e n1
    rcases getSet h4 with ⟨e, _⟩ | ⟨_, h4⟩
    · exact absurd e n2
    exact E.sep j k ds es a h1 h2 h3 h4
  new := fun j ds a h1 h2 => by
    rcases getSet h1 with ⟨_, e⟩ | ⟨n1, h1⟩
    · cases e
    rcases getSet h2 with ⟨e, _⟩ | ⟨_, h2⟩
    · exact absurd e n1
    exact E.new j ds a h1 h2
  keep := E.keep
  potS := fun a h => by
    rcases hp with hp | hp
    · rw [hp] at h; cases h
    · rw [List.getElem?_set_ne hp]; exact E.potS a h
  trk := fun j a hj h1 => by
    rcases getSet h1 with ⟨e, _⟩ | ⟨_, h1⟩
    · subst e; exact absurd hj hi
    · exact E.trk j a hj h1
  potM := E.potM
  bagN := fun j ks a h1 h2 => by
    rcases getSet h1 with ⟨_, e⟩ | ⟨n1, h1⟩
    · cases e
    rcases getSet h2 with ⟨e, _⟩ | ⟨_, h2⟩
    · exact absurd e n1
    exact E.bagN j ks a h1 h2
  bagM := fun j ks h1 => by
    rcases getSet h1 with ⟨_, e⟩ | ⟨_, h1⟩
    · cases e
    · exact E.bagM j ks h1
  bag1 := fun j k ks ls h1 h2 => by
    rcases getSet h1 with ⟨_, e⟩ | ⟨_, h1⟩
    · cases e
    rcases getSet h2 with ⟨_, e⟩ | ⟨_, h2⟩
    · cases e
    exact E.bag1 j k ks ls h1 h2
/-- a slot is given a new list -/
theorem En.setO {i : Nat} {a : Addr} {xs : List V} {ds : List D} (E : En c H σ ρ) (hi : i ∈ c.M) (hp : c.pot = none ∨ i ≠ 0) (hH : H a = some (.lst xs)) (h : IsAll c.K H xs ds) (h0 : c.H0 a = none)
    (hs : ∀ j es, j ≠ i → ρ[j]? = some (.own es) → σ[j]? ≠ some (some (.ref a))) : En c H (σ.set i (some (.ref a))) (ρ.set i (.own ds)) where
  len := by rw [List.length_set, List.length_set]; exact E.len
  sl := fun j s x h1 h2 => by
    rcases getSet h1 with ⟨e, rfl⟩ | ⟨e, h1⟩
    · rcases getSet h2 with ⟨_, rfl⟩ | ⟨e', _⟩
      · exact ⟨a, xs, rfl, hH, h⟩
      · exact absurd e e'
    · rcases getSet h2 with ⟨e', _⟩ | ⟨_, h2⟩
      · exact absurd e' e
      · exact E.sl j s x h1 h2
  ownM := fun j ds h1 => by
    rcases getSet h1 with ⟨rfl, e⟩ | ⟨_, h1⟩
    · exact hi
    · exact E.ownM j ds h1
  sep := fun j k ds es b h1 h2 h3 h4 => by
    rcases getSet h1 with ⟨e1, _⟩ | ⟨n1, h1⟩
    · rcases getSet h2 with ⟨e2, _⟩ | ⟨n2, h2⟩
      · rw [← e1, ← e2]
      · rcases getSet h3 with ⟨_, e3⟩ | ⟨n3, _⟩
        · rcases getSet h4 with ⟨e4, _⟩ | ⟨_, h4⟩
          · exact absurd e4 n2
          · cases e3
            exact absurd h4 (hs k es (Ne.symm n2) h2)
        · exact absurd e1 n3
    · rcases getSet h2 with ⟨e2, _⟩ | ⟨n2, h2⟩
      · rcases getSet h4 with ⟨_, e4⟩ | ⟨n4, _⟩
        · rcases getSet h3 with ⟨e3, _⟩ | ⟨_, h3⟩
          · exact absurd e3 n1
          · cases e4
            exact absurd h3 (hs j ds (Ne.symm n1) h1)
        · exact absurd e2 n4
      · rcases getSet h3 with ⟨e, _⟩ | ⟨_, h3⟩
        · exact absurd e n1
        rcases getSet h4 with ⟨e, _⟩ | ⟨_, h4⟩
        · exact absurd e n2
        exact E.sep j k ds es b h1 h2 h3 h4
  new := fun j es b h1 h2 => by
    rcases getSet h1 with ⟨e1, _⟩ | ⟨n1, h1⟩
    · rcases getSet h2 with ⟨_, e2⟩ | ⟨n2, _⟩
      · cases e2
        exact .inl h0
      · exact absurd e1 n2
    · rcases getSet h2 with ⟨e, _⟩ | ⟨_, h2⟩
      · exact absurd e n1
      exact E.new j es b h1 h2
  keep := E.keep
  potS := fun b h => by
    rcases hp with hp | hp
    · rw [hp] at h; cases h
    · rw [List.getElem?_set_ne hp]; exact E.potS b h
  trk := fun j b hj h1 => by
    rcases getSet h1 with ⟨_, e⟩ | ⟨_, h1⟩
    · cases e
      rw [hH]; rfl
    · exact E.trk j b hj h1
  potM := E.potM
  bagN := fun j ks a h1 h2 => by
    rcases getSet h1 with ⟨_, e⟩ | ⟨n1, h1⟩
    · cases e
    rcases getSet h2 with ⟨e, _⟩ | ⟨_, h2⟩
    · exact absurd e n1
    exact E.bagN j ks a h1 h2
  bagM := fun j ks h1 => by
    rcases getSet h1 with ⟨_, e⟩ | ⟨_, h1⟩
    · cases e
    · exact E.bagM j ks h1
  bag1 := fun j k ks ls h1 h2 => by
    rcases getSet h1 with ⟨_, e⟩ | ⟨_, h1⟩
    · cases e
    rcases getSet h2 with ⟨_, e⟩ | ⟨_, h2⟩
    · cases e
    exact E.bag1 j k ks ls h1 h2
/-- a slot's own list changes -/
theorem En.updO {i : Nat} {a : Addr} {ys : List V} {ds es : List D} (E : En c H σ ρ) (h1 : ρ[i]? = some (.own ds)) (h2 : σ[i]? = some (some (.ref a))) (h : IsAll c.K H ys es) : En c (upd H a (.lst ys)) σ (ρ.set i (.own es)) := by
  obtain ⟨a', xs, e, ha, hx⟩ := E.sl i _ _ h1 h2
  cases e
  have fx : Fx H (upd H a (.lst ys)) := fun b o f q => by
    by_cases e : b = a
    · subst e; rw [ha] at q; cases q; cases f
    · rw [upd_ne e]; exact q
  refine ⟨by rw [List.length_set]; exact E.len, fun j s x q1 q2 => ?_, fun j fs q1 => ?_, fun j k fs gs b q1 q2 q3 q4 => ?_, fun j fs b q1 q2 => ?_, fun b o q n => ?_, E.potS, fun j b hj q => ?_, E.potM, fun j ks b q1 q2 => by
    rcases getSet q1 with ⟨_, e⟩ | ⟨_, q1⟩
    · cases e
    · exact E.bagN j ks b q1 q2, fun j ks q1 => by
    rcases getSet q1 with ⟨_, e⟩ | ⟨_, q1⟩
    · cases e
    · exact E.bagM j ks q1, fun j k ks ls q1 q2 => by
    rcases getSet q1 with ⟨_, e⟩ | ⟨_, q1⟩
    · cases e
    rcases getSet q2 with ⟨_, e⟩ | ⟨_, q2⟩
    · cases e
    exact E.bag1 j k ks ls q1 q2⟩
  · rcases getSet q1 with ⟨rfl, rfl⟩ | ⟨n, q1⟩
    · rw [h2] at q2
      cases q2
      exact ⟨a, ys, rfl, upd_same, IsAll.mono fx es ys h⟩
    · refine SlIs.mono fx (fun b e1 e2 o q => ?_) (E.sl j s x q1 q2)
      subst e2
      have : b ≠ a := E.ne q1 e1 q2 ha fun es z1 z2 => n (E.sep i j ds es a h1 z1 h2 z2)
      rw [upd_ne this]; exact q
  · rcases getSet q1 with ⟨rfl, _⟩ | ⟨_, q1⟩
    · exact E.ownM i ds h1
    · exact E.ownM j fs q1
  · have r1 : ∃ f, ρ[j]? = some (.own f) := by
      rcases getSet q1 with ⟨rfl, _⟩ | ⟨_, q1⟩
      · exact ⟨_, h1⟩
      · exact ⟨_, q1⟩
    have r2 : ∃ f, ρ[k]? = some (.own f) := by
      rcases getSet q2 with ⟨rfl, _⟩ | ⟨_, q2⟩
      · exact ⟨_, h1⟩
      · exact ⟨_, q2⟩
    obtain ⟨f, r1⟩ := r1
    obtain ⟨g, r2⟩ := r2
    exact E.sep j k f g b r1 r2 q3 q4
  · rcases getSet q1 with ⟨rfl, _⟩ | ⟨_, q1⟩
    · exact E.new i ds b h1 q2
    · exact E.new j fs b q1 q2
  · have nb : b ≠ a := fun z => by
      subst z
      rcases E.new i ds b h1 h2 with e | ⟨e, _⟩
      · rw [e] at q; cases q
      · exact n e
    rw [upd_ne nb]; exact E.keep b o q n
  · by_cases e : b = a
    · subst e; rw [upd_same]; rfl
    · rw [upd_ne e]; exact E.trk j b hj q
theorem En.updGr {i : Nat} {a : Addr} {ys : List V} {ds : List D} (E : En c H σ ρ) (h1 : ρ[i]? = some (.own ds)) (h2 : σ[i]? = some (some (.ref a))) : Gr c σ H (upd H a (.lst ys)) := by
  obtain ⟨a', xs, e, ha, hx⟩ := E.sl i _ _ h1 h2
  cases e
  refine ⟨fun b o f q => ?_, fun b o q n => ?_⟩
  · by_cases e : b = a
    · subst e; rw [ha] at q; cases q; cases f
    · rw [upd_ne e]; exact q
  · have : b ≠ a := fun z => n (by subst z; exact ⟨i, E.ownM i ds h1, h2⟩)
    rw [upd_ne this]; exact q
/-- a slot's own list becomes data -/
theorem En.frz {i : Nat} {a : Addr} {xs : List V} {ds : List D} {o : Obj} (E : En c H σ ρ) (h1 : ρ[i]? = some (.own ds)) (h2 : σ[i]? = some (some (.ref a))) (ha : H a = some (.lst xs)) (hx : IsAll c.K H xs ds) :
    En c (upd H a (.frz o (.lst xs))) σ (ρ.set i (.dat (.list ds))) := by
  have fx : Fx H (upd H a (.frz o (.lst xs))) := fun b o f q => by
    by_cases e : b = a
    · subst e; rw [ha] at q; cases q; cases f
    · rw [upd_ne e]; exact q
  refine ⟨by rw [List.length_set]; exact E.len, fun j s x q1 q2 => ?_, fun j fs q1 => ?_, fun j k fs gs b q1 q2 q3 q4 => ?_, fun j fs b q1 q2 => ?_, fun b o q n => ?_, E.potS, fun j b hj q => ?_, E.potM, fun j ks b q1 q2 => by
    rcases getSet q1 with ⟨_, e⟩ | ⟨_, q1⟩
    · cases e
    · exact E.bagN j ks b q1 q2, fun j ks q1 => by
    rcases getSet q1 with ⟨_, e⟩ | ⟨_, q1⟩
    · cases e
    · exact E.bagM j ks q1, fun j k ks ls q1 q2 => by
    rcases getSet q1 with ⟨_, e⟩ | ⟨_, q1⟩
    · cases e
    rcases getSet q2 with ⟨_, e⟩ | ⟨_, q2⟩
    · cases e
    exact E.bag1 j k ks ls q1 q2⟩
  · rcases getSet q1 with ⟨rfl, rfl⟩ | ⟨n, q1⟩
    · rw [h2] at q2
      cases q2
      exact ⟨.ref a, rfl, .lst upd_same (IsAll.mono fx ds xs hx)⟩
    · refine SlIs.mono fx (fun b e1 e2 o q => ?_) (E.sl j s x q1 q2)
      subst e2
      have : b ≠ a := E.ne q1 e1 q2 ha fun es z1 z2 => n (E.sep i j ds es a h1 z1 h2 z2)
      rw [upd_ne this]; exact q
  · rcases getSet q1 with ⟨_, e⟩ | ⟨_, q1⟩
    · cases e
    · exact E.ownM j fs q1
  · rcases getSet q1 with ⟨_, e⟩ | ⟨_, q1⟩
    · cases e
    rcases getSet q2 with ⟨_, e⟩ | ⟨_, q2⟩
    · cases e
    exact E.sep j k fs gs b q1 q2 q3 q4
  · rcases getSet q1 with ⟨_, e⟩ | ⟨_, q1⟩
    · cases e
    exact E.new j fs b q1 q2
  · have nb : b ≠ a := fun z => by
      subst z
      rcases E.new i ds b h1 h2 with e | ⟨e, _⟩
      · rw [e] at q; cases q
      · exact n e
    rw [upd_ne nb]; exact E.keep b o q n
  · by_cases e : b = a
    · subst e; rw [upd_same]; rfl
    · rw [upd_ne e]; exact E.trk j b hj q
theorem En.frzGr {i : Nat} {a : Addr} {xs : List V} {ds : List D} {o : Obj} (E : En c H σ ρ) (h1 : ρ[i]? = some (.own ds)) (h2 : σ[i]? = some (some (.ref a))) (ha : H a = some (.lst xs)) : Gr c σ H (upd H a (.frz o (.lst xs))) := by
  refine ⟨fun b o f q => ?_, fun b o q n => ?_⟩
  · by_cases e : b = a
    · subst e; rw [ha] at q; cases q; cases f
    · rw [upd_ne e]; exact q
  · have : b ≠ a := fun z => n (by subst z; exact ⟨i, E.ownM i ds h1, h2⟩)
    rw [upd_ne this]; exact q
/-- the slots in vs forgotten -/
def wipeS (ρ : List Sl) : List Nat → List Sl
  | [] => ρ
  | v :: vs => (wipeS ρ vs).set v .un
theorem wipeS_length (ρ : List Sl) : ∀ vs : List Nat, (wipeS ρ vs).length = ρ.length
  | [] => rfl
  | v :: vs => by unfold wipeS; rw [List.length_set, wipeS_length ρ vs]
theorem wipeS_get {ρ : List Sl} {i : Nat} {x : Sl} : ∀ {vs : List Nat}, (wipeS ρ vs)[i]? = some x → x = .un ∨ (ρ[i]? = some x ∧ i ∉ vs)
  | [], h => .inr ⟨h, by simp⟩
  | v :: vs, h => by
    unfold wipeS at h
    rcases getSet h with ⟨_, e⟩ | ⟨n, h⟩
    · exact .inl e
    · rcases wipeS_get h with e | ⟨e, m⟩
      · exact .inl e
      · exact .inr ⟨e, by simp only [List.mem_cons, not_or]; exact ⟨fun z => n z.symm, m⟩⟩
/-- the slots outside of vs are as they were -/
def Off (vs : List Nat) (σ σ' : Sg) : Prop := σ'.length = σ.length ∧ ∀ j, j ∉ vs → σ'[j]? = σ[j]?
theorem Off.refl (vs : List Nat) (σ : Sg) : Off vs σ σ := ⟨rfl, fun _ _ => rfl⟩
theorem Off.trans {vs : List Nat} {σ σ1 σ2 : Sg} (a : Off vs σ σ1) (b : Off vs σ1 σ2) : Off vs σ σ2 := ⟨b.1.trans a.1, fun j h => (b.2 j h).trans (a.2 j h)⟩
theorem Off.symm {vs : List Nat} {σ σ1 : Sg} (a : Off vs σ σ1) : Off vs σ1 σ := ⟨a.1.symm, fun j h => (a.2 j h).symm⟩
theorem off_wipe (σ : Sg) : ∀ vs : List Nat, Off vs σ (wipe σ vs)
  | [] => Off.refl _ _
  | v :: vs => by
    refine ⟨by unfold wipe; rw [List.length_set]; exact (off_wipe σ vs).1, fun j h => ?_⟩
    unfold wipe
    rw [List.getElem?_set_ne (fun e => h (by simp [e]))]
    exact (off_wipe σ vs).2 j fun z => h (by simp [z])
theorem off_wipes {σ σ' : Sg} {vs : List Nat} (h : Off vs σ σ') : wipe σ' vs = wipe σ vs := by
  have key : ∀ (σ : Sg) (vs : List Nat) (j : Nat), (wipe σ vs)[j]? = if j ∈ vs then (if j < σ.length then some none else none) else σ[j]? := by
    intro σ vs
    induction vs with
    | nil => intro j; simp [wipe]
    | cons v vs ih =>
      intro j
      unfold wipe
      by_cases e : v = j
      · subst e
        by_cases hv : v < σ.length
        · rw [List.getElem?_set_self (by rw [wipe_length]; exact hv)]; simp [hv]
        · rw [List.getElem?_eq_none (by rw [List.length_set, wipe_length]; omega)]; simp [hv]
      · rw [List.getElem?_set_ne e, ih j]
        simp [Ne.symm e]
  apply List.ext_getElem?
  intro j
  rw [key, key, h.1]
  by_cases hj : j ∈ vs
  · simp [hj]
  · simp [hj, h.2 j hj]
theorem En.off {vs : List Nat} {σ' : Sg} (E : En c H σ ρ) (h : Off vs σ σ') (hM : ∀ i, i ∈ vs → i ∉ c.M) (hp : c.pot = none ∨ 0 ∉ vs) : En c H σ' (wipeS ρ vs) where
  len := by rw [wipeS_length, h.1]; exact E.len
  sl := fun i s x h1 h2 => by
    rcases wipeS_get h1 with rfl | ⟨h1, n⟩
    · trivial
    · rw [h.2 i n] at h2
      exact E.sl i s x h1 h2
  ownM := fun i ds h1 => by
    rcases wipeS_get h1 with e | ⟨h1, n⟩
    · cases e
    · exact E.ownM i ds h1
  sep := fun i j ds es a h1 h2 h3 h4 => by
    rcases wipeS_get h1 with e | ⟨h1, n1⟩
    · cases e
    rcases wipeS_get h2 with e | ⟨h2, n2⟩
    · cases e
    rw [h.2 i n1] at h3
    rw [h.2 j n2] at h4
    exact E.sep i j ds es a h1 h2 h3 h4
  new := fun i ds a h1 h2 => by
    rcases wipeS_get h1 with e | ⟨h1, n1⟩
    · cases e
    rw [h.2 i n1] at h2
    exact E.new i ds a h1 h2
  keep := E.keep
  potS := fun a e => by
    rcases hp with hp | hp
    · rw [hp] at e; cases e
    · rw [h.2 0 hp]; exact E.potS a e
  trk := fun i a hi e => by
    rw [h.2 i fun z => hM i z hi] at e
    exact E.trk i a hi e
  potM := E.potM
  bagN := fun i ks a h1 h2 => by
    rcases wipeS_get h1 with e | ⟨h1, n1⟩
    · cases e
    rw [h.2 i n1] at h2
    exact E.bagN i ks a h1 h2
  bagM := fun i ks h1 => by
    rcases wipeS_get h1 with e | ⟨h1, n1⟩
    · cases e
    exact E.bagM i ks h1
  bag1 := fun i j ks ls h1 h2 => by
    rcases wipeS_get h1 with e | ⟨h1, n1⟩
    · cases e
    rcases wipeS_get h2 with e | ⟨h2, n2⟩
    · cases e
    exact E.bag1 i j ks ls h1 h2
theorem Off.M {vs : List Nat} {σ' : Sg} (h : Off vs σ σ') (hM : ∀ i, i ∈ vs → i ∉ c.M) : ∀ i, i ∈ c.M → σ'[i]? = σ[i]? := fun i hi => h.2 i fun z => hM i z hi
/-- behind a call that changed the list of slot i alone -/
theorem En.call {i : Nat} {a : Addr} {ys : List V} {ds es : List D} (E : En c H σ ρ) (h1 : ρ[i]? = some (.own ds)) (h2 : σ[i]? = some (some (.ref a))) (k : ∀ b o, b ≠ a → H b = some o → H' b = some o) (ha : H' a = some (.lst ys)) (h : IsAll c.K H' ys es) :
    En c H' σ (ρ.set i (.own es)) ∧ Gr c σ H H' := by
  obtain ⟨a', xs, e, haH, hx⟩ := E.sl i _ _ h1 h2
  cases e
  have fx : Fx H H' := fun b o f q => by
    by_cases e : b = a
    · subst e; rw [haH] at q; cases q; cases f
    · exact k b o e q
  refine ⟨⟨by rw [List.length_set]; exact E.len, fun j s x q1 q2 => ?_, fun j fs q1 => ?_, fun j k fs gs b q1 q2 q3 q4 => ?_, fun j fs b q1 q2 => ?_, fun b o q n => ?_, E.potS, fun j b hj q => ?_, E.potM, fun j ks b q1 q2 => by
    rcases getSet q1 with ⟨_, e⟩ | ⟨_, q1⟩
    · cases e
    · exact E.bagN j ks b q1 q2, fun j ks q1 => by
    rcases getSet q1 with ⟨_, e⟩ | ⟨_, q1⟩
    · cases e
    · exact E.bagM j ks q1, fun j k ks ls q1 q2 => by
    rcases getSet q1 with ⟨_, e⟩ | ⟨_, q1⟩
    · cases e
    rcases getSet q2 with ⟨_, e⟩ | ⟨_, q2⟩
    · cases e
    exact E.bag1 j k ks ls q1 q2⟩, fx, fun b o q n => k b o (fun z => n (by subst z; exact ⟨i, E.ownM i ds h1, h2⟩)) q⟩
  · rcases getSet q1 with ⟨rfl, rfl⟩ | ⟨n, q1⟩
    · rw [h2] at q2
      cases q2
      exact ⟨a, ys, rfl, ha, h⟩
    · refine SlIs.mono fx (fun b e1 e2 o q => ?_) (E.sl j s x q1 q2)
      subst e2
      exact k b o (E.ne q1 e1 q2 haH fun es z1 z2 => n (E.sep i j ds es a h1 z1 h2 z2)) q
  · rcases getSet q1 with ⟨rfl, _⟩ | ⟨_, q1⟩
    · exact E.ownM i ds h1
    · exact E.ownM j fs q1
  · have r1 : ∃ f, ρ[j]? = some (.own f) := by
      rcases getSet q1 with ⟨rfl, _⟩ | ⟨_, q1⟩
      · exact ⟨_, h1⟩
      · exact ⟨_, q1⟩
    have r2 : ∃ f, ρ[k]? = some (.own f) := by
      rcases getSet q2 with ⟨rfl, _⟩ | ⟨_, q2⟩
      · exact ⟨_, h1⟩
      · exact ⟨_, q2⟩
    obtain ⟨f, r1⟩ := r1
    obtain ⟨g, r2⟩ := r2
    exact E.sep j k f g b r1 r2 q3 q4
  · rcases getSet q1 with ⟨rfl, _⟩ | ⟨_, q1⟩
    · exact E.new i ds b h1 q2
    · exact E.new j fs b q1 q2
  · have nb : b ≠ a := fun z => by
      subst z
      rcases E.new i ds b h1 h2 with e | ⟨e, _⟩
      · rw [e] at q; cases q
      · exact n e
    exact k b o nb (E.keep b o q n)
  · by_cases e : b = a
    · subst e; rw [ha]; rfl
    · have t := E.trk j b hj q
      cases r : H b with
      | none => rw [r] at t; cases t
      | some o => rw [k b o e r]; rfl
theorem En.h0 {a : Addr} (E : En c H σ ρ) (n : H a = none) : c.H0 a = none := by
  cases q : c.H0 a with
  | none => rfl
  | some o =>
    by_cases e : c.pot = some a
    · have := E.trk 0 a (E.potM (by rw [e]; simp)) (E.potS a e)
      rw [n] at this; cases this
    · rw [E.keep a o q e] at n; cases n
/-- a list that is no slot's own is frozen -/
theorem En.frzN {a : Addr} {xs : List V} {o : Obj} (E : En c H σ ρ) (ha : H a = some (.lst xs)) (h0 : c.H0 a = none) (hs : ∀ (j : Nat) (es : List D), ρ[j]? = some (Sl.own es) → σ[j]? ≠ some (some (V.ref a))) :
    En c (upd H a (.frz o (.lst xs))) σ ρ := by
  have fx : Fx H (upd H a (.frz o (.lst xs))) := fun b o f q => by
    by_cases e : b = a
    · subst e; rw [ha] at q; cases q; cases f
    · rw [upd_ne e]; exact q
  refine ⟨E.len, fun j s x q1 q2 => ?_, E.ownM, E.sep, E.new, fun b o q n => ?_, E.potS, fun j b hj q => ?_, E.potM, E.bagN, E.bagM, E.bag1⟩
  · refine SlIs.mono fx (fun b e1 e2 o q => ?_) (E.sl j s x q1 q2)
    subst e2
    have : b ≠ a := E.ne q1 e1 q2 ha fun es z1 z2 => hs j es z1 z2
    rw [upd_ne this]; exact q
  · have nb : b ≠ a := fun z => by subst z; rw [h0] at q; cases q
    rw [upd_ne nb]; exact E.keep b o q n
  · by_cases e : b = a
    · subst e; rw [upd_same]; rfl
    · rw [upd_ne e]; exact E.trk j b hj q
/-- a new object: no slot's own -/
theorem En.sepN {H1 : Hp} {ρ1 : List Sl} {a : Addr} (E : En c H σ ρ) (E1 : En c H1 σ ρ1) (n : H a = none) : ∀ (j : Nat) (es : List D), ρ1[j]? = some (Sl.own es) → σ[j]? ≠ some (some (V.ref a)) := fun j es h1 h2 => by
  have := E.trk j a (E1.ownM j es h1) h2
  rw [n] at this; cases this
/-- a new dict at a slot -/
theorem En.setB {i : Nat} {a : Addr} {xs : List ME} (E : En c H σ ρ) (hi : i ∈ c.M) (hp : c.pot = none ∨ i ≠ 0) (hH : H a = some (BagO c.w a xs)) (hm : (a == sysModules) = false) (hn : (xs.map (·.1)).Nodup) (hk : ∀ e ∈ xs, KeyIs c.K H e) (h0 : c.H0 a = none)
    (h1 : ∀ j ks, ρ[j]? = some (Sl.bag ks) → j = i) : En c H (σ.set i (some (.ref a))) (ρ.set i (.bag (xs.map (·.1)))) where
  len := by rw [List.length_set, List.length_set]; exact E.len
  sl := fun j s x h1 h2 => by
    rcases getSet h1 with ⟨e, rfl⟩ | ⟨e, h1⟩
    · rcases getSet h2 with ⟨_, rfl⟩ | ⟨e', _⟩
      · exact ⟨a, xs, rfl, hH, hm, rfl, hn, hk⟩
      · exact absurd e e'
    · rcases getSet h2 with ⟨e', _⟩ | ⟨_, h2⟩
      · exact absurd e' e
      · exact E.sl j s x h1 h2
  ownM := fun j ds h1 => by
    rcases getSet h1 with ⟨_, e⟩ | ⟨_, h1⟩
    · cases e
    · exact E.ownM j ds h1
  sep := fun j k ds es a h1 h2 h3 h4 => by
    rcases getSet h1 with ⟨_, e⟩ | ⟨n1, h1⟩
    · cases e
    rcases getSet h2 with ⟨_, e⟩ | ⟨n2, h2⟩
    · cases e
    rcases getSet h3 with ⟨e, _⟩ | ⟨_, h3⟩
    · exact absurd e n1
    rcases getSet h4 with ⟨e, _⟩ | ⟨_, h4⟩
    · exact absurd e n2
    exact E.sep j k ds es a h1 h2 h3 h4
  new := fun j ds a h1 h2 => by
    rcases getSet h1 with ⟨_, e⟩ | ⟨n1, h1⟩
    · cases e
    rcases getSet h2 with ⟨e, _⟩ | ⟨_, h2⟩
    · exact absurd e n1
    exact E.new j ds a h1 h2
  keep := E.keep
  potS := fun b h => by
    rcases hp with hp | hp
    · rw [hp] at h; cases h
    · rw [List.getElem?_set_ne hp]; exact E.potS b h
  trk := fun j b hj h1 => by
    rcases getSet h1 with ⟨_, e⟩ | ⟨_, h1⟩
    · cases e
      rw [hH]; rfl
    · exact E.trk j b hj h1
  potM := E.potM
  bagN := fun j ks b h2 h3 => by
    rcases getSet h2 with ⟨e, _⟩ | ⟨n1, h2⟩
    · rcases getSet h3 with ⟨_, e3⟩ | ⟨n3, _⟩
      · cases e3; exact h0
      · exact absurd e n3
    · exact absurd (h1 j ks h2).symm n1
  bagM := fun j ks h2 => by
    rcases getSet h2 with ⟨rfl, _⟩ | ⟨_, h2⟩
    · exact hi
    · exact E.bagM j ks h2
  bag1 := fun j k ks ls h2 h3 => by
    have e1 : j = i := by
      rcases getSet h2 with ⟨e, _⟩ | ⟨_, h2⟩
      · exact e.symm
      · exact h1 j ks h2
    have e2 : k = i := by
      rcases getSet h3 with ⟨e, _⟩ | ⟨_, h3⟩
      · exact e.symm
      · exact h1 k ls h3
    rw [e1, e2]
/-- the dict of a slot changes -/
theorem En.updB {i : Nat} {a : Addr} {ks : List NK} {ys : List ME} (E : En c H σ ρ) (h1 : ρ[i]? = some (.bag ks)) (h2 : σ[i]? = some (some (.ref a))) (hn : (ys.map (·.1)).Nodup) (hk : ∀ e ∈ ys, KeyIs c.K H e) : En c (upd H a (BagO c.w a ys)) σ (ρ.set i (.bag (ys.map (·.1)))) ∧ Gr c σ H (upd H a (BagO c.w a ys)) := by
  obtain ⟨a', xs, e, ha, hm, _, _, _⟩ := E.sl i _ _ h1 h2
  cases e
  have fx : Fx H (upd H a (BagO c.w a ys)) := fun b o f q => by
    by_cases e : b = a
    · subst e; rw [ha] at q; cases q; cases f
    · rw [upd_ne e]; exact q
  refine ⟨⟨by rw [List.length_set]; exact E.len, fun j s x q1 q2 => ?_, fun j fs q1 => ?_, fun j k fs gs b q1 q2 q3 q4 => ?_, fun j fs b q1 q2 => ?_, fun b o q n => ?_, E.potS, fun j b hj q => ?_, E.potM, fun j ks b q1 q2 => ?_, fun j ks q1 => ?_, fun j k ks ls q1 q2 => ?_⟩, fx, fun b o q n => ?_⟩
  · rcases getSet q1 with ⟨rfl, rfl⟩ | ⟨n, q1⟩
    · rw [h2] at q2
      cases q2
      exact ⟨a, ys, rfl, upd_same, hm, rfl, hn, fun e he => (hk e he).mono fx⟩
    · refine SlIs.mono fx (fun b e1 e2 o q => ?_) (E.sl j s x q1 q2)
      subst e2
      have : b ≠ a := fun z => by
        subst z
        rcases e1 with ⟨ds, rfl⟩ | ⟨ls, rfl⟩
        · obtain ⟨b', xs', e, h, _⟩ := E.sl j _ _ q1 q2
          cases e
          rw [ha] at h
          cases h
        · exact n (E.bag1 i j ks ls h1 q1)
      rw [upd_ne this]; exact q
  · rcases getSet q1 with ⟨_, e⟩ | ⟨_, q1⟩
    · cases e
    · exact E.ownM j fs q1
  · rcases getSet q1 with ⟨_, e⟩ | ⟨_, q1⟩
    · cases e
    rcases getSet q2 with ⟨_, e⟩ | ⟨_, q2⟩
    · cases e
    exact E.sep j k fs gs b q1 q2 q3 q4
  · rcases getSet q1 with ⟨_, e⟩ | ⟨_, q1⟩
    · cases e
    exact E.new j fs b q1 q2
  · have nb : b ≠ a := fun z => by subst z; rw [E.bagN i ks b h1 h2] at q; cases q
    rw [upd_ne nb]; exact E.keep b o q n
  · by_cases e : b = a
    · subst e; rw [upd_same]; rfl
    · rw [upd_ne e]; exact E.trk j b hj q
  · rcases getSet q1 with ⟨rfl, _⟩ | ⟨_, q1⟩
    · rw [h2] at q2; cases q2; exact E.bagN i _ _ h1 h2
    · exact E.bagN j ks b q1 q2
  · rcases getSet q1 with ⟨rfl, _⟩ | ⟨_, q1⟩
    · exact E.bagM i _ h1
    · exact E.bagM j ks q1
  · have e1 : ∀ {m : Nat} {l : List NK}, (ρ.set i (.bag (ys.map (·.1))))[m]? = some (.bag l) → m = i := fun {m l} q => by
      rcases getSet q with ⟨e, _⟩ | ⟨_, q⟩
      · exact e.symm
      · exact E.bag1 m i l _ q h1
    rw [e1 q1, e1 q2]
  · have : b ≠ a := fun z => n (by subst z; exact ⟨i, E.bagM i ks h1, h2⟩)
    rw [upd_ne this]; exact q
end
end DL
namespace DL
open PySem PySem.Spec PyProof.Rows L2

abbrev DW := List Sl → (D → List Sl → Prop) → Prop
abbrev BW := List Sl → (Bool → List Sl → Prop) → Prop
abbrev LW := List Sl → (List D → List Sl → Prop) → Prop
abbrev GW := D → List Sl → (List Sl → Prop) → Prop
structure DE where
  nx : List Sl → Prop
  rt : Rv → List Sl → Prop
  bk : List Sl → Prop := fun _ => False
  ct : List Sl → Prop := fun _ => False
abbrev SW := DE → List Sl → Prop

def tD (c : Ctx) (w : DW) : TE := fun σ H Q => ∃ ρ Q0, En c H σ ρ ∧ w ρ Q0 ∧ ∀ d ρ' v H', Q0 d ρ' → Gr c σ H H' → En c H' σ ρ' → Is c.K H' v d → Q v H'
def tT (c : Ctx) (w : BW) : TT := fun σ H Q => ∃ ρ Q0, En c H σ ρ ∧ w ρ Q0 ∧ ∀ b ρ' H', Q0 b ρ' → Gr c σ H H' → En c H' σ ρ' → Q b H'
def tA (c : Ctx) (w : LW) : TA := fun σ H Q => ∃ ρ Q0, En c H σ ρ ∧ w ρ Q0 ∧ ∀ ds ρ' vs H', Q0 ds ρ' → Gr c σ H H' → En c H' σ ρ' → IsAll c.K H' vs ds → Q vs H'
def tF (c : Ctx) (w : LW) : TE := fun σ H Q => ∃ ρ Q0, En c H σ ρ ∧ w ρ Q0 ∧ ∀ ds ρ' a xs H', Q0 ds ρ' → Gr c σ H H' → En c H' σ ρ' → H a = none → H' a = some (.lst xs) → IsAll c.K H' xs ds → Q (.ref a) H'
abbrev Rel := PySem.W.Frag → Hp → V → D → Prop
def gR (R : Rel) (c : Ctx) (vs : List Nat) (g : GW) : TG := fun v σ H Q => ∃ (d : D) (ρ : List Sl) (Q0 : List Sl → Prop), R c.K H v d ∧ En c H σ ρ ∧ g d ρ Q0 ∧ ∀ ρ' σ', Q0 ρ' → (σ'.length = σ.length ∧ ∀ j, j ∉ vs → σ'[j]? = σ[j]?) → En c H σ' ρ' → Q σ' H
abbrev gD := gR Is
/-- the walk's items, whatever has stayed -/
def WalkR (R : Rel) (K : PySem.W.Frag) (J : It) (H : Hp) (xs : List D) : Prop :=
  (∀ i H', Fx H H' → i < xs.length → J.go i H') ∧ (∀ i x H' H'' d, Fx H H' → xs[i]? = some d → J.yld i H' x H'' → Same H' H'' ∧ R K H'' x d) ∧ ∀ i H', Fx H H' → xs.length ≤ i → J.stop i H'
abbrev Walk := WalkR Is
def iR (R : Rel) (c : Ctx) (w : LW) : TI := fun σ H RR => ∃ (ρ : List Sl) (Q0 : List D → List Sl → Prop), En c H σ ρ ∧ w ρ Q0 ∧ ∀ xs ρ' J H', Q0 xs ρ' → Gr c σ H H' → En c H' σ ρ' → WalkR R c.K J H' xs → RR J H'
abbrev iD := iR Is
def sD (c : Ctx) (w : SW) : TS := fun D σ H => ∃ ρ D0, En c H σ ρ ∧ w D0 ρ ∧ (∀ ρ' σ' H', D0.nx ρ' → Fx H H' → En c H' σ' ρ' → D.nx σ' H') ∧
  (∀ r ρ' σ' v H', D0.rt r ρ' → Fx H H' → En c H' σ' ρ' → RvIs c.K c.H0 H' v r → D.rt v H') ∧ (∀ ρ' σ' H', D0.bk ρ' → Fx H H' → En c H' σ' ρ' → D.bk σ' H') ∧ ∀ ρ' σ' H', D0.ct ρ' → Fx H H' → En c H' σ' ρ' → D.ct σ' H'

theorem PE.imp {X : Cx} {e : Expr} {t t' : TE} (h : PE X e t) (i : ∀ σ H Q, t' σ H Q → t σ H Q) : PE X e t' := ⟨fun pins s σ H Q I q => h.run pins s σ H Q I (i σ H Q q)⟩
theorem PT.imp {X : Cx} {e : Expr} {t t' : TT} (h : PT X e t) (i : ∀ σ H Q, t' σ H Q → t σ H Q) : PT X e t' := ⟨fun pins s σ H Q I q => h.run pins s σ H Q I (i σ H Q q)⟩
theorem PA.imp {X : Cx} {e : List Expr} {t t' : TA} (h : PA X e t) (i : ∀ σ H Q, t' σ H Q → t σ H Q) : PA X e t' := ⟨fun pos pins s σ H Q I q => h.run pos pins s σ H Q I (i σ H Q q)⟩
theorem PS.imp {X : Cx} {e : Stmt} {t t' : TS} (h : PS X e t) (i : ∀ D σ H, t' D σ H → t D σ H) : PS X e t' := ⟨fun pins s σ H D I q => h.run pins s σ H D I (i D σ H q)⟩
theorem PSs.imp {X : Cx} {e : List Stmt} {t t' : TS} (h : PSs X e t) (i : ∀ D σ H, t' D σ H → t D σ H) : PSs X e t' := ⟨fun pins s σ H D I q => h.run pins s σ H D I (i D σ H q)⟩
theorem PG.imp {X : Cx} {e : Expr} {t t' : TG} (h : PG X e t) (i : ∀ v σ H Q, t' v σ H Q → t v σ H Q) : PG X e t' := ⟨fun pins s σ H v u Q I r q => h.run pins s σ H v u Q I r (i v σ H Q q)⟩
theorem PI.imp {X : Cx} {tg e : Expr} {t t' : TI} (h : PI X tg e t) (i : ∀ σ H Q, t' σ H Q → t σ H Q) : PI X tg e t' := ⟨fun pins s σ H Q I q => h.run pins s σ H Q I (i σ H Q q)⟩

theorem En.at {c : Ctx} {H : Hp} {σ : Sg} {ρ : List Sl} {i : Nat} {s : Sl} (E : En c H σ ρ) (h : ρ[i]? = some s) : ∃ x, σ[i]? = some x ∧ SlIs c.w c.K H s x := by
  have hi : i < ρ.length := (List.getElem?_eq_some_iff.mp h).1
  have hj : i < σ.length := by rw [E.len]; exact hi
  exact ⟨σ[i], List.getElem?_eq_getElem hj, E.sl i s _ h (List.getElem?_eq_getElem hj)⟩

section
variable {X : Cx} {c : Ctx} {e a b : Expr} {es : List Expr} {pos : Pos}

/-! ### names, constants -/
def wVar (i : Nat) : DW := fun ρ Q => (∃ d, ρ[i]? = some (.dat d) ∧ Q d ρ) ∨ ∃ ds, ρ[i]? = some (.own ds) ∧ Q (.list ds) (ρ.set i (.dat (.list ds)))
theorem de_var (i : Nat) {x : Str} (hN : X.N[i]? = some x := by rfl) (hv : Vis X.env.scope x := by first | exact Or.inl rfl | exact Or.inr (Or.inl rfl) | exact Or.inr (Or.inr rfl)) (hd : (x == ("__debug__" : Str)) = false := by decide)
    (hcd : (x == ("__classdict__" : Str)) = false := by decide) : PE X (.Name x pos) (tD c (wVar i)) := by
  refine ⟨fun pins s σ H Q I h => ?_⟩
  obtain ⟨ρ, Q0, E, w, k⟩ := h
  rcases w with ⟨d, h1, q⟩ | ⟨ds, h1, q⟩
  · obtain ⟨x, hx, v, rfl, iv⟩ := E.at h1
    exact (pe_var hN hv hd hcd).run pins s σ H Q I ⟨v, hx, k d ρ v H q (Gr.refl H) E iv⟩
  · obtain ⟨x, hx, a, xs, rfl, ha, ix⟩ := E.at h1
    refine thn ((pe_var hN hv hd hcd).run pins s σ H (fun v H' => v = .ref a ∧ H' = H) I ⟨_, hx, rfl, rfl⟩) fun u s1 ⟨v, H1, I1, r1, e1, e2⟩ => ?_
    subst e1 e2
    obtain ⟨o, I2⟩ := Inv.freeze I1 ha trivial (fun _ _ _ z => by cases z) (fun _ z => by cases z)
    have E2 := E.frz (o := o) h1 hx ha ix
    obtain ⟨x', hx', v', ev, iv⟩ := E2.at (i := i) (s := .dat (.list ds)) (by
      have hi : i < ρ.length := (List.getElem?_eq_some_iff.mp h1).1
      rw [List.getElem?_set_self hi])
    rw [hx] at hx'
    cases hx'
    cases ev
    exact ⟨.ref a, _, I2, r1, k _ _ _ _ q (E.frzGr h1 hx ha) E2 iv⟩
def wC (d : D) : DW := fun ρ Q => Q d ρ
theorem de_c {v : V} {d : D} (h : PE X e (tC v)) (hd : ∀ H, Is c.K H v d) : PE X e (tD c (wC d)) :=
  PE.imp h fun σ H Q ⟨ρ, Q0, E, w, k⟩ => k d ρ v H w (Gr.refl H) E (hd H)
theorem de_int {i j pos} : PE X (.Constant (.int i) j pos) (tD c (wC (.int i))) := de_c pe_int fun _ => .int i
theorem de_bl {i j pos} : PE X (.Constant (.bool i) j pos) (tD c (wC (.bool i))) := de_c pe_bl fun _ => .bl i
theorem de_non {j pos} : PE X (.Constant .none j pos) (tD c (wC .none)) := de_c pe_non fun _ => .non
theorem de_str {i j pos} : PE X (.Constant (.str i) j pos) (tD c (wC (.str i))) := de_c pe_str fun _ => .str i
/-- a module's number -/
theorem de_gint {x : Str} {i : Int} {t : Tok} (hg : Gl X x) (hm : X.mg x = some (.int i t)) (hd : (x == ("__debug__" : Str)) = false := by decide) : PE X (.Name x pos) (tD c (wC (.int i))) := de_c (pe_glob (v := .int i) hg hm ⟨t, rfl⟩ hd) fun _ => .int i
/-- a new list as data -/
def wL (w : LW) : DW := fun ρ Q => w ρ fun ds ρ' => Q (.list ds) ρ'
theorem de_fz {w : LW} (h : PE X e (tF c w)) : PE X e (tD c (wL w)) := by
  refine ⟨fun pins s σ H Q I hq => ?_⟩
  obtain ⟨ρ, Q0, E, hw, k⟩ := hq
  refine thn (h.run pins s σ H (fun v H' => ∃ ds ρ' a xs, v = .ref a ∧ Q0 (.list ds) ρ' ∧ Gr c σ H H' ∧ En c H' σ ρ' ∧ H a = none ∧ H' a = some (.lst xs) ∧ IsAll c.K H' xs ds) I
    ⟨ρ, _, E, hw, fun ds ρ' a xs H' q g E1 n ha ix => ⟨ds, ρ', a, xs, rfl, q, g, E1, n, ha, ix⟩⟩) fun u s1 ⟨v, H1, I1, r1, ds, ρ', a, xs, e1, q, g, E1, n, ha, ix⟩ => ?_
  subst e1
  obtain ⟨o, I2⟩ := Inv.freeze I1 ha trivial (fun _ _ _ z => by cases z) (fun _ z => by cases z)
  have fx : Fx H1 (upd H1 a (.frz o (.lst xs))) := fun b o f q => by
    by_cases e : b = a
    · subst e; rw [ha] at q; cases q; cases f
    · rw [upd_ne e]; exact q
  have nb : ∀ b o, H b = some o → b ≠ a := fun b o q z => by subst z; rw [n] at q; cases q
  refine ⟨.ref a, _, I2, r1, k _ ρ' _ _ q ⟨g.fx.trans fx, fun b o q w => ?_⟩ (E1.frzN ha (E.h0 n) (E.sepN E1 n)) (.lst upd_same (IsAll.mono fx ds xs ix))⟩
  rw [upd_ne (nb b o q)]; exact g.kp b o q w

/-! ### operators -/
def rB (K : PySem.W.Frag) (f : D → D → Option D) : R2 := fun x y H Q => ∃ d e r, Is K H x d ∧ Is K H y e ∧ f d e = some r ∧ ∀ v H', Same H H' → Is K H' v r → Q v H'
def wBin (f : D → D → Option D) (wa wb : DW) : DW := fun ρ Q => wa ρ fun d ρ1 => wb ρ1 fun e ρ2 => ∃ r, f d e = some r ∧ Q r ρ2
theorem bin_imp {f : D → D → Option D} {wa wb : DW} {K : PySem.W.Frag} (hK : c.K = K) : ∀ σ H Q, tD c (wBin f wa wb) σ H Q → tOp (rB K f) (tD c wa) (tD c wb) σ H Q := by
  subst hK
  rintro σ H Q ⟨ρ, Q0, E, w, k⟩
  refine ⟨ρ, _, E, w, fun d ρ1 v H1 q g1 E1 i1 => ?_⟩
  refine ⟨ρ1, _, E1, q, fun e ρ2 u H2 q2 g2 E2 i2 => ?_⟩
  obtain ⟨r, hf, q3⟩ := q2
  exact ⟨d, e, r, Is.mono g2.fx d v i1, i2, hf, fun z H3 sm iz => k r ρ2 z H3 q3 ((g1.trans g2).trans (Gr.same sm)) (E2.same sm) iz⟩
theorem de_bin {op : Operator} {f : D → D → Option D} {wa wb : DW} (ho : OpR X (binaryOp op) (rB X.K f)) (ha : PE X a (tD c wa)) (hb : PE X b (tD c wb)) (hK : c.K = X.K := by rfl) : PE X (.BinOp a op b pos) (tD c (wBin f wa wb)) :=
  PE.imp (pe_op ho ha hb) (bin_imp hK)
theorem de_cmp {op : CmpOp} {f : D → D → Option D} {wa wb : DW} (ho : OpR X (compareOp op) (rB X.K f)) (ha : PE X a (tD c wa)) (hb : PE X b (tD c wb)) (hm : behindInMarks op b = false) (hK : c.K = X.K := by rfl) : PE X (.Compare a [op] [b] pos) (tD c (wBin f wa wb)) :=
  PE.imp (pe_cmpR ho ha hb hm) (bin_imp hK)
def wTst (w : DW) : BW := fun ρ Q => w ρ fun d ρ' => ∃ k, d = .bool k ∧ Q k ρ'
theorem tst_imp {w : DW} {t : TE} (h : ∀ σ H Q, tD c w σ H Q → t σ H Q) : ∀ σ H Q, tT c (wTst w) σ H Q → tTest t σ H Q := by
  rintro σ H Q ⟨ρ, Q0, E, hw, k⟩
  refine h σ H _ ⟨ρ, _, E, hw, fun d ρ' v H' q g E1 i1 => ?_⟩
  obtain ⟨b, rfl, q⟩ := q
  cases i1
  exact ⟨b, rfl, k b ρ' H' q g E1⟩
theorem dt_cmp {op : CmpOp} {f : D → D → Option D} {wa wb : DW} (ho : OpR X (compareOp op) (rB X.K f)) (ha : PE X a (tD c wa)) (hb : PE X b (tD c wb)) (hm : behindInMarks op b = false) (hK : c.K = X.K := by rfl) : PT X (.Compare a [op] [b] pos) (tT c (wTst (wBin f wa wb))) :=
  PT.imp (pt_cmpR ho ha hb hm) (tst_imp (bin_imp hK))
/-- a op b op' c -/
def wChain (f f' : D → D → Option D) (wa wb wc : DW) : DW := fun ρ Q => wa ρ fun d ρ1 => wb ρ1 fun e ρ2 => ∃ k, f d e = some (.bool k) ∧ if k = true then wc ρ2 fun g ρ3 => ∃ r, f' e g = some r ∧ Q r ρ3 else Q (.bool false) ρ2
theorem chain_imp {f f' : D → D → Option D} {wa wb wc : DW} {K : PySem.W.Frag} (hK : c.K = K) : ∀ σ H Q, tD c (wChain f f' wa wb wc) σ H Q → tChain (rB K f) (rB K f') (tD c wa) (tD c wb) (tD c wc) σ H Q := by
  subst hK
  rintro σ H Q ⟨ρ, Q0, E, w, k⟩
  refine ⟨ρ, _, E, w, fun d ρ1 v H1 q g1 E1 i1 => ?_⟩
  refine ⟨ρ1, _, E1, q, fun e ρ2 u H2 q2 g2 E2 i2 => ?_⟩
  obtain ⟨b, hf, q3⟩ := q2
  refine ⟨d, e, .bool b, Is.mono g2.fx d v i1, i2, hf, fun z H3 sm iz => ?_⟩
  cases iz
  refine ⟨b, rfl, ?_⟩
  cases b with
  | false => exact k _ ρ2 _ H3 q3 ((g1.trans g2).trans (Gr.same sm)) (E2.same sm) (.bl false)
  | true =>
    refine ⟨ρ2, _, E2.same sm, q3, fun g ρ3 z H4 q4 g4 E4 i4 => ?_⟩
    obtain ⟨r, hf', q5⟩ := q4
    exact ⟨e, g, r, Is.mono g4.fx e u (Is.mono (Same.fx sm) e u i2), i4, hf', fun y H5 sm5 iy => k r ρ3 y H5 q5 ((((g1.trans g2).trans (Gr.same sm)).trans g4).trans (Gr.same sm5)) (E4.same sm5) iy⟩
theorem de_chain {op op' : CmpOp} {f f' : D → D → Option D} {b2 : Expr} {wa wb wc : DW} (ho : OpR X (compareOp op) (rB X.K f)) (ho' : OpR X (compareOp op') (rB X.K f')) (ha : PE X a (tD c wa)) (hb : PE X b (tD c wb)) (hc : PE X b2 (tD c wc)) (hK : c.K = X.K := by rfl)
    (hm : lastMarks [op, op'] [b, b2] = false := by with_unfolding_all rfl) : PE X (.Compare a [op, op'] [b, b2] pos) (tD c (wChain f f' wa wb wc)) := PE.imp (pe_chain ho ho' ha hb hc hm) (chain_imp hK)
theorem dt_chain {op op' : CmpOp} {f f' : D → D → Option D} {b2 : Expr} {wa wb wc : DW} (ho : OpR X (compareOp op) (rB X.K f)) (ho' : OpR X (compareOp op') (rB X.K f')) (ha : PE X a (tD c wa)) (hb : PE X b (tD c wb)) (hc : PE X b2 (tD c wc)) (hK : c.K = X.K := by rfl)
    (hm : lastMarks [op, op'] [b, b2] = false := by with_unfolding_all rfl) : PT X (.Compare a [op, op'] [b, b2] pos) (tT c (wTst (wChain f f' wa wb wc))) := PT.imp (pt_chain ho ho' ha hb hc hm) (tst_imp (chain_imp hK))
/-- an expression that gives a bool, as a test (no comparison, not, and, or) -/
theorem dt_val {w : DW} (h : PE X e (tD c w)) (he : ∀ whole, isTrue e X.env whole = (do let v ← whole; standAt e.pos; holding [v] (truthy v)) := by intro _; rfl) : PT X e (tT c (wTst w)) :=
  PT.imp (pt_val h he) (tst_imp (t := tD c w) fun _ _ _ q => q)
/-- by truth -/
def truD : D → Option Bool
  | .none => some false
  | .bool b => some b
  | .int i => some (i != 0)
  | .str x => if x.length ≤ sizeLine then some ((x.length : Int) != 0) else none
  | .list xs => some (!xs.isEmpty)
  | .tuple xs => some (!xs.isEmpty)
  | .dict _ => none
theorem isE {K : PySem.W.Frag} {H : Hp} {vs : List V} {ds : List D} (h : IsAll K H vs ds) : vs.isEmpty = ds.isEmpty := by cases h <;> rfl
theorem tru_of {K : PySem.W.Frag} {H : Hp} {v : V} {d : D} {k : Bool} (h : Is K H v d) (e : truD d = some k) : TruV K v H k := by
  cases h with
  | non => exact (Option.some.inj e).symm
  | bl b => exact (Option.some.inj e).symm
  | int i => exact (Option.some.inj e).symm
  | str x =>
    have e : (if x.length ≤ sizeLine then some ((x.length : Int) != 0) else none) = some k := e
    split at e
    · rename_i hz
      exact ⟨hz, (Option.some.inj e).symm⟩
    · cases e
  | lst h1 h2 => exact .inl ⟨_, .inl (.inr ⟨_, h1⟩), by rw [isE h2]; exact (Option.some.inj e).symm⟩
  | tup h1 h2 => exact .inr (.inl ⟨_, h1.sqT, by rw [isE h2]; exact (Option.some.inj e).symm⟩)
  | dct h1 h2 => cases e
def wTru (w : DW) : BW := fun ρ Q => w ρ fun d ρ' => ∃ k, truD d = some k ∧ Q k ρ'
end
end DL
namespace DL
open PySem PySem.Spec PyProof.Rows L2
section
variable {X : Cx} {c : Ctx} {e a b : Expr} {es : List Expr} {pos : Pos}
theorem upd_same' {H : Hp} {p : Addr} {o : HO} (h : H p = none) : Same H (upd H p o) := fun b x e => by
  rw [upd_ne (ne_of_none e h)]
  exact e
theorem dt_tru {w : DW} (h : PE X e (tD c w)) (he : ∀ whole, isTrue e X.env whole = (do let v ← whole; standAt e.pos; holding [v] (truthy v)) := by intro _; rfl) (hK : c.K = X.K := by rfl) : PT X e (tT c (wTru w)) := by
  refine PT.imp (pt_truth h he) ?_
  rintro σ H Q ⟨ρ, Q0, E, hw, k⟩
  refine ⟨ρ, _, E, hw, fun d ρ' v H' q g E1 i1 => ?_⟩
  obtain ⟨b, hb, q⟩ := q
  exact ⟨b, by rw [← hK]; exact tru_of i1 hb, k b ρ' H' q g E1⟩
/-! ### and, or, not, if -/
def wAnd (t u : BW) : BW := fun ρ Q => t ρ fun k ρ1 => if k = true then u ρ1 Q else Q false ρ1
def wOr (t u : BW) : BW := fun ρ Q => t ρ fun k ρ1 => if k = true then Q true ρ1 else u ρ1 Q
def wNot (t : BW) : BW := fun ρ Q => t ρ fun k ρ1 => Q (!k) ρ1
def wIf (t : BW) (wa wb : DW) : DW := fun ρ Q => t ρ fun k ρ1 => if k = true then wa ρ1 Q else wb ρ1 Q
def wAndV (wa wb : DW) : DW := fun ρ Q => wa ρ fun d ρ1 => ∃ k, d = .bool k ∧ if k = true then wb ρ1 Q else Q (.bool false) ρ1
def wOrV (wa wb : DW) : DW := fun ρ Q => wa ρ fun d ρ1 => ∃ k, d = .bool k ∧ if k = true then Q (.bool true) ρ1 else wb ρ1 Q
def wNotV (wa : DW) : DW := fun ρ Q => wa ρ fun d ρ1 => ∃ k, d = .bool k ∧ Q (.bool (!k)) ρ1
theorem PW.imp {t t' : TT} (h : PW X e t) (i : ∀ σ H Q, t' σ H Q → t σ H Q) : PW X e t' := ⟨fun wh pins s σ H Q I q => h.run wh pins s σ H Q I (i σ H Q q)⟩
variable {t u : BW} {wa wb : DW} {rest : List Expr}
theorem dw_and1 (ha : PT X a (tT c t)) : PW X (.BoolOp .And [a] pos) (tT c t) := pw_and1 ha
theorem dw_or1 (ha : PT X a (tT c t)) : PW X (.BoolOp .Or [a] pos) (tT c t) := pw_or1 ha
theorem dw_and (ha : PT X a (tT c t)) (hb : PW X (.BoolOp .And (b :: rest) pos) (tT c u)) : PW X (.BoolOp .And (a :: b :: rest) pos) (tT c (wAnd t u)) := by
  refine PW.imp (pw_and ha hb) ?_
  rintro σ H Q ⟨ρ, Q0, E, hw, k⟩
  refine ⟨ρ, _, E, hw, fun b ρ' H' q g E1 => ?_⟩
  cases b with
  | false => exact k false ρ' H' q g E1
  | true => exact ⟨ρ', Q0, E1, q, fun b2 ρ2 H2 q2 g2 E2 => k b2 ρ2 H2 q2 (g.trans g2) E2⟩
theorem dw_or (ha : PT X a (tT c t)) (hb : PW X (.BoolOp .Or (b :: rest) pos) (tT c u)) : PW X (.BoolOp .Or (a :: b :: rest) pos) (tT c (wOr t u)) := by
  refine PW.imp (pw_or ha hb) ?_
  rintro σ H Q ⟨ρ, Q0, E, hw, k⟩
  refine ⟨ρ, _, E, hw, fun b ρ' H' q g E1 => ?_⟩
  cases b with
  | true => exact k true ρ' H' q g E1
  | false => exact ⟨ρ', Q0, E1, q, fun b2 ρ2 H2 q2 g2 E2 => k b2 ρ2 H2 q2 (g.trans g2) E2⟩
theorem dt_bool {op} (h : PW X (.BoolOp op es pos) (tT c t)) : PT X (.BoolOp op es pos) (tT c t) := h.pt
theorem dt_not (ha : PT X a (tT c t)) : PT X (.UnaryOp .Not a pos) (tT c (wNot t)) := by
  refine PT.imp (pt_not ha) ?_
  rintro σ H Q ⟨ρ, Q0, E, hw, k⟩
  exact ⟨ρ, _, E, hw, fun b ρ' H' q g E1 => k (!b) ρ' H' q g E1⟩
theorem de_one {op} {w : DW} (h : PE X a (tD c w)) : PE X (.BoolOp op [a] pos) (tD c w) := pe_one h
theorem de_and (ha : PE X a (tD c wa)) (hb : PE X (.BoolOp .And (b :: rest) pos) (tD c wb)) : PE X (.BoolOp .And (a :: b :: rest) pos) (tD c (wAndV wa wb)) := by
  refine PE.imp (pe_and ha hb) ?_
  rintro σ H Q ⟨ρ, Q0, E, hw, k⟩
  refine ⟨ρ, _, E, hw, fun d ρ' v H' q g E1 i1 => ?_⟩
  obtain ⟨b, rfl, q⟩ := q
  cases i1
  refine ⟨b, rfl, ?_⟩
  cases b with
  | false => exact k _ ρ' _ H' q g E1 (.bl false)
  | true => exact ⟨ρ', Q0, E1, q, fun d2 ρ2 v2 H2 q2 g2 E2 i2 => k d2 ρ2 v2 H2 q2 (g.trans g2) E2 i2⟩
theorem de_or (ha : PE X a (tD c wa)) (hb : PE X (.BoolOp .Or (b :: rest) pos) (tD c wb)) : PE X (.BoolOp .Or (a :: b :: rest) pos) (tD c (wOrV wa wb)) := by
  refine PE.imp (pe_or ha hb) ?_
  rintro σ H Q ⟨ρ, Q0, E, hw, k⟩
  refine ⟨ρ, _, E, hw, fun d ρ' v H' q g E1 i1 => ?_⟩
  obtain ⟨b, rfl, q⟩ := q
  cases i1
  refine ⟨b, rfl, ?_⟩
  cases b with
  | true => exact k _ ρ' _ H' q g E1 (.bl true)
  | false => exact ⟨ρ', Q0, E1, q, fun d2 ρ2 v2 H2 q2 g2 E2 i2 => k d2 ρ2 v2 H2 q2 (g.trans g2) E2 i2⟩
theorem de_not (ha : PE X a (tD c wa)) : PE X (.UnaryOp .Not a pos) (tD c (wNotV wa)) := by
  refine PE.imp (pe_not ha) ?_
  rintro σ H Q ⟨ρ, Q0, E, hw, k⟩
  refine ⟨ρ, _, E, hw, fun d ρ' v H' q g E1 i1 => ?_⟩
  obtain ⟨b, rfl, q⟩ := q
  cases i1
  exact ⟨b, rfl, k _ ρ' _ H' q g E1 (.bl _)⟩
theorem de_if {cd : Expr} (hc : PT X cd (tT c t)) (ha : PE X a (tD c wa)) (hb : PE X b (tD c wb)) : PE X (.IfExp cd a b pos) (tD c (wIf t wa wb)) := by
  refine PE.imp (pe_ifExp hc ha hb) ?_
  rintro σ H Q ⟨ρ, Q0, E, hw, k⟩
  refine ⟨ρ, _, E, hw, fun b ρ' H' q g E1 => ?_⟩
  cases b with
  | true => exact ⟨ρ', Q0, E1, q, fun d2 ρ2 v2 H2 q2 g2 E2 i2 => k d2 ρ2 v2 H2 q2 (g.trans g2) E2 i2⟩
  | false => exact ⟨ρ', Q0, E1, q, fun d2 ρ2 v2 H2 q2 g2 E2 i2 => k d2 ρ2 v2 H2 q2 (g.trans g2) E2 i2⟩

/-! ### arguments, displays -/
def wNil : LW := fun ρ Q => Q [] ρ
def wCons (wa : DW) (wr : LW) : LW := fun ρ Q => wa ρ fun d ρ1 => wr ρ1 fun ds ρ2 => Q (d :: ds) ρ2
theorem da_nil : PA X [] (tA c wNil) := PA.imp pa_nil fun σ H Q ⟨ρ, Q0, E, hw, k⟩ => k [] ρ [] H hw (Gr.refl H) E .nil
theorem da_cons {wr : LW} (ha : PE X e (tD c wa)) (hr : PA X es (tA c wr)) (hs : starEach (e :: es) X.env = (false, eval e X.env) :: starEach es X.env := by rfl) : PA X (e :: es) (tA c (wCons wa wr)) := by
  refine PA.imp (pa_cons ha hr hs) ?_
  rintro σ H Q ⟨ρ, Q0, E, hw, k⟩
  refine ⟨ρ, _, E, hw, fun d ρ' v H' q g E1 i1 => ?_⟩
  exact ⟨ρ', _, E1, q, fun ds ρ2 vs H2 q2 g2 E2 i2 => k _ ρ2 _ H2 q2 (g.trans g2) E2 (.cons (Is.mono g2.fx d v i1) i2)⟩
def wTup (wr : LW) : DW := fun ρ Q => wr ρ fun ds ρ1 => ds.length ≤ sizeLine ∧ Q (.tuple ds) ρ1
def wLst (wr : LW) : LW := fun ρ Q => wr ρ fun ds ρ1 => ds.length ≤ sizeLine ∧ Q ds ρ1
theorem de_tup {x1} {wr : LW} (h : PA X es (tA c wr)) : PE X (.Tuple es x1 pos) (tD c (wTup wr)) := by
  refine PE.imp (pe_tupZ h) ?_
  rintro σ H Q ⟨ρ, Q0, E, hw, k⟩
  refine ⟨ρ, _, E, hw, fun ds ρ' vs H' q g E1 i1 => ?_⟩
  refine ⟨by rw [i1.length]; exact q.1, fun p o hp hd => ?_⟩
  have sm := upd_same' (o := .frz o (.tup vs)) hp
  exact k _ ρ' _ _ q.2 (g.trans (Gr.same sm)) (E1.same sm) (.tup (.inl ⟨o, hd, upd_same⟩) (IsAll.mono (Same.fx sm) ds vs i1))
theorem de_lst {wr : LW} (h : PA X es (tA c wr)) : PE X (.List es pos) (tF c (wLst wr)) := by
  refine PE.imp (pe_lst h) ?_
  rintro σ H Q ⟨ρ, Q0, E, hw, k⟩
  refine ⟨ρ, _, E, hw, fun ds ρ' vs H' q g E1 i1 => ?_⟩
  refine ⟨by rw [i1.length]; exact q.1, fun p hp => ?_⟩
  have sm := upd_same' (o := .lst vs) hp
  exact k _ ρ' p vs _ q.2 (g.trans (Gr.same sm)) (E1.same sm) (g.free E1 hp) upd_same (IsAll.mono (Same.fx sm) ds vs i1)

/-! ### subscripts -/
def keyOfD : D → Option Key
  | .int i => some (.inl i)
  | .str s => some (.inr s)
  | _ => none
theorem keyOf_keyD (k : Key) : keyOfD (keyD k) = some k := by cases k <;> rfl
def lookD (es : List (D × D)) (k : Key) : Option D := (es.find? fun p => decide (keyOfD p.1 = some k)).map (·.2)
theorem IsKv.look {K : PySem.W.Frag} {H : Hp} {k : Key} : ∀ {kvs : List (Key × V)} {es : List (D × D)} {d : D}, IsKv K H kvs es → lookD es k = some d → ∃ v, valV kvs k = some v ∧ Is K H v d
  | _, _, _, .nil, e => by cases e
  | _, _, d, @IsKv.cons _ _ k' v vs d' ds h t, e => by
    unfold lookD at e
    unfold valV
    by_cases q : k' = k
    · subst q
      simp only [List.find?_cons, keyOf_keyD, decide_true, Option.map_some] at e
      cases e
      exact ⟨v, by simp, h⟩
    · have q' : ¬ (some k' = some k) := fun z => q (Option.some.inj z)
      simp only [List.find?_cons, keyOf_keyD, q', decide_false] at e
      obtain ⟨v', e1, e2⟩ := IsKv.look t e
      exact ⟨v', by simp only [List.find?_cons, q, decide_false]; exact e1, e2⟩
theorem IsKv.lookN {K : PySem.W.Frag} {H : Hp} {k : Key} : ∀ {kvs : List (Key × V)} {es : List (D × D)}, IsKv K H kvs es → lookD es k = none → valV kvs k = none
  | _, _, .nil, e => rfl
  | _, _, @IsKv.cons _ _ k' v vs d' ds h t, e => by
    unfold lookD at e
    unfold valV
    by_cases q : k' = k
    · subst q
      simp [keyOf_keyD] at e
    · have q' : ¬ (some k' = some k) := fun z => q (Option.some.inj z)
      simp only [List.find?_cons, keyOf_keyD, q', decide_false] at e
      have := IsKv.lookN t e
      simp only [List.find?_cons, q, decide_false]
      exact this
def ixD : D → D → Option D
  | .list ds, .int i => atI ds i
  | .tuple ds, .int i => atI ds i
  | .str z, .int i => if z.length ≤ sizeLine then (atI z.cps.toList i).map fun c => .str ⟨#[c]⟩ else none
  | .dict es, .int i => lookD es (.inl i)
  | .dict es, .str s => lookD es (.inr s)
  | _, _ => none
theorem IsAll.atI {K : PySem.W.Frag} {H : Hp} {vs : List V} {ds : List D} {i : Int} {d : D} (h : IsAll K H vs ds) (e : L2.atI ds i = some d) : ∃ v, L2.atI vs i = some v ∧ Is K H v d := by
  unfold L2.atI at e ⊢
  rw [h.length]
  cases q : ixN ds.length i with
  | none => rw [q] at e; cases e
  | some j =>
    rw [q] at e
    exact h.get e
theorem tail_dict {prog : Program} {w : World} {A : Around} {E : Value → Shared → Prop} {s : Shared} {value slice : Expr} {T id : String} {o i : Value} {Q : Value → Shared → Prop}
    (hl : typeLookup (.type T) "__getitem__" = pure (some (.builtin id))) (hs : subscripted slice false o i = operate [o, i] (getItem o i)) (hT : s.TypeIs o T) (h : wpAny (model prog w) A (getItem o i) Q E s) :
    wpAny (model prog w) A (subscriptTail value slice o i) Q E s := by
  unfold subscriptTail
  refine wpAny_bind ?_
  rw [getitemInPython_of_ne hT.not_modules]
  refine wpAny_bind (wpAny_specialOf hT hl ?_)
  have fin : wpAny (model prog w) A (subscripted slice false o i) (fun r s₃ => wpAny (model prog w) A (letTemporaryGo value o r >>= fun _ => pure r) Q E s₃) E s := by
    rw [hs]
    exact wpAny_operating (wpAny_mono h (fun r s₃ h₃ => wpAny_bind (wpAny_letTemporaryGo (wpAny_pure h₃))) fun _ _ x => x)
  first
    | exact wpAny_pure (wpAny_bind fin)
    | exact wpAny_bind (wpAny_pure (wpAny_bind fin))
    | exact wpAny_bind fin
theorem ix_dict (hu : X.A.units + 1 < cLine) : IxR X (fun x y H Q => ∃ a v, x = .ref a ∧ DGet H a y (some v) ∧ Q v H) := by
  intro value slice pins s σ H x y v u Q I rx ry h hs
  obtain ⟨a, z, rfl, g, q⟩ := h
  cases rx
  exact tail_dict PySem.F.slot_dict_getitem.lookup hs (dict_typeIs I g) (d_getItem hu I g ry fun w' s3 I3 rw' => ⟨z, H, I3, rw', q⟩)
theorem ix_D (hu : X.A.units + 1 < cLine) : IxR X (rB X.K ixD) := by
  intro value slice pins s σ H x y v u Q I rx ry h hs
  obtain ⟨d, e, r, hd, he, hr, q⟩ := h
  have fin : ∀ {z : V}, Is X.K H z r → Q z H := fun iz => q _ H (Same.refl H) iz
  cases hd with
  | non => cases he <;> exact nomatch hr
  | bl _ => cases he <;> exact nomatch hr
  | int _ => cases he <;> exact nomatch hr
  | str z =>
    cases he with
    | int i =>
      have hr : (if z.length ≤ sizeLine then (atI z.cps.toList i).map (fun c => PyData.str ⟨#[c]⟩) else none) = some r := hr
      split at hr
      · rename_i hz
        cases hc : atI z.cps.toList i with
        | none => rw [hc] at hr; cases hr
        | some cc =>
          rw [hc] at hr
          cases hr
          exact ix_str value slice pins s σ H _ _ v u Q I rx ry ⟨z, i, cc, rfl, rfl, hz, hc, fin (.str _)⟩ hs
      · cases hr
    | _ => exact nomatch hr
  | lst h1 h2 =>
    cases he with
    | int i =>
      obtain ⟨z, hz, iz⟩ := h2.atI hr
      exact ix_list value slice pins s σ H _ _ v u Q I rx ry ⟨_, _, i, z, rfl, rfl, .inl (.inr ⟨_, h1⟩), hz, fin iz⟩ hs
    | _ => exact nomatch hr
  | tup h1 h2 =>
    cases he with
    | int i =>
      obtain ⟨z, hz, iz⟩ := h2.atI hr
      exact ix_tup value slice pins s σ H _ _ v u Q I rx ry ⟨_, _, i, z, rfl, rfl, h1.sqT, hz, fin iz⟩ hs
    | _ => exact nomatch hr
  | dct h1 h2 =>
    cases he with
    | int i =>
      obtain ⟨z, hz, iz⟩ := h2.look (k := .inl i) hr
      exact ix_dict hu value slice pins s σ H _ _ v u Q I rx ry ⟨_, z, rfl, .inl ⟨_, .inl i, .inr ⟨_, h1⟩, rfl, hz.symm⟩, fin iz⟩ hs
    | str i =>
      obtain ⟨z, hz, iz⟩ := h2.look (k := .inr i) hr
      exact ix_dict hu value slice pins s σ H _ _ v u Q I rx ry ⟨_, z, rfl, .inl ⟨_, .inr i, .inr ⟨_, h1⟩, rfl, hz.symm⟩, fin iz⟩ hs
    | _ => exact nomatch hr
theorem de_ix (hu : X.A.units + 1 < cLine) (ha : PE X a (tD c wa)) (hb : PE X b (tD c wb)) (hs : PlainIx b := by exact fun _ _ => rfl) (hK : c.K = X.K := by rfl) : PE X (.Subscript a b pos) (tD c (wBin ixD wa wb)) :=
  PE.imp (pe_ix (ix_D hu) ha hb hs) (bin_imp hK)
/-- the slot holds something -/
def Has (ρ : List Sl) (i : Nat) : Prop := (∃ d, ρ[i]? = some (.dat d)) ∨ ∃ ds, ρ[i]? = some (.own ds)
theorem En.has {H : Hp} {σ : Sg} {ρ : List Sl} {i : Nat} (E : En c H σ ρ) (h : Has ρ i) : ∃ v, σ[i]? = some (some v) := by
  rcases h with ⟨d, h⟩ | ⟨ds, h⟩
  · obtain ⟨x, hx, v, rfl, _⟩ := E.at h
    exact ⟨v, hx⟩
  · obtain ⟨x, hx, a, _, rfl, _⟩ := E.at h
    exact ⟨_, hx⟩
/-- an item of what a name holds, its own list too -/
def wIxN (i : Nat) (wb : DW) : DW := fun ρ Q => Has ρ i ∧ wb ρ fun e ρ1 => (∃ d r, ρ1[i]? = some (.dat d) ∧ ixD d e = some r ∧ Q r ρ1) ∨ ∃ ds r, ρ1[i]? = some (.own ds) ∧ ixD (.list ds) e = some r ∧ Q r ρ1
theorem de_ixN (hu : X.A.units + 1 < cLine) (i : Nat) {x : Str} {p2 : Pos} (hb : PE X b (tD c wb)) (hN : X.N[i]? = some x := by rfl) (hv : Vis X.env.scope x := by first | exact Or.inl rfl | exact Or.inr (Or.inl rfl) | exact Or.inr (Or.inr rfl)) (hd : (x == ("__debug__" : Str)) = false := by decide)
    (hcd : (x == ("__classdict__" : Str)) = false := by decide) (hs : PlainIx b := by exact fun _ _ => rfl) (hK : c.K = X.K := by rfl) : PE X (.Subscript (.Name x p2) b pos) (tD c (wIxN i wb)) := by
  refine PE.imp (pe_ix ((ix_D hu).or ix_list) (pe_var hN hv hd hcd) hb hs) ?_
  rintro σ H Q ⟨ρ, Q0, E, ⟨hh, hw⟩, k⟩
  obtain ⟨v, hv⟩ := E.has hh
  refine ⟨v, hv, ρ, _, E, hw, fun e ρ1 u H1 q g E1 i1 => ?_⟩
  rcases q with ⟨d, r, h1, h2, q⟩ | ⟨ds, r, h1, h2, q⟩
  · obtain ⟨x, ex, v', e1, iv⟩ := E1.at h1
    rw [hv] at ex
    cases ex
    cases e1
    exact .inl ⟨d, e, r, by rw [← hK]; exact iv, by rw [← hK]; exact i1, h2, fun z H3 sm iz => k r ρ1 z H3 q (g.trans (Gr.same sm)) (E1.same sm) (by rw [hK]; exact iz)⟩
  · obtain ⟨x, ex, a', xs, e1, ha, ix⟩ := E1.at h1
    rw [hv] at ex
    cases ex
    cases e1
    cases i1 with
    | int j =>
      obtain ⟨z, hz, iz⟩ := ix.atI h2
      exact .inr ⟨a', xs, j, z, rfl, rfl, SqL.of ha, hz, k r ρ1 z H1 q g E1 iz⟩
    | _ => exact nomatch h2

/-! ### slices of data (step one) -/
def tPartD (c : Ctx) (w : List Sl → (Option Int → List Sl → Prop) → Prop) : L2.St → Hp → (Option Int → Hp → Prop) → Prop := fun σ H Q => ∃ ρ Q0, En c H σ ρ ∧ w ρ Q0 ∧ ∀ o ρ' H', Q0 o ρ' → Gr c σ H H' → En c H' σ ρ' → Q o H'
end
end DL
namespace DL
open PySem PySem.Spec PyProof.Rows L2

section
variable {X : Cx} {c : Ctx} {e a b : Expr} {es : List Expr} {pos : Pos}
/-- a list just made, frozen on the spot -/
theorem frzEP {pins : List (Addr × Obj)} {σ : Sg} {H : Hp} {s : Shared} {Q : VK} {u : Value} {xs : List V} {ds : List D}
    (h : EP X pins σ (fun v H' => ∃ p, v = .ref p ∧ H p = none ∧ H' = upd H p (.lst xs)) u s) (ix : IsAll X.K H xs ds) (q : ∀ v H', Same H H' → Is X.K H' v (.list ds) → Q v H') : EP X pins σ Q u s := by
  obtain ⟨v, H', I', r, p, rfl, n, rfl⟩ := h
  obtain ⟨o, I2⟩ := Inv.freeze I' (a := p) upd_same trivial (fun _ _ _ z => by cases z) (fun _ z => by cases z)
  have e : upd (upd H p (.lst xs)) p (.frz o (.lst xs)) = upd H p (.frz o (.lst xs)) := upd_upd
  rw [e] at I2
  have sm := upd_same' (o := .frz o (.lst xs)) n
  exact ⟨.ref p, _, I2, r, q _ _ sm (.lst upd_same (IsAll.mono (Same.fx sm) ds xs ix))⟩

/-! ### binary operators -/
def addD : D → D → Option D
  | .int i, .int j => some (.int (i + j))
  | .str x, .str y => if x.length + y.length ≤ sizeLine then some (.str (x ++ y)) else none
  | .tuple xs, .tuple ys => if xs.length + ys.length ≤ sizeLine then some (.tuple (xs ++ ys)) else none
  | .list xs, .list ys => if xs.length + ys.length ≤ sizeLine then some (.list (xs ++ ys)) else none
  | _, _ => none
theorem exact_lst {pins : List (Addr × Obj)} {σ : Sg} {H : Hp} {s : Shared} {a : Addr} {o : Obj} {xs : List V} (I : Inv X pins σ H s) (h : H a = some (.frz o (.lst xs))) : xs.length ≤ sizeLine ∧ ∃ (its : List Value) (n : Nat), Vals xs its ∧ xs.length = its.length ∧ s.heap.get? a = some { cls := .type "list", data := .seq its.toArray n } := by
  obtain ⟨_, z, its, n, r, e⟩ := I.hok a _ h
  exact ⟨z, its, n, r, r.length, e⟩
theorem op_addD : OpR X (binaryOp .Add) (rB X.K addD) := by
  intro pins s σ H x y v u Q I rx ry h
  obtain ⟨d, e, r, hd, he, hr, q⟩ := h
  cases hd with
  | int i =>
    cases he with
    | int j =>
      cases hr
      exact op_add pins s σ H _ _ v u Q I rx ry ⟨i, j, rfl, rfl, q _ H (Same.refl H) (.int _)⟩
    | _ => exact nomatch hr
  | str x =>
    cases he with
    | str y =>
      have hr : (if x.length + y.length ≤ sizeLine then some (PyData.str (x ++ y)) else none) = some r := hr
      split at hr
      · rename_i hz
        cases hr
        exact op_add_str pins s σ H _ _ v u Q I rx ry ⟨x, y, rfl, rfl, hz, q _ H (Same.refl H) (.str _)⟩
      · cases hr
    | _ => exact nomatch hr
  | @tup a xs ds h1 h2 =>
    cases he with
    | @tup b ys es g1 g2 =>
      have hr : (if ds.length + es.length ≤ sizeLine then some (PyData.tuple (ds ++ es)) else none) = some r := hr
      split at hr
      · rename_i hz
        cases hr
        refine op_catZ pins s σ H _ _ v u Q I rx ry ⟨a, b, xs, ys, rfl, rfl, h1.sqT, g1.sqT, by rw [h2.length, g2.length]; exact hz, fun z => ?_, fun _ z => ?_, fun _ _ p o hp hd => ?_⟩
        · subst z
          cases h2
          exact q _ H (Same.refl H) (.tup g1 g2)
        · subst z
          cases g2
          rw [List.append_nil] at q
          exact q _ H (Same.refl H) (.tup h1 h2)
        · have sm := upd_same' (o := .frz o (.tup (xs ++ ys))) hp
          exact q _ _ sm (.tup (.inl ⟨o, hd, upd_same⟩) (IsAll.mono (Same.fx sm) _ _ (h2.append g2)))
      · cases hr
    | _ => exact nomatch hr
  | @lst a o xs ds h1 h2 =>
    cases he with
    | @lst b o2 ys es g1 g2 =>
      have hr : (if ds.length + es.length ≤ sizeLine then some (PyData.list (ds ++ es)) else none) = some r := hr
      split at hr
      · rename_i hz
        cases hr
        cases rx
        cases ry
        obtain ⟨z, its, n, rv, hl, e⟩ := exact_lst I h1
        obtain ⟨z2, its2, n2, rv2, hl2, e2⟩ := exact_lst I g1
        refine thn (?_ : wpAny (model X.prog X.w) X.A (binaryOp .Add (.ref a) (.ref b)) (EP X pins σ (fun v H' => ∃ p, v = .ref p ∧ H p = none ∧ H' = upd H p (.lst (xs ++ ys)))) X.xe s) fun u s1 ep => frzEP ep (h2.append g2) q
        refine PySem.P.add_list e e2 ?_ (by rw [List.size_toArray, List.size_toArray, ← hl, ← hl2, h2.length, g2.length]; omega)
        have ea : its.toArray ++ its2.toArray = (its ++ its2).toArray := by simp
        rw [ea]
        exact ⟨.ref _, _, I.lnew (t' := s.toks) (rv.append rv2) (by rw [List.length_append, h2.length, g2.length]; omega), rfl, _, rfl, I.fresh, rfl⟩
      · cases hr
    | _ => exact nomatch hr
  | _ => cases he <;> exact nomatch hr
def subD : D → D → Option D
  | .int i, .int j => some (.int (i - j))
  | _, _ => none
theorem op_subD : OpR X (binaryOp .Sub) (rB X.K subD) := by
  intro pins s σ H x y v u Q I rx ry h
  obtain ⟨d, e, r, hd, he, hr, q⟩ := h
  cases hd with
  | int i =>
    cases he with
    | int j =>
      cases hr
      exact op_sub pins s σ H _ _ v u Q I rx ry ⟨i, j, rfl, rfl, q _ H (Same.refl H) (.int _)⟩
    | _ => exact nomatch hr
  | _ => cases he <;> exact nomatch hr
def mulD : D → D → Option D
  | .int i, .int j => if i.natAbs.log2 + j.natAbs.log2 < 1000000 then some (.int (i * j)) else none
  | _, _ => none
theorem op_mulD : OpR X (binaryOp .Mult) (rB X.K mulD) := by
  intro pins s σ H x y v u Q I rx ry h
  obtain ⟨d, e, r, hd, he, hr, q⟩ := h
  cases hd with
  | int i =>
    cases he with
    | int j =>
      have hr : (if i.natAbs.log2 + j.natAbs.log2 < 1000000 then some (PyData.int (i * j)) else none) = some r := hr
      split at hr
      · rename_i hz
        cases hr
        exact op_mulW pins s σ H _ _ v u Q I rx ry ⟨i, j, rfl, rfl, hz, q _ H (Same.refl H) (.int _)⟩
      · cases hr
    | _ => exact nomatch hr
  | _ => cases he <;> exact nomatch hr
def fdivD : D → D → Option D
  | .int i, .int j => if 0 < j ∧ j.natAbs.log2 < 9000 then some (.int (i / j)) else none
  | _, _ => none
theorem op_fdivD : OpR X (binaryOp .FloorDiv) (rB X.K fdivD) := by
  intro pins s σ H x y v u Q I rx ry h
  obtain ⟨d, e, r, hd, he, hr, q⟩ := h
  cases hd with
  | int i =>
    cases he with
    | int j =>
      have hr : (if 0 < j ∧ j.natAbs.log2 < 9000 then some (PyData.int (i / j)) else none) = some r := hr
      split at hr
      · rename_i hz
        cases hr
        exact op_fdivW pins s σ H _ _ v u Q I rx ry ⟨i, j, rfl, rfl, hz, q _ H (Same.refl H) (.int _)⟩
      · cases hr
    | _ => exact nomatch hr
  | _ => cases he <;> exact nomatch hr
def modD : D → D → Option D
  | .int i, .int j => if 0 < j then some (.int (i % j)) else none
  | _, _ => none
theorem op_modD : OpR X (binaryOp .Mod) (rB X.K modD) := by
  intro pins s σ H x y v u Q I rx ry h
  obtain ⟨d, e, r, hd, he, hr, q⟩ := h
  cases hd with
  | int i =>
    cases he with
    | int j =>
      have hr : (if 0 < j then some (PyData.int (i % j)) else none) = some r := hr
      split at hr
      · rename_i hz
        cases hr
        exact op_mod pins s σ H _ _ v u Q I rx ry ⟨i, j, rfl, rfl, hz, q _ H (Same.refl H) (.int _)⟩
      · cases hr
    | _ => exact nomatch hr
  | _ => cases he <;> exact nomatch hr
def powD : D → D → Option D
  | .int i, .int j => if 0 ≤ j ∧ (Builtin.Int.intBits i : Int) * j ≤ 2 ^ 27 then some (.int (i ^ j.toNat)) else none
  | _, _ => none
theorem op_powD : OpR X (binaryOp .Pow) (rB X.K powD) := by
  intro pins s σ H x y v u Q I rx ry h
  obtain ⟨d, e, r, hd, he, hr, q⟩ := h
  cases hd with
  | int i =>
    cases he with
    | int j =>
      have hr : (if 0 ≤ j ∧ (Builtin.Int.intBits i : Int) * j ≤ 2 ^ 27 then some (PyData.int (i ^ j.toNat)) else none) = some r := hr
      split at hr
      · rename_i hz
        cases hr
        obtain ⟨t, rfl⟩ := rx
        obtain ⟨t', rfl⟩ := ry
        exact pow_int hz.1 hz.2 ⟨.int _, H, I.tok _, ⟨_, rfl⟩, q _ H (Same.refl H) (.int _)⟩
      · cases hr
    | _ => exact nomatch hr
  | _ => cases he <;> exact nomatch hr
def negD : D → Option D
  | .int i => some (.int (-i))
  | _ => none

/-! ### comparisons -/
/-- both without dicts, not too deep -/
def pl2 (d e : D) : Bool := d.plain && e.plain && decide (min d.depth e.depth ≤ 100)
def eqD (d e : D) : Option D := if pl2 d e = true then some (.bool (PyData.eqv d e)) else none
def neD (d e : D) : Option D := if pl2 d e = true then some (.bool (!PyData.eqv d e)) else none
theorem pl2_of {d e : D} (h : pl2 d e = true) : d.plain = true ∧ e.plain = true ∧ min d.depth e.depth ≤ 100 := by
  unfold pl2 at h
  simp only [Bool.and_eq_true, decide_eq_true_eq] at h
  exact ⟨h.1.1, h.1.2, h.2⟩
def rPl (K : PySem.W.Frag) (f : D → D → Option D) : R2 := fun x y H Q => ∃ d e r, Dp K H x d ∧ Dp K H y e ∧ f d e = some r ∧ ∀ v H', Same H H' → Is K H' v r → Q v H'
theorem op_eqP (hu : X.A.units + 120 < cLine) : OpR X (compareOp .Eq) (rPl X.K eqD) := by
  intro pins s σ H x y v u Q I rx ry h
  obtain ⟨d, e, r, hd, he, hr, q⟩ := h
  unfold eqD at hr
  split at hr
  · rename_i hp
    cases hr
    obtain ⟨p1, p2, p3⟩ := pl2_of hp
    obtain ⟨as, r1⟩ := Dp.reads I d x v hd rx
    obtain ⟨bs, r2⟩ := Dp.reads I e y u he ry
    exact PySem.SeqAt.eq_plain r1 r2 p1 p2 (by omega) ⟨.bl _, H, I, rfl, q _ H (Same.refl H) (.bl _)⟩
  · cases hr
theorem op_neP (hu : X.A.units + 120 < cLine) : OpR X (compareOp .NotEq) (rPl X.K neD) := by
  intro pins s σ H x y v u Q I rx ry h
  obtain ⟨d, e, r, hd, he, hr, q⟩ := h
  unfold neD at hr
  split at hr
  · rename_i hp
    cases hr
    obtain ⟨p1, p2, p3⟩ := pl2_of hp
    obtain ⟨as, r1⟩ := Dp.reads I d x v hd rx
    obtain ⟨bs, r2⟩ := Dp.reads I e y u he ry
    exact PySem.SeqAt.ne_plain r1 r2 p1 p2 (by omega) ⟨.bl _, H, I, rfl, q _ H (Same.refl H) (.bl _)⟩
  · cases hr
theorem rPl_of {K : PySem.W.Frag} {f : D → D → Option D} {x y : V} {H : Hp} {Q : VK} (hf : ∀ d e r, f d e = some r → pl2 d e = true) (h : rB K f x y H Q) : rPl K f x y H Q := by
  obtain ⟨d, e, r, hd, he, hr, q⟩ := h
  obtain ⟨p1, p2, _⟩ := pl2_of (hf d e r hr)
  exact ⟨d, e, r, Is.dp d x p1 hd, Is.dp e y p2 he, hr, q⟩
theorem eqD_pl {d e r : D} (h : eqD d e = some r) : pl2 d e = true := by
  unfold eqD at h
  split at h
  · assumption
  · cases h
theorem neD_pl {d e r : D} (h : neD d e = some r) : pl2 d e = true := by
  unfold neD at h
  split at h
  · assumption
  · cases h
theorem op_eqD' (hu : X.A.units + 120 < cLine) : OpR X (compareOp .Eq) (rB X.K eqD) := fun pins s σ H x y v u Q I rx ry h => op_eqP hu pins s σ H x y v u Q I rx ry (rPl_of (fun _ _ _ => eqD_pl) h)
theorem op_neD' (hu : X.A.units + 120 < cLine) : OpR X (compareOp .NotEq) (rB X.K neD) := fun pins s σ H x y v u Q I rx ry h => op_neP hu pins s σ H x y v u Q I rx ry (rPl_of (fun _ _ _ => neD_pl) h)
/-- order of ints, of texts -/
def ordD (p : Int → Int → Bool) (q : List Nat → List Nat → Bool) : D → D → Option D
  | .int i, .int j => some (.bool (p i j))
  | .str x, .str y => some (.bool (q x.cps.toList y.cps.toList))
  | _, _ => none
def ltD : D → D → Option D := ordD (fun i j => decide (i < j)) fun x y => decide (x < y)
def leD : D → D → Option D := ordD (fun i j => decide (i ≤ j)) fun x y => !decide (y < x)
def gtD : D → D → Option D := ordD (fun i j => decide (j < i)) fun x y => decide (y < x)
def geD : D → D → Option D := ordD (fun i j => decide (j ≤ i)) fun x y => !decide (x < y)
theorem op_ordD {op : CmpOp} {p : Int → Int → Bool} {qq : List Nat → List Nat → Bool} (h1 : OpR X (compareOp op) (rI0 fun i j => .bl (p i j)))
    (h2 : OpR X (compareOp op) (fun x y H Q => ∃ i j, x = .str i ∧ y = .str j ∧ Q (.bl (qq i.cps.toList j.cps.toList)) H)) : OpR X (compareOp op) (rB X.K (ordD p qq)) := by
  intro pins s σ H x y v u Q I rx ry h
  obtain ⟨d, e, r, hd, he, hr, q⟩ := h
  cases hd with
  | int i =>
    cases he with
    | int j => cases hr; exact h1 pins s σ H _ _ v u Q I rx ry ⟨i, j, rfl, rfl, q _ H (Same.refl H) (.bl _)⟩
    | _ => exact nomatch hr
  | str i =>
    cases he with
    | str j => cases hr; exact h2 pins s σ H _ _ v u Q I rx ry ⟨i, j, rfl, rfl, q _ H (Same.refl H) (.bl _)⟩
    | _ => exact nomatch hr
  | _ => cases he <;> exact nomatch hr
theorem op_ltD : OpR X (compareOp .Lt) (rB X.K ltD) := op_ordD op_lt op_lt_str
theorem op_leD : OpR X (compareOp .LtE) (rB X.K leD) := op_ordD op_le op_le_str
theorem op_gtD : OpR X (compareOp .Gt) (rB X.K gtD) := op_ordD op_gt op_gt_str
theorem op_geD : OpR X (compareOp .GtE) (rB X.K geD) := op_ordD op_ge op_ge_str
/-- x in c -/
def memD (d : D) : D → Option Bool
  | .list xs => if d.plain && PyData.plainAll xs && decide (min (PyData.depthAll xs) d.depth ≤ 100) then some (xs.any fun y => PyData.eqv y d) else none
  | .tuple xs => if d.plain && PyData.plainAll xs && decide (min (PyData.depthAll xs) d.depth ≤ 100) then some (xs.any fun y => PyData.eqv y d) else none
  | .dict es => (keyOfD d).map fun k => (lookD es k).isSome
  | .str z => match d with
    | .str x => some (!(Builtin.Str.occurrences z x 0 z.length 1).isEmpty)
    | _ => none
  | _ => none
def inD (d e : D) : Option D := (memD d e).map .bool
def notInD (d e : D) : Option D := (memD d e).map fun b => .bool (!b)
theorem keyD_of {d : D} {k : Key} (h : keyOfD d = some k) : d = keyD k := by
  cases d <;> first | (cases h; rfl) | exact nomatch h
theorem is_key {K : PySem.W.Frag} {H : Hp} {x : V} {k : Key} (h : Is K H x (keyD k)) : x = kV k := by
  cases k <;> (cases h; rfl)
theorem look_isSome {K : PySem.W.Frag} {H : Hp} {kvs : List (Key × V)} {es : List (D × D)} {k : Key} (h : IsKv K H kvs es) : (valV kvs k).isSome = (lookD es k).isSome := by
  cases q : lookD es k with
  | none => rw [h.lookN q]; rfl
  | some d =>
    obtain ⟨v, e, _⟩ := h.look q
    rw [e]; rfl
theorem op_inD (hu : X.A.units + 120 < cLine) : OpR X (compareOp .In) (rB X.K inD) := by
  intro pins s σ H x y v u Q I rx ry h
  obtain ⟨d, e, r, hd, he, hr, q⟩ := h
  unfold inD at hr
  cases hm : memD d e with
  | none => rw [hm] at hr; cases hr
  | some b =>
    rw [hm] at hr
    cases hr
    have fin : EP X pins σ Q (.bool b) s := ⟨.bl b, H, I, rfl, q _ H (Same.refl H) (.bl b)⟩
    cases he with
    | @lst a o xs ds h1 h2 =>
      have hm : (if d.plain && PyData.plainAll ds && decide (min (PyData.depthAll ds) d.depth ≤ 100) then some (ds.any fun y => PyData.eqv y d) else none) = some b := hm
      split at hm
      · rename_i hp
        simp only [Bool.and_eq_true, decide_eq_true_eq] at hp
        cases hm
        obtain ⟨as, r1⟩ := Dp.reads I d x v (Is.dp d x hp.1.1 hd) rx
        obtain ⟨bs, r2⟩ := Dp.reads I (.list ds) (.ref a) u (.lst (.inl (.inr ⟨_, h1⟩)) (IsAll.dp ds xs hp.1.2 h2)) ry
        exact PySem.SeqAt.in_list_data r2 r1 hp.1.2 hp.1.1 (by omega) fin
      · cases hm
    | @tup a xs ds h1 h2 =>
      have hm : (if d.plain && PyData.plainAll ds && decide (min (PyData.depthAll ds) d.depth ≤ 100) then some (ds.any fun y => PyData.eqv y d) else none) = some b := hm
      split at hm
      · rename_i hp
        simp only [Bool.and_eq_true, decide_eq_true_eq] at hp
        cases hm
        obtain ⟨as, r1⟩ := Dp.reads I d x v (Is.dp d x hp.1.1 hd) rx
        obtain ⟨bs, r2⟩ := Dp.reads I (.tuple ds) (.ref a) u (.tup h1.sqT (IsAll.dp ds xs hp.1.2 h2)) ry
        exact PySem.SeqAt.in_tuple_data r2 r1 hp.1.2 hp.1.1 (by omega) fin
      · cases hm
    | @dct a o kvs es h1 h2 =>
      cases hk : keyOfD d with
      | none =>
        have hm : (keyOfD d).map (fun k => (lookD es k).isSome) = some b := hm
        rw [hk] at hm; cases hm
      | some k =>
        have hm : (keyOfD d).map (fun k => (lookD es k).isSome) = some b := hm
        rw [hk] at hm
        cases hm
        have ek := keyD_of hk
        subst ek
        have ex := is_key hd
        subst ex
        cases ry
        refine d_in (by omega) I (.inl ⟨kvs, k, .inr ⟨_, h1⟩, rfl, rfl⟩) rx fun s3 I3 => ⟨.bl _, H, I3, rfl, ?_⟩
        rw [look_isSome h2]
        exact q _ H (Same.refl H) (.bl _)
    | str z =>
      cases hd with
      | str x =>
        cases hm
        exact op_in_str pins s σ H _ _ v u Q I rx ry ⟨x, z, rfl, rfl, q _ H (Same.refl H) (.bl _)⟩
      | _ => exact nomatch hm
    | _ => exact nomatch hm
end
end DL
namespace DL
open PySem PySem.Spec PyProof.Rows L2

section
variable {X : Cx} {c : Ctx} {e a b : Expr} {es : List Expr} {pos : Pos}
theorem op_notInD (hu : X.A.units + 120 < cLine) : OpR X (compareOp .NotIn) (rB X.K notInD) := by
  intro pins s σ H x y v u Q I rx ry h
  obtain ⟨d, e, r, hd, he, hr, q⟩ := h
  unfold notInD at hr
  cases hm : memD d e with
  | none => rw [hm] at hr; cases hr
  | some b =>
    rw [hm] at hr
    cases hr
    have fin : EP X pins σ Q (.bool (!b)) s := ⟨.bl (!b), H, I, rfl, q _ H (Same.refl H) (.bl _)⟩
    cases he with
    | @lst a o xs ds h1 h2 =>
      have hm : (if d.plain && PyData.plainAll ds && decide (min (PyData.depthAll ds) d.depth ≤ 100) then some (ds.any fun y => PyData.eqv y d) else none) = some b := hm
      split at hm
      · rename_i hp
        simp only [Bool.and_eq_true, decide_eq_true_eq] at hp
        cases hm
        obtain ⟨as, r1⟩ := Dp.reads I d x v (Is.dp d x hp.1.1 hd) rx
        obtain ⟨bs, r2⟩ := Dp.reads I (.list ds) (.ref a) u (.lst (.inl (.inr ⟨_, h1⟩)) (IsAll.dp ds xs hp.1.2 h2)) ry
        exact PySem.SeqAt.notIn_list_data r2 r1 hp.1.2 hp.1.1 (by omega) fin
      · cases hm
    | @tup a xs ds h1 h2 =>
      have hm : (if d.plain && PyData.plainAll ds && decide (min (PyData.depthAll ds) d.depth ≤ 100) then some (ds.any fun y => PyData.eqv y d) else none) = some b := hm
      split at hm
      · rename_i hp
        simp only [Bool.and_eq_true, decide_eq_true_eq] at hp
        cases hm
        obtain ⟨as, r1⟩ := Dp.reads I d x v (Is.dp d x hp.1.1 hd) rx
        obtain ⟨bs, r2⟩ := Dp.reads I (.tuple ds) (.ref a) u (.tup h1.sqT (IsAll.dp ds xs hp.1.2 h2)) ry
        exact PySem.SeqAt.notIn_tuple_data r2 r1 hp.1.2 hp.1.1 (by omega) fin
      · cases hm
    | @dct a o kvs es h1 h2 =>
      cases hk : keyOfD d with
      | none =>
        have hm : (keyOfD d).map (fun k => (lookD es k).isSome) = some b := hm
        rw [hk] at hm; cases hm
      | some k =>
        have hm : (keyOfD d).map (fun k => (lookD es k).isSome) = some b := hm
        rw [hk] at hm
        cases hm
        have ek := keyD_of hk
        subst ek
        have ex := is_key hd
        subst ex
        cases ry
        refine d_notIn (by omega) I (.inl ⟨kvs, k, .inr ⟨_, h1⟩, rfl, rfl⟩) rx fun s3 I3 => ⟨.bl _, H, I3, rfl, ?_⟩
        rw [look_isSome h2]
        exact q _ H (Same.refl H) (.bl _)
    | str z =>
      cases hd with
      | str x =>
        cases hm
        exact op_notIn_str pins s σ H _ _ v u Q I rx ry ⟨x, z, rfl, rfl, q _ H (Same.refl H) (.bl _)⟩
      | _ => exact nomatch hm
    | _ => exact nomatch hm
def rU1 (K : PySem.W.Frag) (f : D → Option D) : V → Hp → VK → Prop := fun x H Q => ∃ d r, Is K H x d ∧ f d = some r ∧ ∀ v H', Same H H' → Is K H' v r → Q v H'
def wUn (f : D → Option D) (wa : DW) : DW := fun ρ Q => wa ρ fun d ρ1 => ∃ r, f d = some r ∧ Q r ρ1
theorem de_un {op : UnaryOp} {f : D → Option D} {wa : DW} (ho : UnR X (unaryOp op) (rU1 X.K f)) (ha : PE X a (tD c wa)) (hK : c.K = X.K := by rfl) : PE X (.UnaryOp op a pos) (tD c (wUn f wa)) := by
  refine PE.imp (pe_un ho ha) ?_
  rintro σ H Q ⟨ρ, Q0, E, hw, k⟩
  refine ⟨ρ, _, E, hw, fun d ρ' v H' q g E1 i1 => ?_⟩
  obtain ⟨r, hf, q⟩ := q
  exact ⟨d, r, by rw [← hK]; exact i1, hf, fun z H3 sm iz => k r ρ' z H3 q (g.trans (Gr.same sm)) (E1.same sm) (by rw [hK]; exact iz)⟩
theorem un_negD : UnR X (unaryOp .USub) (rU1 X.K negD) := by
  intro pins s σ H x v Q I rx h
  obtain ⟨d, r, hd, hr, q⟩ := h
  cases hd with
  | int i => cases hr; exact un_neg pins s σ H _ v Q I rx ⟨i, rfl, q _ H (Same.refl H) (.int _)⟩
  | _ => exact nomatch hr

/-! ### built-in functions of data -/
def rCl (K : PySem.W.Frag) (f : List D → Option D) : List V → Hp → VK → Prop := fun vs H Q => ∃ ds r, IsAll K H vs ds ∧ f ds = some r ∧ ∀ v H', Same H H' → Is K H' v r → Q v H'
def wCl (f : List D → Option D) (wa : LW) : DW := fun ρ Q => wa ρ fun ds ρ1 => ∃ r, f ds = some r ∧ Q r ρ1
theorem cl_imp {f : List D → Option D} {wa : LW} {K : PySem.W.Frag} (hK : c.K = K) : ∀ σ H Q, tD c (wCl f wa) σ H Q → tCB (rCl K f) (tA c wa) σ H Q := by
  subst hK
  rintro σ H Q ⟨ρ, Q0, E, hw, k⟩
  refine ⟨ρ, _, E, hw, fun ds ρ' vs H' q g E1 i1 => ?_⟩
  obtain ⟨r, hf, q⟩ := q
  exact ⟨ds, r, i1, hf, fun z H3 sm iz => k r ρ' z H3 q (g.trans (Gr.same sm)) (E1.same sm) iz⟩
theorem de_clB {x : Str} {p : Pos} {id : String} {f : List D → Option D} {wa : LW} (hc : CallR X (.builtin id) (rCl X.K f)) (hg : Gl X x) (hm : X.mg x = none) (hv : bootBuiltins x = some (.builtin id)) (ha : PA X (e :: es) (tA c wa)) (hK : c.K = X.K := by rfl) (hn : x ≠ "__name__" := by decide) (hdb : (x == ("__debug__" : Str)) = false := by decide)
    (he : starEach (e :: es) X.env = (false, eval e X.env) :: starEach es X.env := by rfl) (hpl : (backTo pos (starEach es X.env)).any (·.1) = false := by rfl) : PE X (.Call (.Name x p) (e :: es) [] pos) (tD c (wCl f wa)) :=
  PE.imp (pe_callB hc hg hm hv ha hn hdb he hpl) (cl_imp hK)
theorem de_clT {x : Str} {p : Pos} {T : String} {f : List D → Option D} {wa : LW} (hc : CallR X (.type T) (rCl X.K f)) (hg : Gl X x) (hm : X.mg x = none) (hv : bootBuiltins x = some (.type T)) (ha : PA X (e :: es) (tA c wa)) (hK : c.K = X.K := by rfl) (hn : x ≠ "__name__" := by decide) (hdb : (x == ("__debug__" : Str)) = false := by decide)
    (he : starEach (e :: es) X.env = (false, eval e X.env) :: starEach es X.env := by rfl) (hpl : (backTo pos (starEach es X.env)).any (·.1) = false := by rfl) : PE X (.Call (.Name x p) (e :: es) [] pos) (tD c (wCl f wa)) :=
  PE.imp (pe_callTy hc hg hm hv ha hn hdb he hpl) (cl_imp hK)
def lenD : D → Option Int
  | .list xs => some xs.length
  | .tuple xs => some xs.length
  | .str x => if x.length ≤ sizeLine then some x.length else none
  | _ => none
def lenL : List D → Option D
  | [d] => (lenD d).map .int
  | _ => none
theorem cr_len : CallR X (.builtin "len") (rCl X.K lenL) := by
  intro pins s σ H xs us Q I r h
  obtain ⟨ds, r', hd, hr, q⟩ := h
  cases hd with
  | nil => exact nomatch hr
  | cons h1 h2 =>
    cases h2 with
    | cons _ _ => exact nomatch hr
    | nil =>
      cases h1 with
      | @lst a o xs ds g1 g2 =>
        cases hr
        exact call_len_seq pins s σ H _ us Q I r ⟨a, xs, rfl, .inl (.inl (.inr ⟨_, g1⟩)), by rw [g2.length]; exact q _ H (Same.refl H) (.int _)⟩
      | @tup a xs ds g1 g2 =>
        cases hr
        exact call_len_seq pins s σ H _ us Q I r ⟨a, xs, rfl, .inr g1.sqT, by rw [g2.length]; exact q _ H (Same.refl H) (.int _)⟩
      | str x =>
        have hr : ((if x.length ≤ sizeLine then some (x.length : Int) else none).map PyData.int) = some r' := hr
        split at hr
        · rename_i hz
          cases hr
          exact call_len_str pins s σ H _ us Q I r ⟨x, rfl, hz, q _ H (Same.refl H) (.int _)⟩
        · cases hr
      | _ => exact nomatch hr
/-- len of what a name holds -/
def wLenN (i : Nat) : DW := fun ρ Q => (∃ d n, ρ[i]? = some (.dat d) ∧ lenD d = some n ∧ Q (.int n) ρ) ∨ ∃ ds : List D, ρ[i]? = some (.own ds) ∧ Q (.int ds.length) ρ
theorem de_lenN (i : Nat) {x : Str} {p p2 : Pos} (hg : Gl X "len") (hm : X.mg "len" = none) (hN : X.N[i]? = some x := by rfl) (hv : Vis X.env.scope x := by first | exact Or.inl rfl | exact Or.inr (Or.inl rfl) | exact Or.inr (Or.inr rfl)) (hd : (x == ("__debug__" : Str)) = false := by decide)
    (hcd : (x == ("__classdict__" : Str)) = false := by decide) (hK : c.K = X.K := by rfl)
    (he : starEach [.Name x p2] X.env = (false, eval (.Name x p2) X.env) :: starEach [] X.env := by rfl) (hpl : (backTo pos (starEach [] X.env)).any (·.1) = false := by rfl) : PE X (.Call (.Name "len" p) [.Name x p2] [] pos) (tD c (wLenN i)) := by
  refine PE.imp (pe_callB (cr_len.or call_len_seq) hg hm PySem.boot_len (pa_cons (pe_var hN hv hd hcd) pa_nil he) (by decide) (by decide) he hpl) ?_
  rintro σ H Q ⟨ρ, Q0, E, hw, k⟩
  rcases hw with ⟨d, n, h1, h2, q⟩ | ⟨ds, h1, q⟩
  · obtain ⟨x, hx, v, rfl, iv⟩ := E.at h1
    refine ⟨v, hx, .inl ⟨[d], .int n, IsAll.one (by rw [← hK]; exact iv), by show (lenD d).map PyData.int = _; rw [h2]; rfl, fun z H3 sm iz => k _ ρ z H3 q (Gr.same sm) (E.same sm) (by rw [hK]; exact iz)⟩⟩
  · obtain ⟨x, hx, a, xs, rfl, ha, ix⟩ := E.at h1
    refine ⟨_, hx, .inr ⟨a, xs, rfl, .inl (SqL.of ha), ?_⟩⟩
    rw [ix.length]
    exact k _ ρ _ H q (Gr.refl H) E (.int _)
def absL : List D → Option D
  | [.int i] => some (.int (if i < 0 then -i else i))
  | _ => none
theorem cr_abs : CallR X (.builtin "abs") (rCl X.K absL) := by
  intro pins s σ H xs us Q I r h
  obtain ⟨ds, r', hd, hr, q⟩ := h
  cases hd with
  | nil => exact nomatch hr
  | cons h1 h2 =>
    cases h2 with
    | cons _ _ => cases h1 <;> exact nomatch hr
    | nil =>
      cases h1 with
      | int i => cases hr; exact call_abs pins s σ H _ us Q I r ⟨i, rfl, q _ H (Same.refl H) (.int _)⟩
      | _ => exact nomatch hr
def intL : List D → Option D
  | [.int i] => some (.int i)
  | [.bool k] => some (.int (if k then 1 else 0))
  | _ => none
theorem cr_int : CallR X (.type "int") (rCl X.K intL) := by
  intro pins s σ H xs us Q I r h
  obtain ⟨ds, r', hd, hr, q⟩ := h
  cases hd with
  | nil => exact nomatch hr
  | cons h1 h2 =>
    cases h2 with
    | cons _ _ => cases h1 <;> exact nomatch hr
    | nil =>
      cases h1 with
      | int i => cases hr; exact call_int1 pins s σ H _ us Q I r (.inl ⟨i, rfl, q _ H (Same.refl H) (.int _)⟩)
      | bl i => cases hr; exact call_int1 pins s σ H _ us Q I r (.inr ⟨i, rfl, q _ H (Same.refl H) (.int _)⟩)
      | _ => exact nomatch hr
def maxL : List D → Option D
  | [.int i, .int j] => some (.int (if j > i then j else i))
  | _ => none
def minL : List D → Option D
  | [.int i, .int j] => some (.int (if j < i then j else i))
  | _ => none
theorem two_ints {K : PySem.W.Frag} {H : Hp} {f : List D → Option D} {xs : List V} {ds : List D} {r : D} {g : Int → Int → D} (hf : ∀ ds r, f ds = some r → ∃ i j, ds = [.int i, .int j] ∧ r = g i j) (h : IsAll K H xs ds) (hr : f ds = some r) : ∃ i j, xs = [.int i, .int j] ∧ r = g i j := by
  obtain ⟨i, j, rfl, rfl⟩ := hf ds r hr
  cases h with
  | cons h1 h2 =>
    cases h2 with
    | cons h3 h4 =>
      cases h4
      cases h1
      cases h3
      exact ⟨i, j, rfl, rfl⟩
theorem cr_max2 (hc : X.calm = true) : CallR X (.builtin "max") (rCl X.K maxL) := by
  intro pins s σ H xs us Q I r h
  obtain ⟨ds, r', hd, hr, q⟩ := h
  obtain ⟨i, j, rfl, rfl⟩ := two_ints (g := fun i j => .int (if j > i then j else i)) (fun ds r h => by
    unfold maxL at h
    split at h
    · exact ⟨_, _, rfl, (Option.some.inj h).symm⟩
    · cases h) hd hr
  exact call_max2 hc pins s σ H _ us Q I r ⟨i, j, rfl, q _ H (Same.refl H) (.int _)⟩
theorem cr_min2 (hc : X.calm = true) : CallR X (.builtin "min") (rCl X.K minL) := by
  intro pins s σ H xs us Q I r h
  obtain ⟨ds, r', hd, hr, q⟩ := h
  obtain ⟨i, j, rfl, rfl⟩ := two_ints (g := fun i j => .int (if j < i then j else i)) (fun ds r h => by
    unfold minL at h
    split at h
    · exact ⟨_, _, rfl, (Option.some.inj h).symm⟩
    · cases h) hd hr
  exact call_min2 hc pins s σ H _ us Q I r ⟨i, j, rfl, q _ H (Same.refl H) (.int _)⟩
/-- tuple(xs) -/
def tupL : List D → Option D
  | [.list xs] => some (.tuple xs)
  | [.tuple xs] => some (.tuple xs)
  | _ => none
theorem cr_tuple : CallR X (.type "tuple") (rCl X.K tupL) := by
  intro pins s σ H xs us Q I r h
  obtain ⟨ds, r', hd, hr, q⟩ := h
  cases hd with
  | nil => exact nomatch hr
  | cons h1 h2 =>
    cases h2 with
    | cons _ _ => cases h1 <;> exact nomatch hr
    | nil =>
      cases h1 with
      | @lst a o ys ds g1 g2 =>
        cases hr
        refine call_tuple_z pins s σ H _ us Q I r ⟨a, ys, rfl, .inl ⟨.inl (.inr ⟨_, g1⟩), fun l o hl hd => ?_⟩⟩
        have sm := upd_same' (o := .frz o (.tup ys)) hl
        exact q _ _ sm (.tup (.inl ⟨o, hd, upd_same⟩) (IsAll.mono (Same.fx sm) ds ys g2))
      | @tup a ys ds g1 g2 =>
        cases hr
        exact call_tuple_z pins s σ H _ us Q I r ⟨a, ys, rfl, .inr ⟨g1.sqT, q _ H (Same.refl H) (.tup g1 g2)⟩⟩
      | _ => exact nomatch hr
/-- a new list by a call -/
def rClF (K : PySem.W.Frag) (f : List D → Option (List D)) : List V → Hp → VK → Prop := fun vs H Q => ∃ ds r, IsAll K H vs ds ∧ f ds = some r ∧ ∀ a xs, H a = none → IsAll K H xs r → Q (.ref a) (upd H a (.lst xs))
def wClF (f : List D → Option (List D)) (wa : LW) : LW := fun ρ Q => wa ρ fun ds ρ1 => ∃ r, f ds = some r ∧ Q r ρ1
theorem clF_imp {f : List D → Option (List D)} {wa : LW} {K : PySem.W.Frag} (hK : c.K = K) : ∀ σ H Q, tF c (wClF f wa) σ H Q → tCB (rClF K f) (tA c wa) σ H Q := by
  subst hK
  rintro σ H Q ⟨ρ, Q0, E, hw, k⟩
  refine ⟨ρ, _, E, hw, fun ds ρ' vs H' q g E1 i1 => ?_⟩
  obtain ⟨r, hf, q⟩ := q
  refine ⟨ds, r, i1, hf, fun a xs n ix => ?_⟩
  have sm := upd_same' (o := .lst xs) n
  exact k r ρ' a xs _ q (g.trans (Gr.same sm)) (E1.same sm) (g.free E1 n) upd_same (IsAll.mono (Same.fx sm) r xs ix)
theorem df_clB {x : Str} {p : Pos} {id : String} {f : List D → Option (List D)} {wa : LW} (hc : CallR X (.builtin id) (rClF X.K f)) (hg : Gl X x) (hm : X.mg x = none) (hv : bootBuiltins x = some (.builtin id)) (ha : PA X (e :: es) (tA c wa)) (hK : c.K = X.K := by rfl) (hn : x ≠ "__name__" := by decide) (hdb : (x == ("__debug__" : Str)) = false := by decide)
    (he : starEach (e :: es) X.env = (false, eval e X.env) :: starEach es X.env := by rfl) (hpl : (backTo pos (starEach es X.env)).any (·.1) = false := by rfl) : PE X (.Call (.Name x p) (e :: es) [] pos) (tF c (wClF f wa)) :=
  PE.imp (pe_callB hc hg hm hv ha hn hdb he hpl) (clF_imp hK)
theorem df_clT {x : Str} {p : Pos} {T : String} {f : List D → Option (List D)} {wa : LW} (hc : CallR X (.type T) (rClF X.K f)) (hg : Gl X x) (hm : X.mg x = none) (hv : bootBuiltins x = some (.type T)) (ha : PA X (e :: es) (tA c wa)) (hK : c.K = X.K := by rfl) (hn : x ≠ "__name__" := by decide) (hdb : (x == ("__debug__" : Str)) = false := by decide)
    (he : starEach (e :: es) X.env = (false, eval e X.env) :: starEach es X.env := by rfl) (hpl : (backTo pos (starEach es X.env)).any (·.1) = false := by rfl) : PE X (.Call (.Name x p) (e :: es) [] pos) (tF c (wClF f wa)) :=
  PE.imp (pe_callTy hc hg hm hv ha hn hdb he hpl) (clF_imp hK)
def lisL : List D → Option (List D)
  | [.list xs] => some xs
  | [.tuple xs] => some xs
  | _ => none
theorem cr_list : CallR X (.type "list") (rClF X.K lisL) := by
  intro pins s σ H xs us Q I r h
  obtain ⟨ds, r', hd, hr, q⟩ := h
  cases hd with
  | nil => exact nomatch hr
  | cons h1 h2 =>
    cases h2 with
    | cons _ _ => cases h1 <;> exact nomatch hr
    | nil =>
      cases h1 with
      | @lst a o ys ds g1 g2 =>
        cases hr
        exact call_list_of pins s σ H _ us Q I r ⟨a, ys, rfl, .inl (.inl (.inr ⟨_, g1⟩)), fun l hl => q l ys hl g2⟩
      | @tup a ys ds g1 g2 =>
        cases hr
        exact call_list_of pins s σ H _ us Q I r ⟨a, ys, rfl, .inr g1.sqT, fun l hl => q l ys hl g2⟩
      | _ => exact nomatch hr
end
end DL
namespace DL
open PySem PySem.Spec PyProof.Rows L2

/-- data, or a tuple of data just made -/
def IsW (K : PySem.W.Frag) (H : Hp) (v : V) (d : D) : Prop := Is K H v d ∨ ∃ a xs ds, v = .ref a ∧ d = .tuple ds ∧ SqT K H a xs ∧ IsAll K H xs ds
abbrev WalkW := WalkR IsW
abbrev iW := iR IsW
abbrev gW := gR IsW

section
variable {X : Cx} {c : Ctx} {e a b l tg : Expr} {es : List Expr} {pos : Pos}

/-! ### what is walked -/
def itemsD : D → Option (List D)
  | .list xs => some xs
  | .tuple xs => some xs
  | _ => none
def wItems (w : DW) : LW := fun ρ Q => w ρ fun d ρ1 => ∃ xs, itemsD d = some xs ∧ Q xs ρ1
theorem walk_l {K : PySem.W.Frag} {H : Hp} {a : Addr} {o : Obj} {xs : List V} {ds : List D} (h1 : H a = some (.frz o (.lst xs))) (h2 : IsAll K H xs ds) : Walk K (Itl K a) H ds := by
  have sq : ∀ H', Fx H H' → SqL K H' a xs := fun H' f => .inl (.inr ⟨o, f _ _ rfl h1⟩)
  refine ⟨fun i H' f hi => ?_, fun i x H' H'' d f hd y => ?_, fun i H' f hi => ⟨xs, sq H' f, by rw [h2.length]; exact hi⟩⟩
  · rw [← h2.length] at hi
    exact ⟨xs, xs[i], sq H' f, List.getElem?_eq_getElem hi⟩
  · obtain ⟨rfl, y⟩ := y
    obtain ⟨v, hv, iv⟩ := h2.get hd
    have e := (y xs (sq _ f)).symm.trans hv
    cases e
    exact ⟨Same.refl _, Is.mono f d _ iv⟩
theorem walk_t {K : PySem.W.Frag} {H : Hp} {a : Addr} {xs : List V} {ds : List D} (h1 : TupK K H a xs) (h2 : IsAll K H xs ds) : Walk K (Itt K a) H ds := by
  have sq : ∀ H', Fx H H' → SqT K H' a xs := fun H' f => (f.tupK h1).sqT
  refine ⟨fun i H' f hi => ?_, fun i x H' H'' d f hd y => ?_, fun i H' f hi => ⟨xs, sq H' f, by rw [h2.length]; exact hi⟩⟩
  · rw [← h2.length] at hi
    exact ⟨xs, xs[i], sq H' f, List.getElem?_eq_getElem hi⟩
  · obtain ⟨rfl, y⟩ := y
    obtain ⟨v, hv, iv⟩ := h2.get hd
    have e := (y xs (sq _ f)).symm.trans hv
    cases e
    exact ⟨Same.refl _, Is.mono f d _ iv⟩
theorem di_of {w : DW} (h : PE X l (tD c w)) (hK : c.K = X.K := by rfl) : PI X tg l (iD c (wItems w)) := by
  refine ⟨fun pins s σ H R I hw => ?_⟩
  obtain ⟨ρ, Q0, E, hw, k⟩ := hw
  refine thn (h.run pins s σ H (fun v H' => ∃ d ρ' xs, itemsD d = some xs ∧ Q0 xs ρ' ∧ Gr c σ H H' ∧ En c H' σ ρ' ∧ Is c.K H' v d) I ⟨ρ, _, E, hw, fun d ρ' v H' ⟨xs, e, q⟩ g E1 i1 => ⟨d, ρ', xs, e, q, g, E1, i1⟩⟩) fun u s1 ⟨v, H1, I1, r1, d, ρ', xs, e, q, g, E1, i1⟩ => ?_
  cases i1 with
  | @lst a o ys ds h1 h2 =>
    cases e
    cases r1
    obtain ⟨its, rv, p, hz⟩ := I1.list (a := a) (xs := ys) (.inl (.inr ⟨_, h1⟩))
    refine wpAny_pyIter_list p.isList ?_
    refine ⟨s1.heap.objs.size, [s1.heap.objs.size], _, _, H1, rfl, I1.kept (t' := s1.toks) fun b o e => Heap.get?_push_of_some _ e, turn_list a _, ⟨_, Heap.get?_push_size _ rfl, rfl, rfl⟩, fun b hb => ?_, k _ ρ' (Itl X.K a) H1 q g E1 (by rw [← hK]; exact walk_l h1 h2)⟩
    have e : b = s1.heap.objs.size := by simpa using hb
    subst e
    exact I1.fpOk (Nat.le_refl _) (I1.hok.fresh (Nat.le_refl _))
  | @tup a ys ds h1 h2 =>
    cases e
    cases r1
    have h1' : TupK X.K H1 a ys := by rw [← hK]; exact h1
    obtain ⟨its, rv, p, hz⟩ := I1.tuple (a := a) (xs := ys) h1'.sqT
    refine wpAny_pyIter_tuple (show s1.heap.IsTuple a its.toArray from p) ?_
    refine ⟨s1.heap.objs.size, [s1.heap.objs.size], _, _, H1, rfl, I1.kept (t' := s1.toks) fun b o e => Heap.get?_push_of_some _ e, turn_tuple a _, ⟨_, Heap.get?_push_size _ rfl, rfl, rfl⟩, fun b hb => ?_, k _ ρ' (Itt X.K a) H1 q g E1 (by rw [← hK]; exact walk_t h1 h2)⟩
    have e : b = s1.heap.objs.size := by simpa using hb
    subst e
    exact I1.fpOk (Nat.le_refl _) (I1.hok.fresh (Nat.le_refl _))
  | _ => exact nomatch e
/-- 0, 1, .. as data -/
def upto (lo : Int) (n : Nat) : List D := (List.range n).map fun i : Nat => .int (lo + (i : Int))
theorem upto_length (lo : Int) (n : Nat) : (upto lo n).length = n := by simp [upto]
theorem upto_get {lo : Int} {n i : Nat} {d : D} (h : (upto lo n)[i]? = some d) : d = .int (lo + i) ∧ i < n := by
  unfold upto at h
  rw [List.getElem?_map] at h
  by_cases hi : i < n
  · rw [List.getElem?_range hi] at h
    exact ⟨(Option.some.inj h).symm, hi⟩
  · rw [List.getElem?_eq_none (by simpa using hi)] at h
    cases h
theorem walk_r {K : PySem.W.Frag} {H : Hp} (lo : Int) (n : Nat) : Walk K (Itr lo n) H (upto lo n) := by
  refine ⟨fun i H' f hi => by rw [upto_length] at hi; exact hi, fun i x H' H'' d f hd y => ?_, fun i H' f hi => by rw [upto_length] at hi; exact hi⟩
  obtain ⟨rfl, rfl⟩ := y
  obtain ⟨rfl, _⟩ := upto_get hd
  exact ⟨Same.refl _, .int _⟩
def wRange1 (wa : LW) : LW := fun ρ Q => wa ρ fun ds ρ1 => ∃ j : Int, ds = [.int j] ∧ -(2 ^ 62) ≤ j ∧ j < 2 ^ 62 ∧ Q (upto 0 j.toNat) ρ1
theorem di_range1 {p : Pos} {wa : LW} (hg : Gl X "range") (hm : X.mg "range" = none) (ha : PA X [a] (tA c wa)) (hs : starEach [a] X.env = [(false, eval a X.env)] := by rfl) : PI X tg (.Call (.Name "range" p) [a] [] pos) (iD c (wRange1 wa)) := by
  refine PI.imp (pi_range1 hg hm ha hs) ?_
  rintro σ H Q ⟨ρ, Q0, E, hw, k⟩
  refine ⟨ρ, _, E, hw, fun ds ρ' vs H' q g E1 i1 => ?_⟩
  obtain ⟨j, rfl, h1, h2, q⟩ := q
  cases i1 with
  | cons h3 h4 =>
    cases h4
    cases h3
    exact ⟨j, rfl, h1, h2, k _ ρ' _ H' q g E1 (walk_r 0 _)⟩
def wRange2 (wa : LW) : LW := fun ρ Q => wa ρ fun ds ρ1 => ∃ i j : Int, ds = [.int i, .int j] ∧ (-(2 ^ 62) ≤ i ∧ i < 2 ^ 62 ∧ -(2 ^ 62) ≤ j ∧ j < 2 ^ 62) ∧ Q (upto i (j - i).toNat) ρ1
theorem di_range2 {p : Pos} {wa : LW} (hg : Gl X "range") (hm : X.mg "range" = none) (ha : PA X [a, b] (tA c wa)) (hs : starEach [a, b] X.env = [(false, eval a X.env), (false, eval b X.env)] := by rfl) (hs2 : starEach [b] X.env = [(false, eval b X.env)] := by rfl) : PI X tg (.Call (.Name "range" p) [a, b] [] pos) (iD c (wRange2 wa)) := by
  refine PI.imp (pi_range2 hg hm ha hs hs2) ?_
  rintro σ H Q ⟨ρ, Q0, E, hw, k⟩
  refine ⟨ρ, _, E, hw, fun ds ρ' vs H' q g E1 i1 => ?_⟩
  obtain ⟨i, j, rfl, h1, q⟩ := q
  cases i1 with
  | cons h3 h4 =>
    cases h4 with
    | cons h5 h6 =>
      cases h6
      cases h3
      cases h5
      exact ⟨i, j, rfl, h1, k _ ρ' _ H' q g E1 (walk_r i _)⟩
/-- enumerate -/
def enumD (xs : List D) : List D := xs.zipIdx.map fun p => .tuple [.int (p.2 : Nat), p.1]
theorem enumD_length (xs : List D) : (enumD xs).length = xs.length := by simp [enumD]
theorem enumD_get {xs : List D} {i : Nat} {d : D} (h : (enumD xs)[i]? = some d) : ∃ x, xs[i]? = some x ∧ d = .tuple [.int (i : Nat), x] := by
  unfold enumD at h
  rw [List.getElem?_map, List.getElem?_zipIdx] at h
  cases e : xs[i]? with
  | none => rw [e] at h; cases h
  | some x =>
    rw [e] at h
    refine ⟨x, rfl, ?_⟩
    simpa using h.symm
def wEnum (wa : LW) : LW := fun ρ Q => wa ρ fun ds ρ1 => ∃ xs, ds = [.list xs] ∧ Q (enumD xs) ρ1
theorem di_enum {p tpos : Pos} {elts : List Expr} {kk : Nat} {wa : LW} (hg : Gl X "enumerate") (hm : X.mg "enumerate" = none) (ha : PA X [a] (tA c wa)) (hs : starEach [a] X.env = [(false, eval a X.env)] := by rfl) (hK : c.K = X.K := by rfl) : PI X (.Tuple elts kk tpos) (.Call (.Name "enumerate" p) [a] [] pos) (iW c (wEnum wa)) := by
  refine PI.imp (pi_enum hg hm ha hs) ?_
  rintro σ H Q ⟨ρ, Q0, E, hw, k⟩
  refine ⟨ρ, _, E, hw, fun ds ρ' vs H' q g E1 i1 => ?_⟩
  obtain ⟨xs, rfl, q⟩ := q
  cases i1 with
  | cons h3 h4 =>
    cases h4
    cases h3 with
    | @lst a o ys ds h1 h2 =>
      have sq : ∀ H2, Fx H' H2 → SqL X.K H2 a ys := fun H2 f => .inl (.inr ⟨o, f _ _ rfl h1⟩)
      refine ⟨a, ys, rfl, sq H' (Fx.refl _), k _ ρ' _ H' q g E1 ⟨fun i H2 f hi => ?_, fun i x H2 H3 d f hd y => ?_, fun i H2 f hi => ⟨ys, sq H2 f, by rw [h2.length, ← enumD_length]; exact hi⟩⟩⟩
      · rw [enumD_length, ← h2.length] at hi
        exact ⟨ys, ys[i], sq H2 f, List.getElem?_eq_getElem hi⟩
      · obtain ⟨T, x', rfl, n, rfl, y⟩ := y
        obtain ⟨z, hz, rfl⟩ := enumD_get hd
        obtain ⟨v, hv, iv⟩ := h2.get hz
        have e := (y ys (sq _ f)).symm.trans hv
        cases e
        have sm := upd_same' (o := .tup [.int (i : Nat), x']) n
        exact ⟨sm, .inr ⟨T, _, _, rfl, rfl, SqT.of upd_same, .cons (.int _) (.cons (Is.mono (f.trans (Same.fx sm)) _ _ iv) .nil)⟩⟩

/-! ### targets -/
def wName (i : Nat) : GW := fun d ρ Q => Q (ρ.set i (.dat d))
theorem Off.set {vs : List Nat} {σ : Sg} {i : Nat} {x : Option V} (h : i ∈ vs) : Off vs σ (σ.set i x) := ⟨List.length_set, fun j hj => List.getElem?_set_ne fun e => hj (by rw [← e]; exact h)⟩
theorem dg_name (i : Nat) {x : Str} (vs : List Nat) (hN : X.N.Nodup) (hi : X.N[i]? = some x) (hx : Loc X.env.scope x) (hM : i ∉ c.M) (hp : c.pot = none ∨ i ≠ 0) (hv : i ∈ vs) (hf : X.fn x = true ∨ X.env.scope.names.lookup x = some .local := by first | exact .inl rfl | exact .inr rfl | assumption) : PG X (.Name x pos) (gD c vs (wName i)) := by
  refine PG.imp (pg_name hN hi hx hf) ?_
  rintro v σ H Q ⟨d, ρ, Q0, iv, E, g, k⟩
  exact k _ _ g (Off.set hv) (E.setD hM hp iv)
def setN : List Sl → List Nat → List D → List Sl
  | ρ, i :: is, d :: ds => setN (ρ.set i (.dat d)) is ds
  | ρ, _, _ => ρ
def gsD (c : Ctx) (vs is : List Nat) : TGs := fun vals σ H Q => ∃ (ds : List D) (ρ : List Sl) (Q0 : List Sl → Prop), IsAll c.K H vals ds ∧ ds.length = is.length ∧ En c H σ ρ ∧ Q0 (setN ρ is ds) ∧ ∀ ρ' σ', Q0 ρ' → Off vs σ σ' → En c H σ' ρ' → Q σ' H
theorem PGs.imp {t t' : TGs} (h : PGs X es t) (i : ∀ v σ H Q, t' v σ H Q → t v σ H Q) : PGs X es t' := ⟨fun pins s σ H v u Q I r q => h.run pins s σ H v u Q I r (i v σ H Q q)⟩
theorem dgs_nil (vs : List Nat) : PGs X [] (gsD c vs []) := by
  refine PGs.imp pgs_nil ?_
  rintro v σ H Q ⟨ds, ρ, Q0, ia, hl, E, g, k⟩
  cases ds with
  | nil => cases ia; exact ⟨rfl, k _ _ g (Off.refl vs σ) E⟩
  | cons _ _ => cases hl
theorem dgs_cons (i : Nat) {x : Str} {is vs : List Nat} {p : Pos} (hN : X.N.Nodup) (hi : X.N[i]? = some x) (hx : Loc X.env.scope x) (hM : i ∉ c.M) (hp : c.pot = none ∨ i ≠ 0) (hv : i ∈ vs) (h2 : PGs X es (gsD c vs is))
    (hs : (assignEach (.Name x p :: es) X.env).map (·.2) = assign (.Name x p) X.env :: (assignEach es X.env).map (·.2) := by rfl) (hf : X.fn x = true ∨ X.env.scope.names.lookup x = some .local := by first | exact .inl rfl | exact .inr rfl | assumption) : PGs X (.Name x p :: es) (gsD c vs (i :: is)) := by
  refine PGs.imp (pgs_cons (pg_name hN hi hx hf) h2 hs) ?_
  rintro v σ H Q ⟨ds, ρ, Q0, ia, hl, E, g, k⟩
  cases ia with
  | nil => cases hl
  | @cons v vr d dr h3 h4 =>
    refine ⟨v, vr, rfl, dr, ρ.set i (.dat d), Q0, h4, by simpa using hl, E.setD hM hp h3, g, fun ρ' σ' q o E' => k ρ' σ' q ((Off.set hv).trans o) E'⟩
/-- (a, b, ..) = a tuple -/
def wUnp (is : List Nat) : GW := fun d ρ Q => ∃ ds, d = .tuple ds ∧ ds.length = is.length ∧ Q (setN ρ is ds)
theorem dg_tup {is vs : List Nat} {kk : Nat} (hc : X.calm = true) (h : PGs X es (gsD c vs is)) (hn : (assignEach es X.env).length = is.length := by rfl) (hst : (assignEach es X.env).findIdx? (·.1) = none := by rfl) (hK : c.K = X.K := by rfl) : PG X (.Tuple es kk pos) (gW c vs (wUnp is)) := by
  refine PG.imp (pg_tup hc h hn hst) ?_
  rintro v σ H Q ⟨d, ρ, Q0, iv, E, ⟨ds, rfl, hl, g⟩, k⟩
  have : ∃ a xs, v = .ref a ∧ SqT c.K H a xs ∧ IsAll c.K H xs ds := by
    rcases iv with iv | ⟨a, xs, ds', e1, e2, h1, h2⟩
    · cases iv with
      | tup h1 h2 => exact ⟨_, _, rfl, h1.sqT, h2⟩
    · cases e2
      exact ⟨a, xs, e1, h1, h2⟩
  obtain ⟨a, xs, rfl, h1, h2⟩ := this
  exact ⟨a, xs, rfl, by rw [← hK]; exact h1, by rw [h2.length]; exact hl, ds, ρ, Q0, h2, hl, E, g, k⟩
theorem dg_w {g : GW} {vs : List Nat} (h : PG X e (gW c vs g)) : PG X e (gD c vs g) := PG.imp h fun v σ H Q ⟨d, ρ, Q0, iv, r⟩ => ⟨d, ρ, Q0, .inl iv, r⟩

/-! ### comprehensions -/
def wLc (vs : List Nat) (wi : LW) (g : GW) (wt : BW) (we : DW) : LW := fun ρ Q => wi ρ fun (xs : List D) ρ1 => ∃ W : Nat → List D → List Sl → Prop, W 0 [] (wipeS ρ1 vs) ∧
  (∀ (i : Nat) (x : D) (acc : List D) (ρ2 : List Sl), xs[i]? = some x → W i acc ρ2 → g x (wipeS ρ2 vs) fun ρ3 => wt ρ3 fun b ρ4 => if b = true then we ρ4 fun y ρ5 => acc.length < sizeLine ∧ W (i + 1) (acc ++ [y]) (wipeS ρ5 vs) else W (i + 1) acc (wipeS ρ4 vs)) ∧
  ∀ acc ρ2, W xs.length acc ρ2 → Q acc ρ2
def wYes : BW := fun ρ Q => Q true ρ
theorem dts_nil : PTs X [] (tT c wYes) := ⟨fun pins s σ H Q I ⟨ρ, Q0, E, hw, k⟩ => pts_nil.run pins s σ H Q I (k true ρ H hw (Gr.refl H) E)⟩
theorem dts_one {t : BW} (h : PT X e (tT c t)) : PTs X [e] (tT c t) := pts_one h
/-- a list at D that no slot holds is changed -/
theorem En.updN {H : Hp} {σ : Sg} {ρ : List Sl} {D : Addr} {as bs : List V} (E : En c H σ ρ) (h : H D = some (.lst as)) (h0 : c.H0 D = none) (hs : ∀ (j : Nat) (es : List PyData), ρ[j]? = some (Sl.own es) → σ[j]? ≠ some (some (V.ref D))) : En c (upd H D (.lst bs)) σ ρ := by
  have fx : Fx H (upd H D (.lst bs)) := fun b o f q => by
    by_cases e : b = D
    · subst e; rw [h] at q; cases q; cases f
    · rw [upd_ne e]; exact q
  refine ⟨E.len, fun j s x q1 q2 => SlIs.mono fx (fun b e1 e2 o q => ?_) (E.sl j s x q1 q2), E.ownM, E.sep, E.new, fun b o q n => ?_, E.potS, fun j b hj q => ?_, E.potM, E.bagN, E.bagM, E.bag1⟩
  · subst e2
    have : b ≠ D := E.ne q1 e1 q2 h fun es z1 z2 => hs j es z1 z2
    rw [upd_ne this]; exact q
  · have nb : b ≠ D := fun z => by subst z; rw [h0] at q; cases q
    rw [upd_ne nb]; exact E.keep b o q n
  · by_cases e : b = D
    · subst e; rw [upd_same]; rfl
    · rw [upd_ne e]; exact E.trk j b hj q
theorem lc_imp {R : Rel} {wi : LW} {g : GW} {wt : BW} {we : DW} {vs : List Nat} (hM : ∀ i, i ∈ vs → i ∉ c.M) (hp : c.pot = none ∨ 0 ∉ vs) : ∀ σ H Q, tF c (wLc vs wi g wt we) σ H Q → tLc (iR R c wi) (gR R c vs g) (tT c wt) (tD c we) vs σ H Q := by
  rintro σ H Q ⟨ρ, Q0, E, hw, k⟩
  refine ⟨ρ, _, E, hw, fun xs ρ' J H1 q gr E1 hJ => ?_⟩
  obtain ⟨W, w0, ws, wd⟩ := q
  obtain ⟨jgo, jy, jstop⟩ := hJ
  intro D hD
  have h0D : c.H0 D = none := E1.h0 hD
  have HD : H D = none := gr.free E1 hD
  refine ⟨fun i m H2 => m = xs.length - i ∧ i ≤ xs.length ∧ ∃ acc av ρ2, W i acc ρ2 ∧ En c H2 σ ρ2 ∧ Gr c σ H1 H2 ∧ H2 D = some (.lst av) ∧ IsAll c.K H2 av acc, ⟨xs.length, by simp, Nat.zero_le _, [], [], wipeS ρ' vs, w0, ?_, ?_, upd_same, .nil⟩, ?_⟩
  · exact (E1.off (Off.refl vs σ) hM hp).same (upd_same' hD)
  · exact Gr.same (upd_same' hD)
  rintro i m H2 ⟨rfl, hi, acc, av, ρ2, hW, E2, g2, hav, iav⟩
  by_cases hlt : i < xs.length
  · refine .inr ⟨jgo i H2 g2.fx hlt, fun H3 => ∃ acc av ρ2, W (i + 1) acc ρ2 ∧ En c H3 σ ρ2 ∧ Gr c σ H1 H3 ∧ H3 D = some (.lst av) ∧ IsAll c.K H3 av acc, fun H3 q => ⟨xs.length - (i + 1), by omega, rfl, hlt, q⟩, fun x H3 y => ?_⟩
    have hx := List.getElem?_eq_getElem hlt
    obtain ⟨sm, rx⟩ := jy i x H2 H3 xs[i] g2.fx hx y
    have E3 : En c H3 (wipe σ vs) (wipeS ρ2 vs) := (E2.same sm).off (off_wipe σ vs) hM hp
    refine ⟨xs[i], wipeS ρ2 vs, _, rx, E3, ws i xs[i] acc ρ2 hx hW, fun ρ3 σ3 q3 (o3 : Off vs (wipe σ vs) σ3) E4 => ⟨off_wipes ((off_wipe σ vs).trans o3), ?_⟩⟩
    -- back in the def's slots
    have oσ : Off vs σ3 σ := ((off_wipe σ vs).trans o3).symm
    have gM : ∀ i, i ∈ c.M → σ[i]? = σ3[i]? := Off.M oσ hM
    have gM' : ∀ i, i ∈ c.M → σ3[i]? = σ[i]? := fun i h => (gM i h).symm
    refine ⟨ρ3, _, E4, q3, fun b ρ4 H4 q4 g4 E5 => ?_⟩
    have g24 : Gr c σ H1 H4 := (g2.trans (Gr.same sm)).trans (g4.congr gM')
    have nOw : ¬ Ow c σ3 D := fun w => E1.notOw hD ((Ow.congr gM').mp w)
    have hD4 : H4 D = some (.lst av) := g4.kp D _ (sm D _ hav) nOw
    have iav4 : IsAll c.K H4 av acc := IsAll.mono ((Same.fx sm).trans g4.fx) acc av iav
    cases b with
    | false => exact ⟨acc, av, _, q4, E5.off oσ hM hp, g24, hD4, iav4⟩
    | true =>
      refine ⟨ρ4, _, E5, q4, fun d ρ5 v H5 q5 g5 E6 i6 => ?_⟩
      have hD5 : H5 D = some (.lst av) := g5.kp D _ hD4 nOw
      have E7 : En c H5 σ (wipeS ρ5 vs) := E6.off oσ hM hp
      have sepD := E1.sepN E7 hD
      have fxD : Fx H5 (upd H5 D (.lst (av ++ [v]))) := fun b o f q => by
        by_cases e : b = D
        · subst e; rw [hD5] at q; cases q; cases f
        · rw [upd_ne e]; exact q
      refine ⟨av, hD5, by rw [iav4.length]; exact q5.1, acc ++ [d], av ++ [v], wipeS ρ5 vs, q5.2, E7.updN hD5 h0D sepD, ⟨(g24.trans (g5.congr gM')).fx.trans fxD, fun b o e w => ?_⟩, upd_same, IsAll.mono fxD _ _ ((IsAll.mono g5.fx _ _ iav4).append (IsAll.one i6))⟩
      have nb : b ≠ D := fun z => by subst z; rw [hD] at e; cases e
      rw [upd_ne nb]
      exact (g24.trans (g5.congr gM')).kp b o e w
  · have e : i = xs.length := by omega
    subst e
    exact .inl ⟨jstop _ H2 g2.fx (Nat.le_refl _), k acc ρ2 D av H2 (wd acc ρ2 hW) (gr.trans g2) E2 HD hav iav⟩
theorem df_lc {R : Rel} {elt iter : Expr} {ifs : List Expr} {scope : Scope} {own : List (Str × Nat)} {wi : LW} {g : GW} {wt : BW} {we : DW} (hc : X.calm = true) (hN : X.N.Nodup) (ok : BlkOk X.N X.env.scope scope own) (hM : ∀ i, i ∈ own.map (·.2) → i ∉ c.M) (hp : c.pot = none ∨ 0 ∉ own.map (·.2))
    (hi : PI X tg iter (iR R c wi))
    (hg : ∀ (s : Shared) (H : Hp) (C : Addr) (cl : List (Str × Addr)) (fp : List Addr), PG (X.blk s H scope (compEnvC scope cl C X.env) fp) tg (gR R c (own.map (·.2)) g)) (ht : ∀ (s : Shared) (H : Hp) (C : Addr) (cl : List (Str × Addr)) (fp : List Addr), PTs (X.blk s H scope (compEnvC scope cl C X.env) fp) ifs (tT c wt))
    (he : ∀ (s : Shared) (H : Hp) (C : Addr) (cl : List (Str × Addr)) (fp : List Addr), PE (X.blk s H scope (compEnvC scope cl C X.env) fp) elt (tD c we)) (hs : ∀ x, foldedSetIterable iter X.env x = pure x := by intro _; rfl) :
    PE X (.ListComp elt [⟨tg, iter, ifs, 0⟩] scope pos) (tF c (wLc (own.map (·.2)) wi g wt we)) := PE.imp (pe_lc hc hN hi ok hg ht he hs) (lc_imp hM hp)
end
end DL
namespace DL
open PySem PySem.Spec PyProof.Rows L2
section
variable {X : Cx} {c : Ctx} {e a b l tg : Expr} {es : List Expr} {pos : Pos} {st : Stmt} {sts : List Stmt}

/-! ### statements -/
def wSeq (w1 w2 : SW) : SW := fun D ρ => w1 { D with nx := fun ρ' => w2 D ρ' } ρ
def wNext : SW := fun D ρ => D.nx ρ
theorem dss_nil : PSs X [] (sD c wNext) := PSs.imp pss_nil fun D σ H ⟨ρ, D0, E, hw, k1, _⟩ => k1 ρ σ H hw (Fx.refl H) E
theorem dss_cons {w1 w2 : SW} (h1 : PS X st (sD c w1)) (h2 : PSs X sts (sD c w2)) : PSs X (st :: sts) (sD c (wSeq w1 w2)) := by
  refine PSs.imp (pss_cons h1 h2) ?_
  rintro D σ H ⟨ρ, D0, E, hw, k1, k2, k3, k4⟩
  refine ⟨ρ, _, E, hw, fun ρ' σ' H' q fx E' => ⟨ρ', D0, E', q, fun ρ2 σ2 H2 q2 f2 E2 => k1 ρ2 σ2 H2 q2 (fx.trans f2) E2, fun r ρ2 σ2 v H2 q2 f2 E2 i2 => k2 r ρ2 σ2 v H2 q2 (fx.trans f2) E2 i2, fun ρ2 σ2 H2 q2 f2 E2 => k3 ρ2 σ2 H2 q2 (fx.trans f2) E2, fun ρ2 σ2 H2 q2 f2 E2 => k4 ρ2 σ2 H2 q2 (fx.trans f2) E2⟩, k2, k3, k4⟩
theorem dss_one {w : SW} (h1 : PS X st (sD c w)) : PSs X [st] (sD c w) := pss_one h1
theorem ds_pass : PS X (.Pass pos) (sD c wNext) := PS.imp ps_pass fun D σ H ⟨ρ, D0, E, hw, k1, _⟩ => k1 ρ σ H hw (Fx.refl H) E
def wBreak : SW := fun D ρ => D.bk ρ
def wCont : SW := fun D ρ => D.ct ρ
theorem ds_break : PS X (.Break pos) (sD c wBreak) := PS.imp ps_break fun D σ H ⟨ρ, D0, E, hw, _, _, k3, _⟩ => k3 ρ σ H hw (Fx.refl H) E
theorem ds_cont : PS X (.Continue pos) (sD c wCont) := PS.imp ps_continue fun D σ H ⟨ρ, D0, E, hw, _, _, _, k4⟩ => k4 ρ σ H hw (Fx.refl H) E
def wIfS (t : BW) (w1 w2 : SW) : SW := fun D ρ => t ρ fun b ρ' => if b = true then w1 D ρ' else w2 D ρ'
theorem ds_if {t : BW} {w1 w2 : SW} {b1 b2 : List Stmt} (hc : PT X e (tT c t)) (h1 : PSs X b1 (sD c w1)) (h2 : PSs X b2 (sD c w2)) : PS X (.If e b1 b2 pos) (sD c (wIfS t w1 w2)) := by
  refine PS.imp (ps_if hc h1 h2) ?_
  rintro D σ H ⟨ρ, D0, E, hw, k1, k2, k3, k4⟩
  refine ⟨ρ, _, E, hw, fun b ρ' H' q g E' => ?_⟩
  cases b with
  | true => exact ⟨ρ', D0, E', q, fun ρ2 σ2 H2 q2 f2 E2 => k1 ρ2 σ2 H2 q2 (g.fx.trans f2) E2, fun r ρ2 σ2 v H2 q2 f2 E2 i2 => k2 r ρ2 σ2 v H2 q2 (g.fx.trans f2) E2 i2, fun ρ2 σ2 H2 q2 f2 E2 => k3 ρ2 σ2 H2 q2 (g.fx.trans f2) E2, fun ρ2 σ2 H2 q2 f2 E2 => k4 ρ2 σ2 H2 q2 (g.fx.trans f2) E2⟩
  | false => exact ⟨ρ', D0, E', q, fun ρ2 σ2 H2 q2 f2 E2 => k1 ρ2 σ2 H2 q2 (g.fx.trans f2) E2, fun r ρ2 σ2 v H2 q2 f2 E2 i2 => k2 r ρ2 σ2 v H2 q2 (g.fx.trans f2) E2 i2, fun ρ2 σ2 H2 q2 f2 E2 => k3 ρ2 σ2 H2 q2 (g.fx.trans f2) E2, fun ρ2 σ2 H2 q2 f2 E2 => k4 ρ2 σ2 H2 q2 (g.fx.trans f2) E2⟩
def wRet (w : DW) : SW := fun D ρ => w ρ fun d ρ' => D.rt (.d d) ρ'
theorem ds_ret {w : DW} (h : PE X e (tD c w)) : PS X (.Return (some e) pos) (sD c (wRet w)) := by
  refine PS.imp (ps_ret h) ?_
  rintro D σ H ⟨ρ, D0, E, hw, k1, k2, k3, k4⟩
  exact ⟨ρ, _, E, hw, fun d ρ' v H' q g E' i' => k2 (.d d) ρ' σ v H' q g.fx E' i'⟩
def wRetF (w : LW) : SW := fun D ρ => w ρ fun ds ρ' => D.rt (.f ds) ρ'
theorem ds_retF {w : LW} (h : PE X e (tF c w)) : PS X (.Return (some e) pos) (sD c (wRetF w)) := by
  refine PS.imp (ps_ret h) ?_
  rintro D σ H ⟨ρ, D0, E, hw, k1, k2, k3, k4⟩
  exact ⟨ρ, _, E, hw, fun ds ρ' a xs H' q g E' n ha ix => k2 (.f ds) ρ' σ _ H' q g.fx E' ⟨a, xs, rfl, E.h0 n, ha, ix⟩⟩
/-- return a list of one's own -/
def wRetO (i : Nat) : SW := fun D ρ => ∃ ds, ρ[i]? = some (.own ds) ∧ D.rt (.f ds) ρ
theorem ds_retO (i : Nat) {x : Str} {p2 : Pos} (hp : c.pot = none ∨ i ≠ 0) (hN : X.N[i]? = some x := by rfl) (hv : Vis X.env.scope x := by first | exact Or.inl rfl | exact Or.inr (Or.inl rfl) | exact Or.inr (Or.inr rfl)) (hd : (x == ("__debug__" : Str)) = false := by decide)
    (hcd : (x == ("__classdict__" : Str)) = false := by decide) : PS X (.Return (some (.Name x p2)) pos) (sD c (wRetO i)) := by
  refine PS.imp (ps_ret (pe_var hN hv hd hcd)) ?_
  rintro D σ H ⟨ρ, D0, E, ⟨ds, h1, q⟩, k1, k2, k3, k4⟩
  obtain ⟨x, hx, a, xs, rfl, ha, ix⟩ := E.at h1
  refine ⟨_, hx, k2 (.f ds) ρ σ _ H q (Fx.refl H) E ⟨a, xs, rfl, ?_, ha, ix⟩⟩
  rcases E.new i ds a h1 hx with h | ⟨h, h'⟩
  · exact h
  · rcases hp with z | z
    · rw [z] at h; cases h
    · exact absurd h' z
def wDrop (w : DW) : SW := fun D ρ => w ρ fun _ ρ' => D.nx ρ'
theorem ds_expr {w : DW} (h : PE X e (tD c w)) (hs : swapsWith e none pos.line X.env = pure false := by rfl) : PS X (.Expr e pos) (sD c (wDrop w)) := by
  refine PS.imp (ps_expr h hs) ?_
  rintro D σ H ⟨ρ, D0, E, hw, k1, k2, k3, k4⟩
  exact ⟨ρ, _, E, hw, fun d ρ' v H' q g E' i' => k1 ρ' σ H' q g.fx E'⟩
theorem ds_doc {x j pos pos'} : PS X (.Expr (.Constant (.str x) j pos) pos') (sD c wNext) := PS.imp ps_doc fun D σ H ⟨ρ, D0, E, hw, k1, _⟩ => k1 ρ σ H hw (Fx.refl H) E
def wSet (i : Nat) (w : DW) : SW := fun D ρ => w ρ fun d ρ' => D.nx (ρ'.set i (.dat d))
theorem ds_set (i : Nat) {x : Str} {w : DW} {pos' : Pos} (hN : X.N.Nodup) (hi : X.N[i]? = some x) (hx : Loc X.env.scope x) (hM : i ∉ c.M) (hp : c.pot = none ∨ i ≠ 0) (he : PE X e (tD c w)) (hs : swapsWith e (some (.Name x pos')) pos.line X.env = pure false := by rfl) (hf : X.fn x = true ∨ X.env.scope.names.lookup x = some .local := by first | exact .inl rfl | exact .inr rfl | assumption) :
    PS X (.Assign [.Name x pos'] e pos) (sD c (wSet i w)) := by
  refine PS.imp (ps_set hN hi hx he hs hf) ?_
  rintro D σ H ⟨ρ, D0, E, hw, k1, k2, k3, k4⟩
  exact ⟨ρ, _, E, hw, fun d ρ' v H' q g E' i' => k1 _ _ H' q g.fx (E'.setD hM hp i')⟩
def wSetO (i : Nat) (w : LW) : SW := fun D ρ => w ρ fun ds ρ' => D.nx (ρ'.set i (.own ds))
theorem ds_setO (i : Nat) {x : Str} {w : LW} {pos' : Pos} (hN : X.N.Nodup) (hi : X.N[i]? = some x) (hx : Loc X.env.scope x) (hM : i ∈ c.M) (hp : c.pot = none ∨ i ≠ 0) (he : PE X e (tF c w)) (hs : swapsWith e (some (.Name x pos')) pos.line X.env = pure false := by rfl) (hf : X.fn x = true ∨ X.env.scope.names.lookup x = some .local := by first | exact .inl rfl | exact .inr rfl | assumption) :
    PS X (.Assign [.Name x pos'] e pos) (sD c (wSetO i w)) := by
  refine PS.imp (ps_set hN hi hx he hs hf) ?_
  rintro D σ H ⟨ρ, D0, E, hw, k1, k2, k3, k4⟩
  exact ⟨ρ, _, E, hw, fun ds ρ' a xs H' q g E' n ha ix => k1 _ _ H' q g.fx (E'.setO hM hp ha ix (E.h0 n) fun j es _ h1 h2 => E.sepN E' n j es h1 h2)⟩
/-- target = e -/
def wAsg (w : DW) (g : GW) : SW := fun D ρ => w ρ fun d ρ' => g d ρ' fun ρ2 => D.nx ρ2
theorem ds_asg {w : DW} {g : GW} {vs : List Nat} (he : PE X e (tD c w)) (hg : PG X tg (gD c vs g)) (hs : swapsWithSole [tg] e pos.line X.env = pure false := by rfl) (hw : swappedStores [tg] e X.env = pure none := by rfl)
    (h1 : (assignEach [tg] X.env).map (·.2) = [assign tg X.env] := by rfl) : PS X (.Assign [tg] e pos) (sD c (wAsg w g)) := by
  refine PS.imp (ps_asg he hg hs hw h1) ?_
  rintro D σ H ⟨ρ, D0, E, hw, k1, k2, k3, k4⟩
  exact ⟨ρ, _, E, hw, fun d ρ' v H' q gr E' i' => ⟨d, ρ', _, i', E', q, fun ρ2 σ2 q2 o E2 => k1 ρ2 σ2 H' q2 gr.fx E2⟩⟩
/-! several names at once: each its data or its new list -/
inductive Kd where | d | o | b
abbrev MW := List Sl → (List Sl → List Sl → Prop) → Prop
/-- values for names, from the left: data, new lists, new dicts -/
def Good (c : Ctx) (H0 H : Hp) : List Kd → List V → List Sl → Prop
  | [], [], [] => True
  | .d :: ks, v :: vs, .dat d :: ss => Is c.K H v d ∧ Good c H0 H ks vs ss
  | .o :: ks, v :: vs, .own ds :: ss => (∃ a xs, v = .ref a ∧ H0 a = none ∧ H a = some (.lst xs) ∧ IsAll c.K H xs ds ∧ ∀ (j : Nat) (es : List D), ss[j]? = some (.own es) → vs[j]? ≠ some (.ref a)) ∧ Good c H0 H ks vs ss
  | .b :: ks, v :: vs, .bag bs :: ss => (bs = [] ∧ ∃ a, v = .ref a ∧ H0 a = none ∧ H a = some (BagO c.w a []) ∧ (a == sysModules) = false) ∧ Good c H0 H ks vs ss
  | _, _, _ => False
def tM (c : Ctx) (ks : List Kd) (w : MW) : TA := fun σ H Q => ∃ (ρ : List Sl) (Q0 : List Sl → List Sl → Prop), En c H σ ρ ∧ w ρ Q0 ∧ ∀ ss ρ' vs H', Q0 ss ρ' → Gr c σ H H' → En c H' σ ρ' → Good c H H' ks vs ss → Q vs H'
def wMnil : MW := fun ρ Q => Q [] ρ
def wMd (wa : DW) (wr : MW) : MW := fun ρ Q => wa ρ fun d ρ1 => wr ρ1 fun ss ρ2 => Q (.dat d :: ss) ρ2
def wMo (wa : LW) (wr : MW) : MW := fun ρ Q => wa ρ fun ds ρ1 => wr ρ1 fun ss ρ2 => Q (.own ds :: ss) ρ2
theorem dm_nil : PA X [] (tM c [] wMnil) := PA.imp pa_nil fun σ H Q ⟨ρ, Q0, E, hw, k⟩ => k [] ρ [] H hw (Gr.refl H) E trivial
/-- the first of them, and the rest -/
inductive GoodC (c : Ctx) (H0 H : Hp) : Kd → List Kd → V → List V → Sl → List Sl → Prop
  | d {ks v vs d ss} : Is c.K H v d → Good c H0 H ks vs ss → GoodC c H0 H .d ks v vs (.dat d) ss
  | o {ks vs ds ss a xs} : H0 a = none → H a = some (.lst xs) → IsAll c.K H xs ds → (∀ (j : Nat) (es : List D), ss[j]? = some (.own es) → vs[j]? ≠ some (.ref a)) → Good c H0 H ks vs ss → GoodC c H0 H .o ks (.ref a) vs (.own ds) ss
  | b {ks vs ss a} : H0 a = none → H a = some (BagO c.w a []) → (a == sysModules) = false → Good c H0 H ks vs ss → GoodC c H0 H .b ks (.ref a) vs (.bag []) ss
theorem Good.cases {H0 H : Hp} {ks : List Kd} {vs : List V} {ss : List Sl} (h : Good c H0 H ks vs ss) : (ks = [] ∧ vs = [] ∧ ss = []) ∨ ∃ k ks' v vs' s ss', ks = k :: ks' ∧ vs = v :: vs' ∧ ss = s :: ss' ∧ GoodC c H0 H k ks' v vs' s ss' := by
  cases ks with
  | nil =>
    cases vs with
    | nil =>
      cases ss with
      | nil => exact .inl ⟨rfl, rfl, rfl⟩
      | cons _ _ => exact h.elim
    | cons _ _ => exact h.elim
  | cons k ks =>
    cases vs with
    | nil => cases k <;> exact h.elim
    | cons v vs =>
      cases ss with
      | nil => cases k <;> exact h.elim
      | cons s ss =>
        refine .inr ⟨k, ks, v, vs, s, ss, rfl, rfl, rfl, ?_⟩
        cases k with
        | d =>
          cases s with
          | dat d => exact .d h.1 h.2
          | _ => exact h.elim
        | o =>
          cases s with
          | own ds =>
            obtain ⟨⟨a, xs, rfl, n, ha, ix, nm⟩, r⟩ := h
            exact .o n ha ix nm r
          | _ => exact h.elim
        | b =>
          cases s with
          | bag bs =>
            obtain ⟨⟨rfl, a, rfl, n, ha, hm⟩, r⟩ := h
            exact .b n ha hm r
          | _ => exact h.elim
theorem Good.len {H0 H : Hp} : ∀ {ks : List Kd} {vs : List V} {ss : List Sl}, Good c H0 H ks vs ss → vs.length = ss.length ∧ ks.length = ss.length := by
  intro ks
  induction ks with
  | nil =>
    intro vs ss h
    rcases h.cases with ⟨_, rfl, rfl⟩ | ⟨_, _, _, _, _, _, e, _⟩
    · exact ⟨rfl, rfl⟩
    · cases e
  | cons k ks ih =>
    intro vs ss h
    rcases h.cases with ⟨e, _⟩ | ⟨k', ks', v, vs', s, ss', e1, rfl, rfl, g⟩
    · cases e
    · cases e1
      have r : Good c H0 H ks vs' ss' := by cases g <;> assumption
      obtain ⟨a, b⟩ := ih r
      exact ⟨by simp [a], by simp [b]⟩
/-- from a later heap: what is new there is new here -/
theorem Good.back {σ : Sg} {ρ : List Sl} {H H1 H2 : Hp} (g : Gr c σ H H1) (E : En c H1 σ ρ) : ∀ {ks : List Kd} {vs : List V} {ss : List Sl}, Good c H1 H2 ks vs ss → Good c H H2 ks vs ss := by
  intro ks
  induction ks with
  | nil =>
    intro vs ss h
    rcases h.cases with ⟨_, rfl, rfl⟩ | ⟨_, _, _, _, _, _, e, _⟩
    · exact trivial
    · cases e
  | cons k ks ih =>
    intro vs ss h
    rcases h.cases with ⟨e, _⟩ | ⟨k', ks', v, vs', s, ss', e1, rfl, rfl, gc⟩
    · cases e
    · cases e1
      cases gc with
      | d i r => exact ⟨i, ih r⟩
      | o n ha ix nm r => exact ⟨⟨_, _, rfl, g.free E n, ha, ix, nm⟩, ih r⟩
      | b n ha hm r => exact ⟨⟨rfl, _, rfl, g.free E n, ha, hm⟩, ih r⟩
theorem Good.apart {H1 H2 : Hp} {a : Addr} (h1 : H1 a ≠ none) : ∀ {ks : List Kd} {vs : List V} {ss : List Sl}, Good c H1 H2 ks vs ss → ∀ (j : Nat) (es : List D), ss[j]? = some (.own es) → vs[j]? ≠ some (.ref a) := by
  intro ks
  induction ks with
  | nil =>
    intro vs ss h j es e
    rcases h.cases with ⟨_, rfl, rfl⟩ | ⟨_, _, _, _, _, _, e, _⟩
    · simp at e
    · cases e
  | cons k ks ih =>
    intro vs ss h j es e
    rcases h.cases with ⟨e, _⟩ | ⟨k', ks', v, vs', s, ss', e1, rfl, rfl, gc⟩
    · cases e
    · cases e1
      cases j with
      | zero =>
        cases gc with
        | d i r => simp at e
        | b n ha hm r => simp at e
        | o n ha ix nm r =>
          intro z
          simp at z
          subst z
          exact h1 n
      | succ j =>
        have r : Good c H1 H2 ks vs' ss' := by cases gc <;> assumption
        simpa using ih r j es (by simpa using e)
theorem dm_d {wa : DW} {wr : MW} {ks : List Kd} (ha : PE X e (tD c wa)) (hr : PA X es (tM c ks wr)) (hs : starEach (e :: es) X.env = (false, eval e X.env) :: starEach es X.env := by rfl) : PA X (e :: es) (tM c (.d :: ks) (wMd wa wr)) := by
  refine PA.imp (pa_cons ha hr hs) ?_
  rintro σ H Q ⟨ρ, Q0, E, hw, k⟩
  refine ⟨ρ, _, E, hw, fun d ρ' v H' q g E1 i1 => ?_⟩
  exact ⟨ρ', _, E1, q, fun ss ρ2 vs H2 q2 g2 E2 gd => k _ ρ2 _ H2 q2 (g.trans g2) E2 ⟨Is.mono g2.fx d v i1, gd.back g E1⟩⟩
theorem dm_o {wa : LW} {wr : MW} {ks : List Kd} (ha : PE X e (tF c wa)) (hr : PA X es (tM c ks wr)) (hs : starEach (e :: es) X.env = (false, eval e X.env) :: starEach es X.env := by rfl) : PA X (e :: es) (tM c (.o :: ks) (wMo wa wr)) := by
  refine PA.imp (pa_cons ha hr hs) ?_
  rintro σ H Q ⟨ρ, Q0, E, hw, k⟩
  refine ⟨ρ, _, E, hw, fun ds ρ' a xs H' q g E1 n hl ix => ?_⟩
  refine ⟨ρ', _, E1, q, fun ss ρ2 vs H2 q2 g2 E2 gd => k _ ρ2 _ H2 q2 (g.trans g2) E2 ⟨⟨a, xs, rfl, n, g2.kp a _ hl (E.notOw n), IsAll.mono g2.fx ds xs ix, gd.apart (by rw [hl]; simp)⟩, gd.back g E1⟩⟩
/-- {} -/
theorem pe_dnewB {pos : Pos} : PE X (.Dict [] [] pos) (fun _ H Q => ∀ p, H p = none → (p == sysModules) = false → Q (.ref p) (upd H p (BagO X.w p []))) := ⟨fun pins s σ H Q I h => by
  have hm : (s.heap.objs.size == sysModules) = false := beq_eq_false_iff_ne.mpr (Nat.ne_of_gt I.big)
  refine wpAny_Dict_empty ⟨.ref s.heap.objs.size, _, I.laid (a := s.heap.objs.size) (o := BagO X.w s.heap.objs.size []) (t' := s.toks) (fun _ _ q => Heap.get?_push_of_some _ q) (Nat.le_refl _) ?_, rfl, h _ (I.hok.fresh (Nat.le_refl _)) hm⟩
  have hg := Heap.get?_push_size s.heap (o := { cls := .type "dict", data := .dict #[] }) rfl
  exact ⟨⟨_, #[], 0, hg, ⟨rfl, rfl, rfl⟩, rfl, rfl⟩, ⟨_, hg⟩, fun h1 h2 ⟨o, es, ep, e, r⟩ k => ⟨o, es, ep, k o e, r⟩⟩⟩
def wMb (wr : MW) : MW := fun ρ Q => wr ρ fun ss ρ2 => Q (.bag [] :: ss) ρ2
theorem dm_b {wr : MW} {ks : List Kd} {pos : Pos} (hr : PA X es (tM c ks wr)) (hW : c.w = X.w := by rfl) (hs : starEach (.Dict [] [] pos :: es) X.env = (false, eval (.Dict [] [] pos) X.env) :: starEach es X.env := by rfl) : PA X (.Dict [] [] pos :: es) (tM c (.b :: ks) (wMb wr)) := by
  refine PA.imp (pa_cons pe_dnewB hr hs) ?_
  rintro σ H Q ⟨ρ, Q0, E, hw, k⟩ p hp hm
  have sm := upd_same' (o := BagO X.w p []) hp
  refine ⟨ρ, _, E.same sm, hw, fun ss ρ2 vs H2 q2 g2 E2 gd => k _ ρ2 _ H2 q2 ((Gr.same sm).trans g2) E2 ⟨⟨rfl, p, rfl, hp, ?_, hm⟩, gd.back (Gr.same sm) (E.same sm)⟩⟩
  rw [hW]
  exact g2.kp p _ upd_same (E.notOw hp)
def okS (c : Ctx) (i : Nat) : Kd → Prop
  | .d => i ∉ c.M
  | _ => i ∈ c.M
/-- a slot is given what Good says -/
theorem En.setS {H0 H : Hp} {σ0 σ : Sg} {ρ0 ρ : List Sl} {i : Nat} {k : Kd} {ks : List Kd} {v : V} {vs : List V} {s : Sl} {ss : List Sl} (E0 : En c H0 σ0 ρ0) (E : En c H σ ρ) (hi : okS c i k) (hp : c.pot = none ∨ i ≠ 0) (h : GoodC c H0 H k ks v vs s ss)
    (hs : ∀ a, v = .ref a → H0 a = none → ∀ es, s = .own es → ∀ (j : Nat) (es : List D), j ≠ i → ρ[j]? = some (Sl.own es) → σ[j]? ≠ some (some (V.ref a))) (hb : ∀ bs, s = .bag bs → ∀ j ks, ρ[j]? = some (Sl.bag ks) → j = i) : En c H (σ.set i (some v)) (ρ.set i s) := by
  cases h with
  | d h1 r => exact E.setD hi hp h1
  | o n ha ix nm r => exact E.setO hi hp ha ix (E0.h0 n) (hs _ rfl n _ rfl)
  | b n ha hm r => exact E.setB (xs := []) hi hp ha hm List.nodup_nil (fun e he => by simp at he) (E0.h0 n) (hb _ rfl)
def NoBag (ρ : List Sl) : Prop := ∀ (j : Nat) (ks : List NK), ρ[j]? ≠ some (.bag ks)
/-- at most one of the names takes a dict, and none was there -/
def BagOk (ks : List Kd) (ρ : List Sl) : Prop := (.b ∈ ks → NoBag ρ)
theorem GoodC.rest {H0 H : Hp} {k : Kd} {ks : List Kd} {v : V} {vs : List V} {s : Sl} {ss : List Sl} (h : GoodC c H0 H k ks v vs s ss) : Good c H0 H ks vs ss := by cases h <;> assumption
theorem GoodC.far {H0 H : Hp} {k : Kd} {ks : List Kd} {v : V} {vs : List V} {s : Sl} {ss : List Sl} (h : GoodC c H0 H k ks v vs s ss) {a : Addr} {ds : List D} (e1 : v = .ref a) (e2 : s = .own ds) : ∀ (j : Nat) (es : List D), ss[j]? = some (.own es) → vs[j]? ≠ some (.ref a) := by
  cases h with
  | d h1 r => cases e2
  | o n ha ix nm r => cases e1; exact nm
  | b n ha hm r => cases e2
def wPar2 (i j : Nat) (w : MW) : SW := fun D ρ => w ρ fun ss ρ' => NoBag ρ' ∧ ∃ s t, ss = [s, t] ∧ D.nx ((ρ'.set i s).set j t)
theorem ds_par2 (i j : Nat) {x y : Str} {ks : List Kd} {w : MW} {px py pt : Pos} {kt k2 pt2} {k1' k2' : Kd} (hks : ks = [k1', k2'] := by rfl) (hc : X.calm = true) (hN : X.N.Nodup) (hi : X.N[i]? = some x) (hj : X.N[j]? = some y) (hij : i ≠ j)
    (hx : X.env.scope.names.lookup x = some .local) (hy : X.env.scope.names.lookup y = some .local) (oi : okS c i k1') (oj : okS c j k2') (hb1 : k1' = .b → k2' ≠ .b) (pi : c.pot = none ∨ i ≠ 0) (pj : c.pot = none ∨ j ≠ 0) (ha : PA X [a, b] (tM c ks w))
    (hw : swappedStores [.Tuple [.Name x px, .Name y py] kt pt] (.Tuple [a, b] k2 pt2) X.env = pure (some [x, y]))
    (hs : swapsWithSole [.Tuple [.Name x px, .Name y py] kt pt] (.Tuple [a, b] k2 pt2) pos.line X.env = pure false := by rfl) :
    PS X (.Assign [.Tuple [.Name x px, .Name y py] kt pt] (.Tuple [a, b] k2 pt2) pos) (sD c (wPar2 i j w)) := by
  subst hks
  refine PS.imp (ps_par hc hN hi hj hij hx hy ha hw hs) ?_
  rintro D σ H ⟨ρ, D0, E, hw, k1, k2, k3, k4⟩
  refine ⟨ρ, _, E, hw, fun ss ρ' vs H' q g E' gd => ?_⟩
  obtain ⟨nb, s, t, rfl, q⟩ := q
  obtain ⟨l1, l2⟩ := gd.len
  obtain ⟨v, u, rfl⟩ : ∃ v u, vs = [v, u] := by
    match vs, l1 with
    | [v, u], _ => exact ⟨v, u, rfl⟩
  rcases gd.cases with ⟨e, _⟩ | ⟨_, _, _, _, _, _, e1, e2, e3, g1⟩
  · cases e
  cases e1; cases e2; cases e3
  rcases g1.rest.cases with ⟨e, _⟩ | ⟨_, _, _, _, _, _, e1, e2, e3, g2⟩
  · cases e
  cases e1; cases e2; cases e3
  refine ⟨v, u, rfl, k1 _ _ H' q g.fx ?_⟩
  have E1 : En c H' (σ.set i (some v)) (ρ'.set i s) := E.setS E' oi pi g1 (fun a ea n es e j es' _ h1 h2 => E.sepN E' n j es' h1 h2) fun bs e j ks h => absurd h (nb j ks)
  refine E.setS E1 oj pj g2 (fun a ea n es e m es' hm h1 h2 => ?_) fun bs e m ks h => ?_
  · rcases getSet h1 with ⟨em, e1⟩ | ⟨nm, h1⟩
    · subst em
      rcases getSet h2 with ⟨_, e2⟩ | ⟨z, _⟩
      · cases e2
        subst e1
        exact g1.far rfl rfl 0 es (by simp [e]) (by simp [ea])
      · exact z rfl
    · rcases getSet h2 with ⟨z, _⟩ | ⟨_, h2⟩
      · exact nm z
      · exact E.sepN E' n m es' h1 h2
  · rcases getSet h with ⟨em, e1⟩ | ⟨_, h⟩
    · subst e1
      cases g1
      subst e
      cases g2
      exact absurd rfl (hb1 rfl)
    · exact absurd h (nb m ks)
end
end DL
namespace DL
open PySem PySem.Spec PyProof.Rows L2
section
variable {X : Cx} {c : Ctx} {e a b b3 l tg : Expr} {es : List Expr} {pos : Pos} {st : Stmt} {sts body : List Stmt}
def wPar3 (i j l : Nat) (w : MW) : SW := fun D ρ => w ρ fun ss ρ' => NoBag ρ' ∧ ∃ s t u, ss = [s, t, u] ∧ D.nx (((ρ'.set i s).set j t).set l u)
theorem ds_par3 (i j l : Nat) {x y z : Str} {ks : List Kd} {w : MW} {px py pz pt : Pos} {kt k2 pt2} {k1' k2' k3' : Kd} (hks : ks = [k1', k2', k3'] := by rfl) (hc : X.calm = true) (hN : X.N.Nodup) (hi : X.N[i]? = some x) (hj : X.N[j]? = some y) (hl : X.N[l]? = some z) (hij : i ≠ j) (hil : i ≠ l) (hjl : j ≠ l)
    (hx : X.env.scope.names.lookup x = some .local) (hy : X.env.scope.names.lookup y = some .local) (hz : X.env.scope.names.lookup z = some .local) (oi : okS c i k1') (oj : okS c j k2') (ol : okS c l k3') (hb : (k1' = .b → k2' ≠ .b ∧ k3' ≠ .b) ∧ (k2' = .b → k3' ≠ .b)) (pi : c.pot = none ∨ i ≠ 0) (pj : c.pot = none ∨ j ≠ 0) (pl : c.pot = none ∨ l ≠ 0) (ha : PA X [a, b, b3] (tM c ks w))
    (hw : swappedStores [.Tuple [.Name x px, .Name y py, .Name z pz] kt pt] (.Tuple [a, b, b3] k2 pt2) X.env = pure (some [x, y, z]))
    (hs : swapsWithSole [.Tuple [.Name x px, .Name y py, .Name z pz] kt pt] (.Tuple [a, b, b3] k2 pt2) pos.line X.env = pure false := by rfl) :
    PS X (.Assign [.Tuple [.Name x px, .Name y py, .Name z pz] kt pt] (.Tuple [a, b, b3] k2 pt2) pos) (sD c (wPar3 i j l w)) := by
  subst hks
  refine PS.imp (ps_par3 hc hN hi hj hl hij hil hjl hx hy hz ha hw hs) ?_
  rintro D σ H ⟨ρ, D0, E, hw, k1, k2, k3, k4⟩
  refine ⟨ρ, _, E, hw, fun ss ρ' vs H' q g E' gd => ?_⟩
  obtain ⟨nb, s, t, r, rfl, q⟩ := q
  obtain ⟨l1, l2⟩ := gd.len
  obtain ⟨v, u, m, rfl⟩ : ∃ v u m, vs = [v, u, m] := by
    match vs, l1 with
    | [v, u, m], _ => exact ⟨v, u, m, rfl⟩
  rcases gd.cases with ⟨e, _⟩ | ⟨_, _, _, _, _, _, e1, e2, e3, g1⟩
  · cases e
  cases e1; cases e2; cases e3
  rcases g1.rest.cases with ⟨e, _⟩ | ⟨_, _, _, _, _, _, e1, e2, e3, g2⟩
  · cases e
  cases e1; cases e2; cases e3
  rcases g2.rest.cases with ⟨e, _⟩ | ⟨_, _, _, _, _, _, e1, e2, e3, g3⟩
  · cases e
  cases e1; cases e2; cases e3
  refine ⟨v, u, m, rfl, k1 _ _ H' q g.fx ?_⟩
  have E1 : En c H' (σ.set i (some v)) (ρ'.set i s) := E.setS E' oi pi g1 (fun a ea n es e j es' _ h1 h2 => E.sepN E' n j es' h1 h2) fun bs e j ks h => absurd h (nb j ks)
  have E2 : En c H' ((σ.set i (some v)).set j (some u)) ((ρ'.set i s).set j t) := by
    refine E.setS E1 oj pj g2 (fun a ea n es e m es' hm h1 h2 => ?_) fun bs e m ks h => ?_
    · rcases getSet h1 with ⟨em, e1⟩ | ⟨nm, h1⟩
      · subst em
        rcases getSet h2 with ⟨_, e2⟩ | ⟨z, _⟩
        · cases e2
          subst e1
          exact g1.far rfl rfl 0 es (by simp [e]) (by simp [ea])
        · exact z rfl
      · rcases getSet h2 with ⟨z, _⟩ | ⟨_, h2⟩
        · exact nm z
        · exact E.sepN E' n m es' h1 h2
    · rcases getSet h with ⟨em, e1⟩ | ⟨_, h⟩
      · subst e1
        cases g1
        subst e
        cases g2
        exact absurd rfl (hb.1 rfl).1
      · exact absurd h (nb m ks)
  refine E.setS E2 ol pl g3 (fun a ea n es e m es' hm h1 h2 => ?_) fun bs e m ks h => ?_
  · rcases getSet h1 with ⟨em, e1⟩ | ⟨nm, h1⟩
    · subst em
      rcases getSet h2 with ⟨_, e2⟩ | ⟨z, _⟩
      · cases e2
        subst e1
        exact g2.far rfl rfl 0 es (by simp [e]) (by simp [ea])
      · exact z rfl
    · rcases getSet h2 with ⟨z, _⟩ | ⟨_, h2⟩
      · exact nm z
      · rcases getSet h1 with ⟨em, e1⟩ | ⟨nm', h1⟩
        · subst em
          rcases getSet h2 with ⟨_, e2⟩ | ⟨z, _⟩
          · cases e2
            subst e1
            exact g1.far rfl rfl 1 es (by simp [e]) (by simp [ea])
          · exact z rfl
        · rcases getSet h2 with ⟨z, _⟩ | ⟨_, h2⟩
          · exact nm' z
          · exact E.sepN E' n m es' h1 h2
  · rcases getSet h with ⟨em, e1⟩ | ⟨_, h⟩
    · subst e1
      cases g2
      subst e
      cases g3
      exact absurd rfl (hb.2 rfl)
    · rcases getSet h with ⟨em, e1⟩ | ⟨_, h⟩
      · subst e1
        cases g1
        subst e
        cases g3
        exact absurd rfl (hb.1 rfl).2
      · exact absurd h (nb m ks)

/-! ### a list's methods -/
def wApp (i : Nat) (w : DW) : DW := fun ρ Q => (∃ ds, ρ[i]? = some (.own ds)) ∧ w ρ fun d ρ1 => ∃ ds : List D, ρ1[i]? = some (.own ds) ∧ ds.length < sizeLine ∧ Q .none (ρ1.set i (.own (ds ++ [d])))
theorem de_app (i : Nat) {x : Str} {w : DW} {p2 apos : Pos} (he : PE X e (tD c w)) (hN : X.N[i]? = some x := by rfl) (hv : Vis X.env.scope x := by first | exact Or.inl rfl | exact Or.inr (Or.inl rfl) | exact Or.inr (Or.inr rfl)) (hd : (x == ("__debug__" : Str)) = false := by decide)
    (hcd : (x == ("__classdict__" : Str)) = false := by decide) (hs : starEach [e] X.env = (false, eval e X.env) :: starEach [] X.env := by rfl)
    (hbase : attributeBase (.Name x p2) "append" X.env (eval (.Name x p2) X.env) = eval (.Name x p2) X.env := by rfl) (hfew : ((backTo pos (starEach [e] X.env)).all (fun x => !x.1) && (backToKw pos (keywordEach [] X.env)).all (fun x => x.1.isSome) && decide (([e] : List Expr).length + ([] : List Keyword).length + (if ([] : List Keyword).isEmpty then 0 else 1) < 30)) = true := by rfl) (hline : (apos.endLine == pos.line) = true := by rfl) (hpl : (backTo pos (starEach [] X.env)).any (·.1) = false := by rfl) :
    PE X (.Call (.Attribute (.Name x p2) "append" apos) [e] [] pos) (tD c (wApp i w)) := by
  refine PE.imp (pe_bm PySem.F.plainAttrs_list PySem.F.slot_list_append PySem.F.type_list_append mt_append (pe_var hN hv hd hcd) (pa_cons he pa_nil hs) hbase hfew hline hs hpl) ?_
  rintro σ H Q ⟨ρ, Q0, E, ⟨⟨ds, h1⟩, hw⟩, k⟩
  obtain ⟨x, hx, a, xs, rfl, ha, ix⟩ := E.at h1
  refine ⟨_, hx, .inl ⟨rfl, xs, SqL.of ha⟩, ρ, _, E, hw, fun d ρ1 v H1 q g E1 i1 => ?_⟩
  obtain ⟨ds', h1', hz, q⟩ := q
  obtain ⟨x', hx', a', xs', e1, ha', ix'⟩ := E1.at h1'
  rw [hx] at hx'
  cases hx'
  cases e1
  refine ⟨a, xs', v, rfl, rfl, ha', by rw [ix'.length]; exact hz, ?_⟩
  exact k _ _ .non _ q (g.trans (E1.updGr h1' hx)) (E1.updO h1' hx (ix'.append (IsAll.one i1))) .non
theorem mt_extendZ : MtR X "list.extend" (fun x vs H Q => ∃ l b xs zs o, x = .ref l ∧ vs = [.ref b] ∧ H l = some (.lst xs) ∧ H b = some (.frz o (.lst zs)) ∧ xs.length + zs.length ≤ sizeLine ∧ Q .non (upd H l (.lst (xs ++ zs)))) := by
  intro pins s σ H x vs v us Q I rx rv h
  obtain ⟨l, b, xs, zs, o, rfl, rfl, hH, hB, hz, q⟩ := h
  cases rx
  obtain ⟨u, rfl, ru⟩ := rv.one
  cases ru
  obtain ⟨z, its, n, r, hl, e⟩ := I.lstM hH
  obtain ⟨z2, its2, n2, r2, hl2, e2⟩ := exact_lst I hB
  have hsz : its.toArray.size + its2.toArray.size ≤ sizeLine := by rw [List.size_toArray, List.size_toArray]; omega
  have hlong : ¬ (!its.toArray.isEmpty && Builtin.List.listTooLong (its.toArray.size + its2.toArray.size)) = true := by
    rw [notLongL hsz, Bool.and_false]
    exact Bool.false_ne_true
  refine call_meets F.slot_list_extend ⟨_, e, rfl⟩ F.entry_list_extend (F.args_list_extend_2 _ _)
    (AutoSeq1.list_extend_list_list_0 l its.toArray n b its2.toArray n2 hlong (by rw [List.size_toArray]; omega) (by omega)) ⟨e, e2, ?_⟩
  refine ⟨.non, _, I.lset (its' := its ++ its2) hH e (by simp) (r.append r2) ?_, rfl, q⟩
  rw [List.length_append]
  omega
def wExt (i : Nat) (w : DW) : DW := fun ρ Q => (∃ ds, ρ[i]? = some (.own ds)) ∧ w ρ fun d ρ1 => ∃ ds es : List D, ρ1[i]? = some (.own ds) ∧ d = .list es ∧ ds.length + es.length ≤ sizeLine ∧ Q .none (ρ1.set i (.own (ds ++ es)))
theorem de_ext (i : Nat) {x : Str} {w : DW} {p2 apos : Pos} (he : PE X e (tD c w)) (hN : X.N[i]? = some x := by rfl) (hv : Vis X.env.scope x := by first | exact Or.inl rfl | exact Or.inr (Or.inl rfl) | exact Or.inr (Or.inr rfl)) (hd : (x == ("__debug__" : Str)) = false := by decide)
    (hcd : (x == ("__classdict__" : Str)) = false := by decide) (hs : starEach [e] X.env = (false, eval e X.env) :: starEach [] X.env := by rfl)
    (hbase : attributeBase (.Name x p2) "extend" X.env (eval (.Name x p2) X.env) = eval (.Name x p2) X.env := by rfl) (hfew : ((backTo pos (starEach [e] X.env)).all (fun x => !x.1) && (backToKw pos (keywordEach [] X.env)).all (fun x => x.1.isSome) && decide (([e] : List Expr).length + ([] : List Keyword).length + (if ([] : List Keyword).isEmpty then 0 else 1) < 30)) = true := by rfl) (hline : (apos.endLine == pos.line) = true := by rfl) (hpl : (backTo pos (starEach [] X.env)).any (·.1) = false := by rfl) :
    PE X (.Call (.Attribute (.Name x p2) "extend" apos) [e] [] pos) (tD c (wExt i w)) := by
  refine PE.imp (pe_bm PySem.F.plainAttrs_list PySem.F.slot_list_extend PySem.F.type_list_extend mt_extendZ (pe_var hN hv hd hcd) (pa_cons he pa_nil hs) hbase hfew hline hs hpl) ?_
  rintro σ H Q ⟨ρ, Q0, E, ⟨⟨ds, h1⟩, hw⟩, k⟩
  obtain ⟨x, hx, a, xs, rfl, ha, ix⟩ := E.at h1
  refine ⟨_, hx, .inl ⟨rfl, xs, SqL.of ha⟩, ρ, _, E, hw, fun d ρ1 v H1 q g E1 i1 => ?_⟩
  obtain ⟨ds', es', h1', rfl, hz, q⟩ := q
  obtain ⟨x', hx', a', xs', e1, ha', ix'⟩ := E1.at h1'
  rw [hx] at hx'
  cases hx'
  cases e1
  cases i1 with
  | @lst b o zs _ g1 g2 =>
    refine ⟨a, b, xs', zs, o, rfl, rfl, ha', g1, by rw [ix'.length, g2.length]; exact hz, ?_⟩
    exact k _ _ .non _ q (g.trans (E1.updGr h1' hx)) (E1.updO h1' hx (ix'.append g2)) .non
def wPop (i : Nat) : DW := fun ρ Q => ∃ (ds : List D) (d : D), ρ[i]? = some (.own (ds ++ [d])) ∧ Q d (ρ.set i (.own ds))
theorem de_pop (i : Nat) {x : Str} {p2 apos : Pos} (hN : X.N[i]? = some x := by rfl) (hv : Vis X.env.scope x := by first | exact Or.inl rfl | exact Or.inr (Or.inl rfl) | exact Or.inr (Or.inr rfl)) (hd : (x == ("__debug__" : Str)) = false := by decide)
    (hcd : (x == ("__classdict__" : Str)) = false := by decide)
    (hbase : attributeBase (.Name x p2) "pop" X.env (eval (.Name x p2) X.env) = eval (.Name x p2) X.env := by rfl) (hline : (apos.endLine == pos.line) = true := by rfl) :
    PE X (.Call (.Attribute (.Name x p2) "pop" apos) [] [] pos) (tD c (wPop i)) := by
  refine PE.imp (pe_bm0 PySem.F.plainAttrs_list PySem.F.slot_list_pop PySem.F.type_list_pop mt_pop (pe_var hN hv hd hcd) hbase hline) ?_
  rintro σ H Q ⟨ρ, Q0, E, ⟨ds, d, h1, q⟩, k⟩
  obtain ⟨x, hx, a, xs, rfl, ha, ix⟩ := E.at h1
  have hl := ix.length
  rw [List.length_append, List.length_singleton] at hl
  obtain ⟨v, hv, iv⟩ := ix.get (i := ds.length) (d := d) (by simp)
  have ixd : IsAll c.K H xs.dropLast ds := by
    have := ix.dropLast
    rwa [List.dropLast_concat] at this
  have fx : Fx H (upd H a (.lst xs.dropLast)) := (E.updGr h1 hx).fx
  refine ⟨_, hx, .inl ⟨rfl, xs, SqL.of ha⟩, a, xs, v, rfl, rfl, ha, by rw [hl]; exact hv, ?_⟩
  exact k _ _ v _ q (E.updGr h1 hx) (E.updO h1 hx ixd) (Is.mono fx d v iv)
def wPopAt (i : Nat) (w : DW) : DW := fun ρ Q => (∃ ds, ρ[i]? = some (.own ds)) ∧ w ρ fun e ρ1 => ∃ (ds : List D) (j : Int) (m : Nat) (d : D), ρ1[i]? = some (.own ds) ∧ e = .int j ∧ -(2 ^ 63) ≤ j ∧ j < 2 ^ 63 ∧ seqIndex? j ds.length = some m ∧ ds[m]? = some d ∧ Q d (ρ1.set i (.own (ds.eraseIdx m)))
theorem de_popAt (i : Nat) {x : Str} {w : DW} {p2 apos : Pos} (he : PE X e (tD c w)) (hN : X.N[i]? = some x := by rfl) (hv : Vis X.env.scope x := by first | exact Or.inl rfl | exact Or.inr (Or.inl rfl) | exact Or.inr (Or.inr rfl)) (hd : (x == ("__debug__" : Str)) = false := by decide)
    (hcd : (x == ("__classdict__" : Str)) = false := by decide) (hs : starEach [e] X.env = (false, eval e X.env) :: starEach [] X.env := by rfl)
    (hbase : attributeBase (.Name x p2) "pop" X.env (eval (.Name x p2) X.env) = eval (.Name x p2) X.env := by rfl) (hfew : ((backTo pos (starEach [e] X.env)).all (fun x => !x.1) && (backToKw pos (keywordEach [] X.env)).all (fun x => x.1.isSome) && decide (([e] : List Expr).length + ([] : List Keyword).length + (if ([] : List Keyword).isEmpty then 0 else 1) < 30)) = true := by rfl) (hline : (apos.endLine == pos.line) = true := by rfl) (hpl : (backTo pos (starEach [] X.env)).any (·.1) = false := by rfl) :
    PE X (.Call (.Attribute (.Name x p2) "pop" apos) [e] [] pos) (tD c (wPopAt i w)) := by
  refine PE.imp (pe_bm PySem.F.plainAttrs_list PySem.F.slot_list_pop PySem.F.type_list_pop mt_popAt (pe_var hN hv hd hcd) (pa_cons he pa_nil hs) hbase hfew hline hs hpl) ?_
  rintro σ H Q ⟨ρ, Q0, E, ⟨⟨ds, h1⟩, hw⟩, k⟩
  obtain ⟨x, hx, a, xs, rfl, ha, ix⟩ := E.at h1
  refine ⟨_, hx, .inl ⟨rfl, xs, SqL.of ha⟩, ρ, _, E, hw, fun d ρ1 v H1 q g E1 i1 => ?_⟩
  obtain ⟨ds', j, m, d', h1', rfl, hj1, hj2, hsi, hm, q⟩ := q
  obtain ⟨x', hx', a', xs', e1, ha', ix'⟩ := E1.at h1'
  rw [hx] at hx'
  cases hx'
  cases e1
  cases i1
  obtain ⟨v', hv', iv'⟩ := ix'.get hm
  have gr := E1.updGr (ys := xs'.eraseIdx m) h1' hx
  refine ⟨a, xs', j, m, v', rfl, rfl, ha', hj1, hj2, by rw [ix'.length]; exact hsi, hv', ?_⟩
  exact k _ _ v' _ q (g.trans gr) (E1.updO h1' hx (ix'.eraseIdx m)) (Is.mono gr.fx d' v' iv')
/-- xs[k] = e, k written -/
def wSetIx (i : Nat) (k : Int) (w : DW) : SW := fun DD ρ => w ρ fun d ρ1 => ∃ (ds : List D) (j : Nat), ρ1[i]? = some (.own ds) ∧ ixN ds.length k = some j ∧ DD.nx (ρ1.set i (.own (ds.set j d)))
theorem ds_setIx (i : Nat) {x : Str} {k : Int} {w : DW} {p2 p3 spos : Pos} {j0} (he : PE X e (tD c w)) (hN : X.N[i]? = some x := by rfl) (hv : Vis X.env.scope x := by first | exact Or.inl rfl | exact Or.inr (Or.inl rfl) | exact Or.inr (Or.inr rfl)) (hd : (x == ("__debug__" : Str)) = false := by decide)
    (hcd : (x == ("__classdict__" : Str)) = false := by decide)
    (ha : ∀ v, assign (.Subscript (.Name x p2) (.Constant (.int k) j0 p3) spos) X.env v = (do
      let ov ← holding [v] (eval (.Name x p2) X.env)
      let iv ← holding [v, ov] (eval (.Constant (.int k) j0 p3) X.env)
      standAt spos
      holding [v, ov, iv] (setItem ov iv v)
      release [v, ov, iv] []) := by intro _; rfl)
    (hs : swapsWithSole [.Subscript (.Name x p2) (.Constant (.int k) j0 p3) spos] e pos.line X.env = pure false := by rfl) (hw : swappedStores [.Subscript (.Name x p2) (.Constant (.int k) j0 p3) spos] e X.env = pure none := by rfl)
    (h1 : (assignEach [.Subscript (.Name x p2) (.Constant (.int k) j0 p3) spos] X.env).map (·.2) = [assign (.Subscript (.Name x p2) (.Constant (.int k) j0 p3) spos) X.env] := by rfl) :
    PS X (.Assign [.Subscript (.Name x p2) (.Constant (.int k) j0 p3) spos] e pos) (sD c (wSetIx i k w)) := by
  refine PS.imp (ps_asg he (pg_sub (pe_var hN hv hd hcd) pe_int set_list ha) hs hw h1) ?_
  rintro D σ H ⟨ρ, D0, E, hw, k1, k2, k3, k4⟩
  refine ⟨ρ, _, E, hw, fun d ρ1 v H1 q g E1 i1 => ?_⟩
  obtain ⟨ds, j, h1, hj, q⟩ := q
  obtain ⟨x, hx, a, xs, rfl, ha, ix⟩ := E1.at h1
  refine ⟨_, hx, a, xs, k, j, rfl, rfl, ha, by rw [ix.length]; exact hj, ?_⟩
  exact k1 _ _ _ q (g.fx.trans (E1.updGr h1 hx).fx) (E1.updO h1 hx (ix.set i1 j))

/-! ### the dict of one's own -/
theorem cmp_bag {neg : Bool} {w : World} (hu : X.A.units + 120 < cLine) : OpR X (compareOp (if neg then .NotIn else .In)) (fun x y H Q => ∃ a xs k d, y = .ref a ∧ H a = some (BagO X.w a xs) ∧ (a == sysModules) = false ∧ (xs.map (·.1)).Nodup ∧ (∀ e ∈ xs, KeyIs X.K H e) ∧ Is X.K H x d ∧ nkOf d = some k ∧ k.depth ≤ 8 ∧ topD d = true ∧ Q (.bl (xor neg (decide (k ∈ xs.map (·.1))))) H) := by
  intro pins s σ H x y v u Q I rx ry h
  obtain ⟨a, xs, k, d, rfl, ha, hm, hn, hk, i, nk, hd, ht, q⟩ := h
  cases ry
  obtain ⟨⟨o, es, ep, ho, hc, hda, he⟩, _, _⟩ := I.hok a _ ha
  obtain ⟨as, rd⟩ := Dp.reads I d x v (Is.dp d x (nk_plain d k nk) i) rx
  have kd : KeyOk s.heap k v := ⟨nested_of d k v as rd nk, hd, topKey_of i rx ht⟩
  exact mix_in (by omega) kd hm ⟨o, es, ep, ho, hc, hda, he, fun e he => (hk e he).ok I, hn⟩ neg fun tk => ⟨.bl _, H, I.tok tk, rfl, q⟩
def wInB (neg : Bool) (i : Nat) (w : DW) : DW := fun ρ Q => w ρ fun d ρ1 => ∃ (ks : List NK) (k : NK), ρ1[i]? = some (.bag ks) ∧ nkOf d = some k ∧ k.depth ≤ 8 ∧ topD d = true ∧ Q (.bool (xor neg (decide (k ∈ ks)))) ρ1
theorem inB_imp {neg : Bool} {i : Nat} {w : DW} (hK : c.K = X.K) (hW : c.w = X.w) : ∀ σ H Q, tD c (wInB neg i w) σ H Q → tOp (fun x y H Q => ∃ a xs k d, y = .ref a ∧ H a = some (BagO X.w a xs) ∧ (a == sysModules) = false ∧ (xs.map (·.1)).Nodup ∧ (∀ e ∈ xs, KeyIs X.K H e) ∧ Is X.K H x d ∧ nkOf d = some k ∧ k.depth ≤ 8 ∧ topD d = true ∧ Q (.bl (xor neg (decide (k ∈ xs.map (·.1))))) H) (tD c w) (tVar i) σ H Q := by
  rintro σ H Q ⟨ρ, Q0, E, hw, k⟩
  refine ⟨ρ, _, E, hw, fun d ρ1 v H1 q g E1 i1 => ?_⟩
  obtain ⟨ks, nk, h1, h2, h3, h4, q⟩ := q
  obtain ⟨x, hx, a, xs, rfl, ha, hm, rfl, hn, hk⟩ := E1.at h1
  exact ⟨_, hx, a, xs, nk, d, rfl, by rw [← hW]; exact ha, hm, hn, by rw [← hK]; exact hk, by rw [← hK]; exact i1, h2, h3, h4, k _ ρ1 _ H1 q g E1 (.bl _)⟩
theorem dt_inB (i : Nat) {x : Str} {w : DW} {p2 : Pos} (hu : X.A.units + 120 < cLine) (he : PE X e (tD c w)) (hN : X.N[i]? = some x := by rfl) (hv : Vis X.env.scope x := by first | exact Or.inl rfl | exact Or.inr (Or.inl rfl) | exact Or.inr (Or.inr rfl)) (hd : (x == ("__debug__" : Str)) = false := by decide)
    (hcd : (x == ("__classdict__" : Str)) = false := by decide) (hm : behindInMarks .NotIn (.Name x p2) = false := by rfl) (hK : c.K = X.K := by rfl) (hW : c.w = X.w := by rfl) : PT X (.Compare e [.NotIn] [.Name x p2] pos) (tT c (wTst (wInB true i w))) :=
  PT.imp (pt_cmpR (cmp_bag (neg := true) (w := X.w) hu) he (pe_var hN hv hd hcd) hm) (tst_imp (inB_imp hK hW))
/-- d[k] = v for it -/
def wPutB (i : Nat) (wk wv : DW) : SW := fun D ρ => wv ρ fun _ ρ1 => (∃ ks, ρ1[i]? = some (.bag ks)) ∧ wk ρ1 fun d ρ2 => ∃ (ks : List NK) (k : NK), ρ2[i]? = some (.bag ks) ∧ nkOf d = some k ∧ k.depth ≤ 8 ∧ topD d = true ∧ ks.length < sizeLine ∧ D.nx (ρ2.set i (.bag (if k ∈ ks then ks else ks ++ [k])))
theorem putM_keys {xs : List ME} {k : NK} {v u : Value} : (putM xs k v u).map (·.1) = if k ∈ xs.map (·.1) then xs.map (·.1) else xs.map (·.1) ++ [k] := by
  unfold putM
  split
  · rw [List.map_map]
    have : (Prod.fst ∘ fun x : ME => if x.1 = k then (x.1, x.2.1, u) else x) = Prod.fst := by
      funext x
      by_cases e : x.1 = k <;> simp [e]
    rw [this]
  · rw [List.map_append]; rfl
theorem putM_mem {xs : List ME} {k : NK} {v u : Value} {e : ME} (h : e ∈ putM xs k v u) : (∃ e' ∈ xs, e.1 = e'.1 ∧ e.2.1 = e'.2.1) ∨ (e.1 = k ∧ e.2.1 = v) := by
  unfold putM at h
  split at h
  · obtain ⟨x, hx, rfl⟩ := List.mem_map.mp h
    refine .inl ⟨x, hx, ?_⟩
    by_cases e : x.1 = k <;> simp [e]
  · rcases List.mem_append.mp h with h | h
    · exact .inl ⟨e, h, rfl, rfl⟩
    · simp at h
      subst h
      exact .inr ⟨rfl, rfl⟩
theorem set_bag (hu : X.A.units + 120 < cLine) : PSet X (fun o i v H Q => ∃ a xs k d, o = .ref a ∧ H a = some (BagO X.w a xs) ∧ (xs.map (·.1)).Nodup ∧ (∀ e ∈ xs, KeyIs X.K H e) ∧ Is X.K H i d ∧ nkOf d = some k ∧ k.depth ≤ 8 ∧ topD d = true ∧ xs.length < sizeLine ∧
    ∀ ys : List ME, (ys.map (·.1)).Nodup → ys.map (·.1) = (if k ∈ xs.map (·.1) then xs.map (·.1) else xs.map (·.1) ++ [k]) → (∀ e ∈ ys, KeyIs X.K H e) → Q (upd H a (BagO X.w a ys))) := by
  intro pins s σ H o i v ov iv u Q I ro ri rv h
  obtain ⟨a, xs, k, d, rfl, ha, hn, hk, id', nk, hd, ht, hz, q⟩ := h
  cases ro
  obtain ⟨⟨ob, es, ep, ho, hc, hda, he⟩, _, _⟩ := I.hok a _ ha
  obtain ⟨as, rd⟩ := Dp.reads I d i iv (Is.dp d i (nk_plain d k nk) id') ri
  have kd : KeyOk s.heap k iv := ⟨nested_of d k iv as rd nk, hd, topKey_of id' ri ht⟩
  refine mix_put (by omega) kd ⟨ob, es, ep, ho, hc, hda, he, fun e he => (hk e he).ok I, hn⟩ hz fun h' tk hm' hn' hs => ?_
  refine ⟨_, I.write (t' := tk) (x := a) (e := a) (o := BagO X.w a (putM xs k iv u)) (by rw [ha]; exact trivial) (.inl rfl) (fun b w hb e => (hs.2 b hb).trans e) (let ⟨o, _, _, e, _⟩ := hm'; ⟨o, e⟩) ⟨hm', (let ⟨o, _, _, e, _⟩ := hm'; ⟨o, e⟩), fun h1 h2 ⟨o, es, ep, e, r⟩ k => ⟨o, es, ep, k o e, r⟩⟩, q (putM xs k iv u) hn' putM_keys fun e he => ?_⟩
  rcases putM_mem he with ⟨e', he', e1, e2⟩ | ⟨e1, e2⟩
  · obtain ⟨p1, p2, p3⟩ := hk e' he'
    exact ⟨by rw [e1]; exact p1, by rw [e2]; exact p2, by rw [e1, e2]; exact p3⟩
  · exact ⟨by rw [e1]; exact hd, by rw [e2]; exact kd.2.2, d, i, by rw [e2]; exact ri, id', by rw [e1]; exact nk⟩
theorem ds_putB (i : Nat) {x : Str} {kx vx : Expr} {wk wv : DW} {p2 spos : Pos} (hu : X.A.units + 120 < cLine) (hk : PE X kx (tD c wk)) (hvx : PE X vx (tD c wv)) (hN : X.N[i]? = some x := by rfl) (hv : Vis X.env.scope x := by first | exact Or.inl rfl | exact Or.inr (Or.inl rfl) | exact Or.inr (Or.inr rfl)) (hd : (x == ("__debug__" : Str)) = false := by decide)
    (hcd : (x == ("__classdict__" : Str)) = false := by decide) (hK : c.K = X.K := by rfl) (hW : c.w = X.w := by rfl)
    (ha : ∀ v, assign (.Subscript (.Name x p2) kx spos) X.env v = (do
      let ov ← holding [v] (eval (.Name x p2) X.env)
      let iv ← holding [v, ov] (eval kx X.env)
      standAt spos
      holding [v, ov, iv] (setItem ov iv v)
      release [v, ov, iv] []) := by intro _; rfl)
    (hs : swapsWithSole [.Subscript (.Name x p2) kx spos] vx pos.line X.env = pure false := by rfl) (hw : swappedStores [.Subscript (.Name x p2) kx spos] vx X.env = pure none := by rfl)
    (h1 : (assignEach [.Subscript (.Name x p2) kx spos] X.env).map (·.2) = [assign (.Subscript (.Name x p2) kx spos) X.env] := by rfl) :
    PS X (.Assign [.Subscript (.Name x p2) kx spos] vx pos) (sD c (wPutB i wk wv)) := by
  refine PS.imp (ps_asg hvx (pg_sub (pe_var hN hv hd hcd) hk (set_bag hu) ha) hs hw h1) ?_
  rintro D σ H ⟨ρ, D0, E, hw, k1, k2, k3, k4⟩
  refine ⟨ρ, _, E, hw, fun d ρ1 v H1 q g E1 i1 => ?_⟩
  obtain ⟨⟨ks0, h0⟩, q⟩ := q
  obtain ⟨x, hx, a, xs0, rfl, _⟩ := E1.at h0
  refine ⟨_, hx, ρ1, _, E1, q, fun kd ρ2 kv H2 q2 g2 E2 i2 => ?_⟩
  obtain ⟨ks, k, h1, h2, h3, h4, hz, q2⟩ := q2
  obtain ⟨x', hx', a', xs, e1, ha, hm, rfl, hn, hk⟩ := E2.at h1
  rw [hx] at hx'
  cases hx'
  cases e1
  refine ⟨a, xs, k, kd, rfl, by rw [← hW]; exact ha, hn, by rw [← hK]; exact hk, by rw [← hK]; exact i2, h2, h3, h4, by simpa using hz, fun ys hn' hy hk' => ?_⟩
  obtain ⟨E3, g3⟩ := E2.updB h1 hx hn' (by rw [hK]; exact hk')
  rw [← hW]
  rw [hy] at E3
  exact k1 _ _ _ q2 ((g.fx.trans g2.fx).trans g3.fx) E3
end
end DL
namespace DL
open PySem PySem.Spec PyProof.Rows L2
section
variable {X : Cx} {c : Ctx} {e a b b3 l tg : Expr} {es : List Expr} {pos : Pos} {st : Stmt} {sts body : List Stmt}
/-! ### loops -/
def wFor (wi : LW) (g : GW) (wb : SW) : SW := fun DD ρ => wi ρ fun (xs : List D) ρ1 => ∃ W : Nat → List Sl → Prop, W 0 ρ1 ∧
  (∀ (i : Nat) (x : D) (ρ2 : List Sl), xs[i]? = some x → W i ρ2 → g x ρ2 fun ρ3 => wb { DD with nx := W (i + 1), ct := W (i + 1), bk := DD.nx } ρ3) ∧ ∀ ρ2, W xs.length ρ2 → DD.nx ρ2
theorem ds_for {R : Rel} {iter : Expr} {wi : LW} {g : GW} {wb : SW} {vs : List Nat} (hp : PassesOwn (model X.prog X.w) X.A X.env X.xe) (hc : X.calm = true) (hi : PI X tg iter (iR R c wi)) (hg : PG X tg (gR R c vs g)) (hb : PSs X body (sD c wb))
    (hs : ∀ x, foldedSetIterable iter X.env x = pure x := by intro _; rfl) : PS X (.For tg iter body [] pos) (sD c (wFor wi g wb)) := by
  refine PS.imp (ps_for hp hc hi hg hb hs) ?_
  rintro DD σ H ⟨ρ, D0, E, hw, k1, k2, k3, k4⟩
  refine ⟨ρ, _, E, hw, fun xs ρ' J H1 q g1 E1 hJ => ?_⟩
  obtain ⟨W, w0, ws, wd⟩ := q
  obtain ⟨jgo, jy, jstop⟩ := hJ
  refine ⟨fun i m σ2 H2 => m = xs.length - i ∧ i ≤ xs.length ∧ ∃ ρ2, W i ρ2 ∧ En c H2 σ2 ρ2 ∧ Fx H1 H2, ⟨xs.length, by simp, Nat.zero_le _, ρ', w0, E1, Fx.refl _⟩, ?_⟩
  rintro i m σ2 H2 ⟨rfl, hi, ρ2, hW, E2, fx⟩
  by_cases hlt : i < xs.length
  · refine .inr ⟨jgo i H2 fx hlt, fun σ3 H3 => ∃ ρ3, W (i + 1) ρ3 ∧ En c H3 σ3 ρ3 ∧ Fx H1 H3, fun σ3 H3 q => ⟨xs.length - (i + 1), by omega, rfl, hlt, q⟩, fun x H3 y => ?_⟩
    have hx := List.getElem?_eq_getElem hlt
    obtain ⟨sm, rx⟩ := jy i x H2 H3 xs[i] fx hx y
    refine ⟨xs[i], ρ2, _, rx, E2.same sm, ws i xs[i] ρ2 hx hW, fun ρ3 σ3 q3 o3 E3 => ?_⟩
    refine ⟨ρ3, _, E3, q3, fun ρ4 σ4 H4 q4 f4 E4 => ⟨ρ4, q4, E4, (fx.trans (Same.fx sm)).trans f4⟩, fun r ρ4 σ4 v H4 q4 f4 E4 i4 => k2 r ρ4 σ4 v H4 q4 (((g1.fx.trans fx).trans (Same.fx sm)).trans f4) E4 i4, fun ρ4 σ4 H4 q4 f4 E4 => k1 ρ4 σ4 H4 q4 (((g1.fx.trans fx).trans (Same.fx sm)).trans f4) E4, fun ρ4 σ4 H4 q4 f4 E4 => ⟨ρ4, q4, E4, (fx.trans (Same.fx sm)).trans f4⟩⟩
  · have e : i = xs.length := by omega
    subst e
    exact .inl ⟨jstop _ H2 fx (Nat.le_refl _), k1 ρ2 σ2 H2 (wd ρ2 hW) (g1.fx.trans fx) E2⟩
def wWhile (t : BW) (wb : SW) : SW := fun DD ρ => ∃ W : Nat → List Sl → Prop, (∃ m, W m ρ) ∧ ∀ (m : Nat) (ρ1 : List Sl), W m ρ1 → t ρ1 fun b ρ2 => if b = true then wb { DD with nx := fun ρ3 => ∃ m', m' < m ∧ W m' ρ3, ct := fun ρ3 => ∃ m', m' < m ∧ W m' ρ3, bk := DD.nx } ρ2 else DD.nx ρ2
theorem ds_while {t : BW} {wb : SW} (hp : PassesOwn (model X.prog X.w) X.A X.env X.xe) (hc : PT X e (tT c t)) (hb : PSs X body (sD c wb)) : PS X (.While e body [] pos) (sD c (wWhile t wb)) := by
  refine PS.imp (ps_while hp hc hb) ?_
  rintro DD σ H ⟨ρ, D0, E, ⟨W, ⟨m0, w0⟩, ws⟩, k1, k2, k3, k4⟩
  refine ⟨fun m σ2 H2 => ∃ ρ2, W m ρ2 ∧ En c H2 σ2 ρ2 ∧ Fx H H2, ⟨m0, ρ, w0, E, Fx.refl _⟩, ?_⟩
  rintro m σ2 H2 ⟨ρ2, hW, E2, fx⟩
  refine ⟨ρ2, _, E2, ws m ρ2 hW, fun b ρ3 H3 q g3 E3 => ?_⟩
  cases b with
  | false => exact k1 ρ3 σ2 H3 q (fx.trans g3.fx) E3
  | true =>
    refine ⟨fun σ4 H4 => ∃ m', m' < m ∧ ∃ ρ2, W m' ρ2 ∧ En c H4 σ4 ρ2 ∧ Fx H H4, fun σ4 H4 q => q, ρ3, _, E3, q, fun ρ4 σ4 H4 q4 f4 E4 => ?_, fun r ρ4 σ4 v H4 q4 f4 E4 i4 => k2 r ρ4 σ4 v H4 q4 ((fx.trans g3.fx).trans f4) E4 i4, fun ρ4 σ4 H4 q4 f4 E4 => k1 ρ4 σ4 H4 q4 ((fx.trans g3.fx).trans f4) E4, fun ρ4 σ4 H4 q4 f4 E4 => ?_⟩
    · obtain ⟨m', hm, w'⟩ := q4
      exact ⟨m', hm, ρ4, w', E4, (fx.trans g3.fx).trans f4⟩
    · obtain ⟨m', hm, w'⟩ := q4
      exact ⟨m', hm, ρ4, w', E4, (fx.trans g3.fx).trans f4⟩
/-- xs != e, xs one's own -/
def wOwnNe (i : Nat) (w : DW) : DW := fun ρ Q => (∃ ds, ρ[i]? = some (.own ds)) ∧ w ρ fun d ρ1 => ∃ (ds : List D) (r : D), ρ1[i]? = some (.own ds) ∧ neD (.list ds) d = some r ∧ Q r ρ1
theorem ownNe_imp {i : Nat} {w : DW} (hK : c.K = X.K) : ∀ σ H Q, tD c (wOwnNe i w) σ H Q → tOp (rPl X.K neD) (tVar i) (tD c w) σ H Q := by
  rintro σ H Q ⟨ρ, Q0, E, ⟨⟨ds, h1⟩, hw⟩, k⟩
  obtain ⟨x, hx, a, xs, rfl, ha, ix⟩ := E.at h1
  refine ⟨_, hx, ρ, _, E, hw, fun d ρ1 v H1 q g E1 i1 => ?_⟩
  obtain ⟨ds', r, h1', hr, q⟩ := q
  obtain ⟨x', hx', a', xs', e1, ha', ix'⟩ := E1.at h1'
  rw [hx] at hx'
  cases hx'
  cases e1
  obtain ⟨p1, p2, _⟩ := pl2_of (neD_pl hr)
  refine ⟨.list ds', d, r, .lst (SqL.of ha') ?_, ?_, hr, fun z H3 sm iz => k r ρ1 z H3 q (g.trans (Gr.same sm)) (E1.same sm) (by rw [hK]; exact iz)⟩
  · rw [← hK]; exact IsAll.dp ds' xs' (by simpa only [PyData.plain] using p1) ix'
  · rw [← hK]; exact Is.dp d v p2 i1
theorem dt_ownNe (i : Nat) {x : Str} {w : DW} {p2 : Pos} (hu : X.A.units + 120 < cLine) (he : PE X e (tD c w)) (hm : behindInMarks .NotEq e = false) (hN : X.N[i]? = some x := by rfl) (hv : Vis X.env.scope x := by first | exact Or.inl rfl | exact Or.inr (Or.inl rfl) | exact Or.inr (Or.inr rfl)) (hd : (x == ("__debug__" : Str)) = false := by decide)
    (hcd : (x == ("__classdict__" : Str)) = false := by decide) (hK : c.K = X.K := by rfl) : PT X (.Compare (.Name x p2) [.NotEq] [e] pos) (tT c (wTst (wOwnNe i w))) :=
  PT.imp (pt_cmpR (op_neP hu) (pe_var hN hv hd hcd) he hm) (tst_imp (ownNe_imp hK))

/-! ### defs: what they promise -/
abbrev PN := List D → (Rv → Prop) → Prop
abbrev PP := List D → List D → (Rv → List D → Prop) → Prop
/-- a def of data -/
def spN (K : PySem.W.Frag) (n : Nat) (w : PN) : Sp := fun vs H Q _ => ∃ (ds : List D) (Q0 : Rv → Prop), IsAll K H vs ds ∧ ds.length = n ∧ w ds Q0 ∧ ∀ r v H', Q0 r → Same H H' → RvIs K H H' v r → Q v H'
/-- a def whose first argument is a list that it changes -/
def spP (K : PySem.W.Frag) (n : Nat) (w : PP) : Sp := fun vs H Q _ => ∃ (a : Addr) (vr : List V) (xs : List V) (ps ds : List D) (Q0 : Rv → List D → Prop), vs = .ref a :: vr ∧ H a = some (.lst xs) ∧ IsAll K H xs ps ∧ IsAll K H vr ds ∧ ds.length = n ∧ w ps ds Q0 ∧
  ∀ r ps' v H' xs', Q0 r ps' → (∀ b o, b ≠ a → H b = some o → H' b = some o) → H' a = some (.lst xs') → IsAll K H' xs' ps' → RvIs K H H' v r → Q v H'
/-- an own def's call -/
def wCall (n : Nat) (w : PN) (wa : LW) : DW := fun ρ Q => wa ρ fun ds ρ1 => ds.length = n ∧ w ds fun r => ∃ d, r = .d d ∧ Q d ρ1
def wCallF (n : Nat) (w : PN) (wa : LW) : LW := fun ρ Q => wa ρ fun ds ρ1 => ds.length = n ∧ w ds fun r => ∃ d, r = .f d ∧ Q d ρ1
variable {CX : CXT} {k : Nat} {f : Addr} {fd : FuncData} {ps : List Str} {x : Str} {p : Pos} {E0' : XK}
theorem call_imp {n : Nat} {w : PN} {wa : LW} {K : PySem.W.Frag} {E : XK} (hK : c.K = K) : ∀ σ H Q, tD c (wCall n w wa) σ H Q → tCall (spN K n w) [] E (tA c wa) σ H Q := by
  subst hK
  rintro σ H Q ⟨ρ, Q0, E, hw, k⟩
  refine ⟨ρ, _, E, hw, fun ds ρ1 vs H1 q g E1 i1 => ?_⟩
  refine ⟨ds, _, by rw [List.append_nil]; exact i1, q.1, q.2, fun r v H2 q2 sm rv => ?_⟩
  obtain ⟨d, rfl, q2⟩ := q2
  exact k d ρ1 v H2 q2 (g.trans (Gr.same sm)) (E1.same sm) rv
theorem callF_imp {n : Nat} {w : PN} {wa : LW} {K : PySem.W.Frag} {E : XK} (hK : c.K = K) : ∀ σ H Q, tF c (wCallF n w wa) σ H Q → tCall (spN K n w) [] E (tA c wa) σ H Q := by
  subst hK
  rintro σ H Q ⟨ρ, Q0, E, hw, k⟩
  refine ⟨ρ, _, E, hw, fun ds ρ1 vs H1 q g E1 i1 => ?_⟩
  refine ⟨ds, _, by rw [List.append_nil]; exact i1, q.1, q.2, fun r v H2 q2 sm rv => ?_⟩
  obtain ⟨d, rfl, q2⟩ := q2
  obtain ⟨a, xs, rfl, n, ha, ix⟩ := rv
  exact k d ρ1 a xs H2 q2 (g.trans (Gr.same sm)) (E1.same sm) (g.free E1 n) ha ix
theorem de_call {n : Nat} {w : PN} {wa : LW} (F : FnOk X.prog X.w X.K X.mg X.base CX k f fd ps (spN X.K n w)) (hr : Room k X.A) (hg : Gl X x) (hm : X.mg x = some (.ref f)) (hk : PySem.W.keepIn X.K (.ref f) = true) (hb : Binds X.K fd ps []) (hx : Passes CX X E0') (ha : PA X (e :: es) (tA c wa)) (hK : c.K = X.K := by rfl)
    (hdb : (x == ("__debug__" : Str)) = false := by decide) (he : starEach (e :: es) X.env = (false, eval e X.env) :: starEach es X.env := by rfl) (hpl : (backTo pos (starEach es X.env)).any (·.1) = false := by rfl) : PE X (.Call (.Name x p) (e :: es) [] pos) (tD c (wCall n w wa)) :=
  PE.imp (pe_call F hr hg hm hk hb .nil hx ha hdb he hpl) (call_imp hK)
theorem df_call {n : Nat} {w : PN} {wa : LW} (F : FnOk X.prog X.w X.K X.mg X.base CX k f fd ps (spN X.K n w)) (hr : Room k X.A) (hg : Gl X x) (hm : X.mg x = some (.ref f)) (hk : PySem.W.keepIn X.K (.ref f) = true) (hb : Binds X.K fd ps []) (hx : Passes CX X E0') (ha : PA X (e :: es) (tA c wa)) (hK : c.K = X.K := by rfl)
    (hdb : (x == ("__debug__" : Str)) = false := by decide) (he : starEach (e :: es) X.env = (false, eval e X.env) :: starEach es X.env := by rfl) (hpl : (backTo pos (starEach es X.env)).any (·.1) = false := by rfl) : PE X (.Call (.Name x p) (e :: es) [] pos) (tF c (wCallF n w wa)) :=
  PE.imp (pe_call F hr hg hm hk hb .nil hx ha hdb he hpl) (callF_imp hK)
/-- .. whose first argument is a list of one's own, in slot i -/
def wCallP (i n : Nat) (w : PP) (wa : LW) : DW := fun ρ Q => (∃ ps, ρ[i]? = some (.own ps)) ∧ wa ρ fun ds ρ1 => ∃ ps, ρ1[i]? = some (.own ps) ∧ ds.length = n ∧ w ps ds fun r ps' => ∃ d, r = .d d ∧ Q d (ρ1.set i (.own ps'))
def wCallPF (i n : Nat) (w : PP) (wa : LW) : LW := fun ρ Q => (∃ ps, ρ[i]? = some (.own ps)) ∧ wa ρ fun ds ρ1 => ∃ ps, ρ1[i]? = some (.own ps) ∧ ds.length = n ∧ w ps ds fun r ps' => ∃ d, r = .f d ∧ Q d (ρ1.set i (.own ps'))
theorem callP_imp {i n : Nat} {w : PP} {wa : LW} {K : PySem.W.Frag} {E : XK} (hK : c.K = K) : ∀ σ H Q, tD c (wCallP i n w wa) σ H Q → tCall (spP K n w) [] E (tCons (tVar i) (tA c wa)) σ H Q := by
  subst hK
  rintro σ H Q ⟨ρ, Q0, E, ⟨⟨ps0, h0⟩, hw⟩, k⟩
  obtain ⟨x0, hx, a, xs0, rfl, ha0, ix0⟩ := E.at h0
  refine ⟨_, hx, ρ, _, E, hw, fun ds ρ1 vs H1 q g E1 i1 => ?_⟩
  obtain ⟨ps, h1, hl, q⟩ := q
  obtain ⟨x1, hx1, a1, xs, e1, ha, ix⟩ := E1.at h1
  rw [hx] at hx1
  cases hx1
  cases e1
  refine ⟨a, vs, xs, ps, ds, _, by simp, ha, ix, i1, hl, q, fun r ps' v H2 xs' q2 kp ha' ix' rv => ?_⟩
  obtain ⟨d, rfl, q2⟩ := q2
  obtain ⟨E2, g2⟩ := E1.call h1 hx kp ha' ix'
  exact k d _ v H2 q2 (g.trans g2) E2 rv
theorem callPF_imp {i n : Nat} {w : PP} {wa : LW} {K : PySem.W.Frag} {E : XK} (hK : c.K = K) : ∀ σ H Q, tF c (wCallPF i n w wa) σ H Q → tCall (spP K n w) [] E (tCons (tVar i) (tA c wa)) σ H Q := by
  subst hK
  rintro σ H Q ⟨ρ, Q0, E, ⟨⟨ps0, h0⟩, hw⟩, k⟩
  obtain ⟨x0, hx, a, xs0, rfl, ha0, ix0⟩ := E.at h0
  refine ⟨_, hx, ρ, _, E, hw, fun ds ρ1 vs H1 q g E1 i1 => ?_⟩
  obtain ⟨ps, h1, hl, q⟩ := q
  obtain ⟨x1, hx1, a1, xs, e1, ha, ix⟩ := E1.at h1
  rw [hx] at hx1
  cases hx1
  cases e1
  refine ⟨a, vs, xs, ps, ds, _, by simp, ha, ix, i1, hl, q, fun r ps' v H2 xs' q2 kp ha' ix' rv => ?_⟩
  obtain ⟨d, rfl, q2⟩ := q2
  obtain ⟨b, ys, rfl, nb, hb, iy⟩ := rv
  obtain ⟨E2, g2⟩ := E1.call h1 hx kp ha' ix'
  exact k d _ b ys H2 q2 (g.trans g2) E2 (g.free E1 nb) hb iy
theorem de_callP (i : Nat) {n : Nat} {w : PP} {wa : LW} {y : Str} {py : Pos} (F : FnOk X.prog X.w X.K X.mg X.base CX k f fd ps (spP X.K n w)) (hr : Room k X.A) (hg : Gl X x) (hm : X.mg x = some (.ref f)) (hk : PySem.W.keepIn X.K (.ref f) = true) (hb : Binds X.K fd ps []) (hx : Passes CX X E0') (ha : PA X es (tA c wa))
    (hN : X.N[i]? = some y := by rfl) (hv : Vis X.env.scope y := by first | exact Or.inl rfl | exact Or.inr (Or.inl rfl) | exact Or.inr (Or.inr rfl)) (hd : (y == ("__debug__" : Str)) = false := by decide) (hcd : (y == ("__classdict__" : Str)) = false := by decide) (hK : c.K = X.K := by rfl)
    (hdb : (x == ("__debug__" : Str)) = false := by decide) (he : starEach (.Name y py :: es) X.env = (false, eval (.Name y py) X.env) :: starEach es X.env := by rfl) (hpl : (backTo pos (starEach es X.env)).any (·.1) = false := by rfl) : PE X (.Call (.Name x p) (.Name y py :: es) [] pos) (tD c (wCallP i n w wa)) :=
  PE.imp (pe_call F hr hg hm hk hb .nil hx (pa_cons (pe_var hN hv hd hcd) ha he) hdb he hpl) (callP_imp hK)
theorem df_callP (i : Nat) {n : Nat} {w : PP} {wa : LW} {y : Str} {py : Pos} (F : FnOk X.prog X.w X.K X.mg X.base CX k f fd ps (spP X.K n w)) (hr : Room k X.A) (hg : Gl X x) (hm : X.mg x = some (.ref f)) (hk : PySem.W.keepIn X.K (.ref f) = true) (hb : Binds X.K fd ps []) (hx : Passes CX X E0') (ha : PA X es (tA c wa))
    (hN : X.N[i]? = some y := by rfl) (hv : Vis X.env.scope y := by first | exact Or.inl rfl | exact Or.inr (Or.inl rfl) | exact Or.inr (Or.inr rfl)) (hd : (y == ("__debug__" : Str)) = false := by decide) (hcd : (y == ("__classdict__" : Str)) = false := by decide) (hK : c.K = X.K := by rfl)
    (hdb : (x == ("__debug__" : Str)) = false := by decide) (he : starEach (.Name y py :: es) X.env = (false, eval (.Name y py) X.env) :: starEach es X.env := by rfl) (hpl : (backTo pos (starEach es X.env)).any (·.1) = false := by rfl) : PE X (.Call (.Name x p) (.Name y py :: es) [] pos) (tF c (wCallPF i n w wa)) :=
  PE.imp (pe_call F hr hg hm hk hb .nil hx (pa_cons (pe_var hN hv hd hcd) ha he) hdb he hpl) (callPF_imp hK)
end

/-! ### a def keeps its promise -/
section
variable {P : Program} {w : World} {K : PySem.W.Frag} {mg : Str → Option Value} {base : Heap} {x qual : Str} {st : Stmt} {f : Addr} {fd : FuncData} {N ps : List Str} {k : Nat}
def slots (N : List Str) (ds : List D) : List Sl := ds.map Sl.dat ++ List.replicate (N.length - ds.length) .un
theorem start_get {vs : List V} {N : List Str} {i : Nat} {v : V} (h : (L2.start N vs)[i]? = some (some v)) : vs[i]? = some v := by
  unfold L2.start at h
  by_cases hi : i < vs.length
  · rw [List.getElem?_append_left (by simpa using hi), List.getElem?_map] at h
    cases e : vs[i]? with
    | none => rw [e] at h; cases h
    | some a => rw [e] at h; cases h; rfl
  · rw [List.getElem?_append_right (by simpa using hi), List.getElem?_replicate] at h
    split at h <;> cases h
theorem slots_get {N : List Str} {ds : List D} {i : Nat} {s : Sl} (h : (slots N ds)[i]? = some s) : (∃ d, s = .dat d ∧ ds[i]? = some d) ∨ s = .un := by
  unfold slots at h
  by_cases hi : i < ds.length
  · rw [List.getElem?_append_left (by simpa using hi), List.getElem?_map] at h
    cases e : ds[i]? with
    | none => rw [e] at h; cases h
    | some a => rw [e] at h; cases h; exact .inl ⟨a, rfl, rfl⟩
  · rw [List.getElem?_append_right (by simpa using hi), List.getElem?_replicate] at h
    split at h
    · exact .inr (Option.some.inj h).symm
    · cases h
theorem start_dat {vs : List V} {N : List Str} {i : Nat} {y : Option V} (hi : i < vs.length) (h : (L2.start N vs)[i]? = some y) : ∃ v, y = some v ∧ vs[i]? = some v := by
  unfold L2.start at h
  rw [List.getElem?_append_left (by simpa using hi), List.getElem?_map, List.getElem?_eq_getElem hi] at h
  exact ⟨_, (Option.some.inj h).symm, List.getElem?_eq_getElem hi⟩
theorem defN {n : Nat} {w' : PN} (F : Fun K x qual st f fd) (S : FnScope N ps (defScope st)) (M : List Nat) (wb : SW) (hn : ps.length = n) (hM : ∀ i, i ∈ M → n ≤ i)
    (hbody : ∀ (cdv : Value) (A : Around) (outer : List Env) (s : Shared) (H : Hp) (E : XK), Room k (A.deeper (envOfC qual (defScope st) s.heap.objs.size f cdv)) → PSs (cxOf CX0 P w K mg base N qual (defScope st) f cdv A outer s H E).nox (defBody st) (sD ⟨w, K, M, none, H⟩ wb))
    (hw : ∀ ds Q0, ds.length = n → w' ds Q0 → wb ⟨fun _ => Q0 (.d .none), fun r _ => Q0 r, fun _ => False, fun _ => False⟩ (slots N ds)) : FnOk P w K mg base CX0 (k + 1) f fd ps (spN K n w') := by
  refine F.ok S (fun vs H Q E h => ?_) (fun cdv A outer s H vs Q E hr h => ?_)
  · obtain ⟨ds, Q0, ia, hl, _⟩ := h
    rw [ia.length, hl, hn]
  · obtain ⟨ds, Q0, ia, hl, hq, k⟩ := h
    have hlv : vs.length = n := by rw [ia.length, hl]
    have hNn : n ≤ N.length := by have := congrArg List.length S.pre; rw [List.length_take] at this; omega
    refine ⟨_, hbody cdv A outer s H E hr, slots N ds, _, ?_, hw ds Q0 hl hq, fun ρ' σ' H' q fx E' => ?_, fun r ρ' σ' v H' q fx E' rv => ?_, fun _ _ _ q => q.elim, fun _ _ _ q => q.elim⟩
    · refine ⟨?_, fun i s y h1 h2 => ?_, fun i ds h1 => ?_, fun i j ds es a h1 => ?_, fun i ds a h1 => ?_, fun b o h _ => h, fun a h => ?_, fun i a hi h => ?_, fun h => absurd rfl h, fun i ks a h1 => ?_, fun i ks h1 => ?_, fun i j ks ls h1 => ?_⟩
      · unfold L2.start slots
        simp only [List.length_append, List.length_map, List.length_replicate]
        omega
      · rcases slots_get h1 with ⟨d, rfl, hd⟩ | rfl
        · obtain ⟨v, rfl, hv⟩ := start_dat (by rw [hlv, ← hl]; exact (List.getElem?_eq_some_iff.mp hd).1) h2
          obtain ⟨v', hv', iv⟩ := ia.get hd
          rw [hv] at hv'
          cases hv'
          exact ⟨v, rfl, iv⟩
        · trivial
      · rcases slots_get h1 with ⟨d, e, _⟩ | e <;> cases e
      · rcases slots_get h1 with ⟨d, e, _⟩ | e <;> cases e
      · rcases slots_get h1 with ⟨d, e, _⟩ | e <;> cases e
      · cases h
      · have := (List.getElem?_eq_some_iff.mp (start_get h)).1
        have := hM i hi
        omega
      · rcases slots_get h1 with ⟨d, e, _⟩ | e <;> cases e
      · rcases slots_get h1 with ⟨d, e, _⟩ | e <;> cases e
      · rcases slots_get h1 with ⟨d, e, _⟩ | e <;> cases e
    · exact k (.d .none) .non H' q (fun b o h => E'.keep b o h (by simp)) .non
    · exact k r v H' q (fun b o h => E'.keep b o h (by simp)) rv
/-- .. with a list that it changes first -/
def slotsP (N : List Str) (ps ds : List D) : List Sl := .own ps :: (ds.map Sl.dat ++ List.replicate (N.length - (ds.length + 1)) .un)
theorem slotsP_get {N : List Str} {ps ds : List D} {i : Nat} {s : Sl} (h : (slotsP N ps ds)[i]? = some s) : (i = 0 ∧ s = .own ps) ∨ (∃ j d, i = j + 1 ∧ s = .dat d ∧ ds[j]? = some d) ∨ s = .un := by
  cases i with
  | zero => exact .inl ⟨rfl, (Option.some.inj h).symm⟩
  | succ j =>
    have h : (ds.map Sl.dat ++ List.replicate (N.length - (ds.length + 1)) Sl.un)[j]? = some s := h
    by_cases hi : j < ds.length
    · rw [List.getElem?_append_left (by simpa using hi), List.getElem?_map] at h
      cases e : ds[j]? with
      | none => rw [e] at h; cases h
      | some a => rw [e] at h; cases h; exact .inr (.inl ⟨j, a, rfl, rfl, e⟩)
    · rw [List.getElem?_append_right (by simpa using hi), List.getElem?_replicate] at h
      split at h
      · exact .inr (.inr (Option.some.inj h).symm)
      · cases h
theorem defP {n : Nat} {w' : PP} (F : Fun K x qual st f fd) (S : FnScope N ps (defScope st)) (M : List Nat) (wb : SW) (hn : ps.length = n + 1) (hM : ∀ i, i ∈ M → i = 0 ∨ n + 1 ≤ i) (h0 : 0 ∈ M)
    (hbody : ∀ (cdv : Value) (A : Around) (outer : List Env) (s : Shared) (H : Hp) (E : XK) (a : Addr), Room k (A.deeper (envOfC qual (defScope st) s.heap.objs.size f cdv)) → PSs (cxOf CX0 P w K mg base N qual (defScope st) f cdv A outer s H E).nox (defBody st) (sD ⟨w, K, M, some a, H⟩ wb))
    (hw : ∀ ps ds Q0, ds.length = n → w' ps ds Q0 → wb ⟨fun ρ => ∃ ps', ρ[0]? = some (.own ps') ∧ Q0 (.d .none) ps', fun r ρ => ∃ ps', ρ[0]? = some (.own ps') ∧ Q0 r ps', fun _ => False, fun _ => False⟩ (slotsP N ps ds)) : FnOk P w K mg base CX0 (k + 1) f fd ps (spP K n w') := by
  refine F.ok S (fun vs H Q E h => ?_) (fun cdv A outer s H vs Q E hr h => ?_)
  · obtain ⟨a, vr, xs, ps', ds, Q0, rfl, _, _, ia, hl, _⟩ := h
    rw [List.length_cons, ia.length, hl, hn]
  · obtain ⟨a, vr, xs, pl, ds, Q0, rfl, ha, ip, ia, hl, hq, k⟩ := h
    have hlv : vr.length = n := by rw [ia.length, hl]
    have hNn : n + 1 ≤ N.length := by have := congrArg List.length S.pre; rw [List.length_take] at this; omega
    have s0 : (L2.start N (.ref a :: vr))[0]? = some (some (.ref a)) := rfl
    have fin : ∀ {ρ' : List Sl} {σ' : Sg} {H' : Hp} {v : V} {r : Rv}, (∃ ps', ρ'[0]? = some (.own ps') ∧ Q0 r ps') → En ⟨w, K, M, some a, H⟩ H' σ' ρ' → RvIs K H H' v r → Q v H' := fun {ρ' σ' H' v r} q E' rv => by
      obtain ⟨ps', h1, q⟩ := q
      obtain ⟨y, hy, b, ys, rfl, hb, iy⟩ := E'.at h1
      have e := E'.potS a rfl
      rw [hy] at e
      cases e
      exact k r ps' v H' ys q (fun b o hb h => E'.keep b o h fun z => hb (Option.some.inj z).symm) hb iy rv
    refine ⟨_, hbody cdv A outer s H E a hr, slotsP N pl ds, _, ?_, hw pl ds Q0 hl hq, fun ρ' σ' H' q fx E' => fin q E' .non, fun r ρ' σ' v H' q fx E' rv => fin q E' rv, fun _ _ _ q => q.elim, fun _ _ _ q => q.elim⟩
    refine ⟨?_, fun i s y h1 h2 => ?_, fun i fs h1 => ?_, fun i j fs gs b h1 h2 _ _ => ?_, fun i fs b h1 h2 => ?_, fun b o h _ => h, fun b h => ?_, fun i b hi h => ?_, fun _ => h0, fun i ks a h1 => ?_, fun i ks h1 => ?_, fun i j ks ls h1 => ?_⟩
    · unfold L2.start slotsP
      simp only [List.length_append, List.length_map, List.length_replicate, List.length_cons]
      omega
    · rcases slotsP_get h1 with ⟨rfl, rfl⟩ | ⟨j, d, rfl, rfl, hd⟩ | rfl
      · rw [s0] at h2
        cases h2
        exact ⟨a, xs, rfl, ha, ip⟩
      · obtain ⟨v, rfl, hv⟩ := start_dat (by rw [List.length_cons, hlv, ← hl]; have := (List.getElem?_eq_some_iff.mp hd).1; omega) h2
        obtain ⟨v', hv', iv⟩ := ia.get hd
        have hv2 : vr[j]? = some v := hv
        rw [hv2] at hv'
        cases hv'
        exact ⟨v, rfl, iv⟩
      · trivial
    · rcases slotsP_get h1 with ⟨rfl, _⟩ | ⟨j, d, _, e, _⟩ | e
      · exact h0
      · cases e
      · cases e
    · have z : ∀ {m : Nat} {l : List D}, (slotsP N pl ds)[m]? = some (Sl.own l) → m = 0 := fun {m l} h => by
        rcases slotsP_get h with ⟨rfl, _⟩ | ⟨j, d, _, e, _⟩ | e
        · rfl
        · cases e
        · cases e
      rw [z h1, z h2]
    · rcases slotsP_get h1 with ⟨rfl, _⟩ | ⟨j, d, _, e, _⟩ | e
      · rw [s0] at h2
        cases h2
        exact .inr ⟨rfl, rfl⟩
      · cases e
      · cases e
    · cases h; exact s0
    · have hlt := (List.getElem?_eq_some_iff.mp (start_get h)).1
      rw [List.length_cons] at hlt
      rcases hM i hi with rfl | h'
      · rw [s0] at h
        cases h
        rw [ha]; rfl
      · omega
    · rcases slotsP_get h1 with ⟨_, e⟩ | ⟨j, d, _, e, _⟩ | e <;> cases e
    · rcases slotsP_get h1 with ⟨_, e⟩ | ⟨j, d, _, e, _⟩ | e <;> cases e
    · rcases slotsP_get h1 with ⟨_, e⟩ | ⟨j, d, _, e, _⟩ | e <;> cases e
end
end DL
namespace DL
open PySem PySem.Spec PyProof.Rows L2
theorem hu120 {A : Around} {k : Nat} (hr : Room k A) : A.units + 120 < cLine := by have := hr.un; omega
section
variable {X : Cx} {c : Ctx} {e a b b3 l tg : Expr} {es : List Expr} {pos : Pos} {st : Stmt} {sts body : List Stmt}
/-! ### slices -/
def cutD (xs : List D) (lo hi : Option Int) : List D := (xs.drop (HT.sIx xs.length 0 lo)).take (HT.sIx xs.length xs.length hi - HT.sIx xs.length 0 lo)
theorem IsAll.cut {K : PySem.W.Frag} {H : Hp} {vs : List V} {ds : List D} (h : IsAll K H vs ds) (lo hi : Option Int) : IsAll K H (cutV vs lo hi) (cutD ds lo hi) := by
  unfold cutV cutD
  rw [h.length]
  exact (h.drop _).take _
def slD : D → Option Int → Option Int → Option D
  | .list xs, lo, hi => some (.list (cutD xs lo hi))
  | .tuple xs, lo, hi => some (.tuple (cutD xs lo hi))
  | _, _, _ => none
theorem cut_all {α : Type} (xs : List α) (lo hi : Option Int) (h : HT.sIx xs.length 0 lo = 0 ∧ HT.sIx xs.length xs.length hi = xs.length) : (xs.drop (HT.sIx xs.length 0 lo)).take (HT.sIx xs.length xs.length hi - HT.sIx xs.length 0 lo) = xs := by
  rw [h.1, h.2]; simp
def rSlD (K : PySem.W.Frag) : V → Option Int → Option Int → Hp → VK → Prop := fun x lo hi H Q => ∃ d r, Is K H x d ∧ slD d lo hi = some r ∧ ∀ v H', Same H H' → Is K H' v r → Q v H'
theorem sl_D : SlR X (rSlD X.K) := by
  intro pins s σ H x v vl vu lo hi sl Q I rx hs pl pu h
  obtain ⟨d, r, hd, hr, q⟩ := h
  cases hd with
  | @lst a o xs ds h1 h2 =>
    cases hr
    obtain ⟨T, id, e1, e2, e3⟩ := sl_list pins s σ H (.ref a) v vl vu lo hi sl (fun v H' => ∃ p, v = .ref p ∧ H p = none ∧ H' = upd H p (.lst (cutV xs lo hi))) I rx hs pl pu ⟨a, xs, rfl, .inl (.inr ⟨_, h1⟩), fun p hp => ⟨p, rfl, hp, rfl⟩⟩
    exact ⟨T, id, e1, e2, thn e3 fun u s1 ep => frzEP ep (h2.cut lo hi) q⟩
  | @tup a xs ds h1 h2 =>
    cases hr
    refine sl_tupZ pins s σ H (.ref a) v vl vu lo hi sl Q I rx hs pl pu ⟨a, xs, rfl, h1.sqT, fun hw => ?_, fun _ p o hp hd => ?_⟩
    · have e : cutD ds lo hi = ds := cut_all ds lo hi (by rw [← h2.length]; exact hw)
      rw [e] at q
      exact q _ H (Same.refl H) (.tup h1 h2)
    · have sm := upd_same' (o := .frz o (.tup (cutV xs lo hi))) hp
      exact q _ _ sm (.tup (.inl ⟨o, hd, upd_same⟩) (IsAll.mono (Same.fx sm) _ _ (h2.cut lo hi)))
  | _ => exact nomatch hr
abbrev OW := List Sl → (Option Int → List Sl → Prop) → Prop
def tO (c : Ctx) (w : OW) : L2.St → Hp → (Option Int → Hp → Prop) → Prop := fun σ H Q => ∃ (ρ : List Sl) (Q0 : Option Int → List Sl → Prop), En c H σ ρ ∧ w ρ Q0 ∧ ∀ o ρ' H', Q0 o ρ' → Gr c σ H H' → En c H' σ ρ' → Q o H'
theorem PO.imp {o : Option Expr} {t t' : TO} (h : PO X o t) (i : ∀ σ H Q, t' σ H Q → t σ H Q) : PO X o t' := ⟨fun pins s σ H Q I q => h.run pins s σ H Q I (i σ H Q q)⟩
def wNoP : OW := fun ρ Q => Q none ρ
def wP (w : DW) : OW := fun ρ Q => w ρ fun d ρ' => ∃ i, d = .int i ∧ Q (some i) ρ'
theorem dp_none : PO X none (tO c wNoP) := PO.imp po_none fun σ H Q ⟨ρ, Q0, E, hw, k⟩ => k none ρ H hw (Gr.refl H) E
theorem dp_some {w : DW} (h : PE X e (tD c w)) : PO X (some e) (tO c (wP w)) := by
  refine PO.imp (po_some h) ?_
  rintro σ H Q ⟨ρ, Q0, E, hw, k⟩
  refine ⟨ρ, _, E, hw, fun d ρ' v H' q g E1 i1 => ?_⟩
  obtain ⟨i, rfl, q⟩ := q
  cases i1
  exact ⟨i, rfl, k _ ρ' H' q g E1⟩
def wSl (w : DW) (wl wh : OW) : DW := fun ρ Q => w ρ fun d ρ1 => wl ρ1 fun lo ρ2 => wh ρ2 fun hi ρ3 => ∃ r, slD d lo hi = some r ∧ Q r ρ3
theorem de_sl {w : DW} {wl wh : OW} {lo hi : Option Expr} {p2 : Pos} (he : PE X e (tD c w)) (hl : PO X lo (tO c wl)) (hh : PO X hi (tO c wh)) (hK : c.K = X.K := by rfl) : PE X (.Subscript e (.Slice lo hi none p2) pos) (tD c (wSl w wl wh)) := by
  refine PE.imp (pe_slice sl_D he hl hh) ?_
  rintro σ H Q ⟨ρ, Q0, E, hw, k⟩
  refine ⟨ρ, _, E, hw, fun d ρ1 v H1 q g E1 i1 => ?_⟩
  refine ⟨ρ1, _, E1, q, fun lo ρ2 H2 q g2 E2 => ?_⟩
  refine ⟨ρ2, _, E2, q, fun hi ρ3 H3 q g3 E3 => ?_⟩
  obtain ⟨r, hr, q⟩ := q
  exact ⟨d, r, by rw [← hK]; exact Is.mono (g2.trans g3).fx d v i1, hr, fun z H4 sm iz => k r ρ3 z H4 q (((g.trans g2).trans g3).trans (Gr.same sm)) (E3.same sm) (by rw [hK]; exact iz)⟩

/-! ### sorted -/
def wSort (wa : LW) : LW := fun ρ Q => wa ρ fun ds ρ1 => ∃ xs, ds = [.list xs] ∧ PyData.plainAll xs = true ∧ PySem.W.AllAlike xs ∧ PySem.W.Sortable xs ∧ (∀ d, d ∈ xs → d.depth ≤ 100) ∧ Q (xs.mergeSort (PySem.W.dataLe false fun d => d)) ρ1
theorem each_of {I : V → Value → Prop} : True := trivial
theorem plain_mem : ∀ {xs : List D} {d : D}, PyData.plainAll xs = true → d ∈ xs → d.plain = true
  | x :: xs, d, h, hd => by
    simp only [PyData.plainAll, Bool.and_eq_true] at h
    rcases List.mem_cons.mp hd with e | e
    · rw [e]; exact h.1
    · exact plain_mem h.2 e
def rSort (K : PySem.W.Frag) : List V → Hp → VK → Prop := fun vs H Q => ∃ (a : Addr) (o : Obj) (xs : List V) (ds : List D), vs = [.ref a] ∧ H a = some (.frz o (.lst xs)) ∧ IsAll K H xs ds ∧ PyData.plainAll ds = true ∧ PySem.W.AllAlike ds ∧ PySem.W.Sortable ds ∧ (∀ d, d ∈ ds → d.depth ≤ 100) ∧
  ∀ p ys, H p = none → IsAll K H ys (ds.mergeSort (PySem.W.dataLe false fun d => d)) → Q (.ref p) (upd H p (.lst ys))
theorem each_vals {K : PySem.W.Frag} {H : Hp} : ∀ {xs : List V} {us : List Value} {ds : List D}, Vals xs us → IsAll K H xs ds → PySem.W.EachIs (fun u d => ∃ v, RelV v u ∧ Is K H v d) us ds
  | _, _, _, .nil, .nil => .nil
  | _, _, _, .cons r rr, .cons i ii => .cons ⟨_, r, i⟩ (each_vals rr ii)
theorem vals_each {K : PySem.W.Frag} {H : Hp} : ∀ {us : List Value} {ds : List D}, PySem.W.EachIs (fun u d => ∃ v, RelV v u ∧ Is K H v d) us ds → ∃ xs, Vals xs us ∧ IsAll K H xs ds
  | _, _, .nil => ⟨[], .nil, .nil⟩
  | _, _, .cons ⟨v, r, i⟩ t => by
    obtain ⟨xs, rr, ii⟩ := vals_each t
    exact ⟨v :: xs, .cons r rr, .cons i ii⟩
theorem each_imp {α β : Type} {R S : α → β → Prop} : ∀ {xs : List α} {ys : List β}, PySem.W.EachIs R xs ys → (∀ x y, y ∈ ys → R x y → S x y) → PySem.W.EachIs S xs ys
  | _, _, .nil, _ => .nil
  | _, _, .cons h t, f => .cons (f _ _ List.mem_cons_self h) (each_imp t fun x y hy => f x y (List.mem_cons_of_mem _ hy))
theorem cr_sortedD (hu : X.A.units + 120 < cLine) : CallR X (.builtin "sorted") (rSort X.K) := by
  intro pins s σ H vs us Q I r h
  obtain ⟨a, o, xs, ds, rfl, ha, ix, hp, hal, hso, hd, q⟩ := h
  obtain ⟨z, its, n, rv, hl, e⟩ := exact_lst I ha
  rw [Vals.ref1 r]
  have ev := each_vals rv ix
  have er : PySem.W.EachIs (fun u d => ∃ as, Reads s.heap u d as) its ds := each_imp ev fun u d hd' ⟨v, r, i⟩ => Dp.reads I d v u (Is.dp d v (plain_mem hp hd') i) r
  refine PySem.W.sorted_data (enc := fun d => d) (bs := ds) (vs := its) ⟨_, e, rfl, n, rfl⟩ ev er (by simpa using hal) (by simpa using hso) (by rw [← ix.length]; exact z) (fun d hd' => by have := hd d hd'; omega) fun out ho eo => ?_
  obtain ⟨ys, ry, iy⟩ := vals_each eo
  obtain ⟨ep, he'⟩ := PyProof.Rows.sortedAll_at s.heap its (List.toArray out)
  have hlen : ys.length ≤ sizeLine := by
    rw [ry.length, ho, ← ix.length]; exact z
  exact ⟨.ref _, upd H (s.heap.objs.size + 1) (.lst ys), I.laid (t' := s.toks) (fun _ _ => PyProof.Rows.sortedAll_old) (Nat.le_succ _) ⟨hlen, out, ep, ry, he'⟩, rfl, q _ ys (I.hok.fresh (Nat.le_succ _)) iy⟩
theorem df_sort {p : Pos} {wa : LW} (hg : Gl X "sorted") (hm : X.mg "sorted" = none) (hu : X.A.units + 120 < cLine) (ha : PA X (e :: es) (tA c wa)) (hK : c.K = X.K := by rfl) 
    (he : starEach (e :: es) X.env = (false, eval e X.env) :: starEach es X.env := by rfl) (hpl : (backTo pos (starEach es X.env)).any (·.1) = false := by rfl) : PE X (.Call (.Name "sorted" p) (e :: es) [] pos) (tF c (wSort wa)) := by
  refine PE.imp (pe_callB (cr_sortedD hu) hg hm (by decide +kernel) ha (by decide) (by decide) he hpl) ?_
  rintro σ H Q ⟨ρ, Q0, E, hw, k⟩
  refine ⟨ρ, _, E, hw, fun ds ρ' vs H' q g E1 i1 => ?_⟩
  obtain ⟨xs, rfl, h1, h2, h3, h4, q⟩ := q
  cases i1 with
  | cons i2 i3 =>
    cases i3
    cases i2 with
    | @lst a o ys _ g1 g2 =>
      refine ⟨a, o, ys, xs, rfl, g1, by rw [← hK]; exact g2, h1, h2, h3, h4, fun p zs n iz => ?_⟩
      have sm := upd_same' (o := .lst zs) n
      exact k _ ρ' p zs _ q (g.trans (Gr.same sm)) (E1.same sm) (g.free E1 n) upd_same (IsAll.mono (Same.fx sm) _ zs (by rw [hK]; exact iz))

/-! ### list of a text -/
def signsD (z : Str) : List D := z.cps.toList.map fun c => .str ⟨#[c]⟩
def lstrL : List D → Option (List D)
  | [.str z] => if z.cps.size ≤ sizeLine then some (signsD z) else none
  | _ => none
end
end DL
namespace DL
open PySem PySem.Spec PyProof.Rows L2
section
variable {X : Cx} {c : Ctx} {e a b b3 l tg : Expr} {es : List Expr} {pos : Pos} {st : Stmt} {sts body : List Stmt}
/-! ### repr of what is no object -/
def reprL : List D → Option D
  | [.int i] => if i.natAbs.log2 < 1920 then some (.str ((toString i : String) : Str)) else none
  | [.bool b] => some (.str (if b then "True" else "False"))
  | [.none] => some (.str "None")
  | _ => none
theorem cr_repr0 : CallR X (.builtin "repr") (rCl X.K reprL) := by
  intro pins s σ H xs us Q I r h
  obtain ⟨ds, r', hd, hr, q⟩ := h
  cases hd with
  | nil => exact nomatch hr
  | cons h1 h2 =>
    cases h2 with
    | cons _ _ => cases h1 <;> exact nomatch hr
    | nil =>
      obtain ⟨u, rfl, ru⟩ := vals1 r
      cases h1 with
      | int i =>
        obtain ⟨t, rfl⟩ := ru
        have hr : (if i.natAbs.log2 < 1920 then some (PyData.str ((toString i : String) : Str)) else none) = some r' := hr
        split at hr
        · rename_i hz
          cases hr
          exact P.repr_of_int hz ⟨.str _, H, I.kept (t' := s.toks + 1) fun _ _ e => e, ⟨_, rfl⟩, q _ H (Same.refl H) (.str _)⟩
        · cases hr
      | bl i =>
        cases ru
        cases hr
        exact P.repr_of_bool ⟨.str _, H, I.kept (t' := s.toks + 1) fun _ _ e => e, ⟨_, rfl⟩, q _ H (Same.refl H) (.str _)⟩
      | non =>
        cases ru
        cases hr
        exact P.repr_of_none ⟨.str _, H, I.kept (t' := s.toks + 1) fun _ _ e => e, ⟨_, rfl⟩, q _ H (Same.refl H) (.str _)⟩
      | _ => exact nomatch hr
/-! ### all, any of a list of bools -/
def bools : List D → Option (List Bool)
  | [] => some []
  | .bool b :: r => (bools r).map (b :: ·)
  | _ => none
def allL : List D → Option D
  | [.list xs] => (bools xs).map fun bs => .bool (bs.all id)
  | _ => none
def anyL : List D → Option D
  | [.list xs] => (bools xs).map fun bs => .bool (bs.any id)
  | _ => none
theorem is_bools {K : PySem.W.Frag} {H : Hp} : ∀ {vs : List V} {ds : List D} {bs : List Bool}, IsAll K H vs ds → bools ds = some bs → vs = bs.map V.bl
  | _, _, bs, .nil, e => by cases e; rfl
  | _, _, bs, .cons (d := d) (ds := ds) h t, e => by
    cases h with
    | bl b =>
      have e : (bools ds).map (b :: ·) = some bs := e
      cases q : bools ds with
      | none => rw [q] at e; cases e
      | some cs =>
        rw [q] at e
        cases e
        rw [is_bools t q]
        rfl
    | _ => exact nomatch e
theorem cr_allD (hc : X.calm = true) : CallR X (.builtin "all") (rCl X.K allL) := by
  intro pins s σ H xs us Q I r h
  obtain ⟨ds, r', hd, hr, q⟩ := h
  cases hd with
  | nil => exact nomatch hr
  | cons h1 h2 =>
    cases h2 with
    | cons _ _ => cases h1 <;> exact nomatch hr
    | nil =>
      cases h1 with
      | @lst a o ys ds g1 g2 =>
        have hr : (bools ds).map (fun bs => PyData.bool (bs.all id)) = some r' := hr
        cases hb : bools ds with
        | none => rw [hb] at hr; cases hr
        | some bs =>
          rw [hb] at hr
          cases hr
          have e := is_bools g2 hb
          subst e
          exact cr_all hc pins s σ H _ us Q I r ⟨a, bs, rfl, .inl (.inr ⟨_, g1⟩), q _ H (Same.refl H) (.bl _)⟩
      | _ => exact nomatch hr
theorem cr_anyD (hc : X.calm = true) : CallR X (.builtin "any") (rCl X.K anyL) := by
  intro pins s σ H xs us Q I r h
  obtain ⟨ds, r', hd, hr, q⟩ := h
  cases hd with
  | nil => exact nomatch hr
  | cons h1 h2 =>
    cases h2 with
    | cons _ _ => cases h1 <;> exact nomatch hr
    | nil =>
      cases h1 with
      | @lst a o ys ds g1 g2 =>
        have hr : (bools ds).map (fun bs => PyData.bool (bs.any id)) = some r' := hr
        cases hb : bools ds with
        | none => rw [hb] at hr; cases hr
        | some bs =>
          rw [hb] at hr
          cases hr
          have e := is_bools g2 hb
          subst e
          exact cr_any hc pins s σ H _ us Q I r ⟨a, bs, rfl, .inl (.inr ⟨_, g1⟩), q _ H (Same.refl H) (.bl _)⟩
      | _ => exact nomatch hr
/-! ### list of a text -/
theorem sign_vals {K : PySem.W.Frag} {H : Hp} : ∀ {cs : List Nat} {its : List Value}, its.length = cs.length → (∀ (j : Nat) (v : Value), its[j]? = some v → ∃ (c : Nat) (u : Tok), cs[j]? = some c ∧ v = Value.str ⟨#[c]⟩ u) → ∃ vs, Vals vs its ∧ IsAll K H vs (cs.map fun c => PyData.str ⟨#[c]⟩)
  | [], [], _, _ => ⟨[], .nil, .nil⟩
  | [], _ :: _, h, _ => by cases h
  | _ :: _, [], h, _ => by cases h
  | c :: cs, u :: us, h, f => by
    obtain ⟨vs, rv, iv⟩ := sign_vals (cs := cs) (its := us) (by simpa using h) fun j v e => by simpa using f (j + 1) v (by simpa using e)
    obtain ⟨c', t, e1, e2⟩ := f 0 u rfl
    cases e1
    exact ⟨.str ⟨#[c]⟩ :: vs, .cons ⟨t, e2⟩ rv, .cons (.str _) iv⟩
theorem cr_listStr (hc : X.calm = true) : CallR X (.type "list") (rClF X.K lstrL) := by
  intro pins s σ H xs us Q I r h
  obtain ⟨ds, r', hd, hr, q⟩ := h
  cases hd with
  | nil => exact nomatch hr
  | cons h1 h2 =>
    cases h2 with
    | cons _ _ => cases h1 <;> exact nomatch hr
    | nil =>
      obtain ⟨u, rfl, ru⟩ := vals1 r
      cases h1 with
      | str z =>
        obtain ⟨t, rfl⟩ := ru
        have hr : (if z.cps.size ≤ sizeLine then some (signsD z) else none) = some r' := hr
        split at hr
        · rename_i hz
          cases hr
          refine call_list_str (I.ok.hd hc) z t (fun h' tk acc' c' hk hS hacc => ?_) hz
          obtain ⟨vs, rv, iv⟩ := sign_vals (K := X.K) (H := H) (cs := z.cps.toList) (its := acc'.toList) (by simpa using hacc.1) fun j v e => by
            obtain ⟨cc, t', e1, e2⟩ := hacc.2 j v (by simpa using e)
            exact ⟨cc, t', by simpa using e1, e2⟩
          have hl : vs.length ≤ sizeLine := by rw [rv.length, Array.length_toList, hacc.1]; exact hz
          exact ⟨.ref s.heap.objs.size, upd H s.heap.objs.size (.lst vs), I.laid (t' := tk) hk (Nat.le_refl _) ⟨hl, acc'.toList, c', rv, hS⟩, rfl, q _ vs (I.hok.fresh (Nat.le_refl _)) iv⟩
        · cases hr
      | _ => exact nomatch hr
/-! ### a call by keywords alone -/
variable {CX : CXT} {k : Nat} {f : Addr} {fd : FuncData} {ps ks : List Str} {sp : Sp} {E : XK} {x : Str} {p : Pos} {kws : List Keyword} {g : List Value → List Value → List Value} {gV : List V → List V → List V} {nm : Option Str} {kpos : Pos}
def dK (c : Ctx) (w : LW) : TA := tA c w
theorem dk_nil : PK X [] (tA c wNil) := by
  refine ⟨fun pos pins s σ H Q I h => pk_nil.run pos pins s σ H Q I ?_⟩
  obtain ⟨ρ, Q0, E, hw, k⟩ := h
  exact k [] ρ [] H hw (Gr.refl H) E .nil
theorem dk_cons {wa : DW} {wr : LW} (ha : PE X e (tD c wa)) (hr : PK X kws (tA c wr)) : PK X (⟨nm, e, kpos⟩ :: kws) (tA c (wCons wa wr)) := by
  refine ⟨fun pos pins s σ H Q I h => (pk_cons ha hr).run pos pins s σ H Q I ?_⟩
  obtain ⟨ρ, Q0, E, hw, k⟩ := h
  refine ⟨ρ, _, E, hw, fun d ρ' v H' q g E1 i1 => ?_⟩
  exact ⟨ρ', _, E1, q, fun ds ρ2 vs H2 q2 g2 E2 i2 => k _ ρ2 _ H2 q2 (g.trans g2) E2 (.cons (Is.mono g2.fx d v i1) i2)⟩
theorem pe_callK0 {tk : TA} (F : FnOk X.prog X.w X.K X.mg X.base CX k f fd ps sp) (hr : Room k X.A) (hg : Gl X x) (hm : X.mg x = some (.ref f)) (hk : PySem.W.keepIn X.K (.ref f) = true) (hb : KBinds X.K fd ps ks g gV) (hx : Passes CX X E)
    (hkw : PK X kws tk) (hall : (backToKw pos (keywordEach kws X.env)).all (·.1.isSome) = true := by rfl) (hks : (backToKw pos (keywordEach kws X.env)).filterMap (·.1) = ks := by rfl)
    (hdb : (x == ("__debug__" : Str)) = false := by decide) (hpl : ((backTo pos (starEach [] X.env)).any (·.1) || (backToKw pos (keywordEach kws X.env)).any (·.1.isNone)) = false := by rfl) :
    PE X (.Call (.Name x p) [] kws pos) (fun σ H Q => tk σ H fun zs H1 => sp (gV [] zs) H1 Q E) := by
  refine ⟨fun pins s σ H Q I h => ?_⟩
  refine wpAny_Call_Name_kw (ld_glob I hg hm ?_ hdb)
  refine PySem.W.callWith_KW0 (h₀ := X.base) I.ok.mod.kin hk hall ?_ hpl
  refine thn (hkw.run pos pins s σ H _ I h) fun ws s2 ⟨zs, H2, I2, rz, q2⟩ => ⟨I2.kIn, ?_⟩
  rw [hks]
  exact run_fnk F hr hb hx I2 .nil rz q2
/-- gD puts the data of the keywords in the parameters' order -/
def wCallK (n : Nat) (w : PN) (gD' : List D → List D) (wa : LW) : DW := fun ρ Q => wa ρ fun ds ρ1 => (gD' ds).length = n ∧ w (gD' ds) fun r => ∃ d, r = .d d ∧ Q d ρ1
theorem de_callK {n : Nat} {w : PN} {wa : LW} {gD' : List D → List D} (F : FnOk X.prog X.w X.K X.mg X.base CX k f fd ps (spN X.K n w)) (hr : Room k X.A) (hg : Gl X x) (hm : X.mg x = some (.ref f)) (hk : PySem.W.keepIn X.K (.ref f) = true) (hb : KBinds X.K fd ps ks g gV) (hx : Passes CX X E)
    (hkw : PK X kws (tA c wa)) (hgd : ∀ H zs ds, IsAll X.K H zs ds → IsAll X.K H (gV [] zs) (gD' ds)) (hK : c.K = X.K := by rfl) (hall : (backToKw pos (keywordEach kws X.env)).all (·.1.isSome) = true := by rfl) (hks : (backToKw pos (keywordEach kws X.env)).filterMap (·.1) = ks := by rfl)
    (hdb : (x == ("__debug__" : Str)) = false := by decide) (hpl : ((backTo pos (starEach [] X.env)).any (·.1) || (backToKw pos (keywordEach kws X.env)).any (·.1.isNone)) = false := by rfl) :
    PE X (.Call (.Name x p) [] kws pos) (tD c (wCallK n w gD' wa)) := by
  refine PE.imp (pe_callK0 F hr hg hm hk hb hx hkw hall hks hdb hpl) ?_
  rintro σ H Q ⟨ρ, Q0, E, hw, k⟩
  refine ⟨ρ, _, E, hw, fun ds ρ1 vs H1 q g E1 i1 => ?_⟩
  refine ⟨gD' ds, _, hgd H1 vs ds (by rw [← hK]; exact i1), q.1, q.2, fun r v H2 q2 sm rv => ?_⟩
  obtain ⟨d, rfl, q2⟩ := q2
  refine k d ρ1 v H2 q2 (g.trans (Gr.same sm)) (E1.same sm) (by rw [hK]; exact rv)
/-! ### dicts of data: stored, merged -/
def putP (es : List (Key × D)) (k : Key) (d : D) : List (Key × D) := if (es.any fun p => decide (p.1 = k)) = true then es.map (fun p => if p.1 = k then (p.1, d) else p) else es ++ [(k, d)]
def mergeP (es more : List (Key × D)) : List (Key × D) := more.foldl (fun acc p => putP acc p.1 p.2) es
def kD (es : List (Key × D)) : List (D × D) := es.map fun p => (keyD p.1, p.2)
inductive IsK (K : PySem.W.Frag) (H : Hp) : List (Key × V) → List (Key × D) → Prop
  | nil : IsK K H [] []
  | cons {k : Key} {v : V} {vs : List (Key × V)} {d : D} {ds : List (Key × D)} : Is K H v d → IsK K H vs ds → IsK K H ((k, v) :: vs) ((k, d) :: ds)
theorem IsK.kv {K : PySem.W.Frag} {H : Hp} : ∀ {vs : List (Key × V)} {ds : List (Key × D)}, IsK K H vs ds → IsKv K H vs (kD ds)
  | _, _, .nil => .nil
  | _, _, .cons h t => .cons h t.kv
theorem IsK.mono {K : PySem.W.Frag} {H H' : Hp} (f : Fx H H') : ∀ {vs : List (Key × V)} {ds : List (Key × D)}, IsK K H vs ds → IsK K H' vs ds
  | _, _, .nil => .nil
  | _, _, .cons h t => .cons (Is.mono f _ _ h) (IsK.mono f t)
theorem IsK.len {K : PySem.W.Frag} {H : Hp} : ∀ {vs : List (Key × V)} {ds : List (Key × D)}, IsK K H vs ds → vs.length = ds.length
  | _, _, .nil => rfl
  | _, _, .cons h t => by rw [List.length_cons, List.length_cons, IsK.len t]
theorem IsK.snoc {K : PySem.W.Frag} {H : Hp} {k : Key} {v : V} {d : D} (i : Is K H v d) : ∀ {vs : List (Key × V)} {ds : List (Key × D)}, IsK K H vs ds → IsK K H (vs ++ [(k, v)]) (ds ++ [(k, d)])
  | _, _, .nil => .cons i .nil
  | _, _, .cons h t => .cons h (IsK.snoc i t)
theorem IsK.any {K : PySem.W.Frag} {H : Hp} (k : Key) : ∀ {vs : List (Key × V)} {ds : List (Key × D)}, IsK K H vs ds → (vs.any fun p => decide (p.1 = k)) = ds.any fun p => decide (p.1 = k)
  | _, _, .nil => rfl
  | _, _, .cons h t => by simp only [List.any_cons]; rw [IsK.any k t]
theorem IsK.repl {K : PySem.W.Frag} {H : Hp} {k : Key} {v : V} {d : D} (i : Is K H v d) : ∀ {vs : List (Key × V)} {ds : List (Key × D)}, IsK K H vs ds → IsK K H (vs.map fun p => if p.1 = k then (p.1, v) else p) (ds.map fun p => if p.1 = k then (p.1, d) else p)
  | _, _, .nil => .nil
  | _, _, @IsK.cons _ _ k' v' vs d' ds h t => by
    simp only [List.map_cons]
    by_cases e : k' = k
    · rw [if_pos e, if_pos e]; exact .cons i (IsK.repl i t)
    · rw [if_neg e, if_neg e]; exact .cons h (IsK.repl i t)
theorem IsK.put {K : PySem.W.Frag} {H : Hp} {k : Key} {v : V} {d : D} {vs : List (Key × V)} {ds : List (Key × D)} (h : IsK K H vs ds) (i : Is K H v d) : IsK K H (putK vs k v) (putP ds k d) := by
  unfold putK putP
  rw [h.any k]
  split
  · exact h.repl i
  · exact h.snoc i
theorem IsK.merge {K : PySem.W.Frag} {H : Hp} : ∀ {more : List (Key × V)} {rs : List (Key × D)} {vs : List (Key × V)} {ds : List (Key × D)}, IsK K H more rs → IsK K H vs ds → IsK K H (mergeK vs more) (mergeP ds rs)
  | _, _, _, _, .nil, q => q
  | _, _, vs, ds, @IsK.cons _ _ k v m d rs h t, q => (show IsK K H (mergeK (putK vs k v) m) (mergeP (putP ds k d) rs) from IsK.merge t (q.put h))
/-- pairs (key, value) -/
def pairD : D → Option (Key × D)
  | .tuple [k, d] => (keyOfD k).map fun k => (k, d)
  | _ => none
def pairsD : List D → Option (List (Key × D))
  | [] => some []
  | x :: r => (pairD x).bind fun p => (pairsD r).map fun es => p :: es
def dictL : List D → Option D
  | [.list xs] => (pairsD xs).map fun es => .dict (kD (mergeP [] es))
  | [.tuple xs] => (pairsD xs).map fun es => .dict (kD (mergeP [] es))
  | _ => none
theorem pairD_at {x : D} {k : Key} {d : D} (h : pairD x = some (k, d)) : x = .tuple [keyD k, d] := by
  unfold pairD at h
  split at h
  · rename_i k' d'
    cases q : keyOfD k' with
    | none => rw [q] at h; cases h
    | some j => rw [q] at h; cases h; rw [keyD_of q]
  · cases h
theorem pairs_at {K : PySem.W.Frag} {H : Hp} : ∀ {vs : List V} {ds : List D} {es : List (Key × D)}, IsAll K H vs ds → pairsD ds = some es → ∃ (as : List Addr) (kvs : List (Key × V)), vs = as.map V.ref ∧ IsK K H kvs es ∧ Paired (fun p kv => SqT K H p [kV kv.1, kv.2] ∧ TupK K H p [kV kv.1, kv.2]) as kvs
  | _, _, es, .nil, e => by cases e; exact ⟨[], [], rfl, .nil, .nil⟩
  | _, _, es, .cons (d := d) (ds := ds) h t, e => by
    have e : (pairD d).bind (fun p => (pairsD ds).map fun es => p :: es) = some es := e
    cases hp : pairD d with
    | none => rw [hp] at e; cases e
    | some p =>
      cases hq : pairsD ds with
      | none => rw [hp, hq] at e; cases e
      | some es' =>
        rw [hp, hq] at e
        cases e
        obtain ⟨as, kvs, rfl, ik, pp⟩ := pairs_at t hq
        obtain ⟨k, d'⟩ := p
        have := pairD_at hp
        subst this
        cases h with
        | @tup a ys _ g1 g2 =>
          cases g2 with
          | cons i1 g3 =>
            cases g3 with
            | cons i2 g4 =>
              cases g4
              have := is_key i1
              subst this
              exact ⟨a :: as, (k, _) :: kvs, rfl, .cons i2 ik, .cons ⟨g1.sqT, g1⟩ pp⟩
theorem paired_imp {α β : Type} {F G : α → β → Prop} (f : ∀ a b, F a b → G a b) : ∀ {xs : List α} {ys : List β}, Paired F xs ys → Paired G xs ys
  | _, _, .nil => .nil
  | _, _, .cons h t => .cons (f _ _ h) (paired_imp f t)
/-- a dict just made, frozen -/
theorem frzDEP {pins : List (Addr × Obj)} {σ : Sg} {H : Hp} {s : Shared} {Q : VK} {u : Value} {kvs : List (Key × V)} {es : List (D × D)}
    (h : EP X pins σ (fun v H' => ∃ p, v = .ref p ∧ H p = none ∧ H' = upd H p (.dK kvs)) u s) (ix : IsKv X.K H kvs es) (q : ∀ v H', Same H H' → Is X.K H' v (.dict es) → Q v H') : EP X pins σ Q u s := by
  obtain ⟨v, H', I', r, p, rfl, n, rfl⟩ := h
  obtain ⟨o, I2⟩ := Inv.freeze I' (a := p) upd_same trivial (fun _ _ _ z => by cases z) (fun _ z => by cases z)
  have e : upd (upd H p (.dK kvs)) p (.frz o (.dK kvs)) = upd H p (.frz o (.dK kvs)) := upd_upd
  rw [e] at I2
  have sm := upd_same' (o := .frz o (.dK kvs)) n
  exact ⟨.ref p, _, I2, r, q _ _ sm (.dct upd_same (IsKv.mono (Same.fx sm) es kvs ix))⟩
theorem plain_tup {pins : List (Addr × Obj)} {σ : Sg} {H : Hp} {s : Shared} {a : Addr} {xs : List V} (I : Inv X pins σ H s) (h : TupK X.K H a xs) : ∃ its : List Value, Vals xs its ∧ PlainSeq "tuple" s.heap a its.toArray ∧ its.length ≤ sizeLine := by
  rcases h with ⟨o, hd, e⟩ | ⟨o, its, n, h1, h2, h3, h4, h5, h6⟩
  · obtain ⟨h1, h2⟩ := I.hok a _ e
    obtain ⟨z, its, r, t⟩ := h2
    obtain ⟨o', e1, e2, n, e3⟩ := t
    rw [h1] at e1
    cases e1
    exact ⟨its, r, ⟨o, n, h1, e2, hd, e3⟩, by rw [← r.length]; exact z⟩
  · exact ⟨its.toList, h6, ⟨o, n, I.kIn a o h1, h2, h3, by simpa using h4⟩, by simpa using h5⟩
theorem pairs_two {pins : List (Addr × Obj)} {σ : Sg} {H : Hp} {s : Shared} (I : Inv X pins σ H s) : ∀ {ps : List Addr} {kvs : List (Key × V)}, Paired (fun p kv => SqT X.K H p [kV kv.1, kv.2]) ps kvs →
    ∃ (prs : List (Key × Value)) (zs : List (Value × Value)), KV kvs prs ∧ prs.length = ps.length ∧ zs.length = ps.length ∧ ∀ (j : Nat) (z : Value × Value), zs[j]? = some z → ∃ (b : Addr) (k : Key), ps[j]? = some b ∧ prs[j]? = some (k, z.2) ∧ IsTup s.heap b #[z.1, z.2] ∧ keyIs k z.1 = true
  | _, _, .nil => ⟨[], [], .nil, rfl, rfl, fun j q e => by simp at e⟩
  | _, _, .cons (a := p) (b := kv) h t => by
    obtain ⟨prs, zs, r, hl, hl2, hp⟩ := pairs_two I t
    obtain ⟨its, rv, ht, _⟩ := I.tuple h
    obtain ⟨u, y, ei, ru, ry⟩ := vals2 rv
    subst ei
    refine ⟨(kv.1, y) :: prs, (u, y) :: zs, .cons ⟨rfl, ry⟩ r, by simp [hl], by simp [hl2], fun j q e => ?_⟩
    cases j with
    | zero =>
      cases (Option.some.inj e)
      exact ⟨p, kv.1, rfl, rfl, ht, kV_is (P := X.prog) (w := X.w) ru⟩
    | succ j =>
      obtain ⟨b, k, e1, e2, e3⟩ := hp j q (by simpa using e)
      exact ⟨b, k, by simpa using e1, by simpa using e2, e3⟩
theorem cr_dict (hc : X.calm = true) : CallR X (.type "dict") (rCl X.K dictL) := by
  intro pins s σ H xs us Q I r h
  obtain ⟨ds, r', hd, hr, q⟩ := h
  cases hd with
  | nil => exact nomatch hr
  | cons h1 h2 =>
    cases h2 with
    | cons _ _ => cases h1 <;> exact nomatch hr
    | nil =>
      cases h1 with
      | @lst a o ys ds g1 g2 =>
        have hr : (pairsD ds).map (fun es => PyData.dict (kD (mergeP [] es))) = some r' := hr
        cases hb : pairsD ds with
        | none => rw [hb] at hr; cases hr
        | some es =>
          rw [hb] at hr
          cases hr
          obtain ⟨as, kvs, rfl, ik, pp⟩ := pairs_at g2 hb
          exact thn (call_dictP hc pins s σ H _ us (fun v H' => ∃ p, v = .ref p ∧ H p = none ∧ H' = upd H p (.dK (mergeK [] kvs))) I r ⟨a, as, kvs, rfl, .inl (.inr ⟨_, g1⟩), paired_imp (fun _ _ z => z.1) pp, fun p hp => ⟨p, rfl, hp, rfl⟩⟩) fun u s1 ep => frzDEP ep (ik.merge .nil).kv q
      | @tup a ys ds g1 g2 =>
        have hr : (pairsD ds).map (fun es => PyData.dict (kD (mergeP [] es))) = some r' := hr
        cases hb : pairsD ds with
        | none => rw [hb] at hr; cases hr
        | some es =>
          rw [hb] at hr
          cases hr
          obtain ⟨as, kvs, rfl, ik, pp⟩ := pairs_at g2 hb
          obtain ⟨its, rv, ps, hz⟩ := plain_tup I g1
          have ei := refs_at rv
          subst ei
          obtain ⟨prs, zs, rel, hl, hl2, hpr⟩ := pairs_two I (paired_imp (fun _ _ z => z.1) pp)
          rw [Vals.ref1 r]
          have hz' : as.length ≤ sizeLine := by simpa using hz
          refine thn (Q := fun u s1 => EP X pins σ (fun v H' => ∃ p, v = V.ref p ∧ H p = none ∧ H' = upd H p (.dK (mergeK [] kvs))) u s1) ?_ fun u s1 ep => frzDEP ep (ik.merge .nil).kv q
          refine PySem.call_dict_pairs (knd := mixKind X.prog X.w) (kvs := prs) (PairArg.tuple a (as.map Value.ref).toArray (fun j => as.getD j 0) zs) (I.ok.hd hc) ⟨ps, by simp [hl2], fun j k v e => ?_⟩ ⟨by rw [hl, hl2], fun j k v e => ?_⟩ (by rw [hl2]; exact hz') fun h' tk hd' k => ?_
          · obtain ⟨b, k', e1, e2, e3, e4⟩ := hpr j (k, v) e
            have e5 : as.getD j 0 = b := by rw [List.getD_eq_getElem?_getD, e1]; rfl
            show (List.map Value.ref as).toArray[j]? = some (Value.ref (as.getD j 0)) ∧ PairAt s.heap (as.getD j 0) k v
            rw [e5]
            exact ⟨by simp [e1], .inl e3⟩
          · obtain ⟨b, k', e1, e2, e3, e4⟩ := hpr j (k, v) e
            exact ⟨k', e2, e4⟩
          · have hm : (s.heap.objs.size == sysModules) = false := beq_eq_false_iff_ne.mpr (Nat.ne_of_gt I.big)
            have hlen : (mergeK [] kvs).length ≤ sizeLine := by
              refine Nat.le_trans (length_mergeK kvs []) ?_
              rw [List.length_nil, Nat.zero_add, rel.length, hl]
              exact hz'
            exact ⟨.ref s.heap.objs.size, upd H s.heap.objs.size (.dK (mergeK [] kvs)), I.laid (t' := tk) (fun b o e => k b o (by simp) e) (Nat.le_refl _) (show ObjOk X.prog X.w _ _ _ (.dK (mergeK [] kvs)) from ⟨hlen, hm, merged [] prs, KV.merge rel .nil, hd'⟩), rfl, _, rfl, I.hok.fresh (Nat.le_refl _), rfl⟩
      | _ => exact nomatch hr
end
end DL
namespace DL
open PySem PySem.Spec PyProof.Rows L2
section
variable {X : Cx} {c : Ctx} {e a b b3 l tg : Expr} {es : List Expr} {pos : Pos} {st : Stmt} {sts body : List Stmt}
/-! ### dict comprehensions -/
theorem En.updX {H : Hp} {σ : Sg} {ρ : List Sl} {D : Addr} {u u' : HO} (E : En c H σ ρ) (h : H D = some u) (hf : fixd u = false) (hl : ∀ xs, u ≠ .lst xs) (he : ∀ φ, u ≠ .ext φ) (h0 : c.H0 D = none) : En c (upd H D u') σ ρ := by
  have fx : Fx H (upd H D u') := fun b o f q => by
    by_cases e : b = D
    · subst e; rw [h] at q; cases q; rw [hf] at f; cases f
    · rw [upd_ne e]; exact q
  refine ⟨E.len, fun j s x q1 q2 => SlIs.mono fx (fun b e1 e2 o q => ?_) (E.sl j s x q1 q2), E.ownM, E.sep, E.new, fun b o q n => ?_, E.potS, fun j b hj q => ?_, E.potM, E.bagN, E.bagM, E.bag1⟩
  · have : b ≠ D := fun z => by
      subst z
      rcases e1 with ⟨ds, rfl⟩ | ⟨ks, rfl⟩
      · obtain ⟨a, xs, e, ha, _⟩ := E.sl j _ _ q1 q2
        rw [e2] at e; cases e
        rw [h] at ha; exact hl _ (Option.some.inj ha)
      · obtain ⟨a, xs, e, ha, _⟩ := E.sl j _ _ q1 q2
        rw [e2] at e; cases e
        rw [h] at ha; exact he _ (Option.some.inj ha)
    rw [upd_ne this]; exact q
  · have nb : b ≠ D := fun z => by subst z; rw [h0] at q; cases q
    rw [upd_ne nb]; exact E.keep b o q n
  · by_cases e : b = D
    · subst e; rw [upd_same]; rfl
    · rw [upd_ne e]; exact E.trk j b hj q
abbrev KW := List Sl → (List (Key × D) → List Sl → Prop) → Prop
/-- a new dict -/
def tFK (c : Ctx) (w : KW) : TE := fun σ H Q => ∃ (ρ : List Sl) (Q0 : List (Key × D) → List Sl → Prop), En c H σ ρ ∧ w ρ Q0 ∧ ∀ es ρ' a kvs H', Q0 es ρ' → Gr c σ H H' → En c H' σ ρ' → H a = none → H' a = some (.dK kvs) → IsK c.K H' kvs es → Q (.ref a) H'
def wDcK (vs : List Nat) (wi : LW) (g : GW) (wt : BW) (wk wv : DW) : KW := fun ρ Q => wi ρ fun (xs : List D) ρ1 => ∃ W : Nat → List (Key × D) → List Sl → Prop, W 0 [] (wipeS ρ1 vs) ∧
  (∀ (i : Nat) (x : D) (acc : List (Key × D)) (ρ2 : List Sl), xs[i]? = some x → W i acc ρ2 → g x (wipeS ρ2 vs) fun ρ3 => wt ρ3 fun b ρ4 => if b = true then wk ρ4 fun y ρ5 => wv ρ5 fun z ρ6 => ∃ k, keyOfD y = some k ∧ acc.length < sizeLine ∧ W (i + 1) (putP acc k z) (wipeS ρ6 vs) else W (i + 1) acc (wipeS ρ4 vs)) ∧
  ∀ acc ρ2, W xs.length acc ρ2 → Q acc ρ2
theorem dc_imp {R : Rel} {wi : LW} {g : GW} {wt : BW} {wk wv : DW} {vs : List Nat} (hM : ∀ i, i ∈ vs → i ∉ c.M) (hp : c.pot = none ∨ 0 ∉ vs) : ∀ σ H Q, tFK c (wDcK vs wi g wt wk wv) σ H Q → tDc (iR R c wi) (gR R c vs g) (tT c wt) (tD c wk) (tD c wv) vs σ H Q := by
  rintro σ H Q ⟨ρ, Q0, E, hw, k⟩
  refine ⟨ρ, _, E, hw, fun xs ρ' J H1 q gr E1 hJ => ?_⟩
  obtain ⟨W, w0, ws, wd⟩ := q
  obtain ⟨jgo, jy, jstop⟩ := hJ
  intro D hD
  have h0D : c.H0 D = none := E1.h0 hD
  have HD : H D = none := gr.free E1 hD
  refine ⟨fun i m H2 => m = xs.length - i ∧ i ≤ xs.length ∧ ∃ acc av ρ2, W i acc ρ2 ∧ En c H2 σ ρ2 ∧ Gr c σ H1 H2 ∧ H2 D = some (.dK av) ∧ IsK c.K H2 av acc, ⟨xs.length, by simp, Nat.zero_le _, [], [], wipeS ρ' vs, w0, ?_, ?_, upd_same, .nil⟩, ?_⟩
  · exact (E1.off (Off.refl vs σ) hM hp).same (upd_same' hD)
  · exact Gr.same (upd_same' hD)
  rintro i m H2 ⟨rfl, hi, acc, av, ρ2, hW, E2, g2, hav, iav⟩
  by_cases hlt : i < xs.length
  · refine .inr ⟨jgo i H2 g2.fx hlt, fun H3 => ∃ acc av ρ2, W (i + 1) acc ρ2 ∧ En c H3 σ ρ2 ∧ Gr c σ H1 H3 ∧ H3 D = some (.dK av) ∧ IsK c.K H3 av acc, fun H3 q => ⟨xs.length - (i + 1), by omega, rfl, hlt, q⟩, fun x H3 y => ?_⟩
    have hx := List.getElem?_eq_getElem hlt
    obtain ⟨sm, rx⟩ := jy i x H2 H3 xs[i] g2.fx hx y
    have E3 : En c H3 (wipe σ vs) (wipeS ρ2 vs) := (E2.same sm).off (off_wipe σ vs) hM hp
    refine ⟨xs[i], wipeS ρ2 vs, _, rx, E3, ws i xs[i] acc ρ2 hx hW, fun ρ3 σ3 q3 (o3 : Off vs (wipe σ vs) σ3) E4 => ⟨off_wipes ((off_wipe σ vs).trans o3), ?_⟩⟩
    have oσ : Off vs σ3 σ := ((off_wipe σ vs).trans o3).symm
    have gM : ∀ i, i ∈ c.M → σ[i]? = σ3[i]? := Off.M oσ hM
    have gM' : ∀ i, i ∈ c.M → σ3[i]? = σ[i]? := fun i h => (gM i h).symm
    refine ⟨ρ3, _, E4, q3, fun b ρ4 H4 q4 g4 E5 => ?_⟩
    have g24 : Gr c σ H1 H4 := (g2.trans (Gr.same sm)).trans (g4.congr gM')
    have nOw : ¬ Ow c σ3 D := fun w => E1.notOw hD ((Ow.congr gM').mp w)
    have hD4 : H4 D = some (.dK av) := g4.kp D _ (sm D _ hav) nOw
    have iav4 : IsK c.K H4 av acc := IsK.mono ((Same.fx sm).trans g4.fx) iav
    cases b with
    | false => exact ⟨acc, av, _, q4, E5.off oσ hM hp, g24, hD4, iav4⟩
    | true =>
      refine ⟨ρ4, _, E5, q4, fun y ρ5 v H5 q5 g5 E6 i6 => ?_⟩
      refine ⟨ρ5, _, E6, q5, fun z ρ6 u H6 q6 g6 E7 i7 => ?_⟩
      obtain ⟨kk, hk, hz, q6⟩ := q6
      have hD6 : H6 D = some (.dK av) := g6.kp D _ (g5.kp D _ hD4 nOw) nOw
      have E8 : En c H6 σ (wipeS ρ6 vs) := E7.off oσ hM hp
      have ek := keyD_of hk
      subst ek
      have ev := is_key i6
      subst ev
      have fxD : Fx H6 (upd H6 D (.dK (putK av kk u))) := fun b o f q => by
        by_cases e : b = D
        · subst e; rw [hD6] at q; cases q; cases f
        · rw [upd_ne e]; exact q
      have iav6 : IsK c.K H6 av acc := IsK.mono (g5.fx.trans g6.fx) iav4
      refine ⟨av, kk, rfl, hD6, by rw [iav6.len]; exact hz, putP acc kk z, putK av kk u, wipeS ρ6 vs, q6, E8.updX hD6 rfl (fun _ z => by cases z) (fun _ z => by cases z) h0D, ⟨((g24.trans (g5.congr gM')).trans (g6.congr gM')).fx.trans fxD, fun b o e w => ?_⟩, upd_same, IsK.mono fxD (iav6.put i7)⟩
      have nb : b ≠ D := fun z => by subst z; rw [hD] at e; cases e
      rw [upd_ne nb]
      exact ((g24.trans (g5.congr gM')).trans (g6.congr gM')).kp b o e w
  · have e : i = xs.length := by omega
    subst e
    exact .inl ⟨jstop _ H2 g2.fx (Nat.le_refl _), k acc ρ2 D av H2 (wd acc ρ2 hW) (gr.trans g2) E2 HD hav iav⟩
def wKD (w : KW) : DW := fun ρ Q => w ρ fun es ρ' => Q (.dict (kD es)) ρ'
theorem de_fzK {w : KW} (h : PE X e (tFK c w)) : PE X e (tD c (wKD w)) := by
  refine ⟨fun pins s σ H Q I hq => ?_⟩
  obtain ⟨ρ, Q0, E, hw, k⟩ := hq
  refine thn (h.run pins s σ H (fun v H' => ∃ es ρ' a kvs, v = .ref a ∧ Q0 (.dict (kD es)) ρ' ∧ Gr c σ H H' ∧ En c H' σ ρ' ∧ H a = none ∧ H' a = some (.dK kvs) ∧ IsK c.K H' kvs es) I
    ⟨ρ, _, E, hw, fun es ρ' a kvs H' q g E1 n ha ix => ⟨es, ρ', a, kvs, rfl, q, g, E1, n, ha, ix⟩⟩) fun u s1 ⟨v, H1, I1, r1, es, ρ', a, kvs, e1, q, g, E1, n, ha, ix⟩ => ?_
  subst e1
  obtain ⟨o, I2⟩ := Inv.freeze I1 ha trivial (fun _ _ _ z => by cases z) (fun _ z => by cases z)
  have fx : Fx H1 (upd H1 a (.frz o (.dK kvs))) := fun b o f q => by
    by_cases e : b = a
    · subst e; rw [ha] at q; cases q; cases f
    · rw [upd_ne e]; exact q
  have nb : ∀ b o, H b = some o → b ≠ a := fun b o q z => by subst z; rw [n] at q; cases q
  refine ⟨.ref a, _, I2, r1, k _ ρ' _ _ q ⟨g.fx.trans fx, fun b o q w => ?_⟩ (E1.updX ha rfl (fun _ z => by cases z) (fun _ z => by cases z) (E.h0 n)) (.dct upd_same (IsK.mono fx ix).kv)⟩
  rw [upd_ne (nb b o q)]; exact g.kp b o q w
theorem dk_dc {R : Rel} {kx vx iter : Expr} {ifs : List Expr} {scope : Scope} {own : List (Str × Nat)} {wi : LW} {g : GW} {wt : BW} {wk wv : DW} (hc : X.calm = true) (hN : X.N.Nodup) (ok : BlkOk X.N X.env.scope scope own) (hM : ∀ i, i ∈ own.map (·.2) → i ∉ c.M) (hp : c.pot = none ∨ 0 ∉ own.map (·.2))
    (hi : PI X tg iter (iR R c wi))
    (hg : ∀ (s : Shared) (H : Hp) (C : Addr) (cl : List (Str × Addr)) (fp : List Addr), PG (X.blk s H scope (compEnvC scope cl C X.env) fp) tg (gR R c (own.map (·.2)) g)) (ht : ∀ (s : Shared) (H : Hp) (C : Addr) (cl : List (Str × Addr)) (fp : List Addr), PTs (X.blk s H scope (compEnvC scope cl C X.env) fp) ifs (tT c wt))
    (hk : ∀ (s : Shared) (H : Hp) (C : Addr) (cl : List (Str × Addr)) (fp : List Addr), PE (X.blk s H scope (compEnvC scope cl C X.env) fp) kx (tD c wk)) (he : ∀ (s : Shared) (H : Hp) (C : Addr) (cl : List (Str × Addr)) (fp : List Addr), PE (X.blk s H scope (compEnvC scope cl C X.env) fp) vx (tD c wv)) (hs : ∀ x, foldedSetIterable iter X.env x = pure x := by intro _; rfl) :
    PE X (.DictComp kx vx [⟨tg, iter, ifs, 0⟩] scope pos) (tFK c (wDcK (own.map (·.2)) wi g wt wk wv)) := PE.imp (pe_dc hc hN hi ok hg ht hk he hs) (dc_imp hM hp)
/-- y = {..}, y a local that no block catches -/
theorem sw_trueD {kx vx : Expr} {gs : List Comprehension} {scope : Scope} {pos py : Pos} {y : Str} {l : Nat} {env : Env} (hk : env.scope.kind = .function) (hy : env.scope.names.lookup y = some .local) (hl : (py.line == pos.line) = true)
    (ha : (scope.names.any fun (n, k) => n == y && (k == .local || k == .cell)) = false) : swapsWith (.DictComp kx vx gs scope pos) (some (.Name y py)) l env = pure true := by
  have e1 : env.kindOf y = some .local := hy
  have e2 : env.blockKind = .function := by unfold Env.blockKind; rw [hk]; rfl
  unfold swapsWith
  simp only [e2, e1, ha, Expr.pos, hl]
  rfl
theorem ps_setDc {i : Nat} {y : Str} {py : Pos} {kx vx iter : Expr} {ifs : List Expr} {scope : Scope} {own : List (Str × Nat)} {pos spos : Pos} {wi : TI} {g : TG} {tt : TT} {tk tv : TE} (hc : X.calm = true) (hN : X.N.Nodup) (hy : X.N[i]? = some y) (hyl : X.env.scope.names.lookup y = some .local)
    (hsw : swapsWith (.DictComp kx vx [⟨tg, iter, ifs, 0⟩] scope pos) (some (.Name y py)) spos.line X.env = pure true) (hi : PI X tg iter wi) (ok : BlkOk X.N X.env.scope scope own)
    (hg : ∀ (s : Shared) (H : Hp) (C : Addr) (cl : List (Str × Addr)) (fp : List Addr), PG (X.blk s H scope (compEnvC scope cl C X.env) fp) tg g) (ht : ∀ (s : Shared) (H : Hp) (C : Addr) (cl : List (Str × Addr)) (fp : List Addr), PTs (X.blk s H scope (compEnvC scope cl C X.env) fp) ifs tt)
    (hk : ∀ (s : Shared) (H : Hp) (C : Addr) (cl : List (Str × Addr)) (fp : List Addr), PE (X.blk s H scope (compEnvC scope cl C X.env) fp) kx tk)
    (he : ∀ (s : Shared) (H : Hp) (C : Addr) (cl : List (Str × Addr)) (fp : List Addr), PE (X.blk s H scope (compEnvC scope cl C X.env) fp) vx tv) (hs : ∀ x, foldedSetIterable iter X.env x = pure x := by intro _; rfl) :
    PS X (.Assign [.Name y py] (.DictComp kx vx [⟨tg, iter, ifs, 0⟩] scope pos) spos) (tAsg (tDc wi g tt tk tv (own.map (·.2))) (gName i)) := by
  refine ⟨fun pins s σ H D I h => ?_⟩
  rw [exec_Assign_Name_used _ _ _ _ hsw]
  refine wpAny_bind (wpAny_standAt (wpAny_bind ?_))
  show wpAny _ X.A ((comprehension (.DictComp kx vx [⟨tg, iter, ifs, 0⟩] scope pos) scope X.env (firstIterPos [⟨tg, iter, ifs, 0⟩] pos) newDict false (eval iter X.env) (some (assign (.Name y py) X.env))) >>= fun _ => pure ()) _ _ s
  have h' : tDc wi g tt tk tv (own.map (·.2)) σ H (fun x H1 => gName i x σ H1 D.nx) := h
  refine wpAny_bind (thn (dc_core (Qf := fun _ s' => SP X pins D .next s') hc hN I hi ok hg ht hk he hs h' fun L C s' m H' I' q hn f => ?_) fun _ s' hq => wpAny_pure (wpAny_pure hq))
  obtain ⟨f0, f1, f2, f3, f4, f5⟩ := f
  show wpAny _ _ (assign (.Name y py) X.env (.ref L)) _ _ _
  refine wpAny_assign_Name (store_ok2 (v := V.ref L) I' hN hy (.inl hyl) rfl (fun s2 I2 ⟨a, sb, ha⟩ => ?_) (.inr hyl))
  have haC : C ≠ a := ha.elim (fun z => by rw [z]; exact f1) fun z e => f4 y a z e.symm
  exact ⟨m, hn.sameBut sb haC, fun h3 sb3 => ⟨_, H', I2.turned (t' := s2.toks) (fun b o hb e => (sb3.2 b hb).trans e) f0 f1 f3 f4 f5, q⟩⟩
end
end DL
namespace DL
open PySem PySem.Spec PyProof.Rows L2
section
variable {X : Cx} {c : Ctx} {e a b b3 l tg : Expr} {es : List Expr} {pos : Pos} {st : Stmt} {sts body : List Stmt}
theorem ds_setDc {R : Rel} (i : Nat) {y : Str} {py : Pos} {kx vx iter : Expr} {ifs : List Expr} {scope : Scope} {own : List (Str × Nat)} {pos spos : Pos} {wi : LW} {g : GW} {wt : BW} {wk wv : DW} (hc : X.calm = true) (hN : X.N.Nodup) (hy : X.N[i]? = some y) (hyl : X.env.scope.names.lookup y = some .local)
    (hsw : swapsWith (.DictComp kx vx [⟨tg, iter, ifs, 0⟩] scope pos) (some (.Name y py)) spos.line X.env = pure true) (ok : BlkOk X.N X.env.scope scope own) (hM : ∀ i, i ∈ own.map (·.2) → i ∉ c.M) (hp : c.pot = none ∨ 0 ∉ own.map (·.2)) (hiM : i ∉ c.M) (hip : c.pot = none ∨ i ≠ 0)
    (hi : PI X tg iter (iR R c wi))
    (hg : ∀ (s : Shared) (H : Hp) (C : Addr) (cl : List (Str × Addr)) (fp : List Addr), PG (X.blk s H scope (compEnvC scope cl C X.env) fp) tg (gR R c (own.map (·.2)) g)) (ht : ∀ (s : Shared) (H : Hp) (C : Addr) (cl : List (Str × Addr)) (fp : List Addr), PTs (X.blk s H scope (compEnvC scope cl C X.env) fp) ifs (tT c wt))
    (hk : ∀ (s : Shared) (H : Hp) (C : Addr) (cl : List (Str × Addr)) (fp : List Addr), PE (X.blk s H scope (compEnvC scope cl C X.env) fp) kx (tD c wk))
    (he : ∀ (s : Shared) (H : Hp) (C : Addr) (cl : List (Str × Addr)) (fp : List Addr), PE (X.blk s H scope (compEnvC scope cl C X.env) fp) vx (tD c wv)) (hs : ∀ x, foldedSetIterable iter X.env x = pure x := by intro _; rfl) :
    PS X (.Assign [.Name y py] (.DictComp kx vx [⟨tg, iter, ifs, 0⟩] scope pos) spos) (sD c (wSet i (wKD (wDcK (own.map (·.2)) wi g wt wk wv)))) := by
  refine ⟨fun pins s σ H D I h => ?_⟩
  obtain ⟨ρ, D0, E, hw, k1, k2, k3, k4⟩ := h
  refine thn ((ps_setDc hc hN hy hyl hsw hi ok hg ht hk he hs).run pins s σ H { nx := fun σ' H' => ∃ es ρ' a kvs, σ' = σ.set i (some (.ref a)) ∧ D0.nx (ρ'.set i (.dat (.dict (kD es)))) ∧ Gr c σ H H' ∧ En c H' σ ρ' ∧ H a = none ∧ H' a = some (.dK kvs) ∧ IsK c.K H' kvs es, rt := fun _ _ => False } I
    (dc_imp hM hp σ H _ ⟨ρ, _, E, hw, fun es ρ' a kvs H' q g E1 n ha ix => ⟨es, ρ', a, kvs, rfl, q, g, E1, n, ha, ix⟩⟩)) fun fl s1 sp => ?_
  cases fl with
  | next =>
    obtain ⟨σ1, H1, I1, es, ρ', a, kvs, rfl, q, gr, E1, n, ha, ix⟩ := sp
    obtain ⟨o, I2⟩ := Inv.freeze I1 ha trivial (fun _ _ _ z => by cases z) (fun _ z => by cases z)
    have fx : Fx H1 (upd H1 a (.frz o (.dK kvs))) := fun b o f q => by
      by_cases e : b = a
      · subst e; rw [ha] at q; cases q; cases f
      · rw [upd_ne e]; exact q
    have E2 := (E1.updX (u' := .frz o (.dK kvs)) ha rfl (fun _ z => by cases z) (fun _ z => by cases z) (E.h0 n)).setD hiM hip (v := .ref a) (d := .dict (kD es)) (.dct upd_same (IsK.mono fx ix).kv)
    exact ⟨_, _, I2, k1 _ _ _ q (gr.fx.trans fx) E2⟩
  | brk => obtain ⟨_, _, _, z⟩ := sp; exact z.elim
  | cont => obtain ⟨_, _, _, z⟩ := sp; exact z.elim
  | ret u => obtain ⟨_, _, _, _, _, z⟩ := sp; exact z.elim
/-- y = [..], y a local that no block catches -/
theorem ds_setLc {R : Rel} (i : Nat) {y : Str} {py : Pos} {elt iter : Expr} {ifs : List Expr} {scope : Scope} {own : List (Str × Nat)} {pos spos : Pos} {wi : LW} {g : GW} {wt : BW} {we : DW} (hc : X.calm = true) (hN : X.N.Nodup) (hy : X.N[i]? = some y) (hyl : X.env.scope.names.lookup y = some .local)
    (hsw : swapsWith (.ListComp elt [⟨tg, iter, ifs, 0⟩] scope pos) (some (.Name y py)) spos.line X.env = pure true) (ok : BlkOk X.N X.env.scope scope own) (hM : ∀ i, i ∈ own.map (·.2) → i ∉ c.M) (hp : c.pot = none ∨ 0 ∉ own.map (·.2)) (hiM : i ∉ c.M) (hip : c.pot = none ∨ i ≠ 0)
    (hi : PI X tg iter (iR R c wi))
    (hg : ∀ (s : Shared) (H : Hp) (C : Addr) (cl : List (Str × Addr)) (fp : List Addr), PG (X.blk s H scope (compEnvC scope cl C X.env) fp) tg (gR R c (own.map (·.2)) g)) (ht : ∀ (s : Shared) (H : Hp) (C : Addr) (cl : List (Str × Addr)) (fp : List Addr), PTs (X.blk s H scope (compEnvC scope cl C X.env) fp) ifs (tT c wt))
    (he : ∀ (s : Shared) (H : Hp) (C : Addr) (cl : List (Str × Addr)) (fp : List Addr), PE (X.blk s H scope (compEnvC scope cl C X.env) fp) elt (tD c we)) (hs : ∀ x, foldedSetIterable iter X.env x = pure x := by intro _; rfl) :
    PS X (.Assign [.Name y py] (.ListComp elt [⟨tg, iter, ifs, 0⟩] scope pos) spos) (sD c (wSet i (wL (wLc (own.map (·.2)) wi g wt we)))) := by
  refine ⟨fun pins s σ H D I h => ?_⟩
  obtain ⟨ρ, D0, E, hw, k1, k2, k3, k4⟩ := h
  refine thn ((ps_setLc hc hN hy hyl hsw hi ok hg ht he hs).run pins s σ H { nx := fun σ' H' => ∃ ds ρ' a xs, σ' = σ.set i (some (.ref a)) ∧ D0.nx (ρ'.set i (.dat (.list ds))) ∧ Gr c σ H H' ∧ En c H' σ ρ' ∧ H a = none ∧ H' a = some (.lst xs) ∧ IsAll c.K H' xs ds, rt := fun _ _ => False } I
    (lc_imp hM hp σ H _ ⟨ρ, _, E, hw, fun ds ρ' a xs H' q g E1 n ha ix => ⟨ds, ρ', a, xs, rfl, q, g, E1, n, ha, ix⟩⟩)) fun fl s1 sp => ?_
  cases fl with
  | next =>
    obtain ⟨σ1, H1, I1, ds, ρ', a, xs, rfl, q, gr, E1, n, ha, ix⟩ := sp
    obtain ⟨o, I2⟩ := Inv.freeze I1 ha trivial (fun _ _ _ z => by cases z) (fun _ z => by cases z)
    have fx : Fx H1 (upd H1 a (.frz o (.lst xs))) := fun b o f q => by
      by_cases e : b = a
      · subst e; rw [ha] at q; cases q; cases f
      · rw [upd_ne e]; exact q
    have E2 := (E1.frzN (o := o) ha (E.h0 n) (E.sepN E1 n)).setD hiM hip (v := .ref a) (d := .list ds) (.lst upd_same (IsAll.mono fx ds xs ix))
    exact ⟨_, _, I2, k1 _ _ _ q (gr.fx.trans fx) E2⟩
  | brk => obtain ⟨_, _, _, z⟩ := sp; exact z.elim
  | cont => obtain ⟨_, _, _, z⟩ := sp; exact z.elim
  | ret u => obtain ⟨_, _, _, _, _, z⟩ := sp; exact z.elim
/-- .. as a list of one's own -/
theorem ds_setLcO {R : Rel} (i : Nat) {y : Str} {py : Pos} {elt iter : Expr} {ifs : List Expr} {scope : Scope} {own : List (Str × Nat)} {pos spos : Pos} {wi : LW} {g : GW} {wt : BW} {we : DW} (hc : X.calm = true) (hN : X.N.Nodup) (hy : X.N[i]? = some y) (hyl : X.env.scope.names.lookup y = some .local)
    (hsw : swapsWith (.ListComp elt [⟨tg, iter, ifs, 0⟩] scope pos) (some (.Name y py)) spos.line X.env = pure true) (ok : BlkOk X.N X.env.scope scope own) (hM : ∀ i, i ∈ own.map (·.2) → i ∉ c.M) (hp : c.pot = none ∨ 0 ∉ own.map (·.2)) (hiM : i ∈ c.M) (hip : c.pot = none ∨ i ≠ 0)
    (hi : PI X tg iter (iR R c wi))
    (hg : ∀ (s : Shared) (H : Hp) (C : Addr) (cl : List (Str × Addr)) (fp : List Addr), PG (X.blk s H scope (compEnvC scope cl C X.env) fp) tg (gR R c (own.map (·.2)) g)) (ht : ∀ (s : Shared) (H : Hp) (C : Addr) (cl : List (Str × Addr)) (fp : List Addr), PTs (X.blk s H scope (compEnvC scope cl C X.env) fp) ifs (tT c wt))
    (he : ∀ (s : Shared) (H : Hp) (C : Addr) (cl : List (Str × Addr)) (fp : List Addr), PE (X.blk s H scope (compEnvC scope cl C X.env) fp) elt (tD c we)) (hs : ∀ x, foldedSetIterable iter X.env x = pure x := by intro _; rfl) :
    PS X (.Assign [.Name y py] (.ListComp elt [⟨tg, iter, ifs, 0⟩] scope pos) spos) (sD c (wSetO i (wLc (own.map (·.2)) wi g wt we))) := by
  refine PS.imp (ps_setLc hc hN hy hyl hsw hi ok hg ht he hs) ?_
  rintro D σ H ⟨ρ, D0, E, hw, k1, k2, k3, k4⟩
  exact lc_imp hM hp σ H _ ⟨ρ, _, E, hw, fun ds ρ' a xs H' q g E' n ha ix => k1 _ _ H' q g.fx (E'.setO hiM hip ha ix (E.h0 n) fun j es _ h1 h2 => E.sepN E' n j es h1 h2)⟩

/-! ### enumerate of a tuple -/
/-- the tuple at a, each item in a new pair -/
def ItTe (K : PySem.W.Frag) (a : Addr) : It :=
  ⟨fun i H => ∃ (xs : List V) (x : V), SqT K H a xs ∧ xs[i]? = some x, fun i H v H' => ∃ T x, v = .ref T ∧ H T = none ∧ H' = upd H T (.tup [.int (i : Nat), x]) ∧ ∀ xs, SqT K H a xs → xs[i]? = some x, fun i H => ∃ xs : List V, SqT K H a xs ∧ xs.length ≤ i⟩
theorem en_newT (t : Addr) (items : Array Value) (B : Begins (.ref t) { cls := .type "tuple_iterator", data := .fields #[.ref t, .int 0 0] } fun h => h.IsTuple t items) :
    Meets (Builtin.«enumerate.__new__» ⟨[.type "enumerate", .ref t], []⟩) (fun _ R s => s.heap.IsTuple t items ∧
      R (.ok (.ret (.ref (s.heap.push { cls := .type "tuple_iterator", data := .fields #[.ref t, .int 0 0] }).objs.size)))
        { s with heap := (s.heap.push { cls := .type "tuple_iterator", data := .fields #[.ref t, .int 0 0] }).push { cls := .type "enumerate", data := .fields #[.none, .bool false, .ref s.heap.objs.size, rawInt 0, .none, .none] } }) :=
  .of_wp fun prog w A R s h => by
    obtain ⟨hp, g, d, tk, os⟩ := s
    obtain ⟨hT, fin⟩ := h
    have hsub := sub_enumerate
    have it : ∀ {A' : Around} {E : Value → Shared → Prop} {Q : Value → Shared → Prop}, Q (.ref hp.objs.size) ⟨hp.push { cls := .type "tuple_iterator", data := .fields #[.ref t, .int 0 0] }, g, d, tk, os⟩ → wpAny (model prog w) A' (pyIter (.ref t)) Q E ⟨hp, g, d, tk, os⟩ :=
      fun q => B.iter prog w _ _ ⟨hp, g, d, tk, os⟩ _ hT q
    wp_walk using it
    refine wpAny_stack_any fun st => wpAny_pure ?_
    split <;> try (rename_i c _ _ _ _ _; cases (c == Value.type "enumerate"))
    all_goals (wp_walk using it; exact ⟨_, rfl, fin⟩)
theorem call_enT {prog : Program} {w : World} {A : Around} {E : Value → Shared → Prop} {s : Shared} {t : Addr} {items : Array Value} {Q : Value → Shared → Prop} (hT : s.heap.IsTuple t items)
    (h : ∀ h', IsEnum h' (s.heap.objs.size + 1) s.heap.objs.size 0 .none → h'.IsTupleIter s.heap.objs.size t 0 → (∀ b o, s.heap.get? b = some o → h'.get? b = some o) → Q (.ref (s.heap.objs.size + 1)) { s with heap := h' }) :
    wpAny (model prog w) A (call (.type "enumerate") [.ref t]) Q E s := by
  refine callType_new F.called_enumerate (by decide) (F.typeCall_enumerate_1 _) (F.newCall_enumerate_1 _) (fun obj => F.args_object_init_2 obj _) F.entry_enumerate_new (en_newT t items (begins_tuple t items)) ⟨hT, ?_⟩
  have sz : (s.heap.push { cls := .type "tuple_iterator", data := .fields #[.ref t, .int 0 0] }).objs.size = s.heap.objs.size + 1 := Heap.size_push ..
  show _ ∧ _
  rw [sz]
  have en := Heap.get?_push_size (s.heap.push { cls := .type "tuple_iterator", data := .fields #[.ref t, .int 0 0] }) (o := { cls := .type "enumerate", data := .fields #[.none, .bool false, .ref s.heap.objs.size, rawInt 0, .none, .none] }) rfl
  rw [sz] at en
  exact ⟨⟨_, en, rfl⟩, h _ en ⟨_, Heap.get?_push_of_some _ (Heap.get?_push_size _ rfl), rfl, rfl⟩ fun b o z => Heap.get?_push_of_some _ (Heap.get?_push_of_some _ z)⟩
theorem turn_enT {P : Program} {w : World} {K : PySem.W.Frag} {elts : List Expr} {kk : Nat} {tpos : Pos} (a e it : Addr) :
    Turn P w K (.Tuple elts kk tpos) (ItTe K a) [e, it] e (fun i h => (∃ old, IsEnum h e it ((i : Nat) : Int) old) ∧ h.IsTupleIter it a i ∧ e ≠ it) where
  mem := List.mem_cons_self
  obj := fun i h st b hb => by
    obtain ⟨⟨old, he⟩, ⟨o, ho, hc, hd⟩, _⟩ := st
    rcases List.mem_cons.mp hb with z | z
    · subst z; exact ⟨_, he, fun v q => nomatch q⟩
    · rw [List.mem_singleton.mp z]; exact ⟨o, ho, fun v q => by rw [hd] at q; cases q⟩
  keep := fun i h h' st k => ⟨⟨st.1.choose, k e (by simp) _ st.1.choose_spec⟩, st.2.1.at fun o q => k it (by simp) o q, st.2.2⟩
  item := by
    intro X hP hw hK hc i pins s σ H E I hf st hg
    subst hP hw hK
    obtain ⟨⟨old, he⟩, hit, hne⟩ := st
    obtain ⟨xs, x, hq, hx⟩ := hg
    obtain ⟨its, rv, p, hz⟩ := I.tuple hq
    obtain ⟨u, hu, ru⟩ := rv.get hx
    have hel : e < s.heap.objs.size := Heap.lt_size he
    have hil : it < s.heap.objs.size := by obtain ⟨_, q, _⟩ := hit; exact Heap.lt_size q
    have pT : s.heap.IsTuple a its.toArray := p
    have hae : a ≠ e := fun z => by
      subst z
      obtain ⟨o, q, c1, _⟩ := pT
      have w : s.heap.get? a = some _ := he
      rw [q] at w
      cases w
      exact absurd (show Value.type "enumerate" = .type "tuple" from c1) (by decide)
    have hai : a ≠ it := fun z => by
      subst z
      obtain ⟨o, q, c1, _⟩ := pT
      obtain ⟨o2, q2, c2, _⟩ := hit
      rw [q] at q2
      cases q2
      rw [c1] at c2
      exact absurd c2 (by decide)
    refine wpAny_pyNext_enum_itemD (Draws.tuple (A := X.A.in1) (I.ok.hd hc) it a hai its.toArray) he ⟨hit, pT⟩ (i := i) (by rw [List.size_toArray]; exact (List.getElem?_eq_some_iff.mp hu).1) hne (by simp [hne, Ne.symm hae]) fun x' h' tk px ho st' hT hsz hk => ?_
    have ex : x' = u := by
      have : its[i]? = some x' := by simpa using px
      rw [hu] at this; cases this; rfl
    subst ex
    refine ⟨_, rfl, wpAny_letOwnedTupleGo_enum (s := { s with heap := h', toks := tk + 1 }) ho fun h'' he' sb => ?_⟩
    have hT2 : h''.get? s.heap.objs.size = some { cls := .type "tuple", data := .seq #[.int i tk, x'] } := (sb.2 _ (Nat.ne_of_gt hel)).trans hT
    have new : ObjOk X.prog X.w (upd H s.heap.objs.size (.tup [.int (i : Nat), x])) h'' s.heap.objs.size (.tup [.int (i : Nat), x]) :=
      ⟨by show 2 ≤ sizeLine; decide, [.int i tk, x'], .cons ⟨_, rfl⟩ (.cons ru .nil), ⟨_, hT2, rfl, _, rfl⟩⟩
    have I1 : Inv X pins σ (upd H s.heap.objs.size (.tup [.int (i : Nat), x])) { s with heap := h'', toks := tk + 1 } :=
      I.turnedNew (ch := [e, it]) (fun b ob hb q => (sb.2 b (fun z => hb (by simp [z]))).trans (hk b ob (fun z => hb (by simp [z])) (fun z => hb (by simp [z])) q)) hf (Nat.le_refl _) new
    refine ⟨.ref s.heap.objs.size, _, I1, rfl, ⟨_, x, rfl, I.hok.fresh (Nat.le_refl _), rfl, fun ys hy => ?_⟩, ⟨⟨x', ?_⟩, st'.1.at fun o q => (sb.2 it (Ne.symm hne)).trans q, hne⟩, fun b hb => ?_⟩
    · rw [I.tuple_inj hy hq]; exact hx
    · have e1 : ((i + 1 : Nat) : Int) = (i : Int) + 1 := by omega
      rw [e1]; exact he'
    · have hb' : b < s.heap.objs.size := by
        rcases List.mem_cons.mp hb with z | z
        · rw [z]; exact hel
        · rw [List.mem_singleton.mp z]; exact hil
      rw [upd_ne (Nat.ne_of_lt hb')]
      exact (hf b hb).1
  done := by
    intro X hP hw hK hc i pins s σ H E I hf st hg
    subst hP hw hK
    obtain ⟨⟨old, he⟩, hit, hne⟩ := st
    obtain ⟨xs, hq, hx⟩ := hg
    obtain ⟨its, rv, p, hz⟩ := I.tuple hq
    obtain ⟨f0, f1, f2, f3, f4, f5⟩ := hf it (by simp)
    have pT : s.heap.IsTuple a its.toArray := p
    have hl := rv.length
    have D : Draws X.prog X.w X.A.in1 it [it, a] i (fun _ _ => True) (fun j h => j = i ∧ h.IsTupleIter it a i ∧ h.IsTuple a its.toArray) := {
      live := fun j h q => let ⟨o, ho, _⟩ := q.2.1; ⟨o, ho⟩
      frame := fun j h h' q k => ⟨q.1, q.2.1.at fun o e => k it (by simp) o e, q.2.2.at fun o e => k a (by simp) o e⟩
      item := fun j s Q E hj q _ => by have := q.1; omega
      done := fun s Q E q k => wpAny_nextOf_tuple_end (I.ok.hd hc) q.2.1 q.2.2 (by simp; omega) k }
    exact wpAny_pyNext_enum_endD D he ⟨rfl, hit, pT⟩ fun h' eb => ⟨rfl, I.turned (t' := s.toks) (fun b o hb q => eb b o hb q) f0 f1 f3 f4 f5⟩
  self := fun A i s Q E st h => wpAny_pyIter_enum st.1.choose_spec h
end
def iEnT (K : PySem.W.Frag) (ta : TA) : TI := fun σ H R => ta σ H fun vs H1 => ∃ a xs, vs = [.ref a] ∧ SqT K H1 a xs ∧ R (ItTe K a) H1
theorem pi_enT {X : Cx} {e : Expr} {ta : TA} {p pos tpos : Pos} {elts : List Expr} {kk : Nat} (hg : Gl X "enumerate") (hm : X.mg "enumerate" = none) (ha : PA X [e] ta) (hs : starEach [e] X.env = [(false, eval e X.env)] := by rfl) :
    PI X (.Tuple elts kk tpos) (.Call (.Name "enumerate" p) [e] [] pos) (iEnT X.K ta) := by
  refine ⟨fun pins s σ H R I h => Call_ (ld_blt I hg hm boot_enumerate (PyProof.Rows.callWith_type1 (thn (ha.run pos pins s σ H _ I h) fun us s1 ⟨vs, H1, I1, r1, q1⟩ => ?_) hs rfl))⟩
  obtain ⟨a, xs, ex, hq, q⟩ := q1
  subst ex
  rw [Vals.ref1 r1]
  obtain ⟨its, rv, p', hz⟩ := I1.tuple hq
  refine call_enT (show s1.heap.IsTuple a its.toArray from p') fun h' he hit hk => wpAny_pyIter_enum he ?_
  have I2 : Inv X pins σ H1 { s1 with heap := h' } := I1.kept (t' := s1.toks) hk
  refine ⟨s1.heap.objs.size + 1, [s1.heap.objs.size + 1, s1.heap.objs.size], _, _, H1, rfl, I2, turn_enT a (s1.heap.objs.size + 1) s1.heap.objs.size, ⟨⟨.none, he⟩, hit, Nat.succ_ne_self _⟩, fun b hb => ?_, q⟩
  have hle : s1.heap.objs.size ≤ b := by
    rcases List.mem_cons.mp hb with z | z
    · rw [z]; exact Nat.le_add_right _ _
    · rw [List.mem_singleton.mp z]; exact Nat.le_refl _
  exact I1.fpOk hle (I1.hok.fresh hle)
section
variable {X : Cx} {c : Ctx} {a : Expr} {pos : Pos}
def wEnumT (wa : LW) : LW := fun ρ Q => wa ρ fun ds ρ1 => ∃ xs, ds = [.tuple xs] ∧ Q (enumD xs) ρ1
theorem di_enT {p tpos : Pos} {elts : List Expr} {kk : Nat} {wa : LW} (hg : Gl X "enumerate") (hm : X.mg "enumerate" = none) (ha : PA X [a] (tA c wa)) (hs : starEach [a] X.env = [(false, eval a X.env)] := by rfl) (hK : c.K = X.K := by rfl) : PI X (.Tuple elts kk tpos) (.Call (.Name "enumerate" p) [a] [] pos) (iW c (wEnumT wa)) := by
  refine PI.imp (pi_enT hg hm ha hs) ?_
  rintro σ H Q ⟨ρ, Q0, E, hw, k⟩
  refine ⟨ρ, _, E, hw, fun ds ρ' vs H' q g E1 i1 => ?_⟩
  obtain ⟨xs, rfl, q⟩ := q
  cases i1 with
  | cons h3 h4 =>
    cases h4
    cases h3 with
    | @tup a ys ds h1 h2 =>
      have sq : ∀ H2, Fx H' H2 → SqT X.K H2 a ys := fun H2 f => by rw [← hK]; exact (f.tupK h1).sqT
      refine ⟨a, ys, rfl, sq H' (Fx.refl _), k _ ρ' _ H' q g E1 ⟨fun i H2 f hi => ?_, fun i x H2 H3 d f hd y => ?_, fun i H2 f hi => ⟨ys, sq H2 f, by rw [h2.length, ← enumD_length]; exact hi⟩⟩⟩
      · rw [enumD_length, ← h2.length] at hi
        exact ⟨ys, ys[i], sq H2 f, List.getElem?_eq_getElem hi⟩
      · obtain ⟨T, x', rfl, n, rfl, y⟩ := y
        obtain ⟨z, hz, rfl⟩ := enumD_get hd
        obtain ⟨v, hv, iv⟩ := h2.get hz
        have e := (y ys (sq _ f)).symm.trans hv
        cases e
        have sm := upd_same' (o := .tup [.int (i : Nat), x']) n
        exact ⟨sm, .inr ⟨T, _, _, rfl, rfl, SqT.of upd_same, .cons (.int _) (.cons (Is.mono (f.trans (Same.fx sm)) _ _ iv) .nil)⟩⟩
end
end DL
namespace DL
open PySem PySem.Spec PyProof.Rows L2
section
variable {X : Cx} {c : Ctx} {e a b b3 l tg : Expr} {es : List Expr} {pos : Pos} {st : Stmt} {sts body : List Stmt}
/-! ### the script: ints in a list that is only read -/
theorem ints_of {K : PySem.W.Frag} {H : Hp} {a : Addr} {ns : List Int} (hO : Only H) (h : SqL K H a (ns.map V.int)) : ∀ H', Fx H H' → SqL K H' a (ns.map V.int) := fun H' f => by
  rcases h with (h | ⟨o, h⟩) | h
  · rcases hO a with z | ⟨o, xs, z⟩ <;> rw [h] at z <;> cases z
  · exact .inl (.inr ⟨o, f _ _ rfl h⟩)
  · exact .inr h
theorem atI_map {α β : Type} {g : α → β} {xs : List α} {i : Int} {z : α} (h : L2.atI xs i = some z) : L2.atI (xs.map g) i = some (g z) := by
  unfold L2.atI at h ⊢
  rw [List.length_map]
  cases q : ixN xs.length i with
  | none => rw [q] at h; cases h
  | some j =>
    rw [q] at h
    have h : xs[j]? = some z := h
    show (xs.map g)[j]? = some (g z)
    rw [List.getElem?_map, h]; rfl
def wLenI (i : Nat) : DW := fun ρ Q => ∃ ns : List Int, ρ[i]? = some (.ints ns) ∧ Q (.int ns.length) ρ
theorem de_lenI (i : Nat) {x : Str} {p p2 : Pos} (hg : Gl X "len") (hm : X.mg "len" = none) (hN : X.N[i]? = some x := by rfl) (hv : Vis X.env.scope x := by first | exact Or.inl rfl | exact Or.inr (Or.inl rfl) | exact Or.inr (Or.inr rfl)) (hd : (x == ("__debug__" : Str)) = false := by decide)
    (hcd : (x == ("__classdict__" : Str)) = false := by decide) (hK : c.K = X.K := by rfl)
    (he : starEach [.Name x p2] X.env = (false, eval (.Name x p2) X.env) :: starEach [] X.env := by rfl) (hpl : (backTo pos (starEach [] X.env)).any (·.1) = false := by rfl) : PE X (.Call (.Name "len" p) [.Name x p2] [] pos) (tD c (wLenI i)) := by
  refine PE.imp (pe_callB call_len_seq hg hm PySem.boot_len (pa_cons (pe_var hN hv hd hcd) pa_nil he) (by decide) (by decide) he hpl) ?_
  rintro σ H Q ⟨ρ, Q0, E, ⟨ns, h1, q⟩, k⟩
  obtain ⟨x, hx, a, rfl, ha⟩ := E.at h1
  refine ⟨_, hx, a, ns.map V.int, rfl, .inl (by rw [← hK]; exact ha H (Fx.refl H)), ?_⟩
  rw [List.length_map]
  exact k _ ρ _ H q (Gr.refl H) E (.int _)
def wIxI (i : Nat) (wb : DW) : DW := fun ρ Q => (∃ ns, ρ[i]? = some (.ints ns)) ∧ wb ρ fun e ρ1 => ∃ (ns : List Int) (j z : Int), ρ1[i]? = some (.ints ns) ∧ e = .int j ∧ L2.atI ns j = some z ∧ Q (.int z) ρ1
theorem de_ixI (i : Nat) {wb : DW} {x : Str} {p2 : Pos} (hb : PE X b (tD c wb)) (hN : X.N[i]? = some x := by rfl) (hv : Vis X.env.scope x := by first | exact Or.inl rfl | exact Or.inr (Or.inl rfl) | exact Or.inr (Or.inr rfl)) (hd : (x == ("__debug__" : Str)) = false := by decide)
    (hcd : (x == ("__classdict__" : Str)) = false := by decide) (hs : PlainIx b := by exact fun _ _ => rfl) (hK : c.K = X.K := by rfl) : PE X (.Subscript (.Name x p2) b pos) (tD c (wIxI i wb)) := by
  refine PE.imp (pe_ix ix_list (pe_var hN hv hd hcd) hb hs) ?_
  rintro σ H Q ⟨ρ, Q0, E, ⟨⟨ns0, h0⟩, hw⟩, k⟩
  obtain ⟨x0, hx, a, rfl, _⟩ := E.at h0
  refine ⟨_, hx, ρ, _, E, hw, fun e ρ1 u H1 q g E1 i1 => ?_⟩
  obtain ⟨ns, j, z, h1, rfl, hz, q⟩ := q
  obtain ⟨x1, hx1, a1, e1, ha⟩ := E1.at h1
  rw [hx] at hx1
  cases hx1
  cases e1
  cases i1
  exact ⟨a, ns.map V.int, j, .int z, rfl, rfl, by rw [← hK]; exact ha H1 (Fx.refl H1), atI_map hz, k _ ρ1 _ H1 q g E1 (.int z)⟩
abbrev PI' := List Int → List D → (Rv → Prop) → Prop
def spI (K : PySem.W.Frag) (n : Nat) (w : PI') : Sp := fun vs H Q _ => ∃ (a : Addr) (vr : List V) (ns : List Int) (ds : List D) (Q0 : Rv → Prop), vs = .ref a :: vr ∧ (∀ H', Fx H H' → SqL K H' a (ns.map V.int)) ∧ IsAll K H vr ds ∧ ds.length = n ∧ w ns ds Q0 ∧ ∀ r v H', Q0 r → Same H H' → RvIs K H H' v r → Q v H'
def wCallI (i n : Nat) (w : PI') (wa : LW) : DW := fun ρ Q => (∃ ns, ρ[i]? = some (.ints ns)) ∧ wa ρ fun ds ρ1 => ∃ ns, ρ1[i]? = some (.ints ns) ∧ ds.length = n ∧ w ns ds fun r => ∃ d, r = .d d ∧ Q d ρ1
def wCallIF (i n : Nat) (w : PI') (wa : LW) : LW := fun ρ Q => (∃ ns, ρ[i]? = some (.ints ns)) ∧ wa ρ fun ds ρ1 => ∃ ns, ρ1[i]? = some (.ints ns) ∧ ds.length = n ∧ w ns ds fun r => ∃ d, r = .f d ∧ Q d ρ1
theorem callI_imp {i n : Nat} {w : PI'} {wa : LW} {K : PySem.W.Frag} {E : XK} (hK : c.K = K) : ∀ σ H Q, tD c (wCallI i n w wa) σ H Q → tCall (spI K n w) [] E (tCons (tVar i) (tA c wa)) σ H Q := by
  subst hK
  rintro σ H Q ⟨ρ, Q0, E, ⟨⟨ns0, h0⟩, hw⟩, k⟩
  obtain ⟨x0, hx, a, rfl, _⟩ := E.at h0
  refine ⟨_, hx, ρ, _, E, hw, fun ds ρ1 vs H1 q g E1 i1 => ?_⟩
  obtain ⟨ns, h1, hl, q⟩ := q
  obtain ⟨x1, hx1, a1, e1, ha⟩ := E1.at h1
  rw [hx] at hx1
  cases hx1
  cases e1
  refine ⟨a, vs, ns, ds, _, by simp, ha, i1, hl, q, fun r v H2 q2 sm rv => ?_⟩
  obtain ⟨d, rfl, q2⟩ := q2
  exact k d ρ1 v H2 q2 (g.trans (Gr.same sm)) (E1.same sm) rv
theorem callIF_imp {i n : Nat} {w : PI'} {wa : LW} {K : PySem.W.Frag} {E : XK} (hK : c.K = K) : ∀ σ H Q, tF c (wCallIF i n w wa) σ H Q → tCall (spI K n w) [] E (tCons (tVar i) (tA c wa)) σ H Q := by
  subst hK
  rintro σ H Q ⟨ρ, Q0, E, ⟨⟨ns0, h0⟩, hw⟩, k⟩
  obtain ⟨x0, hx, a, rfl, _⟩ := E.at h0
  refine ⟨_, hx, ρ, _, E, hw, fun ds ρ1 vs H1 q g E1 i1 => ?_⟩
  obtain ⟨ns, h1, hl, q⟩ := q
  obtain ⟨x1, hx1, a1, e1, ha⟩ := E1.at h1
  rw [hx] at hx1
  cases hx1
  cases e1
  refine ⟨a, vs, ns, ds, _, by simp, ha, i1, hl, q, fun r v H2 q2 sm rv => ?_⟩
  obtain ⟨d, rfl, q2⟩ := q2
  obtain ⟨b, ys, rfl, nb, hb, iy⟩ := rv
  exact k d ρ1 b ys H2 q2 (g.trans (Gr.same sm)) (E1.same sm) (g.free E1 nb) hb iy
variable {CX : CXT} {k : Nat} {f : Addr} {fd : FuncData} {ps : List Str} {x : Str} {p : Pos} {E0' : XK}
theorem de_callI (i : Nat) {n : Nat} {w : PI'} {wa : LW} {y : Str} {py : Pos} (F : FnOk X.prog X.w X.K X.mg X.base CX k f fd ps (spI X.K n w)) (hr : Room k X.A) (hg : Gl X x) (hm : X.mg x = some (.ref f)) (hk : PySem.W.keepIn X.K (.ref f) = true) (hb : Binds X.K fd ps []) (hx : Passes CX X E0') (ha : PA X es (tA c wa))
    (hN : X.N[i]? = some y := by rfl) (hv : Vis X.env.scope y := by first | exact Or.inl rfl | exact Or.inr (Or.inl rfl) | exact Or.inr (Or.inr rfl)) (hd : (y == ("__debug__" : Str)) = false := by decide) (hcd : (y == ("__classdict__" : Str)) = false := by decide) (hK : c.K = X.K := by rfl)
    (hdb : (x == ("__debug__" : Str)) = false := by decide) (he : starEach (.Name y py :: es) X.env = (false, eval (.Name y py) X.env) :: starEach es X.env := by rfl) (hpl : (backTo pos (starEach es X.env)).any (·.1) = false := by rfl) : PE X (.Call (.Name x p) (.Name y py :: es) [] pos) (tD c (wCallI i n w wa)) :=
  PE.imp (pe_call F hr hg hm hk hb .nil hx (pa_cons (pe_var hN hv hd hcd) ha he) hdb he hpl) (callI_imp hK)
theorem df_callI (i : Nat) {n : Nat} {w : PI'} {wa : LW} {y : Str} {py : Pos} (F : FnOk X.prog X.w X.K X.mg X.base CX k f fd ps (spI X.K n w)) (hr : Room k X.A) (hg : Gl X x) (hm : X.mg x = some (.ref f)) (hk : PySem.W.keepIn X.K (.ref f) = true) (hb : Binds X.K fd ps []) (hx : Passes CX X E0') (ha : PA X es (tA c wa))
    (hN : X.N[i]? = some y := by rfl) (hv : Vis X.env.scope y := by first | exact Or.inl rfl | exact Or.inr (Or.inl rfl) | exact Or.inr (Or.inr rfl)) (hd : (y == ("__debug__" : Str)) = false := by decide) (hcd : (y == ("__classdict__" : Str)) = false := by decide) (hK : c.K = X.K := by rfl)
    (hdb : (x == ("__debug__" : Str)) = false := by decide) (he : starEach (.Name y py :: es) X.env = (false, eval (.Name y py) X.env) :: starEach es X.env := by rfl) (hpl : (backTo pos (starEach es X.env)).any (·.1) = false := by rfl) : PE X (.Call (.Name x p) (.Name y py :: es) [] pos) (tF c (wCallIF i n w wa)) :=
  PE.imp (pe_call F hr hg hm hk hb .nil hx (pa_cons (pe_var hN hv hd hcd) ha he) hdb he hpl) (callIF_imp hK)
end
section
variable {P : Program} {w : World} {K : PySem.W.Frag} {mg : Str → Option Value} {base : Heap} {x qual : Str} {st : Stmt} {f : Addr} {fd : FuncData} {N ps : List Str} {k : Nat}
def slotsI (N : List Str) (ns : List Int) (ds : List D) : List Sl := .ints ns :: (ds.map Sl.dat ++ List.replicate (N.length - (ds.length + 1)) .un)
theorem slotsI_get {N : List Str} {ns : List Int} {ds : List D} {i : Nat} {s : Sl} (h : (slotsI N ns ds)[i]? = some s) : (i = 0 ∧ s = .ints ns) ∨ (∃ j d, i = j + 1 ∧ s = .dat d ∧ ds[j]? = some d) ∨ s = .un := by
  cases i with
  | zero => exact .inl ⟨rfl, (Option.some.inj h).symm⟩
  | succ j =>
    have h : (ds.map Sl.dat ++ List.replicate (N.length - (ds.length + 1)) Sl.un)[j]? = some s := h
    by_cases hi : j < ds.length
    · rw [List.getElem?_append_left (by simpa using hi), List.getElem?_map] at h
      cases e : ds[j]? with
      | none => rw [e] at h; cases h
      | some a => rw [e] at h; cases h; exact .inr (.inl ⟨j, a, rfl, rfl, e⟩)
    · rw [List.getElem?_append_right (by simpa using hi), List.getElem?_replicate] at h
      split at h
      · exact .inr (.inr (Option.some.inj h).symm)
      · cases h
/-- what a body means, as a def's promise -/
def dN (N : List Str) (wb : SW) : PN := fun ds Q => wb ⟨fun _ => Q (.d .none), fun r _ => Q r, fun _ => False, fun _ => False⟩ (slots N ds)
def dP (N : List Str) (wb : SW) : PP := fun ps ds Q => wb ⟨fun ρ => ∃ ps', ρ[0]? = some (.own ps') ∧ Q (.d .none) ps', fun r ρ => ∃ ps', ρ[0]? = some (.own ps') ∧ Q r ps', fun _ => False, fun _ => False⟩ (slotsP N ps ds)
def dI (N : List Str) (wb : SW) : PI' := fun ns ds Q => wb ⟨fun _ => Q (.d .none), fun r _ => Q r, fun _ => False, fun _ => False⟩ (slotsI N ns ds)
theorem okN {n : Nat} (F : Fun K x qual st f fd) (S : FnScope N ps (defScope st)) (M : List Nat) (wb : SW) (hn : ps.length = n) (hM : ∀ i, i ∈ M → n ≤ i)
    (hbody : ∀ (cdv : Value) (A : Around) (outer : List Env) (s : Shared) (H : Hp) (E : XK), Room k (A.deeper (envOfC qual (defScope st) s.heap.objs.size f cdv)) → PSs (cxOf CX0 P w K mg base N qual (defScope st) f cdv A outer s H E).nox (defBody st) (sD ⟨w, K, M, none, H⟩ wb)) : FnOk P w K mg base CX0 (k + 1) f fd ps (spN K n (dN N wb)) :=
  defN F S M wb hn hM hbody fun _ _ _ h => h
theorem okP {n : Nat} (F : Fun K x qual st f fd) (S : FnScope N ps (defScope st)) (M : List Nat) (wb : SW) (hn : ps.length = n + 1) (hM : ∀ i, i ∈ M → i = 0 ∨ n + 1 ≤ i) (h0 : 0 ∈ M)
    (hbody : ∀ (cdv : Value) (A : Around) (outer : List Env) (s : Shared) (H : Hp) (E : XK) (a : Addr), Room k (A.deeper (envOfC qual (defScope st) s.heap.objs.size f cdv)) → PSs (cxOf CX0 P w K mg base N qual (defScope st) f cdv A outer s H E).nox (defBody st) (sD ⟨w, K, M, some a, H⟩ wb)) : FnOk P w K mg base CX0 (k + 1) f fd ps (spP K n (dP N wb)) :=
  defP F S M wb hn hM h0 hbody fun _ _ _ _ h => h
theorem okI {n : Nat} (F : Fun K x qual st f fd) (S : FnScope N ps (defScope st)) (M : List Nat) (wb : SW) (hn : ps.length = n + 1) (hM : ∀ i, i ∈ M → n + 1 ≤ i)
    (hbody : ∀ (cdv : Value) (A : Around) (outer : List Env) (s : Shared) (H : Hp) (E : XK), Room k (A.deeper (envOfC qual (defScope st) s.heap.objs.size f cdv)) → PSs (cxOf CX0 P w K mg base N qual (defScope st) f cdv A outer s H E).nox (defBody st) (sD ⟨w, K, M, none, H⟩ wb)) : FnOk P w K mg base CX0 (k + 1) f fd ps (spI K n (dI N wb)) := by
  refine F.ok S (fun vs H Q E h => ?_) (fun cdv A outer s H vs Q E hr h => ?_)
  · obtain ⟨a, vr, ns, ds, Q0, rfl, _, ia, hl, _⟩ := h
    rw [List.length_cons, ia.length, hl, hn]
  · obtain ⟨a, vr, ns, ds, Q0, rfl, ha, ia, hl, hq, k⟩ := h
    have hlv : vr.length = n := by rw [ia.length, hl]
    have hNn : n + 1 ≤ N.length := by have := congrArg List.length S.pre; rw [List.length_take] at this; omega
    have s0 : (L2.start N (.ref a :: vr))[0]? = some (some (.ref a)) := rfl
    refine ⟨_, hbody cdv A outer s H E hr, slotsI N ns ds, _, ?_, hq, fun ρ' σ' H' q fx E' => ?_, fun r ρ' σ' v H' q fx E' rv => ?_, fun _ _ _ q => q.elim, fun _ _ _ q => q.elim⟩
    · refine ⟨?_, fun i s y h1 h2 => ?_, fun i ds h1 => ?_, fun i j ds es a h1 => ?_, fun i ds a h1 => ?_, fun b o h _ => h, fun a h => ?_, fun i a hi h => ?_, fun h => absurd rfl h, fun i ks a h1 => ?_, fun i ks h1 => ?_, fun i j ks ls h1 => ?_⟩
      · unfold L2.start slotsI
        simp only [List.length_append, List.length_map, List.length_replicate, List.length_cons]
        omega
      · rcases slotsI_get h1 with ⟨rfl, rfl⟩ | ⟨j, d, rfl, rfl, hd⟩ | rfl
        · rw [s0] at h2
          cases h2
          exact ⟨a, rfl, ha⟩
        · obtain ⟨v, rfl, hv⟩ := start_dat (by rw [List.length_cons, hlv, ← hl]; have := (List.getElem?_eq_some_iff.mp hd).1; omega) h2
          obtain ⟨v', hv', iv⟩ := ia.get hd
          have hv2 : vr[j]? = some v := hv
          rw [hv2] at hv'
          cases hv'
          exact ⟨v, rfl, iv⟩
        · trivial
      · rcases slotsI_get h1 with ⟨_, e⟩ | ⟨j, d, _, e, _⟩ | e <;> cases e
      · rcases slotsI_get h1 with ⟨_, e⟩ | ⟨j, d, _, e, _⟩ | e <;> cases e
      · rcases slotsI_get h1 with ⟨_, e⟩ | ⟨j, d, _, e, _⟩ | e <;> cases e
      · cases h
      · have hlt := (List.getElem?_eq_some_iff.mp (start_get h)).1
        rw [List.length_cons] at hlt
        have := hM i hi
        omega
      · rcases slotsI_get h1 with ⟨_, e⟩ | ⟨j, d, _, e, _⟩ | e <;> cases e
      · rcases slotsI_get h1 with ⟨_, e⟩ | ⟨j, d, _, e, _⟩ | e <;> cases e
      · rcases slotsI_get h1 with ⟨_, e⟩ | ⟨j, d, _, e, _⟩ | e <;> cases e
    · exact k (.d .none) .non H' q (fun b o h => E'.keep b o h (by simp)) .non
    · exact k r v H' q (fun b o h => E'.keep b o h (by simp)) rv
/-! ### keywords, in the parameters' order -/
def permL {α : Type} (is : List Nat) (l : List α) : List α := is.filterMap fun i => l[i]?
def kG {α : Type} (n : Nat) (is : List Nat) (us ws : List α) : List α := if us.isEmpty && ws.length == n then permL is ws else []
theorem vals_perm {zs : List V} {ws : List Value} (r : Vals zs ws) : ∀ is : List Nat, Vals (permL is zs) (permL is ws)
  | [] => .nil
  | i :: is => by
    have ih := vals_perm r is
    unfold permL at ih ⊢
    cases e : zs[i]? with
    | none =>
      have : ws[i]? = none := by rw [List.getElem?_eq_none_iff, ← r.length]; exact List.getElem?_eq_none_iff.mp e
      rw [List.filterMap_cons_none e, List.filterMap_cons_none this]; exact ih
    | some v =>
      obtain ⟨u, hu, ru⟩ := r.get e
      rw [List.filterMap_cons_some e, List.filterMap_cons_some hu]; exact .cons ru ih
theorem all_perm {H : Hp} {zs : List V} {ds : List D} (r : IsAll K H zs ds) : ∀ is : List Nat, IsAll K H (permL is zs) (permL is ds)
  | [] => .nil
  | i :: is => by
    have ih := all_perm r is
    unfold permL at ih ⊢
    cases e : ds[i]? with
    | none =>
      have : zs[i]? = none := by rw [List.getElem?_eq_none_iff, r.length]; exact List.getElem?_eq_none_iff.mp e
      rw [List.filterMap_cons_none e, List.filterMap_cons_none this]; exact ih
    | some v =>
      obtain ⟨u, hu, ru⟩ := r.get e
      rw [List.filterMap_cons_some e, List.filterMap_cons_some hu]; exact .cons ru ih
theorem kG_all {H : Hp} {zs : List V} {ds : List D} {n : Nat} {is : List Nat} (r : IsAll K H zs ds) : IsAll K H (kG n is [] zs) (kG n is [] ds) := by
  show IsAll K H (if (true && zs.length == n) = true then permL is zs else []) (if (true && ds.length == n) = true then permL is ds else [])
  rw [r.length]
  by_cases e : (true && ds.length == n) = true
  · rw [if_pos e, if_pos e]; exact all_perm r is
  · rw [if_neg e, if_neg e]; exact .nil
theorem Fun.kb (F : Fun K x qual st f fd) {ks : List Str} {is : List Nat} (h0 : ps ≠ [])
    (h : ∀ (kV doc pm : Value) (an : Option Addr) (cdv ct : Value) (ws : List Value), ws.length = ks.length → bindArgs (PySem.W.fnOf x qual (defArgs st) (defBody st) (defScope st) .none kV doc pm an cdv ct) ⟨[], ks.zip ws⟩ = pure (ps.zip (permL is ws))) : KBinds K fd ps ks (kG ks.length is) (kG ks.length is) := by
  obtain ⟨oc, od, kV, doc, pm, an, cdv, ct, osl, rfl, lk, hcd⟩ := F.ex
  refine ⟨fun s us ws _ hl => ?_, fun {vs us zs ws} r1 r2 => ?_⟩
  · unfold kG at hl ⊢
    split at hl
    · rename_i hc
      rw [if_pos hc]
      simp only [Bool.and_eq_true, List.isEmpty_iff, beq_iff_eq] at hc
      rw [hc.1]
      exact .of_eq (h kV doc pm an cdv ct ws hc.2)
    · exact absurd (List.length_eq_zero_iff.mp hl.symm) h0
  · unfold kG
    have e1 : vs.isEmpty = us.isEmpty := by cases r1 <;> rfl
    rw [e1, r2.length]
    split
    · exact vals_perm r2 is
    · exact .nil
end
end DL
namespace DL
open PySem PySem.Spec PyProof.Rows L2
/-! ### where nothing is being shown: defs that use repr -/
def Gd (A : Around) : Prop := A.guards = some []
structure FnG (P : Program) (w : World) (K : PySem.W.Frag) (mg : Str → Option Value) (base : Heap) (CX : CXT) (k : Nat) (f : Addr) (fd : FuncData) (ps : List Str) (sp : Sp) : Prop where
  ln : ∀ vs H Q E, sp vs H Q E → vs.length = ps.length
  go : ∀ (A : Around) (st : List Env) (s : Shared) (H : Hp) (args : Args) (us : List Value) (vs : List V) (Q : VK) (E : XK), Gd A → Room k A → Env0 P w K mg base A st s H → BindsTo s fd args (ps.zip us) → Vals vs us → sp vs H Q E → codeAny (model P w) A (.call (.ref f) args) (CR CX st P w H s Q E) s
theorem FnG.of {P : Program} {w : World} {K : PySem.W.Frag} {mg : Str → Option Value} {base : Heap} {CX : CXT} {k : Nat} {f : Addr} {fd : FuncData} {ps : List Str} {sp : Sp} (F : FnOk P w K mg base CX k f fd ps sp) : FnG P w K mg base CX k f fd ps sp :=
  ⟨F.len, fun A st s H args us vs Q E _ hr => F.run A st s H args us vs Q E hr⟩
section
variable {X : Cx} {c : Ctx} {e a b b3 l tg : Expr} {es : List Expr} {pos : Pos}
variable {CX : CXT} {k : Nat} {f : Addr} {fd : FuncData} {ps : List Str} {sp : Sp} {x : Str} {p : Pos} {E0' : XK} {t : TA}
theorem pg_call (F : FnG X.prog X.w X.K X.mg X.base CX k f fd ps sp) (hg : Gd X.A) (hr : Room k X.A) (gl : Gl X x) (hm : X.mg x = some (.ref f)) (hk : PySem.W.keepIn X.K (.ref f) = true) (hb : Binds X.K fd ps []) (hx : Passes CX X E0') (ha : PA X (e :: es) t)
    (hdb : (x == ("__debug__" : Str)) = false := by decide) (he : starEach (e :: es) X.env = (false, eval e X.env) :: starEach es X.env := by rfl) (hpl : (backTo pos (starEach es X.env)).any (·.1) = false := by rfl) : PE X (.Call (.Name x p) (e :: es) [] pos) (tCall sp [] E0' t) := by
  refine ⟨fun pins s σ H Q I h => wpAny_Call_Name_kw (ld_glob I gl hm (PySem.W.callWith_K (h₀ := X.base) I.ok.mod.kin hk (thn (ha.run pos pins s σ H _ I h) fun us s1 ⟨vs, H1, I1, r, q⟩ => ⟨I1.kIn, ?_⟩) he hpl) hdb)⟩
  have q : sp vs H1 Q E0' := by
    have z : sp (vs ++ []) H1 Q E0' := q
    rwa [List.append_nil] at z
  have hl : us.length = ps.length := r.length ▸ F.ln _ _ _ _ q
  have bt : BindsTo s1 fd ⟨us, []⟩ (ps.zip us) := by
    have z := hb s1 us I1.kIn (by rw [List.append_nil]; exact hl)
    rw [List.append_nil] at z
    exact z
  refine wpAny_call (codeAny_mono (F.go X.A X.stack s1 H1 ⟨us, []⟩ us vs Q E0' hg hr I1.env0 bt r q) fun out s' z => ?_)
  match out, z with
  | .error x, z => exact hx pins σ H1 s1 x s' I1 z
  | .ok (.ret u), z => exact I1.after z
theorem de_callG {n : Nat} {w : PN} {wa : LW} (F : FnG X.prog X.w X.K X.mg X.base CX k f fd ps (spN X.K n w)) (hg : Gd X.A) (hr : Room k X.A) (gl : Gl X x) (hm : X.mg x = some (.ref f)) (hk : PySem.W.keepIn X.K (.ref f) = true) (hb : Binds X.K fd ps []) (hx : Passes CX X E0') (ha : PA X (e :: es) (tA c wa)) (hK : c.K = X.K := by rfl)
    (hdb : (x == ("__debug__" : Str)) = false := by decide) (he : starEach (e :: es) X.env = (false, eval e X.env) :: starEach es X.env := by rfl) (hpl : (backTo pos (starEach es X.env)).any (·.1) = false := by rfl) : PE X (.Call (.Name x p) (e :: es) [] pos) (tD c (wCall n w wa)) :=
  PE.imp (pg_call F hg hr gl hm hk hb hx ha hdb he hpl) (call_imp hK)
/-! ### repr -/
mutual
theorem plain_noDict : ∀ d : D, d.plain = true → d.hasDict = false
  | .none, _ => rfl
  | .bool _, _ => rfl
  | .int _, _ => rfl
  | .str _, _ => rfl
  | .list ds, h => by
    simp only [PyData.plain] at h
    simp only [PyData.hasDict]
    exact plain_noDicts ds h
  | .tuple ds, h => by
    simp only [PyData.plain] at h
    simp only [PyData.hasDict]
    exact plain_noDicts ds h
  | .dict es, h => (plain_dict_false h).elim
theorem plain_noDicts : ∀ ds : List D, PyData.plainAll ds = true → PyData.hasDictAll ds = false
  | [], _ => rfl
  | d :: ds, h => by
    simp only [PyData.plainAll, Bool.and_eq_true] at h
    simp only [PyData.hasDictAll, plain_noDict d h.1, plain_noDicts ds h.2, Bool.or_self]
end
def reprD (d : D) : Option D := if (d.showable && d.plain && decide (d.depth ≤ 100) && decide (d.shown.length ≤ sizeLine)) = true then some (.str d.shown) else none
def reprA : List D → Option D
  | [d] => reprD d
  | _ => none
theorem cr_repr (hg : Gd X.A) (hu : X.A.units + 120 < cLine) : CallR X (.builtin "repr") (rCl X.K reprA) := by
  intro pins s σ H xs us Q I r h
  obtain ⟨ds, r', hd, hr, q⟩ := h
  cases hd with
  | nil => exact nomatch hr
  | @cons v vs d ds h1 h2 =>
    cases h2 with
    | cons _ _ => exact nomatch hr
    | nil =>
      obtain ⟨u, rfl, ru⟩ := vals1 r
      have hr : (if (d.showable && d.plain && decide (d.depth ≤ 100) && decide (d.shown.length ≤ sizeLine)) = true then some (PyData.str d.shown) else none) = some r' := hr
      split at hr
      · rename_i hz
        simp only [Bool.and_eq_true, decide_eq_true_eq] at hz
        obtain ⟨⟨⟨z1, z2⟩, z3⟩, z4⟩ := hz
        cases hr
        have obj : ∀ a, v = .ref a → wpAny (model X.prog X.w) X.A (call (.builtin "repr") [u]) (EP X pins σ Q) X.xe s := fun a e => by
          subst e
          cases ru
          obtain ⟨as, rd⟩ := Dp.reads I d (.ref a) _ (Is.dp d _ z2 h1) rfl
          refine repr_of_reads' (h₀ := s.heap) rd z1 (fun z => ?_) hg (by omega) (fun _ _ z => z) (fun h' u' tk hk => ⟨.str _, H, I.kept (t' := tk) hk, ⟨_, rfl⟩, q _ H (Same.refl H) (.str _)⟩) z4
          exact absurd z (by rw [plain_noDict d z2]; decide)
        cases h1 with
        | non => cases ru; exact P.repr_of_none ⟨.str _, H, I.kept (t' := s.toks + 1) fun _ _ e => e, ⟨_, rfl⟩, q _ H (Same.refl H) (.str _)⟩
        | bl i => cases ru; exact P.repr_of_bool ⟨.str _, H, I.kept (t' := s.toks + 1) fun _ _ e => e, ⟨_, rfl⟩, q _ H (Same.refl H) (.str _)⟩
        | int i =>
          obtain ⟨t, rfl⟩ := ru
          exact P.repr_of_int (of_decide_eq_true z1) ⟨.str _, H, I.kept (t' := s.toks + 1) fun _ _ e => e, ⟨_, rfl⟩, q _ H (Same.refl H) (.str _)⟩
        | str i =>
          obtain ⟨t, rfl⟩ := ru
          exact P.repr_of_str ⟨.str _, H, I.kept (t' := s.toks + 1) fun _ _ e => e, ⟨_, rfl⟩, q _ H (Same.refl H) (.str _)⟩ z4
        | lst _ _ => exact obj _ rfl
        | tup _ _ => exact obj _ rfl
        | dct _ _ => exact obj _ rfl
      · cases hr
end
end DL
namespace DL
open PySem PySem.Spec PyProof.Rows L2
section
variable {P : Program} {w : World} {K : PySem.W.Frag} {mg : Str → Option Value} {base : Heap} {x qual : Str} {st : Stmt} {f : Addr} {fd : FuncData} {N ps : List Str} {k : Nat} {sp : Sp}
/-- a def by its body, where nothing is being shown -/
theorem fnG_of (F : Fun K x qual st f fd) (S : FnScope N ps (defScope st)) (ln : ∀ vs H Q E, sp vs H Q E → vs.length = ps.length)
    (body : ∀ (cdv : Value) (A : Around) (stk : List Env) (s : Shared) (H : Hp) (vs : List V) (Q : VK) (E : XK), Gd A → Room k (A.deeper (envOfC qual (defScope st) s.heap.objs.size f cdv)) → sp vs H Q E →
      ∃ t, PSs (cxOf CX0 P w K mg base N qual (defScope st) f cdv A stk s H E).nox (defBody st) t ∧ t { nx := fun _ H' => Q .non H', rt := Q } (L2.start N vs) H) : FnG P w K mg base CX0 (k + 1) f fd ps sp := by
  obtain ⟨oc, od, kV, doc, pm, an, cdv, ct, osl, rfl, lk, code⟩ := F.ex
  refine ⟨ln, fun A stk s H args us vs Q E gd room env bind rel want => ?_⟩
  have long := ln _ _ _ _ want
  have old : ∀ b o, base.get? b = some o → s.heap.get? b = some o := fun b o e => (env.bs b o e).1
  have kinds : ∀ y ∈ ps.zip us, (defScope st).names.lookup y.1 = some .local ∨ ((defScope st).names.lookup y.1 = some .cell ∧ ((cellsFrom (s.heap.objs.size + 1) (defScope st).names []).lookup y.1).isSome = true) := by
    rintro ⟨n, v⟩ hy
    exact (S.par n (List.of_mem_zip hy).1).imp id fun q => ⟨q, PySem.W.cellsFrom_some _ _ _ (.inl q)⟩
  refine codeAny_call_function room.depth (env.mod.kin.keeps old _ _ lk) rfl S.co S.gen rfl (PySem.W.codeRec_of (env.mod.kin.keeps old) code) (bind _ _ _ _ (wpAny_newFunctionEnv_cells S.kind kinds fun e1 he s1 call => ?_))
  subst he
  refine ⟨(env.mod.nolimit.keeps old).keeps call.toInCall.keep, codeAny_func ?_⟩
  obtain ⟨t, run, reads⟩ := body cdv A stk s H vs Q E gd (room.deeper _) want
  refine wpAny_mono (run.nox.run [] s1 (L2.start N vs) H _ (inv_start S room.hd env long rel call) reads) (fun out s' z => ?_) fun _ _ z => z
  have done : ∀ {σ' : L2.St} {H' : Hp} {v : V} {u : Value}, Inv (cxOf CX0 P w K mg base N qual (defScope st) f cdv A stk s H E) [] σ' H' s' → RelV v u → Q v H' → CE stk P w H s Q u s' := fun J rv q => ⟨_, _, J.os, J.bare, J.base, J.hok, rv, q⟩
  cases out with
  | ret u => let ⟨_, _, _, J, rv, q⟩ := z; exact done J rv q
  | next => let ⟨_, _, J, q⟩ := z; exact done (v := .non) (u := .none) J rfl q
  | brk => let ⟨_, _, _, q⟩ := z; exact q.elim
  | cont => let ⟨_, _, _, q⟩ := z; exact q.elim
/-- the law's def, called at the end of the top -/
theorem law_goG {mb : Str → Option Value} {fa a : Addr} {s₁ : Shared} {vs : List Value} {ns : List Int} (kin : K.In s₁.heap) (glob : s₁.heap.Ns mainGlobals mg) (blt : s₁.heap.Ns builtinsNs mb) (boot : ∀ x : Str, x ≠ "__name__" → mb x = bootBuiltins x) (lim : s₁.heap.NoLimit) (gens : s₁.gens = #[])
    (obj : s₁.heap.get? a = some { cls := .type "list", data := .seq vs.toArray }) (whole : IntsAre vs ns) (short : ns.length ≤ sizeLine) (room : Room k callerA)
    (F : ∀ base : Heap, K.In base → base.Ns mainGlobals mg → FnG P w K mg base CX0 k fa fd [x] sp) (bind : ∀ (s : Shared) (u : Value), BindsTo s fd ⟨[u], []⟩ [(x, u)])
    (true_ : ∀ H : Hp, Only H → SqL K H a (ns.map V.int) → sp [.ref a] H (fun v _ => v = .bl true) fun _ _ _ => False) :
    codeAny (model P w) callerA (.call (.ref fa) ⟨[.ref a], []⟩) (fun r s' => r = .ok (.ret (.bool true)) ∧ OldK s₁.heap s'.heap ∧ s'.os = s₁.os ∧ AllBare s'.gens) s₁ := by
  have rv := vals_ints whole
  have step : ∀ H : Hp, Only H → SqL K H a (ns.map V.int) → HOk P w H s₁.heap → (∀ b, H b ≠ none → b = a ∧ K.lookup a = none) →
      codeAny (model P w) callerA (.call (.ref fa) ⟨[.ref a], []⟩) (fun r s' => r = .ok (.ret (.bool true)) ∧ OldK s₁.heap s'.heap ∧ s'.os = s₁.os ∧ AllBare s'.gens) s₁ := by
    intro H only seq hok alone
    have dicts : ∀ {b : Addr} {o : Obj} {es : Array DictEntry} {ep : Nat}, s₁.heap.get? b = some o → o.data = .dict es ep → H b = none := fun {b o es ep} e d => by
      cases q : H b with
      | none => rfl
      | some u =>
        obtain ⟨rfl, _⟩ := alone b (by rw [q]; exact fun z => by cases z)
        rw [obj] at e; cases e
        exact absurd d fun z => by cases z
    have ns' : ∀ {b : Addr} {m : Str → Option Value}, s₁.heap.Ns b m → (hidT s₁.heap H).Ns b m := fun ⟨o, es, ep, e, d, r⟩ => ⟨o, es, ep, hidT_get e (dicts e d), d, r⟩
    have kin' : K.In (hidT s₁.heap H) := fun b o e => hidT_get (kin b o e) (by
      cases q : H b with
      | none => rfl
      | some u =>
        obtain ⟨rfl, z⟩ := alone b (by rw [q]; exact fun z => by cases z)
        rw [z] at e; cases e)
    have md : Mod K mg (hidT s₁.heap H) := ⟨kin', ns' glob, ⟨mb, ns' blt, boot⟩, let ⟨mc, h1, h2⟩ := lim; ⟨mc, ns' h1, h2⟩⟩
    have env : Env0 P w K mg (hidT s₁.heap H) callerA [] s₁ H := ⟨rfl, md, fun b o e => of_hidT e, Nat.le_of_eq (hidT_size _ _), trivial, fun b hb => absurd (show b ∈ ([] : List Addr) from hb) (by simp), hok, .of_eq gens⟩
    refine codeAny_mono ((F _ kin' (ns' glob)).go callerA [] s₁ H ⟨[.ref a], []⟩ [.ref a] [.ref a] _ _ rfl room env (bind s₁ (.ref a)) (.cons rfl .nil) (true_ H only seq)) fun r s' h => ?_
    obtain ⟨u, rfl, h⟩ : ∃ u, r = .ok (.ret u) ∧ CE [] P w H s₁ (fun v _ => v = .bl true) u s' := by
      cases r with
      | error e => exact h.elim
      | ok fl =>
        cases fl with
        | ret u => exact ⟨u, rfl, h⟩
        | _ => exact h.elim
    · obtain ⟨v, H', os, bare, un, hok', r', q⟩ := h
      have q' : v = .bl true := q
      subst q'
      obtain rfl : u = Value.bool true := r'
      refine ⟨rfl, OldK.of_keep fun b o e => ?_, os, bare⟩
      cases q : H b with
      | none => exact un.keep b o e q (fun z => absurd (show b ∈ ([] : List Addr) from z) (by simp)) (by simp)
      | some u =>
        rcases only b with z | ⟨ob, xs, z⟩
        · rw [q] at z; cases z
        · have e1 := (hok b _ z).1
          have e2 := (hok' b _ (un.frzs b ob _ z)).1
          rw [e] at e1; cases e1
          exact e2
  cases hk : K.lookup a with
  | some o =>
    have e := kin a o hk
    rw [obj] at e
    cases e
    exact step (fun _ => none) (fun _ => .inl rfl) (.inr ⟨_, vs.toArray, _, hk, rfl, rfl, rfl, by rw [List.size_toArray, whole.length]; exact short, by simpa using rv⟩) (fun b u z => (nomatch z)) fun b z => absurd rfl z
  | none =>
    refine step (fun b => if b = a then some (.frz { cls := .type "list", data := .seq vs.toArray } (.lst (ns.map V.int))) else none) (fun b => ?_) (.inl (.inr ⟨{ cls := .type "list", data := .seq vs.toArray }, if_pos rfl⟩)) (fun b u z => ?_) (fun b z => ?_)
    · exact (Decidable.em (b = a)).elim (fun h => .inr ⟨_, _, if_pos h⟩) fun h => .inl (if_neg h)
    · by_cases hb : b = a
      · subst hb
        have z' := (if_pos rfl).symm.trans z
        cases z'
        exact ⟨obj, by rw [List.length_map]; exact short, vs, _, rv, obj⟩
      · exact nomatch (if_neg hb).symm.trans z
    · exact ⟨Decidable.byContradiction fun hb => absurd (if_neg hb) z, hk⟩
theorem defNG {n : Nat} {w' : PN} (F : Fun K x qual st f fd) (S : FnScope N ps (defScope st)) (M : List Nat) (wb : SW) (hn : ps.length = n) (hM : ∀ i, i ∈ M → n ≤ i)
    (hbody : ∀ (cdv : Value) (A : Around) (outer : List Env) (s : Shared) (H : Hp) (E : XK), Gd A → Room k (A.deeper (envOfC qual (defScope st) s.heap.objs.size f cdv)) → PSs (cxOf CX0 P w K mg base N qual (defScope st) f cdv A outer s H E).nox (defBody st) (sD ⟨w, K, M, none, H⟩ wb))
    (hw : ∀ ds Q0, ds.length = n → w' ds Q0 → wb ⟨fun _ => Q0 (.d .none), fun r _ => Q0 r, fun _ => False, fun _ => False⟩ (slots N ds)) : FnG P w K mg base CX0 (k + 1) f fd ps (spN K n w') := by
  refine fnG_of F S (fun vs H Q E h => ?_) (fun cdv A outer s H vs Q E gd hr h => ?_)
  · obtain ⟨ds, Q0, ia, hl, _⟩ := h
    rw [ia.length, hl, hn]
  · obtain ⟨ds, Q0, ia, hl, hq, k⟩ := h
    have hlv : vs.length = n := by rw [ia.length, hl]
    have hNn : n ≤ N.length := by have := congrArg List.length S.pre; rw [List.length_take] at this; omega
    refine ⟨_, hbody cdv A outer s H E gd hr, slots N ds, _, ?_, hw ds Q0 hl hq, fun ρ' σ' H' q fx E' => ?_, fun r ρ' σ' v H' q fx E' rv => ?_, fun _ _ _ q => q.elim, fun _ _ _ q => q.elim⟩
    · refine ⟨?_, fun i s y h1 h2 => ?_, fun i ds h1 => ?_, fun i j ds es a h1 => ?_, fun i ds a h1 => ?_, fun b o h _ => h, fun a h => ?_, fun i a hi h => ?_, fun h => absurd rfl h, fun i ks a h1 => ?_, fun i ks h1 => ?_, fun i j ks ls h1 => ?_⟩
      · unfold L2.start slots
        simp only [List.length_append, List.length_map, List.length_replicate]
        omega
      · rcases slots_get h1 with ⟨d, rfl, hd⟩ | rfl
        · obtain ⟨v, rfl, hv⟩ := start_dat (by rw [hlv, ← hl]; exact (List.getElem?_eq_some_iff.mp hd).1) h2
          obtain ⟨v', hv', iv⟩ := ia.get hd
          rw [hv] at hv'
          cases hv'
          exact ⟨v, rfl, iv⟩
        · trivial
      · rcases slots_get h1 with ⟨d, e, _⟩ | e <;> cases e
      · rcases slots_get h1 with ⟨d, e, _⟩ | e <;> cases e
      · rcases slots_get h1 with ⟨d, e, _⟩ | e <;> cases e
      · cases h
      · have := (List.getElem?_eq_some_iff.mp (start_get h)).1
        have := hM i hi
        omega
      · rcases slots_get h1 with ⟨d, e, _⟩ | e <;> cases e
      · rcases slots_get h1 with ⟨d, e, _⟩ | e <;> cases e
      · rcases slots_get h1 with ⟨d, e, _⟩ | e <;> cases e
    · exact k (.d .none) .non H' q (fun b o h => E'.keep b o h (by simp)) .non
    · exact k r v H' q (fun b o h => E'.keep b o h (by simp)) rv
theorem defPG {n : Nat} {w' : PP} (F : Fun K x qual st f fd) (S : FnScope N ps (defScope st)) (M : List Nat) (wb : SW) (hn : ps.length = n + 1) (hM : ∀ i, i ∈ M → i = 0 ∨ n + 1 ≤ i) (h0 : 0 ∈ M)
    (hbody : ∀ (cdv : Value) (A : Around) (outer : List Env) (s : Shared) (H : Hp) (E : XK) (a : Addr), Gd A → Room k (A.deeper (envOfC qual (defScope st) s.heap.objs.size f cdv)) → PSs (cxOf CX0 P w K mg base N qual (defScope st) f cdv A outer s H E).nox (defBody st) (sD ⟨w, K, M, some a, H⟩ wb))
    (hw : ∀ ps ds Q0, ds.length = n → w' ps ds Q0 → wb ⟨fun ρ => ∃ ps', ρ[0]? = some (.own ps') ∧ Q0 (.d .none) ps', fun r ρ => ∃ ps', ρ[0]? = some (.own ps') ∧ Q0 r ps', fun _ => False, fun _ => False⟩ (slotsP N ps ds)) : FnG P w K mg base CX0 (k + 1) f fd ps (spP K n w') := by
  refine fnG_of F S (fun vs H Q E h => ?_) (fun cdv A outer s H vs Q E gd hr h => ?_)
  · obtain ⟨a, vr, xs, ps', ds, Q0, rfl, _, _, ia, hl, _⟩ := h
    rw [List.length_cons, ia.length, hl, hn]
  · obtain ⟨a, vr, xs, pl, ds, Q0, rfl, ha, ip, ia, hl, hq, k⟩ := h
    have hlv : vr.length = n := by rw [ia.length, hl]
    have hNn : n + 1 ≤ N.length := by have := congrArg List.length S.pre; rw [List.length_take] at this; omega
    have s0 : (L2.start N (.ref a :: vr))[0]? = some (some (.ref a)) := rfl
    have fin : ∀ {ρ' : List Sl} {σ' : Sg} {H' : Hp} {v : V} {r : Rv}, (∃ ps', ρ'[0]? = some (.own ps') ∧ Q0 r ps') → En ⟨w, K, M, some a, H⟩ H' σ' ρ' → RvIs K H H' v r → Q v H' := fun {ρ' σ' H' v r} q E' rv => by
      obtain ⟨ps', h1, q⟩ := q
      obtain ⟨y, hy, b, ys, rfl, hb, iy⟩ := E'.at h1
      have e := E'.potS a rfl
      rw [hy] at e
      cases e
      exact k r ps' v H' ys q (fun b o hb h => E'.keep b o h fun z => hb (Option.some.inj z).symm) hb iy rv
    refine ⟨_, hbody cdv A outer s H E a gd hr, slotsP N pl ds, _, ?_, hw pl ds Q0 hl hq, fun ρ' σ' H' q fx E' => fin q E' .non, fun r ρ' σ' v H' q fx E' rv => fin q E' rv, fun _ _ _ q => q.elim, fun _ _ _ q => q.elim⟩
    refine ⟨?_, fun i s y h1 h2 => ?_, fun i fs h1 => ?_, fun i j fs gs b h1 h2 _ _ => ?_, fun i fs b h1 h2 => ?_, fun b o h _ => h, fun b h => ?_, fun i b hi h => ?_, fun _ => h0, fun i ks a h1 => ?_, fun i ks h1 => ?_, fun i j ks ls h1 => ?_⟩
    · unfold L2.start slotsP
      simp only [List.length_append, List.length_map, List.length_replicate, List.length_cons]
      omega
    · rcases slotsP_get h1 with ⟨rfl, rfl⟩ | ⟨j, d, rfl, rfl, hd⟩ | rfl
      · rw [s0] at h2
        cases h2
        exact ⟨a, xs, rfl, ha, ip⟩
      · obtain ⟨v, rfl, hv⟩ := start_dat (by rw [List.length_cons, hlv, ← hl]; have := (List.getElem?_eq_some_iff.mp hd).1; omega) h2
        obtain ⟨v', hv', iv⟩ := ia.get hd
        have hv2 : vr[j]? = some v := hv
        rw [hv2] at hv'
        cases hv'
        exact ⟨v, rfl, iv⟩
      · trivial
    · rcases slotsP_get h1 with ⟨rfl, _⟩ | ⟨j, d, _, e, _⟩ | e
      · exact h0
      · cases e
      · cases e
    · have z : ∀ {m : Nat} {l : List D}, (slotsP N pl ds)[m]? = some (Sl.own l) → m = 0 := fun {m l} h => by
        rcases slotsP_get h with ⟨rfl, _⟩ | ⟨j, d, _, e, _⟩ | e
        · rfl
        · cases e
        · cases e
      rw [z h1, z h2]
    · rcases slotsP_get h1 with ⟨rfl, _⟩ | ⟨j, d, _, e, _⟩ | e
      · rw [s0] at h2
        cases h2
        exact .inr ⟨rfl, rfl⟩
      · cases e
      · cases e
    · cases h; exact s0
    · have hlt := (List.getElem?_eq_some_iff.mp (start_get h)).1
      rw [List.length_cons] at hlt
      rcases hM i hi with rfl | h'
      · rw [s0] at h
        cases h
        rw [ha]; rfl
      · omega
    · rcases slotsP_get h1 with ⟨_, e⟩ | ⟨j, d, _, e, _⟩ | e <;> cases e
    · rcases slotsP_get h1 with ⟨_, e⟩ | ⟨j, d, _, e, _⟩ | e <;> cases e
    · rcases slotsP_get h1 with ⟨_, e⟩ | ⟨j, d, _, e, _⟩ | e <;> cases e
theorem okIG {n : Nat} (F : Fun K x qual st f fd) (S : FnScope N ps (defScope st)) (M : List Nat) (wb : SW) (hn : ps.length = n + 1) (hM : ∀ i, i ∈ M → n + 1 ≤ i)
    (hbody : ∀ (cdv : Value) (A : Around) (outer : List Env) (s : Shared) (H : Hp) (E : XK), Gd A → Room k (A.deeper (envOfC qual (defScope st) s.heap.objs.size f cdv)) → PSs (cxOf CX0 P w K mg base N qual (defScope st) f cdv A outer s H E).nox (defBody st) (sD ⟨w, K, M, none, H⟩ wb)) : FnG P w K mg base CX0 (k + 1) f fd ps (spI K n (dI N wb)) := by
  refine fnG_of F S (fun vs H Q E h => ?_) (fun cdv A outer s H vs Q E gd hr h => ?_)
  · obtain ⟨a, vr, ns, ds, Q0, rfl, _, ia, hl, _⟩ := h
    rw [List.length_cons, ia.length, hl, hn]
  · obtain ⟨a, vr, ns, ds, Q0, rfl, ha, ia, hl, hq, k⟩ := h
    have hlv : vr.length = n := by rw [ia.length, hl]
    have hNn : n + 1 ≤ N.length := by have := congrArg List.length S.pre; rw [List.length_take] at this; omega
    have s0 : (L2.start N (.ref a :: vr))[0]? = some (some (.ref a)) := rfl
    refine ⟨_, hbody cdv A outer s H E gd hr, slotsI N ns ds, _, ?_, hq, fun ρ' σ' H' q fx E' => ?_, fun r ρ' σ' v H' q fx E' rv => ?_, fun _ _ _ q => q.elim, fun _ _ _ q => q.elim⟩
    · refine ⟨?_, fun i s y h1 h2 => ?_, fun i ds h1 => ?_, fun i j ds es a h1 => ?_, fun i ds a h1 => ?_, fun b o h _ => h, fun a h => ?_, fun i a hi h => ?_, fun h => absurd rfl h, fun i ks a h1 => ?_, fun i ks h1 => ?_, fun i j ks ls h1 => ?_⟩
      · unfold L2.start slotsI
        simp only [List.length_append, List.length_map, List.length_replicate, List.length_cons]
        omega
      · rcases slotsI_get h1 with ⟨rfl, rfl⟩ | ⟨j, d, rfl, rfl, hd⟩ | rfl
        · rw [s0] at h2
          cases h2
          exact ⟨a, rfl, ha⟩
        · obtain ⟨v, rfl, hv⟩ := start_dat (by rw [List.length_cons, hlv, ← hl]; have := (List.getElem?_eq_some_iff.mp hd).1; omega) h2
          obtain ⟨v', hv', iv⟩ := ia.get hd
          have hv2 : vr[j]? = some v := hv
          rw [hv2] at hv'
          cases hv'
          exact ⟨v, rfl, iv⟩
        · trivial
      · rcases slotsI_get h1 with ⟨_, e⟩ | ⟨j, d, _, e, _⟩ | e <;> cases e
      · rcases slotsI_get h1 with ⟨_, e⟩ | ⟨j, d, _, e, _⟩ | e <;> cases e
      · rcases slotsI_get h1 with ⟨_, e⟩ | ⟨j, d, _, e, _⟩ | e <;> cases e
      · cases h
      · have hlt := (List.getElem?_eq_some_iff.mp (start_get h)).1
        rw [List.length_cons] at hlt
        have := hM i hi
        omega
      · rcases slotsI_get h1 with ⟨_, e⟩ | ⟨j, d, _, e, _⟩ | e <;> cases e
      · rcases slotsI_get h1 with ⟨_, e⟩ | ⟨j, d, _, e, _⟩ | e <;> cases e
      · rcases slotsI_get h1 with ⟨_, e⟩ | ⟨j, d, _, e, _⟩ | e <;> cases e
    · exact k (.d .none) .non H' q (fun b o h => E'.keep b o h (by simp)) .non
    · exact k r v H' q (fun b o h => E'.keep b o h (by simp)) rv
theorem okNG {n : Nat} (F : Fun K x qual st f fd) (S : FnScope N ps (defScope st)) (M : List Nat) (wb : SW) (hn : ps.length = n) (hM : ∀ i, i ∈ M → n ≤ i)
    (hbody : ∀ (cdv : Value) (A : Around) (outer : List Env) (s : Shared) (H : Hp) (E : XK), Gd A → Room k (A.deeper (envOfC qual (defScope st) s.heap.objs.size f cdv)) → PSs (cxOf CX0 P w K mg base N qual (defScope st) f cdv A outer s H E).nox (defBody st) (sD ⟨w, K, M, none, H⟩ wb)) : FnG P w K mg base CX0 (k + 1) f fd ps (spN K n (dN N wb)) :=
  defNG F S M wb hn hM hbody fun _ _ _ h => h
theorem okPG {n : Nat} (F : Fun K x qual st f fd) (S : FnScope N ps (defScope st)) (M : List Nat) (wb : SW) (hn : ps.length = n + 1) (hM : ∀ i, i ∈ M → i = 0 ∨ n + 1 ≤ i) (h0 : 0 ∈ M)
    (hbody : ∀ (cdv : Value) (A : Around) (outer : List Env) (s : Shared) (H : Hp) (E : XK) (a : Addr), Gd A → Room k (A.deeper (envOfC qual (defScope st) s.heap.objs.size f cdv)) → PSs (cxOf CX0 P w K mg base N qual (defScope st) f cdv A outer s H E).nox (defBody st) (sD ⟨w, K, M, some a, H⟩ wb)) : FnG P w K mg base CX0 (k + 1) f fd ps (spP K n (dP N wb)) :=
  defPG F S M wb hn hM h0 hbody fun _ _ _ _ h => h
/-- the end: where the law's def keeps its promise, with nothing being shown -/
theorem walkG {l : PySem.W.OpenLaw} {n k : Nat} {q : Program} {loose : List Str} {XP : (Str → Option Value) → Heap → Prop} {YP : World → Heap → Prop} {d : DefRec} {K : Params → PySem.W.Frag} {x : Str} {sp : World → Sp} (most : l.most = some n) (fits : n ≤ sizeLine) (plain : d.params.defaults = []) (room : Room k callerA)
    (hY : ∀ (w : World) (h : Heap), YP w h → (K w.params).In h)
    (F : ∀ (w : World) (mg : Str → Option Value) (fa : Addr) (h : Heap), (K w.params).In h → h.Ns mainGlobals mg → mg d.name = some (.ref fa) →
      ∃ fd : FuncData, (∀ (s : Shared) (u : Value), BindsTo s fd ⟨[u], []⟩ [(x, u)]) ∧ ∀ base : Heap, (K w.params).In base → base.Ns mainGlobals mg → FnG l.prog w (K w.params) mg base CX0 k fa fd [x] (sp w))
    (hsp : ∀ (w : World) (H : Hp) (a : Addr) (ns : List Int), ns.length ≤ n → Only H → SqL (K w.params) H a (ns.map V.int) → sp w [.ref a] H (fun v _ => v = .bl true) fun _ _ _ => False) : PySem.W.WalkO q loose XP YP l.row.toRowW d [] (fun f vs => PySem.call f vs) := by
  refine Att.attach_call most plain fun w _ s₁ mg mb fa o pm cd doc a vs ns G Y _ _ _ named obj whole short gens => ?_
  obtain ⟨fd, bind, keeps⟩ := F w mg fa _ (hY w _ Y) G.T.g named
  exact law_goG (hY w _ Y) G.T.g G.T.b G.T.builtins G.T.nolimit gens obj whole (Nat.le_trans short fits) room keeps bind fun H only seq => hsp w H a ns short only seq
end
end DL
namespace DL
open PySem PySem.Spec PyProof.Rows L2 RT
section
variable {X : Cx} {c : Ctx} {e a b b3 l tg tg1 : Expr} {es : List Expr} {pos : Pos} {st : Stmt} {sts body : List Stmt}
/-! ### comprehensions of two clauses -/
def wLc2 (vs vs1 : List Nat) (wi : LW) (g : GW) (wt : BW) (wi1 : LW) (g1 : GW) (wt1 : BW) (we : DW) : LW := fun ρ Q => wi ρ fun (xs : List D) ρ1 => ∃ W : Nat → List D → List Sl → Prop, W 0 [] (wipeS ρ1 vs) ∧
  (∀ (i : Nat) (x : D) (acc : List D) (ρ2 : List Sl), xs[i]? = some x → W i acc ρ2 → g x (wipeS ρ2 vs) fun ρ3 => wt ρ3 fun b ρ4 => if b = true then wi1 ρ4 fun (ys : List D) ρ5 => ∃ W1 : Nat → List D → List Sl → Prop, W1 0 acc ρ5 ∧
    (∀ (j : Nat) (y : D) (acc1 : List D) (ρ6 : List Sl), ys[j]? = some y → W1 j acc1 ρ6 → g1 y (wipeS ρ6 vs1) fun ρ7 => wt1 ρ7 fun b1 ρ8 => if b1 = true then we ρ8 fun z ρ9 => acc1.length < sizeLine ∧ W1 (j + 1) (acc1 ++ [z]) (wipeS ρ9 vs1) else W1 (j + 1) acc1 (wipeS ρ8 vs1)) ∧
    ∀ acc1 ρ6, W1 ys.length acc1 ρ6 → W (i + 1) acc1 (wipeS ρ6 vs)
    else W (i + 1) acc (wipeS ρ4 vs)) ∧
  ∀ acc ρ2, W xs.length acc ρ2 → Q acc ρ2
theorem lc2_imp {R R1 : Rel} {wi wi1 : LW} {g g1 : GW} {wt wt1 : BW} {we : DW} {vs vs1 : List Nat} (hM : ∀ i, i ∈ vs → i ∉ c.M) (hp : c.pot = none ∨ 0 ∉ vs) (hv : ∀ i, i ∈ vs1 → i ∈ vs) : ∀ σ H Q, tF c (wLc2 vs vs1 wi g wt wi1 g1 wt1 we) σ H Q → tLc2 (iR R c wi) (gR R c vs g) (tT c wt) (iR R1 c wi1) (gR R1 c vs1 g1) (tT c wt1) (tD c we) vs vs1 σ H Q := by
  rintro σ H Q ⟨ρ, Q0, E, hw, k⟩
  have hM1 : ∀ i, i ∈ vs1 → i ∉ c.M := fun i h => hM i (hv i h)
  have hp1 : c.pot = none ∨ 0 ∉ vs1 := hp.imp id fun h z => h (hv 0 z)
  refine ⟨ρ, _, E, hw, fun xs ρ' J H1 q gr E1 hJ => ?_⟩
  obtain ⟨W, w0, ws, wd⟩ := q
  obtain ⟨jgo, jy, jstop⟩ := hJ
  intro D hD
  have h0D : c.H0 D = none := E1.h0 hD
  have HD : H D = none := gr.free E1 hD
  refine ⟨fun i m H2 => m = xs.length - i ∧ i ≤ xs.length ∧ ∃ acc av ρ2, W i acc ρ2 ∧ En c H2 σ ρ2 ∧ Gr c σ H1 H2 ∧ H2 D = some (.lst av) ∧ IsAll c.K H2 av acc, ⟨xs.length, by simp, Nat.zero_le _, [], [], wipeS ρ' vs, w0, ?_, ?_, upd_same, .nil⟩, ?_⟩
  · exact (E1.off (Off.refl vs σ) hM hp).same (upd_same' hD)
  · exact Gr.same (upd_same' hD)
  rintro i m H2 ⟨rfl, hi, acc, av, ρ2, hW, E2, g2, hav, iav⟩
  by_cases hlt : i < xs.length
  · refine .inr ⟨jgo i H2 g2.fx hlt, fun H3 => ∃ acc av ρ2, W (i + 1) acc ρ2 ∧ En c H3 σ ρ2 ∧ Gr c σ H1 H3 ∧ H3 D = some (.lst av) ∧ IsAll c.K H3 av acc, fun H3 q => ⟨xs.length - (i + 1), by omega, rfl, hlt, q⟩, fun x H3 y => ?_⟩
    have hx := List.getElem?_eq_getElem hlt
    obtain ⟨sm, rx⟩ := jy i x H2 H3 xs[i] g2.fx hx y
    have E3 : En c H3 (wipe σ vs) (wipeS ρ2 vs) := (E2.same sm).off (off_wipe σ vs) hM hp
    refine ⟨xs[i], wipeS ρ2 vs, _, rx, E3, ws i xs[i] acc ρ2 hx hW, fun ρ3 σ3 q3 (o3 : Off vs (wipe σ vs) σ3) E4 => ⟨off_wipes ((off_wipe σ vs).trans o3), ?_⟩⟩
    have oσ : Off vs σ3 σ := ((off_wipe σ vs).trans o3).symm
    have gM : ∀ i, i ∈ c.M → σ[i]? = σ3[i]? := Off.M oσ hM
    have gM' : ∀ i, i ∈ c.M → σ3[i]? = σ[i]? := fun i h => (gM i h).symm
    refine ⟨ρ3, _, E4, q3, fun b ρ4 H4 q4 g4 E5 => ?_⟩
    have g24 : Gr c σ H1 H4 := (g2.trans (Gr.same sm)).trans (g4.congr gM')
    have nOw : ¬ Ow c σ3 D := fun w => E1.notOw hD ((Ow.congr gM').mp w)
    have hD4 : H4 D = some (.lst av) := g4.kp D _ (sm D _ hav) nOw
    have iav4 : IsAll c.K H4 av acc := IsAll.mono ((Same.fx sm).trans g4.fx) acc av iav
    cases b with
    | false => exact ⟨acc, av, _, q4, E5.off oσ hM hp, g24, hD4, iav4⟩
    | true =>
      refine ⟨ρ4, _, E5, q4, fun ys ρ5 J1 H5 q5 g5 E6 hJ1 => ?_⟩
      obtain ⟨W1, w10, ws1, wd1⟩ := q5
      obtain ⟨jgo1, jy1, jstop1⟩ := hJ1
      have g25 : Gr c σ H1 H5 := g24.trans (g5.congr gM')
      refine ⟨fun j k Hx => k = ys.length - j ∧ j ≤ ys.length ∧ ∃ acc1 av1 ρ6, W1 j acc1 ρ6 ∧ En c Hx σ3 ρ6 ∧ Gr c σ H1 Hx ∧ Fx H5 Hx ∧ Hx D = some (.lst av1) ∧ IsAll c.K Hx av1 acc1, ⟨ys.length, by simp, Nat.zero_le _, acc, av, ρ5, w10, E6, g25, Fx.refl _, g5.kp D _ hD4 nOw, IsAll.mono g5.fx _ _ iav4⟩, ?_⟩
      rintro j k Hx ⟨rfl, hj, acc1, av1, ρ6, hW1, E7, g7, f7, hav1, iav1⟩
      by_cases hjl : j < ys.length
      · refine .inr ⟨jgo1 j Hx f7 hjl, fun Hn => ∃ acc1 av1 ρ6, W1 (j + 1) acc1 ρ6 ∧ En c Hn σ3 ρ6 ∧ Gr c σ H1 Hn ∧ Fx H5 Hn ∧ Hn D = some (.lst av1) ∧ IsAll c.K Hn av1 acc1, fun Hn q => ⟨ys.length - (j + 1), by omega, rfl, hjl, q⟩, fun x1 Hy y1 => ?_⟩
        have hy := List.getElem?_eq_getElem hjl
        obtain ⟨sm1, ry⟩ := jy1 j x1 Hx Hy ys[j] f7 hy y1
        have E8 : En c Hy (wipe σ3 vs1) (wipeS ρ6 vs1) := (E7.same sm1).off (off_wipe σ3 vs1) hM1 hp1
        refine ⟨ys[j], wipeS ρ6 vs1, _, ry, E8, ws1 j ys[j] acc1 ρ6 hy hW1, fun ρ7 σ4 q7 (o4 : Off vs1 (wipe σ3 vs1) σ4) E9 => ⟨off_wipes ((off_wipe σ3 vs1).trans o4), ?_⟩⟩
        have oσ4 : Off vs1 σ4 σ3 := ((off_wipe σ3 vs1).trans o4).symm
        have gN : ∀ i, i ∈ c.M → σ4[i]? = σ3[i]? := fun i h => (Off.M oσ4 hM1 i h).symm
        have gN' : ∀ i, i ∈ c.M → σ4[i]? = σ[i]? := fun i h => (gN i h).trans (gM' i h)
        refine ⟨ρ7, _, E9, q7, fun b1 ρ8 H8 q8 g8 E10 => ?_⟩
        have g28 : Gr c σ H1 H8 := (g7.trans (Gr.same sm1)).trans (g8.congr gN')
        have f58 : Fx H5 H8 := (f7.trans (Same.fx sm1)).trans g8.fx
        have nOw1 : ¬ Ow c σ4 D := fun w => E1.notOw hD ((Ow.congr gN').mp w)
        have hD8 : H8 D = some (.lst av1) := g8.kp D _ (sm1 D _ hav1) nOw1
        have iav8 : IsAll c.K H8 av1 acc1 := IsAll.mono ((Same.fx sm1).trans g8.fx) acc1 av1 iav1
        cases b1 with
        | false => exact ⟨acc1, av1, _, q8, E10.off oσ4 hM1 hp1, g28, f58, hD8, iav8⟩
        | true =>
          refine ⟨ρ8, _, E10, q8, fun d ρ9 v H9 q9 g9 E11 i11 => ?_⟩
          have hD9 : H9 D = some (.lst av1) := g9.kp D _ hD8 nOw1
          have E12 : En c H9 σ3 (wipeS ρ9 vs1) := E11.off oσ4 hM1 hp1
          have sep3 : ∀ (m : Nat) (fs : List PyData), (wipeS ρ9 vs1)[m]? = some (Sl.own fs) → σ3[m]? ≠ some (some (V.ref D)) := fun m fs h1 h2 => by
            have mM := E12.ownM m fs h1
            rw [gM' m mM] at h2
            have z := E1.trk m D mM h2
            rw [hD] at z; cases z
          have fxD : Fx H9 (upd H9 D (.lst (av1 ++ [v]))) := fun b o f q => by
            by_cases e : b = D
            · subst e; rw [hD9] at q; cases q; cases f
            · rw [upd_ne e]; exact q
          refine ⟨av1, hD9, by rw [iav8.length]; exact q9.1, acc1 ++ [d], av1 ++ [v], wipeS ρ9 vs1, q9.2, E12.updN hD9 h0D sep3, ⟨(g28.trans (g9.congr gN')).fx.trans fxD, fun b o e w => ?_⟩, (f58.trans g9.fx).trans fxD, upd_same, IsAll.mono fxD _ _ ((IsAll.mono g9.fx _ _ iav8).append (IsAll.one i11))⟩
          have nb : b ≠ D := fun z => by subst z; rw [hD] at e; cases e
          rw [upd_ne nb]
          exact (g28.trans (g9.congr gN')).kp b o e w
      · have e : j = ys.length := by omega
        subst e
        exact .inl ⟨jstop1 _ Hx f7 (Nat.le_refl _), acc1, av1, _, wd1 acc1 ρ6 hW1, E7.off oσ hM hp, g7, hav1, iav1⟩
  · have e : i = xs.length := by omega
    subst e
    exact .inl ⟨jstop _ H2 g2.fx (Nat.le_refl _), k acc ρ2 D av H2 (wd acc ρ2 hW) (gr.trans g2) E2 HD hav iav⟩
theorem df_lc2 {R R1 : Rel} {elt iter iter1 : Expr} {ifs ifs1 : List Expr} {scope : Scope} {own : List (Str × Nat)} {vs1 : List Nat} {wi wi1 : LW} {g g1 : GW} {wt wt1 : BW} {we : DW} (hc : X.calm = true) (hN : X.N.Nodup) (ok : BlkOk X.N X.env.scope scope own) (hM : ∀ i, i ∈ own.map (·.2) → i ∉ c.M) (hp : c.pot = none ∨ 0 ∉ own.map (·.2)) (hv : ∀ i, i ∈ vs1 → i ∈ own.map (·.2))
    (hi : PI X tg iter (iR R c wi))
    (hg : ∀ (s : Shared) (H : Hp) (C : Addr) (cl : List (Str × Addr)) (fp : List Addr), PG (X.blk s H scope (compEnvC scope cl C X.env) fp) tg (gR R c (own.map (·.2)) g)) (ht : ∀ (s : Shared) (H : Hp) (C : Addr) (cl : List (Str × Addr)) (fp : List Addr), PTs (X.blk s H scope (compEnvC scope cl C X.env) fp) ifs (tT c wt))
    (hi1 : ∀ (s : Shared) (H : Hp) (C : Addr) (cl : List (Str × Addr)) (fp : List Addr), PI (X.blk s H scope (compEnvC scope cl C X.env) fp) tg1 iter1 (iR R1 c wi1))
    (hg1 : ∀ (s : Shared) (H : Hp) (C : Addr) (cl : List (Str × Addr)) (fp : List Addr), PG (X.blk s H scope (compEnvC scope cl C X.env) fp) tg1 (gR R1 c vs1 g1)) (ht1 : ∀ (s : Shared) (H : Hp) (C : Addr) (cl : List (Str × Addr)) (fp : List Addr), PTs (X.blk s H scope (compEnvC scope cl C X.env) fp) ifs1 (tT c wt1))
    (he : ∀ (s : Shared) (H : Hp) (C : Addr) (cl : List (Str × Addr)) (fp : List Addr), PE (X.blk s H scope (compEnvC scope cl C X.env) fp) elt (tD c we)) (hs : ∀ x, foldedSetIterable iter X.env x = pure x := by intro _; rfl) (hs1 : ∀ env x, foldedSetIterable iter1 env x = pure x := by intro _ _; rfl) :
    PE X (.ListComp elt [⟨tg, iter, ifs, 0⟩, ⟨tg1, iter1, ifs1, 0⟩] scope pos) (tF c (wLc2 (own.map (·.2)) vs1 wi g wt wi1 g1 wt1 we)) := PE.imp (pe_lc2 hc hN hi ok hv hg ht hi1 hg1 ht1 he hs hs1) (lc2_imp hM hp hv)
theorem ds_setLc2 {R R1 : Rel} (i : Nat) {y : Str} {py : Pos} {elt iter iter1 : Expr} {ifs ifs1 : List Expr} {scope : Scope} {own : List (Str × Nat)} {vs1 : List Nat} {pos spos : Pos} {wi wi1 : LW} {g g1 : GW} {wt wt1 : BW} {we : DW} (hc : X.calm = true) (hN : X.N.Nodup) (hy : X.N[i]? = some y) (hyl : X.env.scope.names.lookup y = some .local)
    (hsw : swapsWith (.ListComp elt [⟨tg, iter, ifs, 0⟩, ⟨tg1, iter1, ifs1, 0⟩] scope pos) (some (.Name y py)) spos.line X.env = pure true) (ok : BlkOk X.N X.env.scope scope own) (hM : ∀ i, i ∈ own.map (·.2) → i ∉ c.M) (hp : c.pot = none ∨ 0 ∉ own.map (·.2)) (hiM : i ∉ c.M) (hip : c.pot = none ∨ i ≠ 0) (hv : ∀ i, i ∈ vs1 → i ∈ own.map (·.2))
    (hi : PI X tg iter (iR R c wi))
    (hg : ∀ (s : Shared) (H : Hp) (C : Addr) (cl : List (Str × Addr)) (fp : List Addr), PG (X.blk s H scope (compEnvC scope cl C X.env) fp) tg (gR R c (own.map (·.2)) g)) (ht : ∀ (s : Shared) (H : Hp) (C : Addr) (cl : List (Str × Addr)) (fp : List Addr), PTs (X.blk s H scope (compEnvC scope cl C X.env) fp) ifs (tT c wt))
    (hi1 : ∀ (s : Shared) (H : Hp) (C : Addr) (cl : List (Str × Addr)) (fp : List Addr), PI (X.blk s H scope (compEnvC scope cl C X.env) fp) tg1 iter1 (iR R1 c wi1))
    (hg1 : ∀ (s : Shared) (H : Hp) (C : Addr) (cl : List (Str × Addr)) (fp : List Addr), PG (X.blk s H scope (compEnvC scope cl C X.env) fp) tg1 (gR R1 c vs1 g1)) (ht1 : ∀ (s : Shared) (H : Hp) (C : Addr) (cl : List (Str × Addr)) (fp : List Addr), PTs (X.blk s H scope (compEnvC scope cl C X.env) fp) ifs1 (tT c wt1))
    (he : ∀ (s : Shared) (H : Hp) (C : Addr) (cl : List (Str × Addr)) (fp : List Addr), PE (X.blk s H scope (compEnvC scope cl C X.env) fp) elt (tD c we)) (hs : ∀ x, foldedSetIterable iter X.env x = pure x := by intro _; rfl) (hs1 : ∀ env x, foldedSetIterable iter1 env x = pure x := by intro _ _; rfl) :
    PS X (.Assign [.Name y py] (.ListComp elt [⟨tg, iter, ifs, 0⟩, ⟨tg1, iter1, ifs1, 0⟩] scope pos) spos) (sD c (wSet i (wL (wLc2 (own.map (·.2)) vs1 wi g wt wi1 g1 wt1 we)))) := by
  refine ⟨fun pins s σ H D I h => ?_⟩
  obtain ⟨ρ, D0, E, hw, k1, k2, k3, k4⟩ := h
  refine thn ((ps_setLc2 hc hN hy hyl hsw hi ok hv hg ht hi1 hg1 ht1 he hs hs1).run pins s σ H { nx := fun σ' H' => ∃ ds ρ' a xs, σ' = σ.set i (some (.ref a)) ∧ D0.nx (ρ'.set i (.dat (.list ds))) ∧ Gr c σ H H' ∧ En c H' σ ρ' ∧ H a = none ∧ H' a = some (.lst xs) ∧ IsAll c.K H' xs ds, rt := fun _ _ => False } I
    (lc2_imp hM hp hv σ H _ ⟨ρ, _, E, hw, fun ds ρ' a xs H' q g E1 n ha ix => ⟨ds, ρ', a, xs, rfl, q, g, E1, n, ha, ix⟩⟩)) fun fl s1 sp => ?_
  cases fl with
  | next =>
    obtain ⟨σ1, H1, I1, ds, ρ', a, xs, rfl, q, gr, E1, n, ha, ix⟩ := sp
    obtain ⟨o, I2⟩ := Inv.freeze I1 ha trivial (fun _ _ _ z => by cases z) (fun _ z => by cases z)
    have fx : Fx H1 (upd H1 a (.frz o (.lst xs))) := fun b o f q => by
      by_cases e : b = a
      · subst e; rw [ha] at q; cases q; cases f
      · rw [upd_ne e]; exact q
    have E2 := (E1.frzN (o := o) ha (E.h0 n) (E.sepN E1 n)).setD hiM hip (v := .ref a) (d := .list ds) (.lst upd_same (IsAll.mono fx ds xs ix))
    exact ⟨_, _, I2, k1 _ _ _ q (gr.fx.trans fx) E2⟩
  | brk => obtain ⟨_, _, _, z⟩ := sp; exact z.elim
  | cont => obtain ⟨_, _, _, z⟩ := sp; exact z.elim
  | ret u => obtain ⟨_, _, _, _, _, z⟩ := sp; exact z.elim
/-! ### reversed -/
theorem rev_get {ds : List D} {i : Nat} {d : D} (h : ds.reverse[i]? = some d) : ds[ds.length - 1 - i]? = some d := by
  have hi := (List.getElem?_eq_some_iff.mp h).1
  rw [List.length_reverse] at hi
  rw [List.getElem?_reverse hi] at h
  exact h
theorem walk_rl {K : PySem.W.Frag} {H : Hp} {a : Addr} {o : Obj} {xs : List V} {ds : List D} (h1 : H a = some (.frz o (.lst xs))) (h2 : IsAll K H xs ds) : Walk K (Itv K a xs.length) H ds.reverse := by
  have sq : ∀ H', Fx H H' → SqL K H' a xs := fun H' f => .inl (.inr ⟨o, f _ _ rfl h1⟩)
  refine ⟨fun i H' f hi => ?_, fun i x H' H'' d f hd y => ?_, fun i H' f hi => ?_⟩
  · rw [List.length_reverse, ← h2.length] at hi
    exact ⟨hi, xs, xs[xs.length - 1 - i], sq H' f, List.getElem?_eq_getElem (by omega)⟩
  · obtain ⟨rfl, y⟩ := y
    have hd := rev_get hd
    rw [← h2.length] at hd
    obtain ⟨v, hv, iv⟩ := h2.get hd
    have e := (y xs (sq _ f)).symm.trans hv
    cases e
    exact ⟨Same.refl _, Is.mono f d _ iv⟩
  · rw [List.length_reverse, ← h2.length] at hi
    exact hi
theorem walk_rt {K : PySem.W.Frag} {H : Hp} {a : Addr} {xs : List V} {ds : List D} (h1 : TupK K H a xs) (h2 : IsAll K H xs ds) : Walk K (ItvT K a xs.length) H ds.reverse := by
  have sq : ∀ H', Fx H H' → SqT K H' a xs := fun H' f => (f.tupK h1).sqT
  refine ⟨fun i H' f hi => ?_, fun i x H' H'' d f hd y => ?_, fun i H' f hi => ?_⟩
  · rw [List.length_reverse, ← h2.length] at hi
    exact ⟨hi, xs, xs[xs.length - 1 - i], sq H' f, List.getElem?_eq_getElem (by omega)⟩
  · obtain ⟨rfl, y⟩ := y
    have hd := rev_get hd
    rw [← h2.length] at hd
    obtain ⟨v, hv, iv⟩ := h2.get hd
    have e := (y xs (sq _ f)).symm.trans hv
    cases e
    exact ⟨Same.refl _, Is.mono f d _ iv⟩
  · rw [List.length_reverse, ← h2.length] at hi
    exact hi
def wRevs (w : DW) : LW := fun ρ Q => w ρ fun d ρ1 => ∃ xs, itemsD d = some xs ∧ Q xs.reverse ρ1
theorem di_rev {w : DW} {p : Pos} (hg : Gl X "reversed") (hm : X.mg "reversed" = none) (h : PE X e (tD c w)) (hK : c.K = X.K := by rfl) (hs : starEach [e] X.env = (false, eval e X.env) :: starEach [] X.env := by rfl) : PI X tg (.Call (.Name "reversed" p) [e] [] pos) (iD c (wRevs w)) := by
  refine PI.imp (pi_revA hg hm h hs) ?_
  rintro σ H R ⟨ρ, Q0, E, hw, k⟩
  refine ⟨ρ, _, E, hw, fun d ρ' v H' q g E1 i1 => ?_⟩
  obtain ⟨xs, e, q⟩ := q
  cases i1 with
  | @lst a o ys ds h1 h2 =>
    cases e
    exact ⟨a, ys, rfl, .inl ⟨.inl (.inr ⟨_, h1⟩), k _ ρ' _ H' q g E1 (by rw [← hK]; exact walk_rl h1 h2)⟩⟩
  | @tup a ys ds h1 h2 =>
    cases e
    exact ⟨a, ys, rfl, .inr ⟨by rw [← hK]; exact h1.sqT, k _ ρ' _ H' q g E1 (by rw [← hK]; exact walk_rt h1 h2)⟩⟩
  | _ => exact nomatch e
end
end DL
namespace DL
open PySem PySem.Spec PyProof.Rows L2
section
variable {X : Cx} {c : Ctx} {e a b : Expr} {es : List Expr} {pos : Pos}
/-! ### isinstance of a built-in type -/
def tyN : D → String
  | .none => "NoneType"
  | .bool _ => "bool"
  | .int _ => "int"
  | .str _ => "str"
  | .list _ => "list"
  | .tuple _ => "tuple"
  | .dict _ => "dict"
def isiB (a T : String) : Bool := a == T || (a == "bool" && T == "int")
theorem is_tyx {K : PySem.W.Frag} {H : Hp} {v : V} {d : D} (h : Is K H v d) : TyX K H v (.type (tyN d)) := by
  cases h with
  | non => exact .base .non
  | bl b => exact .base (.bl b)
  | int i => exact .base (.int i)
  | str x => exact .base (.str x)
  | lst h1 _ => exact .base (.frz h1)
  | tup h1 _ =>
    rcases h1 with ⟨o, _, e⟩ | ⟨o, its, n, e, c, _⟩
    · exact .fTuple e
    · exact .kTuple e c
  | dct h1 _ => exact .fDict h1
theorem pe_bty {x : Str} {T : String} (hg : Gl X x) (hm : X.mg x = none) (hv : bootBuiltins x = some (.type T)) (hn : x ≠ "__name__" := by decide) (hd : (x == ("__debug__" : Str)) = false := by decide) : PE X (.Name x pos) (tC (.ty T)) :=
  ⟨fun pins s σ H Q I h => ld_blt I hg hm hv ⟨.ty T, H, I, rfl, h⟩ hn hd⟩
def wIsi (T : String) (w : DW) : DW := fun ρ Q => w ρ fun d ρ1 => Q (.bool (isiB (tyN d) T)) ρ1
theorem de_isi {x : Str} {T : String} {w : DW} {p p2 : Pos} (he : PE X e (tD c w)) (hg : Gl X "isinstance") (hm : X.mg "isinstance" = none) (gx : Gl X x) (mx : X.mg x = none) (hv : bootBuiltins x = some (.type T)) (hT : ∀ d, kitB (tyN d) T = some (isiB (tyN d) T)) (hK : c.K = X.K := by rfl)
    (hn : x ≠ "__name__" := by decide) (hd : (x == ("__debug__" : Str)) = false := by decide) (h1 : starEach [e, .Name x p2] X.env = (false, eval e X.env) :: starEach [.Name x p2] X.env := by rfl) (h2 : starEach [.Name x p2] X.env = (false, eval (.Name x p2) X.env) :: starEach [] X.env := by rfl)
    (hpl : (backTo pos (starEach [.Name x p2] X.env)).any (·.1) = false := by rfl) : PE X (.Call (.Name "isinstance" p) [e, .Name x p2] [] pos) (tD c (wIsi T w)) := by
  refine PE.imp (pe_callB call_isi hg hm (by decide +kernel) (pa_cons he (pa_cons (pe_bty gx mx hv hn hd) pa_nil h2) h1) (by decide) (by decide) h1 hpl) ?_
  rintro σ H Q ⟨ρ, Q0, E, hw, k⟩
  refine ⟨ρ, _, E, hw, fun d ρ' v H' q g E1 i1 => ?_⟩
  exact ⟨v, .ty T, .type (tyN d), .type T, _, rfl, .ty T, by rw [← hK]; exact is_tyx i1, kit_ty (hT d), k _ ρ' _ H' q g E1 (.bl _)⟩
theorem isi_tuple (d : D) : kitB (tyN d) "tuple" = some (isiB (tyN d) "tuple") := by cases d <;> simp only [tyN] <;> decide +kernel
theorem isi_str (d : D) : kitB (tyN d) "str" = some (isiB (tyN d) "str") := by cases d <;> simp only [tyN] <;> decide +kernel
theorem isi_int (d : D) : kitB (tyN d) "int" = some (isiB (tyN d) "int") := by cases d <;> simp only [tyN] <;> decide +kernel
theorem isi_bool (d : D) : kitB (tyN d) "bool" = some (isiB (tyN d) "bool") := by cases d <;> simp only [tyN] <;> decide +kernel
theorem isi_list (d : D) : kitB (tyN d) "list" = some (isiB (tyN d) "list") := by cases d <;> simp only [tyN] <;> decide +kernel
theorem isi_dict (d : D) : kitB (tyN d) "dict" = some (isiB (tyN d) "dict") := by cases d <;> simp only [tyN] <;> decide +kernel
/-! ### {} as data -/
theorem de_dnew : PE X (.Dict [] [] pos) (tD c (wC (.dict []))) := by
  refine ⟨fun pins s σ H Q I ⟨ρ, Q0, E, hw, k⟩ => ?_⟩
  refine thn (pe_dnewK.run pins s σ H (fun v H' => ∃ p, v = .ref p ∧ H p = none ∧ H' = upd H p (.dK [])) I fun p hp => ⟨p, rfl, hp, rfl⟩) fun u s1 ⟨v, H1, I1, r1, p, e1, n, e2⟩ => ?_
  subst e1 e2
  obtain ⟨o, I2⟩ := Inv.freeze I1 (a := p) upd_same trivial (fun _ _ _ z => by cases z) (fun _ z => by cases z)
  have eu : upd (upd H p (.dK [])) p (.frz o (.dK [])) = upd H p (.frz o (.dK [])) := upd_upd
  rw [eu] at I2
  have sm := upd_same' (o := .frz o (.dK [])) n
  exact ⟨.ref p, _, I2, r1, k _ ρ _ _ hw (Gr.same sm) (E.same sm) (.dct upd_same .nil)⟩
end
end DL
namespace DL
open PySem PySem.Spec PyProof.Rows L2
section
variable {prog : Program} {w : World} {A : Around} {E : Value → Shared → Prop} {s : Shared}
/-! ### a tuple backwards: xs[::-1] -/
theorem sliced_back {sl : Addr} {vl vu vs : Value} {n : Nat} {Q : Int × Int × Nat → Shared → Prop} (hs : s.heap.IsSliceOf sl vl vu vs) (pl : IsPart vl none) (pu : IsPart vu none) (ps : IsPart vs (some (-1))) (h : Q ((n : Int) - 1, -1, n) s) :
    wpAny (model prog w) A (Builtin.Slice.sliceApplied (.ref sl) (pure (n : Int))) Q E s := by
  obtain ⟨o, at_, cls, dat⟩ := id hs
  unfold Builtin.Slice.sliceApplied Builtin.Slice.sliceFields
  refine wpAny_bind (wpAny_bind (wpAny_field at_ dat (x := vl) rfl (wpAny_bind (wpAny_field at_ dat (x := vu) rfl (wpAny_bind (wpAny_field at_ dat (x := vs) rfl (wpAny_pure ?_)))))))
  refine wpAny_bind (HT.slicePart_ ps ?_)
  show wpAny _ _ (if ((-1 : Int) == 0) = true then _ else _) _ _ s
  rw [if_neg (by decide)]
  refine wpAny_bind (HT.slicePart_ pl (wpAny_bind (HT.slicePart_ pu (wpAny_bind (wpAny_pure ?_)))))
  have places : Builtin.Slice.slicePlaces ((n : Int) - 1) (-1) (-1) = n := by
    unfold Builtin.Slice.slicePlaces
    rw [if_neg (by decide)]
    by_cases h0 : (n : Int) - 1 > -1
    · rw [if_pos h0]
      have e : ((n : Int) - 1 - -1 - 1) / (- -1) = (n : Int) - 1 := by
        have : (- -1 : Int) = 1 := by decide
        rw [this, Int.ediv_one]; omega
      rw [e]; omega
    · rw [if_neg h0]; omega
  show wpAny _ _ (pure ((n : Int) - 1, (-1 : Int), Builtin.Slice.slicePlaces ((n : Int) - 1) (-1) (-1))) _ _ s
  rw [places]
  exact wpAny_pure h
theorem fm_congr {α β : Type} {f g : α → Option β} : ∀ {l : List α}, (∀ x ∈ l, f x = g x) → l.filterMap f = l.filterMap g
  | [], _ => rfl
  | x :: l, h => by
    have ih := fm_congr (l := l) fun y hy => h y (List.mem_cons_of_mem _ hy)
    have hx := h x List.mem_cons_self
    cases e : g x with
    | none => rw [List.filterMap_cons_none (hx.trans e), List.filterMap_cons_none e, ih]
    | some b => rw [List.filterMap_cons_some (hx.trans e), List.filterMap_cons_some e, ih]
theorem pick_back (xs : Array Value) : ((List.range xs.size).filterMap fun (k : Nat) => xs[(((xs.size : Nat) : Int) - 1 + (k : Int) * (-1)).toNat]?).toArray = xs.toList.reverse.toArray := by
  have e : (List.range xs.size).filterMap (fun (k : Nat) => xs[(((xs.size : Nat) : Int) - 1 + (k : Int) * (-1)).toNat]?) = (List.range xs.size).filterMap (fun k => xs[xs.size - 1 - k]?) := by
    refine fm_congr fun k hk => ?_
    have hk := List.mem_range.mp hk
    have : (((xs.size : Nat) : Int) - 1 + (k : Int) * (-1)).toNat = xs.size - 1 - k := by omega
    rw [this]
  rw [e]
  have z : (List.range xs.size).filterMap (fun k => xs[xs.size - 1 - k]?) = ((List.range xs.size).map fun k => xs.size - 1 - k).filterMap (xs[·]?) := by rw [List.filterMap_map]; rfl
  rw [z, PySem.W.krv_range, List.filterMap_reverse, PySem.W.krv_all]
theorem get_back {t sl : Addr} {items : Array Value} {vl vu vs : Value} {Q : Value → Shared → Prop} (ht : IsTup s.heap t items) (hs : s.heap.IsSliceOf sl vl vu vs) (pl : IsPart vl none) (pu : IsPart vu none) (ps : IsPart vs (some (-1)))
    (h : Q (.ref s.heap.objs.size) { s with heap := s.heap.push { cls := .type "tuple", data := .seq items.toList.reverse.toArray } }) (hsz : items.size ≤ sizeLine) : wpAny (model prog w) A (getItem (.ref t) (.ref sl)) Q E s := by
  have fits : sizeOk (.seq items.toList.reverse.toArray) := by
    show items.toList.reverse.toArray.size ≤ sizeLine
    rw [List.size_toArray, List.length_reverse, Array.length_toList]; exact hsz
  obtain ⟨o, at_, cls, dat⟩ := id hs
  have isSl : s.TypeIs (.ref sl) "slice" := ⟨o, at_, cls⟩
  unfold getItem
  try with_reducible refine wpAny_holding ?_
  first | refine wpAny_bind (wpAny_pure ?_) | skip
  refine wpAny_bind (wpAny_sequenceKey ht.typeIs (by decide) (wpAny_bind (wpAny_callSpecial?_slot (name := Str.ofString "__getitem__") ht.typeIs PyProof.Rows.slot_tuple_getitem (wpAny_call_entry PyProof.Rows.slot_tuple_getitem ht.typeIs entry_tuple_getitem ?_ (args_tuple_getitem _ _)))))
  show wpAny _ _ (Builtin.Tuple.tupleItemsOf (.ref t) >>= _) _ _ s
  refine wpAny_bind (tupleItemsOf_ ht (wpAny_bind (wpAny_typeOf isSl ?_)))
  rw [if_pos (by decide)]
  refine wpAny_bind (sliced_back hs pl pu ps ?_)
  have no : ¬ ((((items.size : Nat) : Int) - 1 == 0 && (-1 : Int) == 1 && items.size == items.size) = true) := by
    intro q
    rw [Bool.and_eq_true, Bool.and_eq_true] at q
    exact absurd q.1.2 (by decide)
  show wpAny _ _ (if (((items.size : Nat) : Int) - 1 == 0 && (-1 : Int) == 1 && items.size == items.size) = true then _ else _) _ _ s
  rw [if_neg no, pick_back]
  first
    | exact wpAny_bind (m := Builtin.Tuple.tupleExact _) (wpAny_newObj_type (wpAny_pure ⟨_, rfl, wpAny_pure h⟩) fits)
    | exact wpAny_bind (wpAny_bind (m := Builtin.Tuple.tupleExact _) (wpAny_newObj_type (wpAny_pure (wpAny_pure ⟨_, rfl, wpAny_pure h⟩)) fits))
    | exact wpAny_bind (wpAny_bind (m := Builtin.Tuple.tupleExact _) (wpAny_newObj_type (wpAny_pure ⟨_, rfl, wpAny_pure h⟩) fits))
end
section
variable {X : Cx} {c : Ctx} {e : Expr} {pos : Pos}
def tBack (K : PySem.W.Frag) (te : TE) : TE := fun σ H Q => te σ H fun x H1 => ∃ a xs, x = .ref a ∧ SqT K H1 a xs ∧ ∀ (p : Addr) (o : Obj), H1 p = none → o.dict = none → Q (.ref p) (upd H1 p (.frz o (.tup xs.reverse)))
theorem pe_back {te : TE} {k : Nat} {p1 p2 p3 : Pos} (he : PE X e te) : PE X (.Subscript e (.Slice none none (some (.UnaryOp .USub (.Constant (.int 1) k p1) p2)) p3) pos) (tBack X.K te) := by
  refine ⟨fun pins s σ H Q I h => Subscript_ (thn (he.run pins s σ H _ I h) fun v s1 ⟨x, H1, I1, r1, a, xs, ex, hx, q⟩ => ?_)⟩
  subst ex
  cases r1
  have minus : PO X (some (.UnaryOp .USub (.Constant (.int 1) k p1) p2)) (tPart (tUn (rU fun i => .int (-i)) (tC (.int 1)))) := po_some (pe_un un_neg pe_int)
  refine wpAny_Slice (thn (po_none.run pins s1 σ H1 (fun o H2 => o = none ∧ H2 = H1) I1 ⟨rfl, rfl⟩) fun vl s2 ⟨l, H2, I2, pl, el, e2⟩ => ?_)
  subst el e2
  refine thn (po_none.run pins s2 σ H2 (fun o H3 => o = none ∧ H3 = H2) I2 ⟨rfl, rfl⟩) fun vu s3 ⟨u, H3, I3, pu, eu, e3⟩ => ?_
  subst eu e3
  refine thn (minus.run pins s3 σ H3 (fun o H4 => o = some (-1) ∧ H4 = H3) I3 ⟨1, rfl, -1, rfl, rfl, rfl⟩) fun vs s4 ⟨o, H4, I4, ps, eo, e4⟩ => ?_
  subst eo e4
  have I5 : Inv X pins σ H4 { s4 with heap := s4.heap.push { cls := .type "slice", data := .fields #[vl, vu, vs] } } := I4.kept (t' := s4.toks) fun b ob q => Heap.get?_push_of_some _ q
  obtain ⟨its, r, ht, hz⟩ := I5.tuple hx
  have size : its.toArray.size ≤ sizeLine := by rw [List.size_toArray, ← r.length]; exact hz
  show wpAny (model X.prog X.w) X.A (subscriptTail e (.Slice none none (some (.UnaryOp .USub (.Constant (.int 1) k p1) p2)) p3) (.ref a) (.ref s4.heap.objs.size)) _ X.xe _
  refine tail_any (ops := [.ref a, .ref s4.heap.objs.size]) ht.typeIs (PyProof.Rows.slot_tuple_getitem.lookup) ?_ (by with_unfolding_all rfl)
  refine get_back ht (Heap.IsSliceOf.new _ vl vu vs) pl pu ps ?_ size
  obtain ⟨o, d, n, I6⟩ := Inv.newTup I5 r.reverse (by rw [List.length_reverse]; exact hz) s4.toks
  exact ⟨.ref _, _, I6, rfl, q _ o n d⟩
def wBack (w : DW) : DW := fun ρ Q => w ρ fun d ρ1 => ∃ xs, d = .tuple xs ∧ Q (.tuple xs.reverse) ρ1
theorem IsAll.reverse {K : PySem.W.Frag} {H : Hp} : ∀ {vs : List V} {ds : List D}, IsAll K H vs ds → IsAll K H vs.reverse ds.reverse
  | _, _, .nil => .nil
  | _, _, .cons h t => by rw [List.reverse_cons, List.reverse_cons]; exact t.reverse.append (IsAll.one h)
theorem de_rev {w : DW} {k : Nat} {p1 p2 p3 : Pos} (he : PE X e (tD c w)) (hK : c.K = X.K := by rfl) : PE X (.Subscript e (.Slice none none (some (.UnaryOp .USub (.Constant (.int 1) k p1) p2)) p3) pos) (tD c (wBack w)) := by
  refine PE.imp (pe_back he) ?_
  rintro σ H Q ⟨ρ, Q0, E, hw, k⟩
  refine ⟨ρ, _, E, hw, fun d ρ' v H' q g E1 i1 => ?_⟩
  obtain ⟨xs, rfl, q⟩ := q
  cases i1 with
  | @tup a ys ds h1 h2 =>
    refine ⟨a, ys, rfl, by rw [← hK]; exact h1.sqT, fun p o n hd => ?_⟩
    have sm := upd_same' (o := .frz o (.tup ys.reverse)) n
    exact k _ ρ' _ _ q (g.trans (Gr.same sm)) (E1.same sm) (.tup (.inl ⟨o, hd, upd_same⟩) (IsAll.mono (Same.fx sm) _ _ h2.reverse))
/-! ### repr, of {} too -/
def reprE : List D → Option D
  | [.dict []] => some (.str "{}")
  | [d] => reprD d
  | _ => none
theorem cr_reprE (hg : Gd X.A) (hu : X.A.units + 120 < cLine) : CallR X (.builtin "repr") (rCl X.K reprE) := by
  intro pins s σ H xs us Q I r h
  obtain ⟨ds, r', hd, hr, q⟩ := h
  by_cases hs : ds = [.dict []]
  · subst hs
    cases hr
    cases hd with
    | cons h1 h2 =>
      cases h2
      obtain ⟨u, rfl, ru⟩ := vals1 r
      cases h1 with
      | @dct a o kvs _ h1 h2 =>
        cases h2
        cases ru
        obtain ⟨e0, ok⟩ := I.hok a _ h1
        obtain ⟨_, hm, vs, rel, dd⟩ := ok
        cases rel
        obtain ⟨o2, es, ep, g1, g2, g3⟩ := dd
        have es0 : es.toList = [] := by
          have p := g3.2.2.1
          generalize es.toList = l at p ⊢
          cases p
          rfl
        have rd : Reads s.heap (.ref a) (.dict []) (a :: [] ++ []) := .dict g1 g2.1 g3.1 (by rw [es0]; exact .nil) (by rw [es0]; exact .nil)
        refine repr_of_reads' (h₀ := s.heap) rd rfl (fun _ => ?_) hg (show X.A.units + ((PyData.dict []).depth + 1) < cLine by simp only [PyData.depth, PyData.depthKv]; omega) (fun _ _ z => z) (fun h' u' tk hk => ⟨.str _, H, I.kept (t' := tk) hk, ⟨_, rfl⟩, q _ H (Same.refl H) (.str _)⟩) (by decide +kernel)
        intro z
        have z : a = sysModules ∨ False := by
          rcases List.mem_cons.mp (show sysModules ∈ a :: [] from z) with e | e
          · exact .inl e.symm
          · simp at e
        rcases z with rfl | z
        · simp at hm
        · exact z
  · refine cr_repr hg hu pins s σ H xs us Q I r ⟨ds, r', hd, ?_, q⟩
    unfold reprE at hr
    split at hr
    · exact absurd rfl hs
    · exact hr
    · cases hr
end
end DL
namespace DL
open PySem PySem.Spec PyProof.Rows L2
section
variable {X : Cx} {c : Ctx} {e : Expr} {pos : Pos}
/-! ### n += e -/
def wAugI (i : Nat) (w : DW) : SW := fun DD ρ => (∃ n, ρ[i]? = some (.dat (.int n))) ∧ w ρ fun d ρ' => ∃ n m : Int, ρ'[i]? = some (.dat (.int n)) ∧ d = .int m ∧ DD.nx (ρ'.set i (.dat (.int (n + m))))
theorem ds_augI (i : Nat) {x : Str} {w : DW} {pos' : Pos} (hN : X.N.Nodup) (hi : X.N[i]? = some x) (hx : Loc X.env.scope x) (hM : i ∉ c.M) (hp : c.pot = none ∨ i ≠ 0) (he : PE X e (tD c w)) (hf : X.fn x = true ∨ X.env.scope.names.lookup x = some .local := by first | exact .inl rfl | exact .inr rfl | assumption) :
    PS X (.AugAssign (.Name x pos') .Add e pos) (sD c (wAugI i w)) := by
  refine PS.imp (ps_aug hN hi hx he ip_add hf) ?_
  rintro DD σ H ⟨ρ, D0, E, ⟨⟨n0, h0⟩, hw⟩, k1, k2, k3, k4⟩
  obtain ⟨x0, e0, v, rfl, iv⟩ := E.at h0
  cases iv
  refine ⟨_, e0, ρ, _, E, hw, fun d ρ' v H' q g E' i' => ?_⟩
  obtain ⟨n, m, h1, rfl, q⟩ := q
  obtain ⟨x1, e1, v1, rfl, iv1⟩ := E'.at h1
  rw [e0] at e1
  cases e1
  cases iv1
  cases i'
  exact ⟨n0, m, rfl, rfl, k1 _ _ H' q g.fx (E'.setD hM hp (.int _))⟩
end
end DL
/-! Sets of ints and texts, that can be walked. -/
namespace DL
open PySem PySem.Spec PyProof.Rows L2

def keyRow (e : Int × Value) : Key := match e.2 with
  | .int i _ => .inl i
  | .str x _ => .inr x
  | _ => .inl 0
def RowOk (w : World) (e : Int × Value) : Prop := ∃ k : Key, RelV (kV k) e.2 ∧ e.1 = keyH w k
theorem keyRow_of {e : Int × Value} {k : Key} (r : RelV (kV k) e.2) : keyRow e = k := by
  unfold keyRow
  cases k with
  | inl i => obtain ⟨t, h⟩ := r; rw [h]
  | inr x => obtain ⟨t, h⟩ := r; rw [h]
theorem RowOk.rel {w : World} {e : Int × Value} (g : RowOk w e) : RelV (kV (keyRow e)) e.2 ∧ e.1 = keyH w (keyRow e) := by
  obtain ⟨k, r, h⟩ := g
  rw [keyRow_of r]
  exact ⟨r, h⟩
/-- what a walk of the set at a needs: its values, in whatever order -/
def Members (w : World) (h : Heap) (a : Addr) (es : Array (Int × Value)) : Prop :=
  ∃ (o : Obj) (ep : Nat) (t : SetTable), h.get? a = some o ∧ o.ExactSet ∧ o.data = .set es ep t ∧ es.size < scanBound ∧ t.fits es.size = true ∧ Ris t.place.toList ∧ (w.params.followText "set-order" = true ∨ t.led = true)
/-- the set of keys at a -/
def SetQ (w : World) (h : Heap) (a : Addr) (ks : List Key) : Prop :=
  ∃ es, Members w h a es ∧ (∀ e ∈ es.toList, RowOk w e) ∧ (es.toList.map keyRow).Perm ks ∧ ks.Nodup
def hasK (ks : List Key) (k : Key) : Bool := ks.any fun j => decide (j = k)
theorem hasK_iff {ks : List Key} {k : Key} : hasK ks k = true ↔ k ∈ ks := by
  unfold hasK
  rw [List.any_eq_true]
  constructor
  · rintro ⟨j, hj, e⟩
    exact of_decide_eq_true e ▸ hj
  · exact fun h => ⟨k, h, decide_eq_true rfl⟩
def addK (ks : List Key) (k : Key) : List Key := if hasK ks k = true then ks else ks ++ [k]
theorem addK_nodup {ks : List Key} {k : Key} (h : ks.Nodup) : (addK ks k).Nodup := by
  unfold addK
  split
  · exact h
  · rename_i n
    exact List.nodup_append.mpr ⟨h, List.nodup_cons.mpr ⟨List.not_mem_nil, List.nodup_nil⟩, fun a ha b hb => by
      rw [List.mem_singleton.mp hb]
      intro e
      exact n (hasK_iff.mpr (e ▸ ha))⟩
section
variable {P : Program} {w : World} {A : Around} {E : Value → Shared → Prop} {s : Shared} {a : Addr}
theorem rows_elems {l : List (Int × Value)} (g : ∀ e ∈ l, RowOk w e) : ElemsOf (mixKind P w) l := fun e he => by
  obtain ⟨r, h⟩ := (g e he).rel
  exact ⟨⟨keyRow e, kV_is r, h⟩, key_scan r⟩
theorem row_is {e : Int × Value} (g : RowOk w e) (k : Key) : (mixKind P w).is k e.2 = true ↔ keyRow e = k := by
  obtain ⟨r, h⟩ := g.rel
  constructor
  · intro q
    exact ((mixKind P w).inj e.2 _ _ (kV_is r) q)
  · intro q
    rw [← q]
    exact kV_is r
theorem Members.at {h h' : Heap} {es : Array (Int × Value)} (m : Members w h a es) (k : ∀ o, h.get? a = some o → h'.get? a = some o) : Members w h' a es := by
  obtain ⟨o, ep, t, ho, r⟩ := m
  exact ⟨o, ep, t, k o ho, r⟩
theorem SetQ.at {h h' : Heap} {ks : List Key} (m : SetQ w h a ks) (k : ∀ o, h.get? a = some o → h'.get? a = some o) : SetQ w h' a ks := by
  obtain ⟨es, m, r⟩ := m
  exact ⟨es, m.at k, r⟩
/-- behind the search: the new row is laid -/
theorem lay_tail {gw : Bool → Sem Unit} (hgw : ∀ (b : Bool) (s₁ : Shared) (Q' : Unit → Shared → Prop), Q' () s₁ → wpAny (model P w) A (gw b) Q' E s₁)
    {o : Obj} {es rows : Array (Int × Value)} {ep : Nat} {t tab : SetTable} (ho : s.heap.get? a = some o) (hx : o.ExactSet) (hd : o.data = .set es ep t)
    (few : rows.size < scanBound) (fit : tab.fits rows.size = true) (ris : Ris tab.place.toList) (led : w.params.followText "set-order" = true ∨ tab.led = true) {wasDummy : Bool} {R : Option Bool → Shared → Prop}
    (fin : ∀ h' rows', Heap.SameBut a s.heap h' → rows'.toList.Perm rows.toList → Members w h' a rows' → R (some true) { s with heap := h' }) :
    wpAny (model P w) A (do
        storeSet a rows tab
        if (!wasDummy && tab.tooFull) = true then do
            gw (relayAll tab rows (SetTable.grown rows.size)).2.2
            storeSet a (relayAll tab rows (SetTable.grown rows.size)).1 (relayAll tab rows (SetTable.grown rows.size)).2.1
            pure (some true)
          else pure (some true)) R E s := by
  refine wpAny_bind (wpAny_storeSet_of ho hd ?_ (fits_of_scanBound few))
  have at1 := store_at (es' := rows) (t' := tab) ho hd
  have same1 := Heap.SameBut.update s.heap a (Obj.putSet rows tab)
  split
  · have p3 := relayAll_perm tab rows (SetTable.grown rows.size)
    have f3 := relayAll_fits tab rows (SetTable.grown rows.size)
    have r3 := relayAll_ris tab rows (SetTable.grown rows.size)
    have l3 := relayAll_led tab rows (SetTable.grown rows.size)
    generalize relayAll tab rows (SetTable.grown rows.size) = Z at p3 f3 r3 l3 ⊢
    obtain ⟨rows2, tab3, gave⟩ := Z
    dsimp only at p3 f3 r3 l3 ⊢
    have z2 : rows2.size = rows.size := by rw [← Array.length_toList, p3.length_eq, Array.length_toList]
    have few2 : rows2.size < scanBound := by rw [z2]; exact few
    refine wpAny_bind (hgw _ _ _ ?_)
    refine wpAny_bind (wpAny_storeSet_of at1 rfl ?_ (fits_of_scanBound few2))
    have at2 := store_at (es' := rows2) (t' := tab3) at1 rfl
    refine wpAny_pure (fin _ rows2 (same1.trans (Heap.SameBut.update _ a _)) p3 ?_)
    exact ⟨_, _, tab3, at2, hx, rfl, few2, f3, r3, led.imp id fun z => by rw [l3]; exact z⟩
  · exact wpAny_pure (fin _ rows same1 (List.Perm.refl _) ⟨_, _, tab, at1, hx, rfl, few, fit, ris, led⟩)
/-- a key is added to a set of keys -/
theorem setQ_put {k : Key} {u : Value} {ks : List Key} {Q : Bool → Shared → Prop} (ru : RelV (kV k) u) (R : SetQ w s.heap a ks) (room : ks.length + 1 < scanBound)
    (hQ : ∀ h', Heap.SameBut a s.heap h' → SetQ w h' a (addK ks k) → ∀ b, Q b { s with heap := h' }) :
    wpAny (model P w) A (setAddHashed a u ((mixKind P w).hash k)) Q E s := by
  obtain ⟨es, ⟨o, ep, t, ho, hx, hd, few, fit, ris, led⟩, good, pm, nd⟩ := R
  have ku : (mixKind P w).is k u = true := kV_is ru
  have su : u.scannable = true := key_scan ru
  have elems : ElemsOf (mixKind P w) es.toList := rows_elems good
  unfold setAddHashed setAddHashedIn
  refine wpAny_holding (wpAny_bind (wpAny_setState_of ho hd fit ?_))
  dsimp only
  rw [byScan_of su few elems]
  simp only [↓reduceIte]
  unfold setAddByScan
  refine wpAny_bind ?_
  refine wpAny_bind (wpAny_rule ?_)
  refine wpAny_bind (wpAny_setScan_of ku ho hd fit elems ?_)
  cases fi : List.findIdx? (fun e => (mixKind P w).is k e.2) es.toList with
  | some j =>
    dsimp only
    obtain ⟨hj, pj, _⟩ := List.findIdx?_eq_some_iff_getElem.mp fi
    have mem : k ∈ ks := pm.mem_iff.mp (List.mem_map.mpr ⟨es.toList[j], List.getElem_mem hj, (row_is (P := P) (good _ (List.getElem_mem hj)) k).mp pj⟩)
    refine wpAny_pure (wpAny_pure ?_)
    refine hQ s.heap (Heap.SameBut.refl a s.heap) ⟨es, ⟨o, ep, t, ho, hx, hd, few, fit, ris, led⟩, good, ?_, ?_⟩ _
    · unfold addK; rw [if_pos (hasK_iff.mpr mem)]; exact pm
    · exact addK_nodup nd
  | none =>
    dsimp only
    have nmem : k ∉ ks := fun z => by
      obtain ⟨e, he, q⟩ := List.mem_map.mp (pm.mem_iff.mpr z)
      have c := List.findIdx?_eq_none_iff.mp fi e he
      rw [(row_is (P := P) (good e he) k).mpr q] at c
      cases c
    have rules : ∀ (b : Bool) {s₁ : Shared} {Q' : Unit → Shared → Prop}, Q' () s₁ → wpAny (model P w) A (match b with | true => rule "set.scan.the-table-gave-way" | false => pure ()) Q' E s₁ :=
      fun b s₁ Q' q => by cases b <;> first | exact wpAny_pure q | exact wpAny_rule q
    have p1 := layNew_perm t es ((mixKind P w).hash k) u
    have f1 := layNew_fits t es ((mixKind P w).hash k) u
    have r1 := layNew_ris t es ((mixKind P w).hash k) u ris
    have l1 := layNew_led t es ((mixKind P w).hash k) u
    generalize layNew t es ((mixKind P w).hash k) u = Z at p1 f1 r1 l1 ⊢
    obtain ⟨es1, t1, wasDummy, gave⟩ := Z
    dsimp only at p1 f1 r1 l1 ⊢
    rw [Array.toList_push] at p1
    have pc : es1.toList.Perm (((mixKind P w).hash k, u) :: es.toList) := p1.trans (List.perm_append_singleton _ _)
    have kk : keyRow ((mixKind P w).hash k, u) = k := keyRow_of ru
    have good1 : ∀ e ∈ es1.toList, RowOk w e := fun e he => by
      rcases List.mem_cons.mp (pc.mem_iff.mp he) with z | z
      · rw [z]; exact ⟨k, ru, rfl⟩
      · exact good e z
    have pk : (es1.toList.map keyRow).Perm (addK ks k) := by
      unfold addK
      rw [if_neg fun z => nmem (hasK_iff.mp z)]
      refine (pc.map keyRow).trans ?_
      rw [List.map_cons, kk]
      exact ((List.Perm.cons k pm).trans (List.perm_append_singleton _ _).symm)
    have z1 : es1.size = ks.length + 1 := by
      rw [← Array.length_toList, pc.length_eq, List.length_cons, ← pm.length_eq, List.length_map]
    have few1 : es1.size < scanBound := by rw [z1]; exact room
    have led1 : w.params.followText "set-order" = true ∨ t1.led = true := led.imp id fun z => by rw [l1]; exact z
    have fin : ∀ h' rows', Heap.SameBut a s.heap h' → rows'.toList.Perm es1.toList → Members w h' a rows' → ∀ b, Q b { s with heap := h' } := fun h' rows' sb p m b =>
      hQ h' sb ⟨rows', m, fun e he => good1 e (p.mem_iff.mp he), (p.map keyRow).trans pk, addK_nodup nd⟩ b
    refine wpAny_bind (rules _ ?_)
    split
    · refine wpAny_bind ?_
      rw [hashByValue_scannable 8 su]
      refine wpAny_pure ?_
      refine lay_tail ?_ ho hx hd few1 ?_ ?_ ?_ ?_
      · intro b s₁ Q' q; cases b <;> first | exact wpAny_pure q | exact wpAny_rule q
      · first | (split <;> first | exact f1 | exact SetTable.fits_plain_off f1) | exact f1
      · first | (split <;> exact r1) | exact r1
      · first | (split <;> exact led1) | exact led1
      · intro h' rows' sb p m; dsimp only; exact wpAny_pure (fin h' rows' sb p m _)
    · refine wpAny_bind (wpAny_pure ?_)
      simp only [↓reduceIte]
      refine lay_tail ?_ ho hx hd few1 f1 r1 led1 ?_
      · intro b s₁ Q' q; cases b <;> first | exact wpAny_pure q | exact wpAny_rule q
      · intro h' rows' sb p m; dsimp only; exact wpAny_pure (fin h' rows' sb p m _)
/-- .. by its value -/
theorem setQ_add {k : Key} {u : Value} {ks : List Key} {Q : Bool → Shared → Prop} (ru : RelV (kV k) u) (R : SetQ w s.heap a ks) (room : ks.length + 1 < scanBound)
    (hQ : ∀ h', Heap.SameBut a s.heap h' → SetQ w h' a (addK ks k) → ∀ b, Q b { s with heap := h', toks := s.toks + 1 }) : wpAny (model P w) A (setAdd a u) Q E s := by
  unfold setAdd
  refine wpAny_holding ?_
  refine wpAny_bind ((mixKind P w).pyHash (kV_is ru) ?_)
  exact setQ_put (s := { s with toks := s.toks + 1 }) ru R room hQ
theorem setQ_new {h : Heap} (w : World) : SetQ w (h.push { cls := .type "set", dict := none, data := .set #[] 0 (.fresh 0 0 (!w.params.followText "set-order")) }) h.objs.size [] :=
  ⟨#[], ⟨_, 0, _, Heap.get?_push_size _ rfl, ⟨rfl, rfl, rfl⟩, rfl, by decide, by rfl, List.Pairwise.nil, by
    show _ ∨ (!w.params.followText "set-order") = true
    cases w.params.followText "set-order"
    · exact .inr rfl
    · exact .inl rfl⟩, (fun e he => by simp at he), List.Perm.refl _, List.nodup_nil⟩
end
end DL
/-! set(xs): the loop, by what adding one does. -/
namespace DL
open PySem PySem.Spec PyProof.Rows L2
section
variable {P : Program} {w : World} {A : Around} {R : Result → Shared → Prop} {I : Addr} {fp wr : List Addr} {G : Array GenState → Array GenState → Prop} {n : Nat} {Pv : Nat → Value → Prop} {St : Nat → Shared → Prop}
theorem upd_loop (W : WalksS P w A.in1 I fp wr G n Pv St) (S : Addr) (out : S ∉ fp) (Ok : Nat → Heap → Prop)
    (keep : ∀ (i : Nat) (h h' : Heap), Ok i h → (∀ b o, b ∉ wr → h.get? b = some o → h'.get? b = some o) → Ok i h')
    (step : ∀ (i : Nat) (v : Value) (s : Shared) (Q : Bool → Shared → Prop) (E : Value → Shared → Prop), i < n → Pv i v → Ok i s.heap →
      (∀ (h' : Heap) (tk : Nat) (b : Bool), Heap.SameBut S s.heap h' → s.toks ≤ tk → Ok (i + 1) h' → Q b { s with heap := h', toks := tk }) → wpAny (model P w) A.in1 (setAdd S v) Q E s) :
    ∀ (k i : Nat) (s : Shared), n - i = k → i ≤ n → St i s → Ok i s.heap → (∀ s', Moved (S :: wr) G s s' → Ok n s'.heap → R (.ok (.ret .none)) s') →
      codeAny (model P w) A (.builtin "set.update.loop" ⟨[.ref S, .ref I], []⟩) R s := by
  have more : ∀ b ∈ wr, b ∈ S :: wr := fun b hb => .tail _ hb
  intro k
  induction k with
  | zero =>
    intro i s hk hi st ok fin
    obtain rfl : i = n := Nat.le_antisymm hi (Nat.le_of_sub_eq_zero hk)
    refine codeAny_builtin F.entry_set_update_loop ?_
    rw [Around.under_plainId F.plain_set_update_loop _]
    refine (show wpAny (model P w) A.in1 (pyNext (.ref I) >>= _) _ _ s from wpAny_bind (W.done s _ _ st fun s1 mv => ?_))
    refine (show wpAny (model P w) A.in1 (ret Value.none) _ _ s1 from wpAny_pure (fin s1 (mv.mono more) (keep _ _ _ ok fun b o nb e => mv.heap b o nb e)))
  | succ k ih =>
    intro i s hk hi st ok fin
    have lt : i < n := Nat.lt_of_sub_eq_succ hk
    refine codeAny_builtin F.entry_set_update_loop ?_
    rw [Around.under_plainId F.plain_set_update_loop _]
    refine (show wpAny (model P w) A.in1 (pyNext (.ref I) >>= _) _ _ s from wpAny_bind (W.item i s _ _ lt st fun v s1 pv st1 mv => ?_))
    refine (show wpAny (model P w) A.in1 (holding [v] (setAdd S v) >>= _) _ _ s1 from wpAny_bind (wpAny_holding ?_))
    refine step i v s1 _ _ lt pv (keep _ _ _ ok fun b o nb e => mv.heap b o nb e) fun h' tk b sb le ok1 => ?_
    have other : ∀ c o, c ≠ S → s1.heap.get? c = some o → h'.get? c = some o := fun c o nc e => by rw [sb.2 c nc]; exact e
    refine wpAny_pure ⟨plainId_quiet F.plain_set_update_loop _, ih (i + 1) _ (by omega) lt (W.frame _ s1 _ _ st1 le fun c hc o e => other c o (fun z => out (z ▸ hc)) e) ok1 fun s2 mv2 ok2 => fin s2 ?_ ok2⟩
    exact Moved.trans W.gtrans ((mv.mono more).then_heap le fun c o nc e => other c o (fun z => nc (z ▸ List.mem_cons_self)) e) mv2
end
section
variable {P : Program} {w : World} {A : Around} {E : Value → Shared → Prop} {s : Shared}
/-- the new, empty set -/
abbrev emptySet (w : World) : Obj := { cls := .type "set", dict := none, data := .set #[] 0 (.fresh 0 0 (!w.params.followText "set-order")) }
set_option maxHeartbeats 3200000 in
/-- set(xs) of a list or a tuple -/
theorem set_of {l : Addr} {tn : String} {items : Array Value} {Q : Value → Shared → Prop} (calm : A.handled = none) (hl : (tn = "list" ∧ s.heap.IsList l items) ∨ (tn = "tuple" ∧ s.heap.IsTuple l items)) (Ok : Nat → Heap → Prop) (o0 : ∀ h : Heap, h.get? s.heap.objs.size = some (emptySet w) → (∀ b o, s.heap.get? b = some o → h.get? b = some o) → Ok 0 h)
    (keep : ∀ (i : Nat) (h h' : Heap), Ok i h → (∀ b o, b ≠ s.heap.objs.size + 1 → h.get? b = some o → h'.get? b = some o) → Ok i h')
    (step : ∀ (A' : Around), A'.units ≤ A.units + 4 → ∀ (i : Nat) (v : Value) (s1 : Shared) (Q : Bool → Shared → Prop) (E : Value → Shared → Prop), i < items.size → items[i]? = some v → Ok i s1.heap →
      (∀ (h' : Heap) (tk : Nat) (b : Bool), Heap.SameBut s.heap.objs.size s1.heap h' → s1.toks ≤ tk → Ok (i + 1) h' → Q b { s1 with heap := h', toks := tk }) → wpAny (model P w) A' (setAdd s.heap.objs.size v) Q E s1)
    (fin : ∀ (h' : Heap) (tk : Nat), Ok items.size h' → (∀ b o, s.heap.get? b = some o → h'.get? b = some o) → Q (.ref s.heap.objs.size) { s with heap := h', toks := tk }) :
    wpAny (model P w) A (call (.type "set") [.ref l]) Q E s := by
  obtain ⟨cc, tl, mro⟩ := F.called_set.mro
  have made := F.called_set.made
  have sub := F.called_set.sub
  refine wpAny_call (codeAny_of_tree (show wpAny _ _ (callAny (.type "set") _) _ _ _ from ?_))
  refine wpAny_pure (And.intro (Code.quiet_builtin _ (by decide +kernel)) (codeAny_builtin F.entry_type_call ?_))
  rw [Around.under_plain (weight_type_call_type "set" [.ref l] []) rfl]
  have n1 := F.called_set.notType
  have n2 := F.called_set.canCreate
  have n3 := F.typeCall_set_1 (.ref l)
  repeat (any_goals (first | assumption | wp_step))
  refine codeAny_mono (code_set_led1 (.ref l) (E := E) (Q₁ := fun obj t => obj = .ref s.heap.objs.size ∧ t = { s with heap := s.heap.push (emptySet w) }) ⟨rfl, rfl⟩) fun res t hr => ?_
  cases res with
  | error e => exact hr
  | ok fl =>
    cases fl with
    | ret obj =>
      obtain ⟨rfl, rfl⟩ := hr
      have atS : (s.heap.push (emptySet w)).get? s.heap.objs.size = some (emptySet w) := Heap.get?_push_size _ rfl
      have tyS : Shared.TypeIs { s with heap := s.heap.push (emptySet w) } (.ref s.heap.objs.size) "set" := ⟨_, atS, rfl⟩
      have i1 := F.called_set.init.lookup
      have i2 := F.called_set.init.bind (.ref s.heap.objs.size)
      repeat (any_goals (first | assumption | wp_step))
      refine codeAny_mono (codeAny_call_builtin (R := wants (fun r t => r = .none ∧ ∃ h' tk, t = { s with heap := h', toks := tk } ∧ Ok items.size h' ∧ (∀ b o, s.heap.get? b = some o → h'.get? b = some o)) E) F.called_set.init.plain F.entry_set_init (check_set_init_1 tyS ?_)) fun r2 s2 hr2 => ?_
      · have lS : l < s.heap.objs.size := by
          rcases hl with ⟨_, o, e, _⟩ | ⟨_, o, e, _⟩ <;> exact Heap.lt_size e
        have calm3 : A.in1.in1.in1.handled = none := by simp [calm]
        have z1 : (s.heap.push (emptySet w)).objs.size = s.heap.objs.size + 1 := Heap.size_push ..
        have ne : l ≠ (s.heap.push (emptySet w)).objs.size := by rw [z1]; exact Nat.ne_of_lt (Nat.lt_succ_of_lt lS)
        have out : s.heap.objs.size ∉ [(s.heap.push (emptySet w)).objs.size, l] := by
          rw [z1]
          simp only [List.mem_cons, List.not_mem_nil, or_false, not_or]
          exact ⟨Nat.ne_of_lt (Nat.lt_succ_self _), (Nat.ne_of_lt lS).symm⟩
        have old : ∀ (x y : Obj) b o, s.heap.get? b = some o → ((s.heap.push x).push y).get? b = some o := fun x y b o e => Heap.get?_push_of_some _ (Heap.get?_push_of_some _ e)
        rcases hl with ⟨rfl, hl⟩ | ⟨rfl, hl⟩
        · have s1 := F.sub_list_set
          have s2 := F.sub_list_frozenset
          have s3 : (Value.type "list" == Value.type "dict") = false := by decide
          obtain ⟨⟨oc, od, oda, osl⟩, hol, hcl, nl, hdl⟩ := id hl
          simp only at hcl hdl
          subst hcl hdl
          have hol2 := Heap.get?_push_of_some (emptySet w) hol
          have hl1 : (s.heap.push (emptySet w)).IsList l items := ⟨_, hol2, rfl, nl, rfl⟩
          unfold Builtin.«set.__init__» noKeywords Builtin.Frozenset.updateFrom
          generalize hPI : pyIter = PI
          wp_walk
          subst hPI
          refine wpAny_pyIter_list hl1 (wpAny_bind (wpAny_runValue ?_))
          refine upd_loop ((Walks.list calm3 _ l ne items).toS) s.heap.objs.size out Ok (fun i h h' ok k => keep i h h' ok fun b o nb => k b o (by rw [z1]; simpa using nb)) (fun i v s1 Q E hi hv ok q => step _ (by simp [Around.in1]) i v s1 Q E hi hv ok q) (items.size - 0) 0 _ (by omega) (Nat.zero_le _)
            ⟨⟨_, Heap.get?_push_size _ rfl, rfl, rfl⟩, hl1.push _⟩ (o0 _ (Heap.get?_push_of_some _ atS) (old _ _)) ?_
          rintro ⟨h', g', d', tk', os'⟩ mv ok
          obtain rfl : g' = s.gens := mv.gens
          obtain rfl : d' = s.drawn := mv.drawn
          obtain rfl : os' = s.os := mv.os
          refine (show wpAny _ _ _ _ _ _ from wpAny_pure (show wpAny _ _ (ret Value.none) _ _ _ from wpAny_pure ⟨rfl, h', tk', rfl, ok, fun b o e => ?_⟩))
          have lb := Heap.lt_size e
          exact mv.heap b o (by rw [z1]; simp only [List.mem_cons, List.not_mem_nil, or_false, not_or]; exact ⟨Nat.ne_of_lt lb, Nat.ne_of_lt (Nat.lt_succ_of_lt lb)⟩) (old _ _ b o e)
        · have s1 := F.sub_tuple_set
          have s2 := F.sub_tuple_frozenset
          have s3 : (Value.type "tuple" == Value.type "dict") = false := by decide
          obtain ⟨⟨oc, od, oda, osl⟩, hol, hcl, nl, hdl⟩ := id hl
          simp only at hcl hdl
          subst hcl hdl
          have hol2 := Heap.get?_push_of_some (emptySet w) hol
          have hl1 : (s.heap.push (emptySet w)).IsTuple l items := ⟨_, hol2, rfl, nl, rfl⟩
          unfold Builtin.«set.__init__» noKeywords Builtin.Frozenset.updateFrom
          generalize hPI : pyIter = PI
          wp_walk
          subst hPI
          refine wpAny_pyIter_tuple hl1 (wpAny_bind (wpAny_runValue ?_))
          refine upd_loop ((Walks.tuple calm3 _ l ne items).toS) s.heap.objs.size out Ok (fun i h h' ok k => keep i h h' ok fun b o nb => k b o (by rw [z1]; simpa using nb)) (fun i v s1 Q E hi hv ok q => step _ (by simp [Around.in1]) i v s1 Q E hi hv ok q) (items.size - 0) 0 _ (by omega) (Nat.zero_le _)
            ⟨⟨_, Heap.get?_push_size _ rfl, rfl, rfl⟩, hl1.push _⟩ (o0 _ (Heap.get?_push_of_some _ atS) (old _ _)) ?_
          rintro ⟨h', g', d', tk', os'⟩ mv ok
          obtain rfl : g' = s.gens := mv.gens
          obtain rfl : d' = s.drawn := mv.drawn
          obtain rfl : os' = s.os := mv.os
          refine (show wpAny _ _ _ _ _ _ from wpAny_pure (show wpAny _ _ (ret Value.none) _ _ _ from wpAny_pure ⟨rfl, h', tk', rfl, ok, fun b o e => ?_⟩))
          have lb := Heap.lt_size e
          exact mv.heap b o (by rw [z1]; simp only [List.mem_cons, List.not_mem_nil, or_false, not_or]; exact ⟨Nat.ne_of_lt lb, Nat.ne_of_lt (Nat.lt_succ_of_lt lb)⟩) (old _ _ b o e)
      · cases r2 with
        | error e => exact hr2
        | ok fl2 =>
          cases fl2 with
          | ret r =>
            obtain ⟨rfl, h', tk, rfl, ok, kp⟩ := hr2
            repeat (any_goals (first | assumption | wp_step))
            exact fin _ _ ok kp
          | _ => exact hr2.elim
    | _ => exact hr.elim
end
end DL
/-! {elt for tg in iter if ..}, of one clause and of two, over any way to add. -/
namespace DL
open PySem PySem.Spec PyProof.Rows L2
/-- two clauses: a turn of the first -/
theorem twoTurn_out (elt t0 i0 t1 i1 : Expr) (fs0 fs1 : List Expr) (scope : Scope) (pos : Pos) (it acc : Value) (env : Env) :
    compTurn (.SetComp elt [⟨t0, i0, fs0, 0⟩, ⟨t1, i1, fs1, 0⟩] scope pos) 0 it acc env = (do
      standAt i0.pos
      match ← pyNext it with
      | none => pure (.done .next)
      | some v =>
        letOwnedTupleGo t0 it v
        assign t0 env v
        let mut ok := true
        for c in fs0 do
          if ok then ok ← isTrue c env (eval c env)
        if ok then
          let x ← eval i1 env
          standAt i1.pos
          let x ← foldedSetIterable i1 env x
          let _ ← runOwn (.compStart (.SetComp elt [⟨t0, i0, fs0, 0⟩, ⟨t1, i1, fs1, 0⟩] scope pos) 1 (← holding [x] (pyIter x)) acc env) env
        again (.compLoop (.SetComp elt [⟨t0, i0, fs0, 0⟩, ⟨t1, i1, fs1, 0⟩] scope pos) 0 it acc env)) := by rfl
theorem twoTurn_in (elt t0 i0 t1 i1 : Expr) (fs0 fs1 : List Expr) (scope : Scope) (pos : Pos) (it acc : Value) (env : Env) :
    compTurn (.SetComp elt [⟨t0, i0, fs0, 0⟩, ⟨t1, i1, fs1, 0⟩] scope pos) 1 it acc env = (do
      standAt i1.pos
      match ← pyNext it with
      | none => pure (.done .next)
      | some v =>
        letOwnedTupleGo t1 it v
        assign t1 env v
        let mut ok := true
        for c in fs1 do
          if ok then ok ← isTrue c env (eval c env)
        if ok then
          (do let v ← eval elt env; standAt elt.pos; let _ ← call (.builtin "set.add") [acc, v])
        again (.compLoop (.SetComp elt [⟨t0, i0, fs0, 0⟩, ⟨t1, i1, fs1, 0⟩] scope pos) 1 it acc env)) := by rfl
section
variable {prog : Program} {w : World} {A : Around} {R : Result → Shared → Prop} {s : Shared} {elt t0 i0 t1 i1 : Expr} {fs0 fs1 : List Expr} {scope : Scope} {pos : Pos} {it acc : Value} {env : Env}
abbrev Noted (prog : Program) (w : World) (A : Around) (env : Env) (R : Result → Shared → Prop) : Value → Shared → Prop := notedBy (model prog w) A env fun e s' => R (.error e) s'
theorem twoLoop_out (folded : ∀ x, foldedSetIterable i1 env x = pure x) (I : Nat → Shared → Prop)
    (turn : ∀ n s, I n s → wpAny (model prog w) A (pyNext it) (fun r sa => match r with
      | none => R (.ok .next) sa
      | some v => wpAny (model prog w) A (letOwnedTupleGo t0 it v) (fun _ sb => wpAny (model prog w) A (assign t0 env v) (fun _ sc =>
          wpAny (model prog w) A (forIn fs0 true fun c r => if r = true then do let ok ← isTrue c env (eval c env); pure (ForInStep.yield ok) else pure (ForInStep.yield r)) (fun ok sd =>
            if ok = true then wpAny (model prog w) A (eval i1 env) (fun x se => wpAny (model prog w) A (pyIter x) (fun it1 sf =>
              codeAny (model prog w) A (.compStart (.SetComp elt [⟨t0, i0, fs0, 0⟩, ⟨t1, i1, fs1, 0⟩] scope pos) 1 it1 acc env) (fun r s' => match r with
                | .ok _ => ∃ m, m < n ∧ I m s'
                | .error _ => False) sf) (Noted prog w A env R) se) (Noted prog w A env R) sd
            else ∃ m, m < n ∧ I m sd) (Noted prog w A env R) sc) (Noted prog w A env R) sb) (Noted prog w A env R) sa) (Noted prog w A env R) s)
    (n : Nat) (h : I n s) :
    codeAny (model prog w) A (.compLoop (.SetComp elt [⟨t0, i0, fs0, 0⟩, ⟨t1, i1, fs1, 0⟩] scope pos) 0 it acc env) R s := by
  refine codeAny_loop rfl I (fun n s hI => ?_) n h
  refine (show wpAny _ A ((compTurn (.SetComp elt [⟨t0, i0, fs0, 0⟩, ⟨t1, i1, fs1, 0⟩] scope pos) 0 it acc env).onRaise (fun x => do noteFrame x env; theTreesLotGoes x)) _ _ s from wpAny_noted ?_)
  rw [twoTurn_out]
  refine wpAny_bind (wpAny_standAt (wpAny_bind (wpAny_mono (turn n s hI) (fun r sa ha => ?_) fun _ _ z => z)))
  cases r with
  | none => exact wpAny_pure ha
  | some v =>
    refine wpAny_bind (wpAny_mono ha (fun _ sb hb => wpAny_bind (wpAny_mono hb (fun _ sc hc => wpAny_bind (wpAny_mono hc (fun ok sd hd => ?_) fun _ _ z => z)) fun _ _ z => z)) fun _ _ z => z)
    cases ok with
    | false => exact wpAny_pure (And.intro rfl hd)
    | true =>
      refine wpAny_bind (wpAny_mono hd (fun x se he => ?_) fun _ _ z => z)
      refine wpAny_bind (wpAny_standAt (wpAny_bind (wpAny_of_eq (folded x) (wpAny_bind (wpAny_holding (wpAny_mono he (fun it1 sf hf => ?_) fun _ _ z => z))))))
      refine wpAny_bind (wpAny_runOwn ?_)
      rw [Around.mark_none]
      refine codeAny_mono hf fun r s' hr => ?_
      cases r with
      | ok f =>
        first
          | exact wpAny_pure (And.intro rfl hr)
          | exact wpAny_bind (wpAny_pure (wpAny_pure (And.intro rfl hr)))
      | error e => exact hr.elim
theorem twoLoop_in (I : Nat → Shared → Prop)
    (turn : ∀ n s, I n s → wpAny (model prog w) A (pyNext it) (fun r sa => match r with
      | none => R (.ok .next) sa
      | some v => wpAny (model prog w) A (letOwnedTupleGo t1 it v) (fun _ sb => wpAny (model prog w) A (assign t1 env v) (fun _ sc =>
          wpAny (model prog w) A (forIn fs1 true fun c r => if r = true then do let ok ← isTrue c env (eval c env); pure (ForInStep.yield ok) else pure (ForInStep.yield r)) (fun ok sd =>
            if ok = true then wpAny (model prog w) A (eval elt env) (fun x se =>
              wpAny (model prog w) A (call (.builtin "set.add") [acc, x]) (fun _ sf => ∃ m, m < n ∧ I m sf) (Noted prog w A env R) se) (Noted prog w A env R) sd
            else ∃ m, m < n ∧ I m sd) (Noted prog w A env R) sc) (Noted prog w A env R) sb) (Noted prog w A env R) sa) (Noted prog w A env R) s)
    (n : Nat) (h : I n s) :
    codeAny (model prog w) A (.compLoop (.SetComp elt [⟨t0, i0, fs0, 0⟩, ⟨t1, i1, fs1, 0⟩] scope pos) 1 it acc env) R s := by
  refine codeAny_loop rfl I (fun n s hI => ?_) n h
  refine (show wpAny _ A ((compTurn (.SetComp elt [⟨t0, i0, fs0, 0⟩, ⟨t1, i1, fs1, 0⟩] scope pos) 1 it acc env).onRaise (fun x => do noteFrame x env; theTreesLotGoes x)) _ _ s from wpAny_noted ?_)
  rw [twoTurn_in]
  refine wpAny_bind (wpAny_standAt (wpAny_bind (wpAny_mono (turn n s hI) (fun r sa ha => ?_) fun _ _ z => z)))
  cases r with
  | none => exact wpAny_pure ha
  | some v =>
    refine wpAny_bind (wpAny_mono ha (fun _ sb hb => wpAny_bind (wpAny_mono hb (fun _ sc hc => wpAny_bind (wpAny_mono hc (fun ok sd hd => ?_) fun _ _ z => z)) fun _ _ z => z)) fun _ _ z => z)
    cases ok with
    | false => exact wpAny_pure (And.intro rfl hd)
    | true =>
      exact wpAny_bind (wpAny_bind (wpAny_mono hd (fun x se he => wpAny_bind (wpAny_standAt (wpAny_bind (wpAny_mono he (fun _ sf hf => wpAny_pure (wpAny_pure (And.intro rfl hf))) fun _ _ z => z)))) fun _ _ z => z))
theorem twoStart (h0 : codeAny (model prog w) A (.compLoop (.SetComp elt [⟨t0, i0, fs0, 0⟩, ⟨t1, i1, fs1, 0⟩] scope pos) 1 it acc env) R s)
    (h : wpAny (model prog w) A (pyIter it) (fun it' s' => codeAny (model prog w) A (.compLoop (.SetComp elt [⟨t0, i0, fs0, 0⟩, ⟨t1, i1, fs1, 0⟩] scope pos) 1 it' acc env) R s') (Noted prog w A env R) s) :
    codeAny (model prog w) A (.compStart (.SetComp elt [⟨t0, i0, fs0, 0⟩, ⟨t1, i1, fs1, 0⟩] scope pos) 1 it acc env) R s := by
  refine codeAny_of_tree (show wpAny _ _ ((compStart (.SetComp elt [⟨t0, i0, fs0, 0⟩, ⟨t1, i1, fs1, 0⟩] scope pos) 1 it acc env).onRaise (fun x => do noteFrame x env; standAt theWindowsPlace)) _ _ s from wpAny_notedAt ?_)
  unfold compStart
  refine (show wpAny _ _ (ask >>= _) _ _ s from wpAny_bind (wpAny_askSetting (wpAny_ite ?_)))
  split
  · first
      | exact wpAny_bind (wpAny_pure (wpAny_pure ⟨rfl, h0⟩))
      | exact wpAny_pure ⟨rfl, h0⟩
  · first
      | exact wpAny_bind (wpAny_rule (wpAny_bind (wpAny_standAt (wpAny_bind (wpAny_mono h (fun it' s' z => wpAny_pure ⟨rfl, z⟩) fun _ _ x => x)))))
      | (refine wpAny_bind (wpAny_rule ?_); show wpAny _ _ (standAt i1.pos >>= _) _ _ s; exact wpAny_bind (wpAny_standAt (wpAny_bind (wpAny_mono h (fun it' s' z => wpAny_pure ⟨rfl, z⟩) fun _ _ x => x))))
end
/-- a way to gather members: what is tracked at the set, and what adding a value asks -/
structure Gather (P : Program) (w : World) (K : PySem.W.Frag) (A : Around) (β : Type) where
  ob : Addr → β → HO
  none : β
  puts : Hp → V → β → β → Prop
  new : ∀ (H : Hp) (h : Heap) (a : Addr), h.get? a = some (emptySet w) → ObjOk P w H h a (ob a none)
  add : ∀ (X : Cx), X.prog = P → X.w = w → X.K = K → X.A = A → ∀ (pins : List (Addr × Obj)) (σ : L2.St) (H : Hp) (s : Shared) (E : Value → Shared → Prop) (D : Addr) (b b' : β) (y : V) (v : Value) (Q : Value → Shared → Prop),
    Inv X pins σ H s → H D = some (ob D b) → RelV y v → puts H y b b' → (∀ s', Inv X pins σ (upd H D (ob D b')) s' → Q .none s') → wpAny (model X.prog X.w) X.A (call (.builtin "set.add") [.ref D, v]) Q E s
section
variable {X : Cx} {β : Type}
def tSet1 (Gt : Gather X.prog X.w X.K X.A β) (wi : TI) (g : TG) (tt : TT) (te : TE) (vs : List Nat) : TE := fun σ H Q => wi σ H fun J H1 => ∀ D, H1 D = none → ∃ W : Nat → Nat → Hp → Prop, (∃ m, W 0 m (upd H1 D (Gt.ob D Gt.none))) ∧ ∀ i m H, W i m H →
  (J.stop i H ∧ Q (.ref D) H) ∨ (J.go i H ∧ ∃ Nx : Hp → Prop, (∀ H', Nx H' → ∃ m', m' < m ∧ W (i + 1) m' H') ∧ ∀ x H', J.yld i H x H' → g x (wipe σ vs) H' fun σ2 H2 => wipe σ2 vs = wipe σ vs ∧ tt σ2 H2 fun b H3 =>
    if b = true then te σ2 H3 fun y H4 => ∃ b b', H4 D = some (Gt.ob D b) ∧ Gt.puts H4 y b b' ∧ Nx (upd H4 D (Gt.ob D b')) else Nx H3)
def tSet2 (Gt : Gather X.prog X.w X.K X.A β) (wi : TI) (g : TG) (tt : TT) (wi1 : TI) (g1 : TG) (tt1 : TT) (te : TE) (vs vs1 : List Nat) : TE := fun σ H Q => wi σ H fun J H1 => ∀ D, H1 D = none → ∃ W : Nat → Nat → Hp → Prop, (∃ m, W 0 m (upd H1 D (Gt.ob D Gt.none))) ∧ ∀ i m H, W i m H →
  (J.stop i H ∧ Q (.ref D) H) ∨ (J.go i H ∧ ∃ Nx : Hp → Prop, (∀ H', Nx H' → ∃ m', m' < m ∧ W (i + 1) m' H') ∧ ∀ x H', J.yld i H x H' → g x (wipe σ vs) H' fun σ2 H2 => wipe σ2 vs = wipe σ vs ∧ tt σ2 H2 fun b H3 =>
    if b = true then wi1 σ2 H3 fun J1 H4 => ∃ W1 : Nat → Nat → Hp → Prop, (∃ m, W1 0 m H4) ∧ ∀ j k H, W1 j k H →
      (J1.stop j H ∧ Nx H) ∨ (J1.go j H ∧ ∃ Nx1 : Hp → Prop, (∀ H', Nx1 H' → ∃ k', k' < k ∧ W1 (j + 1) k' H') ∧ ∀ x H', J1.yld j H x H' → g1 x (wipe σ2 vs1) H' fun σ3 H5 => wipe σ3 vs1 = wipe σ2 vs1 ∧ tt1 σ3 H5 fun b H6 =>
        if b = true then te σ3 H6 fun y H7 => ∃ b b', H7 D = some (Gt.ob D b) ∧ Gt.puts H7 y b b' ∧ Nx1 (upd H7 D (Gt.ob D b')) else Nx1 H6)
    else Nx H3)
abbrev InBlk (X : Cx) (scope : Scope) (F : Cx → Prop) : Prop := ∀ (s : Shared) (H : Hp) (C : Addr) (cl : List (Str × Addr)) (fp : List Addr), F (X.blk s H scope (compEnvC scope cl C X.env) fp)
theorem set1_core (Gt : Gather X.prog X.w X.K X.A β) {pins : List (Addr × Obj)} {s : Shared} {σ : L2.St} {H : Hp} {Q : VK} {elt tg iter : Expr} {ifs : List Expr} {scope : Scope} {own : List (Str × Nat)} {pos pos' : Pos} {wi : TI} {g : TG} {tt : TT} {te : TE} {use : Option (Value → Sem Unit)} {Qf : Value → Shared → Prop}
    (hc : X.calm = true) (hN : X.N.Nodup) (I : Inv X pins σ H s) (hi : PI X tg iter wi) (ok : BlkOk X.N X.env.scope scope own)
    (hg : InBlk X scope fun Y => PG Y tg g) (ht : InBlk X scope fun Y => PTs Y ifs tt) (he : InBlk X scope fun Y => PE Y elt te) (hs : ∀ x, foldedSetIterable iter X.env x = pure x)
    (h : tSet1 Gt wi g tt te (own.map (·.2)) σ H Q)
    (ret : ∀ D C s' m H', Inv X pins σ H' s' → Q (.ref D) H' → s'.heap.Ns C m → FpOk X pins H' C → compPost (model X.prog X.w) X.A X.xe use Qf (.ref D) C (.ok .next) s') :
    wpAny (model X.prog X.w) X.A (comprehension (.SetComp elt [⟨tg, iter, ifs, 0⟩] scope pos) scope X.env pos' (newSet (.type "set")) false (eval iter X.env) use) Qf X.xe s := by
  have free : ∀ y ∈ scope.names, y.2 = .free → ∃ c, X.env.cells.lookup y.1 = some c := fun y hy e => (ok.free y hy e).elim (fun k => I.ok.has _ (.inl k)) fun k => I.ok.has _ (.inr k)
  refine wpAny_comprehension_free (use := use) rfl hs (closure_ok free) ok.kind (fun y hy e => by rw [ok.uniq y hy, e]) (thn (hi.run pins s σ H _ I h) fun xv sa hx => thn hx fun itv sb hb => ?_)
  obtain ⟨it, fp, tn, J, H2, e, I2, T, st2, f2, q⟩ := hb
  subst e
  refine PpSet.newSet_ok (newEnv_comp ?_)
  generalize hD : sb.heap.objs.size = D
  have nD : H2 D = none := I2.hok.fresh (Nat.le_of_eq hD)
  obtain ⟨W, ⟨m0, w0⟩, turn⟩ := q D nD
  generalize hsc : ({ sb with heap := sb.heap.push (emptySet X.w) } : Shared) = sc
  have I3 : Inv X pins σ (upd H2 D (Gt.ob D Gt.none)) sc := by
    rw [← hsc]
    refine I2.laid (t' := sb.toks) (fun b o e => Heap.get?_push_of_some _ e) (Nat.le_of_eq hD) (Gt.new _ _ _ ?_)
    rw [← hD]
    exact Heap.get?_push_size _ rfl
  have h3 : sc.heap = sb.heap.push (emptySet X.w) := by rw [← hsc]
  have sz : ∀ b ∈ fp, b < sb.heap.objs.size := fun b hb => let ⟨o, e, _⟩ := T.obj _ _ st2 b hb; Heap.lt_size e
  have f3 : ∀ b ∈ fp, FpOk X pins (upd H2 D (Gt.ob D Gt.none)) b ∧ b < sc.heap.objs.size := fun b hb => by
    have lt := sz b hb
    refine ⟨⟨?_, (f2 b hb).2⟩, by rw [h3, Heap.size_push]; exact Nat.lt_succ_of_lt lt⟩
    rw [upd_ne (by rw [← hD]; exact Nat.ne_of_lt lt)]
    exact (f2 b hb).1
  have st3 : tn 0 sc.heap := T.keep _ _ _ st2 fun b _ o e => by rw [h3]; exact Heap.get?_push_of_some _ e
  have I4 := block_start I3 ok hN f3
  have pg := hg sc (upd H2 D (Gt.ob D Gt.none)) sc.heap.objs.size (cellsFrom (sc.heap.objs.size + 1) scope.names (cloFrom X.env.cells scope.names [])) fp
  have pt := ht sc (upd H2 D (Gt.ob D Gt.none)) sc.heap.objs.size (cellsFrom (sc.heap.objs.size + 1) scope.names (cloFrom X.env.cells scope.names [])) fp
  have pe := he sc (upd H2 D (Gt.ob D Gt.none)) sc.heap.objs.size (cellsFrom (sc.heap.objs.size + 1) scope.names (cloFrom X.env.cells scope.names [])) fp
  show codeAny _ _ (.compStart (.SetComp elt [⟨tg, iter, ifs, 0⟩] scope pos) 0 (.ref it) (.ref D) (compEnvC scope (cellsFrom (sc.heap.objs.size + 1) scope.names (cloFrom X.env.cells scope.names [])) sc.heap.objs.size X.env)) (compPost (model X.prog X.w) X.A X.xe use Qf (.ref D) sc.heap.objs.size) { sc with heap := pushCells (sc.heap.push { cls := .type "dict", data := .dict #[] }) scope.names }
  have nfp : ∀ b ∈ fp, (upd H2 D (Gt.ob D Gt.none)) b = none := fun b hb => (f3 b hb).1.1
  generalize hce : compEnvC scope (cellsFrom (sc.heap.objs.size + 1) scope.names (cloFrom X.env.cells scope.names [])) sc.heap.objs.size X.env = ce at I4 pg pt pe ⊢
  have cL : ce.locals = sc.heap.objs.size := by subst hce; rfl
  generalize hH3 : upd H2 D (Gt.ob D Gt.none) = H3 at I3 I4 pg pt pe w0 nfp f3
  generalize hsd : ({ sc with heap := pushCells (sc.heap.push { cls := .type "dict", data := .dict #[] }) scope.names } : Shared) = sd at I4 ⊢
  have st4 : tn 0 sd.heap := T.keep _ _ _ st3 fun b _ o e => by rw [← hsd]; exact pushCells_keeps _ _ _ _ (Heap.get?_push_of_some _ e)
  have stat : ∀ {σ' : L2.St} {H' : Hp} {s' : Shared}, Inv (X.blk sc H3 scope ce fp) [] σ' H' s' → (∀ b ∈ fp, H' b = none) → ∀ b ∈ fp, FpOk (X.blk sc H3 scope ce fp) [] H' b := fun {σ' H' s'} J' hn b hb =>
    ⟨hn b hb, (J'.ok.exf b hb).1, J'.ok.exfs b hb, .inl hb, fun x c e => (J'.ok.exf b hb).2 x c e, fun p hp => absurd (show p ∈ ([] : List (Addr × Obj)) ++ [] from hp) (by simp)⟩
  have loop : codeAny (model X.prog X.w) X.A (.compLoop (.SetComp elt [⟨tg, iter, ifs, 0⟩] scope pos) 0 (.ref it) (.ref D) ce) (compPost (model X.prog X.w) X.A X.xe use Qf (.ref D) sc.heap.objs.size) sd := by
    refine PpSet.compLoopS_any (fun n s' => ∃ i H', Inv (X.blk sc H3 scope ce fp) [] (wipe σ (own.map (·.2))) H' s' ∧ tn i s'.heap ∧ (∀ b ∈ fp, H' b = none) ∧ W i n H') ?_ m0 ⟨0, H3, I4, st4, nfp, w0⟩
    rintro n s5 ⟨i, H5, I5, st5, n5, w5⟩
    rcases turn i n H5 w5 with ⟨stop, qq⟩ | ⟨go, Nx, hNx, step⟩
    · have td := T.done (X.blk sc H3 scope ce fp) rfl rfl rfl hc i [] s5 _ H5 (fun _ _ => False) I5 (stat I5 n5) st5 stop
      refine thnF td fun r s6 ⟨hr, I6⟩ => ?_
      subst hr
      have I7 : Inv X pins σ H5 s6 := I3.call' (ch := fp) I6.os I6.base I6.hok I6.bare fun b hb => let z := (f3 b hb).1.2; ⟨z.2.2.1, z.1, z.2.2.2.1, z.2.2.2.2⟩
      have nC : H5 sc.heap.objs.size = none := by rw [← cL]; exact I6.free
      obtain ⟨m, ns, _⟩ := I6.loc
      have ns2 : s6.heap.Ns ce.locals m := ns
      rw [cL] at ns2
      exact ret D sc.heap.objs.size s6 m H5 I7 qq ns2 (I3.fpOk (Nat.le_refl _) nC)
    · have ti := T.item (X.blk sc H3 scope ce fp) rfl rfl rfl hc i [] s5 _ H5 (fun _ _ => False) I5 (stat I5 n5) st5 go
      refine thnF ti fun r s6 ⟨u, hr, h6⟩ => ?_
      subst hr
      refine thnF h6 fun _ s7 ⟨x, H7, I7, r7, y7, st7, n7⟩ => ?_
      have I7p := I7.pinned (stat I7 n7) (T.obj _ _ st7)
      refine thnF (pg.run _ s7 _ H7 x u _ I7p r7 (step x H7 y7)) fun _ s8 ⟨σ8, H8, I8, hw8, q8⟩ => ?_
      refine thnF (pt.run _ s8 σ8 H8 _ I8 q8) fun b s9 ⟨H9, I9, q9⟩ => ?_
      have fin : ∀ {s' : Shared} {H' : Hp}, Inv (X.blk sc H3 scope ce fp) ([] ++ pinsAt fp s7.heap) σ8 H' s' → Nx H' → ∃ m, m < n ∧ ∃ i H', Inv (X.blk sc H3 scope ce fp) [] (wipe σ (own.map (·.2))) H' s' ∧ tn i s'.heap ∧ (∀ b ∈ fp, H' b = none) ∧ W i m H' := fun {s' H'} J' nx => by
        obtain ⟨m', hm, w'⟩ := hNx H' nx
        have pinned : ∀ b ∈ fp, ∀ o, s7.heap.get? b = some o → s'.heap.get? b = some o ∧ H' b = none := fun b hb o e =>
          let z := J'.pin (b, o) (List.mem_append_right _ (List.mem_append_right _ (mem_pinsAt hb e))); ⟨z.1, z.2.1⟩
        refine ⟨m', hm, i + 1, H', (J'.unpinned (pins := [])).weak (by rw [← hw8, wipe_length]) (fun j v e => by rw [← hw8] at e; exact (wipe_some e).1), T.keep _ _ _ st7 fun b hb o e => (pinned b hb o e).1, fun b hb => let ⟨o, e, _⟩ := T.obj _ _ st7 b hb; (pinned b hb o e).2, w'⟩
      cases b with
      | false =>
        simp only [Bool.false_eq_true, if_false] at q9 ⊢
        exact fin I9 q9
      | true =>
        simp only [if_true] at q9 ⊢
        refine thnF (pe.run _ s9 σ8 H9 _ I9 q9) fun z s10 ⟨yv, H10, I10, r10, b0, b1, atD, pb, nx⟩ => ?_
        exact Gt.add (X.blk sc H3 scope ce fp) rfl rfl rfl rfl _ _ _ _ _ _ _ _ _ _ _ I10 atD r10 pb fun s11 I11 => fin I11 nx
  exact PpSet.codeAny_compStart_set loop (T.self X.A 0 _ _ _ st4 loop)
theorem pe_set1 (Gt : Gather X.prog X.w X.K X.A β) {elt tg iter : Expr} {ifs : List Expr} {scope : Scope} {own : List (Str × Nat)} {pos : Pos} {wi : TI} {g : TG} {tt : TT} {te : TE} (hc : X.calm = true) (hN : X.N.Nodup) (hi : PI X tg iter wi) (ok : BlkOk X.N X.env.scope scope own)
    (hg : InBlk X scope fun Y => PG Y tg g) (ht : InBlk X scope fun Y => PTs Y ifs tt) (he : InBlk X scope fun Y => PE Y elt te) (hs : ∀ x, foldedSetIterable iter X.env x = pure x := by intro _; rfl) :
    PE X (.SetComp elt [⟨tg, iter, ifs, 0⟩] scope pos) (tSet1 Gt wi g tt te (own.map (·.2))) := by
  refine ⟨fun pins s σ H Q I h => ?_⟩
  rw [PpSet.eval_SetComp]
  refine set1_core Gt hc hN I hi ok hg ht he hs h fun D C s' m H' J' q hn f => ⟨m, hn, fun h'' sb => ?_⟩
  obtain ⟨f0, f1, f2, f3, f4, f5⟩ := f
  exact ⟨.ref D, H', J'.turned (t' := s'.toks) (fun b o hb e => (sb.2 b hb).trans e) f0 f1 f3 f4 f5, rfl, q⟩
end
end DL
namespace DL
open PySem PySem.Spec PyProof.Rows L2
section
variable {X : Cx} {β : Type}
theorem set2_core (Gt : Gather X.prog X.w X.K X.A β) {pins : List (Addr × Obj)} {s : Shared} {σ : L2.St} {H : Hp} {Q : VK} {elt tg iter tg1 iter1 : Expr} {ifs ifs1 : List Expr} {scope : Scope} {own : List (Str × Nat)} {vs1 : List Nat} {pos pos' : Pos} {wi wi1 : TI} {g g1 : TG} {tt tt1 : TT} {te : TE} {use : Option (Value → Sem Unit)} {Qf : Value → Shared → Prop}
    (hc : X.calm = true) (hN : X.N.Nodup) (I : Inv X pins σ H s) (hi : PI X tg iter wi) (ok : BlkOk X.N X.env.scope scope own) (hv : ∀ i ∈ vs1, i ∈ own.map (·.2))
    (hg : InBlk X scope fun Y => PG Y tg g) (ht : InBlk X scope fun Y => PTs Y ifs tt) (he : InBlk X scope fun Y => PE Y elt te) (hs : ∀ x, foldedSetIterable iter X.env x = pure x)
    (hi1 : InBlk X scope fun Y => PI Y tg1 iter1 wi1) (hg1 : InBlk X scope fun Y => PG Y tg1 g1) (ht1 : InBlk X scope fun Y => PTs Y ifs1 tt1) (hs1 : ∀ env x, foldedSetIterable iter1 env x = pure x)
    (h : tSet2 Gt wi g tt wi1 g1 tt1 te (own.map (·.2)) vs1 σ H Q)
    (ret : ∀ D C s' m H', Inv X pins σ H' s' → Q (.ref D) H' → s'.heap.Ns C m → FpOk X pins H' C → compPost (model X.prog X.w) X.A X.xe use Qf (.ref D) C (.ok .next) s') :
    wpAny (model X.prog X.w) X.A (comprehension (.SetComp elt [⟨tg, iter, ifs, 0⟩, ⟨tg1, iter1, ifs1, 0⟩] scope pos) scope X.env pos' (newSet (.type "set")) false (eval iter X.env) use) Qf X.xe s := by
  have free : ∀ y ∈ scope.names, y.2 = .free → ∃ c, X.env.cells.lookup y.1 = some c := fun y hy e => (ok.free y hy e).elim (fun k => I.ok.has _ (.inl k)) fun k => I.ok.has _ (.inr k)
  refine wpAny_comprehension_free (use := use) rfl hs (closure_ok free) ok.kind (fun y hy e => by rw [ok.uniq y hy, e]) (thn (hi.run pins s σ H _ I h) fun xv sa hx => thn hx fun itv sb hb => ?_)
  obtain ⟨it, fp, tn, J, H2, e, I2, T, st2, f2, q⟩ := hb
  subst e
  refine PpSet.newSet_ok (newEnv_comp ?_)
  generalize hD : sb.heap.objs.size = D
  have nD : H2 D = none := I2.hok.fresh (Nat.le_of_eq hD)
  obtain ⟨W, ⟨m0, w0⟩, turn⟩ := q D nD
  generalize hsc : ({ sb with heap := sb.heap.push (emptySet X.w) } : Shared) = sc
  have I3 : Inv X pins σ (upd H2 D (Gt.ob D Gt.none)) sc := by
    rw [← hsc]
    refine I2.laid (t' := sb.toks) (fun b o e => Heap.get?_push_of_some _ e) (Nat.le_of_eq hD) (Gt.new _ _ _ ?_)
    rw [← hD]
    exact Heap.get?_push_size _ rfl
  have h3 : sc.heap = sb.heap.push (emptySet X.w) := by rw [← hsc]
  have sz : ∀ b ∈ fp, b < sb.heap.objs.size := fun b hb => let ⟨o, e, _⟩ := T.obj _ _ st2 b hb; Heap.lt_size e
  have f3 : ∀ b ∈ fp, FpOk X pins (upd H2 D (Gt.ob D Gt.none)) b ∧ b < sc.heap.objs.size := fun b hb => by
    have lt := sz b hb
    refine ⟨⟨?_, (f2 b hb).2⟩, by rw [h3, Heap.size_push]; exact Nat.lt_succ_of_lt lt⟩
    rw [upd_ne (by rw [← hD]; exact Nat.ne_of_lt lt)]
    exact (f2 b hb).1
  have st3 : tn 0 sc.heap := T.keep _ _ _ st2 fun b _ o e => by rw [h3]; exact Heap.get?_push_of_some _ e
  have I4 := block_start I3 ok hN f3
  have pg := hg sc (upd H2 D (Gt.ob D Gt.none)) sc.heap.objs.size (cellsFrom (sc.heap.objs.size + 1) scope.names (cloFrom X.env.cells scope.names [])) fp
  have pt := ht sc (upd H2 D (Gt.ob D Gt.none)) sc.heap.objs.size (cellsFrom (sc.heap.objs.size + 1) scope.names (cloFrom X.env.cells scope.names [])) fp
  have pe := he sc (upd H2 D (Gt.ob D Gt.none)) sc.heap.objs.size (cellsFrom (sc.heap.objs.size + 1) scope.names (cloFrom X.env.cells scope.names [])) fp
  have pi1 := hi1 sc (upd H2 D (Gt.ob D Gt.none)) sc.heap.objs.size (cellsFrom (sc.heap.objs.size + 1) scope.names (cloFrom X.env.cells scope.names [])) fp
  have pg1 := hg1 sc (upd H2 D (Gt.ob D Gt.none)) sc.heap.objs.size (cellsFrom (sc.heap.objs.size + 1) scope.names (cloFrom X.env.cells scope.names [])) fp
  have pt1 := ht1 sc (upd H2 D (Gt.ob D Gt.none)) sc.heap.objs.size (cellsFrom (sc.heap.objs.size + 1) scope.names (cloFrom X.env.cells scope.names [])) fp
  show codeAny _ _ (.compStart (.SetComp elt [⟨tg, iter, ifs, 0⟩, ⟨tg1, iter1, ifs1, 0⟩] scope pos) 0 (.ref it) (.ref D) (compEnvC scope (cellsFrom (sc.heap.objs.size + 1) scope.names (cloFrom X.env.cells scope.names [])) sc.heap.objs.size X.env)) (compPost (model X.prog X.w) X.A X.xe use Qf (.ref D) sc.heap.objs.size) { sc with heap := pushCells (sc.heap.push { cls := .type "dict", data := .dict #[] }) scope.names }
  have nfp : ∀ b ∈ fp, (upd H2 D (Gt.ob D Gt.none)) b = none := fun b hb => (f3 b hb).1.1
  generalize hce : compEnvC scope (cellsFrom (sc.heap.objs.size + 1) scope.names (cloFrom X.env.cells scope.names [])) sc.heap.objs.size X.env = ce at I4 pg pt pe pi1 pg1 pt1 ⊢
  have cL : ce.locals = sc.heap.objs.size := by subst hce; rfl
  generalize hH3 : upd H2 D (Gt.ob D Gt.none) = H3 at I3 I4 pg pt pe pi1 pg1 pt1 w0 nfp f3
  generalize hsd : ({ sc with heap := pushCells (sc.heap.push { cls := .type "dict", data := .dict #[] }) scope.names } : Shared) = sd at I4 ⊢
  have st4 : tn 0 sd.heap := T.keep _ _ _ st3 fun b _ o e => by rw [← hsd]; exact pushCells_keeps _ _ _ _ (Heap.get?_push_of_some _ e)
  have stat : ∀ {σ' : L2.St} {H' : Hp} {s' : Shared}, Inv (X.blk sc H3 scope ce fp) [] σ' H' s' → (∀ b ∈ fp, H' b = none) → ∀ b ∈ fp, FpOk (X.blk sc H3 scope ce fp) [] H' b := fun {σ' H' s'} J' hn b hb =>
    ⟨hn b hb, (J'.ok.exf b hb).1, J'.ok.exfs b hb, .inl hb, fun x c e => (J'.ok.exf b hb).2 x c e, fun p hp => absurd (show p ∈ ([] : List (Addr × Obj)) ++ [] from hp) (by simp)⟩
  have loop : codeAny (model X.prog X.w) X.A (.compLoop (.SetComp elt [⟨tg, iter, ifs, 0⟩, ⟨tg1, iter1, ifs1, 0⟩] scope pos) 0 (.ref it) (.ref D) ce) (compPost (model X.prog X.w) X.A X.xe use Qf (.ref D) sc.heap.objs.size) sd := by
    refine twoLoop_out (hs1 ce) (fun n s' => ∃ i H', Inv (X.blk sc H3 scope ce fp) [] (wipe σ (own.map (·.2))) H' s' ∧ tn i s'.heap ∧ (∀ b ∈ fp, H' b = none) ∧ W i n H') ?_ m0 ⟨0, H3, I4, st4, nfp, w0⟩
    rintro n s5 ⟨i, H5, I5, st5, n5, w5⟩
    rcases turn i n H5 w5 with ⟨stop, qq⟩ | ⟨go, Nx, hNx, step⟩
    · have td := T.done (X.blk sc H3 scope ce fp) rfl rfl rfl hc i [] s5 _ H5 (fun _ _ => False) I5 (stat I5 n5) st5 stop
      refine thnF td fun r s6 ⟨hr, I6⟩ => ?_
      subst hr
      have I7 : Inv X pins σ H5 s6 := I3.call' (ch := fp) I6.os I6.base I6.hok I6.bare fun b hb => let z := (f3 b hb).1.2; ⟨z.2.2.1, z.1, z.2.2.2.1, z.2.2.2.2⟩
      have nC : H5 sc.heap.objs.size = none := by rw [← cL]; exact I6.free
      obtain ⟨m, ns, _⟩ := I6.loc
      have ns2 : s6.heap.Ns ce.locals m := ns
      rw [cL] at ns2
      exact ret D sc.heap.objs.size s6 m H5 I7 qq ns2 (I3.fpOk (Nat.le_refl _) nC)
    · have ti := T.item (X.blk sc H3 scope ce fp) rfl rfl rfl hc i [] s5 _ H5 (fun _ _ => False) I5 (stat I5 n5) st5 go
      refine thnF ti fun r s6 ⟨u, hr, h6⟩ => ?_
      subst hr
      refine thnF h6 fun _ s7 ⟨x, H7, I7, r7, y7, st7, n7⟩ => ?_
      have I7p := I7.pinned (stat I7 n7) (T.obj _ _ st7)
      refine thnF (pg.run _ s7 _ H7 x u _ I7p r7 (step x H7 y7)) fun _ s8 ⟨σ8, H8, I8, hw8, q8⟩ => ?_
      refine thnF (pt.run _ s8 σ8 H8 _ I8 q8) fun b s9 ⟨H9, I9, q9⟩ => ?_
      have fin : ∀ {σ9 : L2.St} {s' : Shared} {H' : Hp}, Inv (X.blk sc H3 scope ce fp) ([] ++ pinsAt fp s7.heap) σ9 H' s' → (wipe σ (own.map (·.2))).length = σ9.length → (∀ (j : Nat) v, (wipe σ (own.map (·.2)))[j]? = some (some v) → σ9[j]? = some (some v)) → Nx H' →
          ∃ m, m < n ∧ ∃ i H', Inv (X.blk sc H3 scope ce fp) [] (wipe σ (own.map (·.2))) H' s' ∧ tn i s'.heap ∧ (∀ b ∈ fp, H' b = none) ∧ W i m H' := fun {σ9 s' H'} J' hl hk nx => by
        obtain ⟨m', hm, w'⟩ := hNx H' nx
        have pinned : ∀ b ∈ fp, ∀ o, s7.heap.get? b = some o → s'.heap.get? b = some o ∧ H' b = none := fun b hb o e =>
          let z := J'.pin (b, o) (List.mem_append_right _ (List.mem_append_right _ (mem_pinsAt hb e))); ⟨z.1, z.2.1⟩
        exact ⟨m', hm, i + 1, H', (J'.unpinned (pins := [])).weak hl hk, T.keep _ _ _ st7 fun b hb o e => (pinned b hb o e).1, fun b hb => let ⟨o, e, _⟩ := T.obj _ _ st7 b hb; (pinned b hb o e).2, w'⟩
      have l8 : (wipe σ (own.map (·.2))).length = σ8.length := by rw [← hw8, wipe_length]
      have k8 : ∀ (j : Nat) v, (wipe σ (own.map (·.2)))[j]? = some (some v) → σ8[j]? = some (some v) := fun j v e => by rw [← hw8] at e; exact (wipe_some e).1
      have k9 : ∀ (j : Nat) v, (wipe σ (own.map (·.2)))[j]? = some (some v) → (wipe σ8 vs1)[j]? = some (some v) := fun j v e => by
        rw [← hw8] at e
        obtain ⟨e1, e2⟩ := wipe_some e
        exact (wipe_out fun z => e2 (hv j z)).trans e1
      cases b with
      | false =>
        simp only [Bool.false_eq_true, if_false] at q9 ⊢
        exact fin I9 l8 k8 q9
      | true =>
        simp only [if_true] at q9 ⊢
        refine thnF (pi1.run _ s9 σ8 H9 _ I9 q9) fun xv s10 hx => thnF hx fun itv s11 h11 => ?_
        obtain ⟨it1, fp1, tn1, J1, H11, e1, I11, T1, st11, f11, W1, ⟨m1, w1⟩, turn1⟩ := h11
        subst e1
        have stat1 : ∀ {H' : Hp}, (∀ b ∈ fp1, H' b = none) → ∀ b ∈ fp1, FpOk (X.blk sc H3 scope ce fp) ([] ++ pinsAt fp s7.heap) H' b := fun hn b hb => ⟨hn b hb, (f11 b hb).2⟩
        have loop1 : codeAny (model X.prog X.w) X.A (.compLoop (.SetComp elt [⟨tg, iter, ifs, 0⟩, ⟨tg1, iter1, ifs1, 0⟩] scope pos) 1 (.ref it1) (.ref D) ce)
            (fun r s' => match r with
              | .ok _ => ∃ m, m < n ∧ ∃ i H', Inv (X.blk sc H3 scope ce fp) [] (wipe σ (own.map (·.2))) H' s' ∧ tn i s'.heap ∧ (∀ b ∈ fp, H' b = none) ∧ W i m H'
              | .error _ => False) s11 := by
          refine twoLoop_in (fun k s' => ∃ j H', Inv (X.blk sc H3 scope ce fp) ([] ++ pinsAt fp s7.heap) (wipe σ8 vs1) H' s' ∧ tn1 j s'.heap ∧ (∀ b ∈ fp1, H' b = none) ∧ W1 j k H') ?_ m1 ⟨0, H11, I11.weak (wipe_length _ _) (fun j v e => (wipe_some e).1), st11, fun b hb => (f11 b hb).1, w1⟩
          rintro k s12 ⟨j, H12, I12, st12, n12, w12⟩
          rcases turn1 j k H12 w12 with ⟨stop1, nx1⟩ | ⟨go1, Nx1, hNx1, step1⟩
          · refine thnF (T1.done (X.blk sc H3 scope ce fp) rfl rfl rfl hc j _ s12 (wipe σ8 vs1) H12 (fun _ _ => False) I12 (stat1 n12) st12 stop1) fun r s13 ⟨hr, I13⟩ => ?_
            subst hr
            exact fin I13 (l8.trans (wipe_length σ8 vs1).symm) k9 nx1
          · refine thnF (T1.item (X.blk sc H3 scope ce fp) rfl rfl rfl hc j _ s12 (wipe σ8 vs1) H12 (fun _ _ => False) I12 (stat1 n12) st12 go1) fun r s13 ⟨u1, hr, h13⟩ => ?_
            subst hr
            refine thnF h13 fun _ s14 ⟨x1, H14, I14, r14, y14, st14, n14⟩ => ?_
            have I14p := I14.pinned (stat1 n14) (T1.obj _ _ st14)
            refine thnF (pg1.run _ s14 (wipe σ8 vs1) H14 x1 u1 _ I14p r14 (step1 x1 H14 y14)) fun _ s15 ⟨σ15, H15, I15, hw15, q15⟩ => ?_
            refine thnF (pt1.run _ s15 σ15 H15 _ I15 q15) fun b1 s16 ⟨H16, I16, q16⟩ => ?_
            have fin1 : ∀ {s' : Shared} {H' : Hp}, Inv (X.blk sc H3 scope ce fp) (([] ++ pinsAt fp s7.heap) ++ pinsAt fp1 s14.heap) σ15 H' s' → Nx1 H' → ∃ m, m < k ∧ ∃ j H', Inv (X.blk sc H3 scope ce fp) ([] ++ pinsAt fp s7.heap) (wipe σ8 vs1) H' s' ∧ tn1 j s'.heap ∧ (∀ b ∈ fp1, H' b = none) ∧ W1 j m H' := fun {s' H'} J' nx => by
              obtain ⟨m', hm, w'⟩ := hNx1 H' nx
              have pinned : ∀ b ∈ fp1, ∀ o, s14.heap.get? b = some o → s'.heap.get? b = some o ∧ H' b = none := fun b hb o e =>
                let z := J'.pin (b, o) (List.mem_append_right _ (List.mem_append_right _ (mem_pinsAt hb e))); ⟨z.1, z.2.1⟩
              exact ⟨m', hm, j + 1, H', J'.unpinned.weak (by rw [← hw15, wipe_length]) (fun j v e => by rw [← hw15] at e; exact (wipe_some e).1), T1.keep _ _ _ st14 fun b hb o e => (pinned b hb o e).1, fun b hb => let ⟨o, e, _⟩ := T1.obj _ _ st14 b hb; (pinned b hb o e).2, w'⟩
            cases b1 with
            | false =>
              simp only [Bool.false_eq_true, if_false] at q16 ⊢
              exact fin1 I16 q16
            | true =>
              simp only [if_true] at q16 ⊢
              refine thnF (pe.run _ s16 σ15 H16 _ I16 q16) fun z s17 ⟨yv, H17, I17, r17, b0, b2, atD, pb, nx⟩ => ?_
              exact Gt.add (X.blk sc H3 scope ce fp) rfl rfl rfl rfl _ _ _ _ _ _ _ _ _ _ _ I17 atD r17 pb fun s18 I18 => fin1 I18 nx
        exact twoStart loop1 (T1.self X.A 0 _ _ _ st11 loop1)
  exact PpSet.codeAny_compStart_set loop (T.self X.A 0 _ _ _ st4 loop)
theorem pe_set2 (Gt : Gather X.prog X.w X.K X.A β) {elt tg iter tg1 iter1 : Expr} {ifs ifs1 : List Expr} {scope : Scope} {own : List (Str × Nat)} {vs1 : List Nat} {pos : Pos} {wi wi1 : TI} {g g1 : TG} {tt tt1 : TT} {te : TE} (hc : X.calm = true) (hN : X.N.Nodup) (hi : PI X tg iter wi) (ok : BlkOk X.N X.env.scope scope own) (hv : ∀ i ∈ vs1, i ∈ own.map (·.2))
    (hg : InBlk X scope fun Y => PG Y tg g) (ht : InBlk X scope fun Y => PTs Y ifs tt) (hi1 : InBlk X scope fun Y => PI Y tg1 iter1 wi1) (hg1 : InBlk X scope fun Y => PG Y tg1 g1) (ht1 : InBlk X scope fun Y => PTs Y ifs1 tt1) (he : InBlk X scope fun Y => PE Y elt te)
    (hs : ∀ x, foldedSetIterable iter X.env x = pure x := by intro _; rfl) (hs1 : ∀ env x, foldedSetIterable iter1 env x = pure x := by intro _ _; rfl) :
    PE X (.SetComp elt [⟨tg, iter, ifs, 0⟩, ⟨tg1, iter1, ifs1, 0⟩] scope pos) (tSet2 Gt wi g tt wi1 g1 tt1 te (own.map (·.2)) vs1) := by
  refine ⟨fun pins s σ H Q I h => ?_⟩
  rw [PpSet.eval_SetComp]
  refine set2_core Gt hc hN I hi ok hv hg ht he hs hi1 hg1 ht1 hs1 h fun D C s' m H' J' q hn f => ⟨m, hn, fun h'' sb => ?_⟩
  obtain ⟨f0, f1, f2, f3, f4, f5⟩ := f
  exact ⟨.ref D, H', J'.turned (t' := s'.toks) (fun b o hb e => (sb.2 b hb).trans e) f0 f1 f3 f4 f5, rfl, q⟩
end
end DL
/-! sorted(..) and len(..) of a set of keys; the keys' way to gather. -/
namespace DL
open PySem PySem.Spec PyProof.Rows L2
/-- each once, as first met -/
def ded {α : Type} [DecidableEq α] (l : List α) : List α := l.foldl (fun a x => if x ∈ a then a else a ++ [x]) []
def dedK (ks : List Key) : List Key := ks.foldl addK []
section
variable {α : Type} [DecidableEq α]
theorem ded_go (l : List α) : ∀ acc : List α, acc.Nodup → (l.foldl (fun a x => if x ∈ a then a else a ++ [x]) acc).Nodup ∧ ∀ y, y ∈ l.foldl (fun a x => if x ∈ a then a else a ++ [x]) acc ↔ y ∈ acc ∨ y ∈ l := by
  induction l with
  | nil => intro acc h; exact ⟨h, fun y => by simp⟩
  | cons x l ih =>
    intro acc h
    rw [List.foldl_cons]
    by_cases hx : x ∈ acc
    · rw [if_pos hx]
      obtain ⟨a, b⟩ := ih acc h
      exact ⟨a, fun y => by rw [b y, List.mem_cons]; exact ⟨fun z => z.elim .inl fun z => .inr (.inr z), fun z => z.elim .inl fun z => z.elim (fun e => .inl (e ▸ hx)) .inr⟩⟩
    · rw [if_neg hx]
      obtain ⟨a, b⟩ := ih (acc ++ [x]) (List.nodup_append.mpr ⟨h, List.nodup_cons.mpr ⟨List.not_mem_nil, List.nodup_nil⟩, fun p hp q hq => by
        rw [List.mem_singleton.mp hq]; exact fun e => hx (e ▸ hp)⟩)
      exact ⟨a, fun y => by rw [b y, List.mem_append, List.mem_singleton, List.mem_cons, or_assoc]⟩
theorem ded_nodup (l : List α) : (ded l).Nodup := (ded_go l [] List.nodup_nil).1
theorem mem_ded {l : List α} {y : α} : y ∈ ded l ↔ y ∈ l := by
  rw [show (y ∈ ded l) = _ from rfl]
  unfold ded
  rw [(ded_go l [] List.nodup_nil).2 y]
  simp
theorem ded_snoc (l : List α) (x : α) : ded (l ++ [x]) = if x ∈ ded l then ded l else ded l ++ [x] := by
  unfold ded
  rw [List.foldl_append]
  rfl
theorem ded_perm {l m : List α} (h : ∀ y, y ∈ l ↔ y ∈ m) : (ded l).Perm (ded m) :=
  (List.perm_ext_iff_of_nodup (ded_nodup l) (ded_nodup m)).mpr fun y => by rw [mem_ded, mem_ded, h y]
/-- what has no doubles and lies within another list is no longer -/
theorem nodup_le : ∀ {l m : List α}, l.Nodup → (∀ y ∈ l, y ∈ m) → l.length ≤ m.length
  | [], _, _, _ => Nat.zero_le _
  | x :: l, m, h, s => by
    obtain ⟨h1, h2⟩ := List.nodup_cons.mp h
    have hx : x ∈ m := s x List.mem_cons_self
    have q := nodup_le (l := l) (m := m.erase x) h2 fun y hy => (List.mem_erase_of_ne fun e => h1 (by rw [← e]; exact hy)).mpr (s y (.tail _ hy))
    rw [List.length_erase_of_mem hx] at q
    have : 0 < m.length := List.length_pos_of_mem hx
    rw [List.length_cons]
    omega
end
theorem dedK_snoc (ks : List Key) (k : Key) : dedK (ks ++ [k]) = addK (dedK ks) k := by
  unfold dedK
  rw [List.foldl_append]
  rfl
theorem dedK_go {α : Type} [DecidableEq α] (f : α → Key) (hf : ∀ a b, f a = f b → a = b) (l : List α) : ∀ acc : List α, (l.map f).foldl addK (acc.map f) = (l.foldl (fun a x => if x ∈ a then a else a ++ [x]) acc).map f := by
  induction l with
  | nil => intro acc; rfl
  | cons x l ih =>
    intro acc
    rw [List.map_cons, List.foldl_cons, List.foldl_cons]
    have e : addK (acc.map f) (f x) = (if x ∈ acc then acc else acc ++ [x]).map f := by
      unfold addK
      by_cases hx : x ∈ acc
      · rw [if_pos (hasK_iff.mpr (List.mem_map.mpr ⟨x, hx, rfl⟩)), if_pos hx]
      · rw [if_neg fun z => hx (by obtain ⟨y, hy, e⟩ := List.mem_map.mp (hasK_iff.mp z); exact hf _ _ e ▸ hy), if_neg hx, List.map_append] <;> rfl
    rw [e]
    exact ih _
theorem dedK_ints (is : List Int) : dedK (is.map .inl) = (ded is).map .inl := dedK_go .inl (fun _ _ e => Sum.inl.inj e) is []
theorem dedK_strs (xs : List Str) : dedK (xs.map .inr) = (ded xs).map .inr := dedK_go .inr (fun _ _ e => Sum.inr.inj e) xs []
def leI (a b : Int) : Bool := decide (a ≤ b)
def leS (a b : Str) : Bool := decide (a.cps.toList ≤ b.cps.toList)
def srtI (is : List Int) : List Int := is.mergeSort leI
def srtS (xs : List Str) : List Str := xs.mergeSort leS
theorem str_ext {x y : Str} (h : x.cps.toList = y.cps.toList) : x = y := by
  cases x; cases y
  simp only at h
  rw [Array.toList_inj.mp h]
theorem leI_anti {a b : Int} (h1 : leI a b = true) (h2 : leI b a = true) : a = b := Int.le_antisymm (of_decide_eq_true h1) (of_decide_eq_true h2)
theorem leS_anti {a b : Str} (h1 : leS a b = true) (h2 : leS b a = true) : a = b := str_ext (List.le_antisymm (of_decide_eq_true h1) (of_decide_eq_true h2))
theorem srtI_pair (a : List Int) : (srtI a).Pairwise fun a b => leI a b = true :=
  List.pairwise_mergeSort (le := leI) (fun a b c h1 h2 => decide_eq_true (Int.le_trans (of_decide_eq_true h1) (of_decide_eq_true h2))) (fun a b => by
    unfold leI
    rcases Int.le_total a b with h | h <;> simp [h]) a
theorem srtS_pair (a : List Str) : (srtS a).Pairwise fun a b => leS a b = true :=
  List.pairwise_mergeSort (le := leS) (fun a b c h1 h2 => decide_eq_true (List.le_trans (of_decide_eq_true h1) (of_decide_eq_true h2))) (fun a b => by
    unfold leS
    rcases List.le_total a.cps.toList b.cps.toList with h | h <;> simp [h]) a
theorem srtI_perm {a b : List Int} (p : a.Perm b) : srtI a = srtI b :=
  List.Perm.eq_of_pairwise (le := fun a b => leI a b = true) (fun x y _ _ h1 h2 => leI_anti h1 h2) (srtI_pair a) (srtI_pair b) (((List.mergeSort_perm a _).trans p).trans (List.mergeSort_perm b _).symm)
theorem srtS_perm {a b : List Str} (p : a.Perm b) : srtS a = srtS b :=
  List.Perm.eq_of_pairwise (le := fun a b => leS a b = true) (fun x y _ _ h1 h2 => leS_anti h1 h2) (srtS_pair a) (srtS_pair b) (((List.mergeSort_perm a _).trans p).trans (List.mergeSort_perm b _).symm)
/-- lists of keys of one kind, sorted -/
theorem sort_ints {bs : List Key} {is : List Int} (p : bs.Perm (is.map .inl)) : bs.mergeSort (PySem.W.dataLe false keyD) = (srtI is).map .inl := by
  let f : Key → Int := fun k => match k with | .inl i => i | .inr _ => 0
  have e1 : bs = (bs.map f).map .inl := by
    rw [List.map_map]
    conv => lhs; rw [← List.map_id bs]
    refine List.map_congr_left fun k hk => ?_
    obtain ⟨i, _, rfl⟩ := List.mem_map.mp (p.mem_iff.mp hk)
    rfl
  have e2 : (bs.map f).Perm is := by
    have q := p.map f
    rw [List.map_map, show (f ∘ Sum.inl : Int → Int) = id from rfl, List.map_id] at q
    exact q
  rw [e1, ← srtI_perm e2]
  unfold srtI
  refine (List.map_mergeSort fun a _ b _ => ?_).symm
  exact (congrFun (congrFun (PySem.W.dataLe_int fun i : Int => i) a) b).symm
theorem sort_strs {bs : List Key} {xs : List Str} (p : bs.Perm (xs.map .inr)) : bs.mergeSort (PySem.W.dataLe false keyD) = (srtS xs).map .inr := by
  let f : Key → Str := fun k => match k with | .inl i => ⟨#[]⟩ | .inr x => x
  have e1 : bs = (bs.map f).map .inr := by
    rw [List.map_map]
    conv => lhs; rw [← List.map_id bs]
    refine List.map_congr_left fun k hk => ?_
    obtain ⟨i, _, rfl⟩ := List.mem_map.mp (p.mem_iff.mp hk)
    rfl
  have e2 : (bs.map f).Perm xs := by
    have q := p.map f
    rw [List.map_map, show (f ∘ Sum.inr : Str → Str) = id from rfl, List.map_id] at q
    exact q
  rw [e1, ← srtS_perm e2]
  unfold srtS
  refine (List.map_mergeSort fun a _ b _ => ?_).symm
  exact (congrFun (congrFun (PySem.W.dataLe_str fun x : Str => x) a) b).symm
/-- the set of keys, tracked -/
def SetQO (w : World) (a : Addr) (ks : List Key) : HO := .ext fun h => SetQ w h a ks
theorem setQO_new {P : Program} {w : World} {H : Hp} {h : Heap} {a : Addr} {ks : List Key} (R : SetQ w h a ks) : ObjOk P w H h a (SetQO w a ks) := by
  have ⟨es, ⟨o, _, _, ho, _⟩, _⟩ := R
  exact ⟨R, ⟨o, ho⟩, fun h1 h2 p k => SetQ.at p k⟩
theorem setQO_get {X : Cx} {pins : List (Addr × Obj)} {σ : L2.St} {H : Hp} {s : Shared} {a : Addr} {ks : List Key} (I : Inv X pins σ H s) (ha : H a = some (SetQO X.w a ks)) : SetQ X.w s.heap a ks := (I.hok a _ ha).1
theorem setQ_at {w : World} {h : Heap} {a : Addr} (e : h.get? a = some (emptySet w)) : SetQ w h a [] :=
  ⟨#[], ⟨_, 0, _, e, ⟨rfl, rfl, rfl⟩, rfl, by decide, by rfl, List.Pairwise.nil, by
    show _ ∨ (!w.params.followText "set-order") = true
    cases w.params.followText "set-order"
    · exact .inr rfl
    · exact .inl rfl⟩, (fun e he => by simp at he), List.Perm.refl _, List.nodup_nil⟩
def gatherK (P : Program) (w : World) (K : PySem.W.Frag) (A : Around) : Gather P w K A (List Key) where
  ob := SetQO w
  none := []
  puts := fun _ y ks ks' => ∃ k, y = kV k ∧ ks.length + 1 < scanBound ∧ ks' = addK ks k
  new := fun H h a e => setQO_new (setQ_at e)
  add := by
    rintro X rfl rfl rfl rfl pins σ H s E D b b' y v Q I hD r ⟨k, rfl, room, rfl⟩ q
    have R := setQO_get I hD
    have ⟨es, ⟨o0, _, _, ho0, hx0, _⟩, _⟩ := R
    refine wpAny_call_entry F.slot_set_add ⟨o0, ho0, hx0.1⟩ F.entry_set_add ?_ (F.args_set_add_2 _ _)
    unfold Builtin.«set.add» Builtin.Frozenset.oneOther
    simp only [List.isEmpty_nil, bind_assoc]
    unfold Builtin.Frozenset.addrOf
    refine wpAny_bind (wpAny_pure ?_)
    try dsimp only
    refine wpAny_bind (wpAny_pure ?_)
    try dsimp only
    refine wpAny_bind (setQ_add r R room fun h' sb new b => ?_)
    have he : ∃ u, h'.get? D = some u := by
      have ⟨_, ⟨o, _, _, ho, _⟩, _⟩ := new
      exact ⟨o, ho⟩
    exact (show wpAny _ _ (ret Value.none) _ _ _ from wpAny_pure ⟨_, rfl, q _ (I.write (e := D) (t' := s.toks + 1) (by rw [hD]; trivial) (.inl rfl) (fun b u hb hu => (sb.2 b hb).trans hu) he (setQO_new new))⟩)
/-- set(xs) -/
def rSetQ (K : PySem.W.Frag) (w : World) : List V → Hp → VK → Prop := fun vs H Q => ∃ (a : Addr) (ks : List Key), vs = [.ref a] ∧ (SqL K H a (ks.map kV) ∨ SqT K H a (ks.map kV)) ∧ (dedK ks).length + 1 < scanBound ∧ ∀ p, H p = none → Q (.ref p) (upd H p (SetQO w p (dedK ks)))
theorem relV_keys : ∀ {ks : List Key} {us : List Value} {i : Nat} {v : Value}, Vals (ks.map kV) us → us[i]? = some v → ∃ k, ks[i]? = some k ∧ RelV (kV k) v
  | [], _, i, v, .nil, e => by simp at e
  | k :: ks, _, 0, v, .cons r _, e => by simp at e; subst e; exact ⟨k, rfl, r⟩
  | k :: ks, _, i + 1, v, .cons _ t, e => by
    obtain ⟨j, h1, h2⟩ := relV_keys (i := i) t (by simpa using e)
    exact ⟨j, by simpa using h1, h2⟩
theorem dedK_take_le (ks : List Key) (i : Nat) : (dedK (ks.take i)).length ≤ (dedK ks).length := by
  have mono : ∀ (l acc : List Key), acc.length ≤ (l.foldl addK acc).length := fun l => by
    induction l with
    | nil => intro acc; exact Nat.le_refl _
    | cons x l ih =>
      intro acc
      refine Nat.le_trans ?_ (ih _)
      unfold addK
      split
      · exact Nat.le_refl _
      · rw [List.length_append]; exact Nat.le_add_right _ _
  conv => rhs; rw [← List.take_append_drop i ks]
  unfold dedK
  rw [List.foldl_append]
  exact mono _ _
theorem cr_setQ {X : Cx} (hc : X.calm = true) : CallR X (.type "set") (rSetQ X.K X.w) := by
  intro pins s σ H vs us Q I r h
  obtain ⟨a, ks, rfl, hl, room, q⟩ := h
  rw [Vals.ref1 r]
  have go : ∀ (its : List Value) (tn : String), Vals (ks.map kV) its → ((tn = "list" ∧ s.heap.IsList a its.toArray) ∨ (tn = "tuple" ∧ s.heap.IsTuple a its.toArray)) → wpAny (model X.prog X.w) X.A (call (.type "set") [.ref a]) (EP X pins σ Q) X.xe s := fun its tn rv hh => by
    have hz : its.toArray.size = ks.length := by rw [List.size_toArray, ← rv.length, List.length_map]
    refine set_of (I.ok.hd hc) hh (fun i h => SetQ X.w h s.heap.objs.size (dedK (ks.take i))) (fun h e _ => by rw [List.take_zero]; exact setQ_at e) (fun i h h' ok k => ok.at fun o e => k _ o (Nat.ne_of_lt (Nat.lt_succ_self _)) e) (fun A' _ i v s1 Q' E hi hv ok fin => ?_) fun h' tk ok kp => ?_
    · obtain ⟨k, hk, rk⟩ := relV_keys rv (by rw [← hv, List.getElem?_toArray])
      have lk : i < ks.length := (List.getElem?_eq_some_iff.mp hk).1
      have nx : dedK (ks.take (i + 1)) = addK (dedK (ks.take i)) k := by rw [List.take_succ, hk]; exact dedK_snoc _ _
      refine setQ_add rk ok (by have := dedK_take_le ks i; omega) fun h' sb new b => fin h' _ b sb (Nat.le_succ _) (by rw [nx]; exact new)
    · rw [hz, List.take_length] at ok
      refine ⟨.ref s.heap.objs.size, upd H s.heap.objs.size (SetQO X.w s.heap.objs.size (dedK ks)), I.laid (t' := tk) kp (Nat.le_refl _) (setQO_new ok), rfl, q _ (I.hok.fresh (Nat.le_refl _))⟩
  rcases hl with hl | hl
  · obtain ⟨its, rv, pl, _⟩ := I.list hl
    exact go its "list" rv (.inl ⟨rfl, pl.isList⟩)
  · obtain ⟨its, rv, pl, _⟩ := I.tuple hl
    exact go its "tuple" rv (.inr ⟨rfl, pl⟩)
def keyVal (v : Value) : Key := match v with
  | .int i _ => .inl i
  | .str x _ => .inr x
  | _ => .inl 0
/-- sorted(a set) -/
def rSortQ (w : World) : List V → Hp → VK → Prop := fun vs H Q => ∃ (a : Addr) (ks : List Key), vs = [.ref a] ∧ H a = some (SetQO w a ks) ∧ ((∃ is : List Int, ks = is.map .inl) ∨ ∃ xs : List Str, ks = xs.map .inr) ∧
  ∀ p, H p = none → Q (.ref p) (upd H p (.lst ((ks.mergeSort (PySem.W.dataLe false keyD)).map kV)))
theorem each_keys : ∀ {out : List Value} {ks : List Key}, PySem.W.EachIs (fun v k => RelV (kV k) v) out ks → Vals (ks.map kV) out
  | _, _, .nil => .nil
  | _, _, .cons r t => .cons r (each_keys t)
theorem cr_sortQ {X : Cx} (hc : X.calm = true) (hu : X.A.units + 120 < cLine) : CallR X (.builtin "sorted") (rSortQ X.w) := by
  intro pins s σ H vs us Q I r h
  obtain ⟨a, ks, rfl, ha, kinds, q⟩ := h
  rw [Vals.ref1 r]
  obtain ⟨es, ⟨o, ep, t, ho, hx, hd, few, fit, ris, led⟩, good, pm, nd⟩ := setQO_get I ha
  refine Calls.call_function_entry kind_sorted plain_sorted entry_sorted (args_sorted1 _) ?_
  unfold Builtin.«sorted»
  refine wpAny_bind (m := checkCount "sorted" 1 1 _) (wpAny_pure ?_)
  refine wpAny_bind (collect_set (A := X.A.in1) (I.ok.hd hc) ⟨o, ho, hx.1, hd⟩ fit few ris led fun s1 ms k1 z1 g1 o1 pv => ?_)
  have each : ∀ v ∈ ms, RelV (kV (keyVal v)) v ∧ ∃ e ∈ es.toList, keyRow e = keyVal v := fun v hv => by
    obtain ⟨e, he, ee⟩ := List.mem_map.mp (pv.mem_iff.mp hv)
    subst ee
    have g := (good e he).rel
    have kk : keyRow e = keyVal e.2 := by unfold keyRow keyVal; cases e.2 <;> rfl
    rw [kk] at g
    exact ⟨g.1, e, he, kk⟩
  have pk : (ms.map keyVal).Perm ks := by
    refine ((pv.map keyVal).trans ?_).trans pm
    rw [List.map_map]
    exact List.Perm.of_eq (List.map_congr_left fun e he => by
      show keyVal e.2 = keyRow e
      unfold keyRow keyVal; cases e.2 <;> rfl)
  have lms : ms.length = es.size := by rw [pv.length_eq, List.length_map, Array.length_toList]
  have lz : ms.length ≤ sizeLine := by rw [lms]; exact fits_of_scanBound few
  refine wpAny_bind (wpAny_newList ?_ lz)
  have at1 : (s1.heap.push (seqObj "list" ms.toArray 0)).get? s1.heap.objs.size = some (seqObj "list" ms.toArray 0) := Heap.get?_push_size _ rfl
  have ev : ∀ l : List Value, (∀ v ∈ l, RelV (kV (keyVal v)) v) → PySem.W.EachIs (fun v k => RelV (kV k) v) l (l.map keyVal) := fun l => by
    induction l with
    | nil => intro _; exact .nil
    | cons v l ih => intro hl; exact .cons (hl v List.mem_cons_self) (ih fun u hu => hl u (.tail _ hu))
  have er : ∀ l : List Value, (∀ v ∈ l, RelV (kV (keyVal v)) v) → PySem.W.EachIs (fun v k => ∃ as, Reads (s1.heap.push (seqObj "list" ms.toArray 0)) v (keyD k) as ∧ s1.heap.objs.size ∉ as) l (l.map keyVal) := fun l => by
    induction l with
    | nil => intro _; exact .nil
    | cons v l ih =>
      intro hl
      refine .cons ?_ (ih fun u hu => hl u (.tail _ hu))
      have rv := hl v List.mem_cons_self
      cases e : keyVal v with
      | inl i => rw [e] at rv; obtain ⟨t, rfl⟩ := rv; exact ⟨[], .int i t, List.not_mem_nil⟩
      | inr x => rw [e] at rv; obtain ⟨t, rfl⟩ := rv; exact ⟨[], .str x t, List.not_mem_nil⟩
  have kindOf : ∀ k ∈ ms.map keyVal, k ∈ ks := fun k hk => pk.mem_iff.mp hk
  have alike : PySem.W.AllAlike ((ms.map keyVal).map keyD) := by
    intro d hd d' hd'
    obtain ⟨k, hk, rfl⟩ := List.mem_map.mp hd
    obtain ⟨k', hk', rfl⟩ := List.mem_map.mp hd'
    have m1 := kindOf k hk
    have m2 := kindOf k' hk'
    rcases kinds with ⟨is, rfl⟩ | ⟨xs, rfl⟩
    · obtain ⟨i, _, rfl⟩ := List.mem_map.mp m1
      obtain ⟨j, _, rfl⟩ := List.mem_map.mp m2
      rfl
    · obtain ⟨i, _, rfl⟩ := List.mem_map.mp m1
      obtain ⟨j, _, rfl⟩ := List.mem_map.mp m2
      rfl
  have sortable : PySem.W.Sortable ((ms.map keyVal).map keyD) := .inr fun d hd => by
    obtain ⟨k, hk, rfl⟩ := List.mem_map.mp hd
    cases k with
    | inl i => exact ⟨PyData.noConfusion, fun xs => PyData.noConfusion⟩
    | inr i => exact ⟨PyData.noConfusion, fun xs => PyData.noConfusion⟩
  have dep : ∀ k : Key, (keyD k).depth ≤ 1 := fun k => by cases k <;> exact Nat.zero_le _
  refine wpAny_bind (wpAny_holding (PySem.W.list_sort_data (A := X.A.in1) (s := { s1 with heap := s1.heap.push (seqObj "list" ms.toArray 0) }) at1 (ev ms fun v hv => (each v hv).1) (er ms fun v hv => (each v hv).1) alike sortable (by rw [List.length_map]; exact lz) (fun k _ => by have := dep k; simp [Around.in1]; omega) fun out lo eo => ?_))
  obtain ⟨c, hc'⟩ := sortedHeap_at (vs := ms) (out := List.toArray out) at1
  have same : (ms.map keyVal).mergeSort (PySem.W.dataLe false keyD) = ks.mergeSort (PySem.W.dataLe false keyD) := by
    rcases kinds with ⟨is, rfl⟩ | ⟨xs, rfl⟩
    · rw [sort_ints pk, sort_ints (List.Perm.refl _)]
    · rw [sort_strs pk, sort_strs (List.Perm.refl _)]
  rw [same] at eo
  have rv := each_keys eo
  have n1 : H s1.heap.objs.size = none := I.hok.fresh z1
  have keep : ∀ b u, s.heap.get? b = some u → (sortedHeap (s1.heap.push (seqObj "list" ms.toArray 0)) s1.heap.objs.size ms (List.toArray out)).get? b = some u := fun b u e => by
    have q1 := k1 b u e
    have lt := Heap.lt_size q1
    rw [sortedHeap_old (Nat.ne_of_lt lt) (by rw [size_push']; exact Nat.lt_succ_of_lt lt)]
    exact Heap.get?_push_of_some _ q1
  have hlen : ((ks.mergeSort (PySem.W.dataLe false keyD)).map kV).length ≤ sizeLine := by
    rw [rv.length, lo, List.length_map]; exact lz
  refine wpAny_pure ⟨_, rfl, .ref s1.heap.objs.size, upd H s1.heap.objs.size (.lst ((ks.mergeSort (PySem.W.dataLe false keyD)).map kV)), ?_, rfl, q _ n1⟩
  refine I.call' (ch := []) o1 (Un.laid keep z1 n1) (I.hok.laid keep z1 ⟨hlen, out, c, rv, hc'⟩) (by rw [show ({ s1 with heap := _ } : Shared).gens = s1.gens from rfl, g1]; exact I.bare) (fun _ z => nomatch z)
end DL
/-! Rules over data for sets of keys. -/
namespace DL
open PySem PySem.Spec PyProof.Rows L2
section
variable {X : Cx} {c : Ctx} {e a b l tg tg1 : Expr} {es : List Expr} {pos : Pos}
def accK (acc : List D) : List Key := acc.filterMap keyOfD
theorem accK_snoc {acc : List D} {d : D} {k : Key} (h : keyOfD d = some k) : accK (acc ++ [d]) = accK acc ++ [k] := by
  unfold accK
  rw [List.filterMap_append]
  simp [h]
theorem accK_ints (is : List Int) : accK (is.map .int) = is.map .inl := by
  unfold accK
  rw [List.filterMap_map]
  exact (List.filterMap_eq_map (f := (Sum.inl : Int → Key))).symm ▸ rfl
theorem accK_strs (xs : List Str) : accK (xs.map .str) = xs.map .inr := by
  unfold accK
  rw [List.filterMap_map]
  exact (List.filterMap_eq_map (f := (Sum.inr : Str → Key))).symm ▸ rfl
/-- e is a set, met by these members -/
def tQ (c : Ctx) (w : LW) : TE := fun σ H Q => ∃ ρ Q0, En c H σ ρ ∧ w ρ Q0 ∧ ∀ acc ρ' a H', Q0 acc ρ' → Gr c σ H H' → En c H' σ ρ' → H a = none → H' a = some (SetQO c.w a (dedK (accK acc))) → Q (.ref a) H'
/-- an object that no slot holds is changed -/
theorem En.updS {H : Hp} {σ : Sg} {ρ : List Sl} {P : Addr} {u u' : HO} (E : En c H σ ρ) (h : H P = some u) (hf : fixd u = false) (h0 : c.H0 P = none)
    (hs : ∀ (j : Nat), j ∈ c.M → σ[j]? ≠ some (some (V.ref P))) : En c (upd H P u') σ ρ := by
  have fx : Fx H (upd H P u') := fun b o f q => by
    by_cases e : b = P
    · subst e; rw [h] at q; cases q; rw [hf] at f; cases f
    · rw [upd_ne e]; exact q
  refine ⟨E.len, fun j s x q1 q2 => SlIs.mono fx (fun b e1 e2 o q => ?_) (E.sl j s x q1 q2), E.ownM, E.sep, E.new, fun b o q n => ?_, E.potS, fun j b hj q => ?_, E.potM, E.bagN, E.bagM, E.bag1⟩
  · subst e2
    have jM : j ∈ c.M := by
      rcases e1 with ⟨ds, rfl⟩ | ⟨ks, rfl⟩
      · exact E.ownM j ds q1
      · exact E.bagM j ks q1
    have nb : b ≠ P := fun z => hs j jM (z ▸ q2)
    rw [upd_ne nb]; exact q
  · have nb : b ≠ P := fun z => by subst z; rw [h0] at q; cases q
    rw [upd_ne nb]; exact E.keep b o q n
  · by_cases e : b = P
    · subst e; rw [upd_same]; rfl
    · rw [upd_ne e]; exact E.trk j b hj q
/-- a list comprehension's words, where each entry is a key -/
def wSc (vs : List Nat) (wi : LW) (g : GW) (wt : BW) (we : DW) : LW := fun ρ Q => wi ρ fun (xs : List D) ρ1 => ∃ W : Nat → List D → List Sl → Prop, W 0 [] (wipeS ρ1 vs) ∧
  (∀ (i : Nat) (x : D) (acc : List D) (ρ2 : List Sl), xs[i]? = some x → W i acc ρ2 → g x (wipeS ρ2 vs) fun ρ3 => wt ρ3 fun b ρ4 => if b = true then we ρ4 fun y ρ5 => (∃ k, keyOfD y = some k) ∧ (dedK (accK acc)).length + 1 < scanBound ∧ W (i + 1) (acc ++ [y]) (wipeS ρ5 vs) else W (i + 1) acc (wipeS ρ4 vs)) ∧
  ∀ acc ρ2, W xs.length acc ρ2 → Q acc ρ2
def wSc2 (vs vs1 : List Nat) (wi : LW) (g : GW) (wt : BW) (wi1 : LW) (g1 : GW) (wt1 : BW) (we : DW) : LW := fun ρ Q => wi ρ fun (xs : List D) ρ1 => ∃ W : Nat → List D → List Sl → Prop, W 0 [] (wipeS ρ1 vs) ∧
  (∀ (i : Nat) (x : D) (acc : List D) (ρ2 : List Sl), xs[i]? = some x → W i acc ρ2 → g x (wipeS ρ2 vs) fun ρ3 => wt ρ3 fun b ρ4 => if b = true then wi1 ρ4 fun (ys : List D) ρ5 => ∃ W1 : Nat → List D → List Sl → Prop, W1 0 acc ρ5 ∧
    (∀ (j : Nat) (y : D) (acc1 : List D) (ρ6 : List Sl), ys[j]? = some y → W1 j acc1 ρ6 → g1 y (wipeS ρ6 vs1) fun ρ7 => wt1 ρ7 fun b1 ρ8 => if b1 = true then we ρ8 fun z ρ9 => (∃ k, keyOfD z = some k) ∧ (dedK (accK acc1)).length + 1 < scanBound ∧ W1 (j + 1) (acc1 ++ [z]) (wipeS ρ9 vs1) else W1 (j + 1) acc1 (wipeS ρ8 vs1)) ∧
    ∀ acc1 ρ6, W1 ys.length acc1 ρ6 → W (i + 1) acc1 (wipeS ρ6 vs)
    else W (i + 1) acc (wipeS ρ4 vs)) ∧
  ∀ acc ρ2, W xs.length acc ρ2 → Q acc ρ2
theorem is_key' {K : PySem.W.Frag} {H : Hp} {v : V} {d : D} {k : Key} (h : Is K H v d) (e : keyOfD d = some k) : v = kV k := is_key (keyD_of e ▸ h)
theorem sc_imp {R : Rel} {A : Around} {P : Program} {w : World} {K : PySem.W.Frag} {wi : LW} {g : GW} {wt : BW} {we : DW} {vs : List Nat} (hW : c.w = w) (hM : ∀ i, i ∈ vs → i ∉ c.M) (hp : c.pot = none ∨ 0 ∉ vs) (X : Cx) (h1 : X.prog = P) (h2 : X.w = w) (h3 : X.K = K) (h4 : X.A = A) :
    ∀ σ H Q, tQ c (wSc vs wi g wt we) σ H Q → tSet1 (X := X) (gatherK X.prog X.w X.K X.A) (iR R c wi) (gR R c vs g) (tT c wt) (tD c we) vs σ H Q := by
  subst h2
  rintro σ H Q ⟨ρ, Q0, E, hw, k⟩
  refine ⟨ρ, _, E, hw, fun xs ρ' J H1 q gr E1 hJ => ?_⟩
  obtain ⟨W, w0, ws, wd⟩ := q
  obtain ⟨jgo, jy, jstop⟩ := hJ
  intro Pa hPa
  have h0P : c.H0 Pa = none := E1.h0 hPa
  have HP : H Pa = none := gr.free E1 hPa
  have slotN : ∀ {σ' : Sg}, (∀ i, i ∈ c.M → σ'[i]? = σ[i]?) → ∀ j, j ∈ c.M → σ'[j]? ≠ some (some (V.ref Pa)) := fun gM j hj h2 => by
    rw [gM j hj] at h2
    have z := E1.trk j Pa hj h2
    rw [hPa] at z; cases z
  refine ⟨fun i m H2 => m = xs.length - i ∧ i ≤ xs.length ∧ ∃ acc ρ2, W i acc ρ2 ∧ En c H2 σ ρ2 ∧ Gr c σ H1 H2 ∧ H2 Pa = some (SetQO X.w Pa (dedK (accK acc))), ⟨xs.length, by simp, Nat.zero_le _, [], wipeS ρ' vs, w0, ?_, ?_, upd_same⟩, ?_⟩
  · exact (E1.off (Off.refl vs σ) hM hp).same (upd_same' hPa)
  · exact Gr.same (upd_same' hPa)
  rintro i m H2 ⟨rfl, hi, acc, ρ2, hW2, E2, g2, hav⟩
  by_cases hlt : i < xs.length
  · refine .inr ⟨jgo i H2 g2.fx hlt, fun H3 => ∃ acc ρ2, W (i + 1) acc ρ2 ∧ En c H3 σ ρ2 ∧ Gr c σ H1 H3 ∧ H3 Pa = some (SetQO X.w Pa (dedK (accK acc))), fun H3 q => ⟨xs.length - (i + 1), by omega, rfl, hlt, q⟩, fun x H3 y => ?_⟩
    have hx := List.getElem?_eq_getElem hlt
    obtain ⟨sm, rx⟩ := jy i x H2 H3 xs[i] g2.fx hx y
    have E3 : En c H3 (wipe σ vs) (wipeS ρ2 vs) := (E2.same sm).off (off_wipe σ vs) hM hp
    refine ⟨xs[i], wipeS ρ2 vs, _, rx, E3, ws i xs[i] acc ρ2 hx hW2, fun ρ3 σ3 q3 (o3 : Off vs (wipe σ vs) σ3) E4 => ⟨off_wipes ((off_wipe σ vs).trans o3), ?_⟩⟩
    have oσ : Off vs σ3 σ := ((off_wipe σ vs).trans o3).symm
    have gM' : ∀ i, i ∈ c.M → σ3[i]? = σ[i]? := fun i h => (Off.M oσ hM i h).symm
    refine ⟨ρ3, _, E4, q3, fun b ρ4 H4 q4 g4 E5 => ?_⟩
    have g24 : Gr c σ H1 H4 := (g2.trans (Gr.same sm)).trans (g4.congr gM')
    have nOw : ¬ Ow c σ3 Pa := fun w => E1.notOw hPa ((Ow.congr gM').mp w)
    have hD4 := g4.kp Pa _ (sm Pa _ hav) nOw
    cases b with
    | false => exact ⟨acc, _, q4, E5.off oσ hM hp, g24, hD4⟩
    | true =>
      refine ⟨ρ4, _, E5, q4, fun d ρ5 v H5 q5 g5 E6 i6 => ?_⟩
      obtain ⟨⟨kk, hk⟩, room, w5⟩ := q5
      have hD5 := g5.kp Pa _ hD4 nOw
      have E7 : En c H5 σ (wipeS ρ5 vs) := E6.off oσ hM hp
      have fxD : Fx H5 (upd H5 Pa (SetQO X.w Pa (dedK (accK (acc ++ [d]))))) := fun b o f q => by
        by_cases e : b = Pa
        · subst e; rw [hD5] at q; cases q; cases f
        · rw [upd_ne e]; exact q
      have g25 := g24.trans (g5.congr gM')
      refine ⟨_, dedK (accK (acc ++ [d])), hD5, ⟨kk, is_key' i6 hk, room, by rw [accK_snoc hk, dedK_snoc]⟩, acc ++ [d], wipeS ρ5 vs, w5, E7.updS hD5 rfl h0P (slotN fun _ _ => rfl), ⟨g25.fx.trans fxD, fun b o e w => ?_⟩, upd_same⟩
      have nb : b ≠ Pa := fun z => by subst z; rw [hPa] at e; cases e
      rw [upd_ne nb]
      exact g25.kp b o e w
  · have e : i = xs.length := by omega
    subst e
    exact .inl ⟨jstop _ H2 g2.fx (Nat.le_refl _), k acc ρ2 Pa H2 (wd acc ρ2 hW2) (gr.trans g2) E2 HP (by rw [hW]; exact hav)⟩
theorem sc2_imp {R R1 : Rel} {w : World} {wi wi1 : LW} {g g1 : GW} {wt wt1 : BW} {we : DW} {vs vs1 : List Nat} (hM : ∀ i, i ∈ vs → i ∉ c.M) (hp : c.pot = none ∨ 0 ∉ vs) (hv : ∀ i, i ∈ vs1 → i ∈ vs) (X : Cx) (hW : c.w = X.w) :
    ∀ σ H Q, tQ c (wSc2 vs vs1 wi g wt wi1 g1 wt1 we) σ H Q → tSet2 (X := X) (gatherK X.prog X.w X.K X.A) (iR R c wi) (gR R c vs g) (tT c wt) (iR R1 c wi1) (gR R1 c vs1 g1) (tT c wt1) (tD c we) vs vs1 σ H Q := by
  rintro σ H Q ⟨ρ, Q0, E, hw, k⟩
  have hM1 : ∀ i, i ∈ vs1 → i ∉ c.M := fun i h => hM i (hv i h)
  have hp1 : c.pot = none ∨ 0 ∉ vs1 := hp.imp id fun h z => h (hv 0 z)
  refine ⟨ρ, _, E, hw, fun xs ρ' J H1 q gr E1 hJ => ?_⟩
  obtain ⟨W, w0, ws, wd⟩ := q
  obtain ⟨jgo, jy, jstop⟩ := hJ
  intro Pa hPa
  have h0P : c.H0 Pa = none := E1.h0 hPa
  have HP : H Pa = none := gr.free E1 hPa
  have slotN : ∀ {σ' : Sg}, (∀ i, i ∈ c.M → σ'[i]? = σ[i]?) → ∀ j, j ∈ c.M → σ'[j]? ≠ some (some (V.ref Pa)) := fun gM j hj h2 => by
    rw [gM j hj] at h2
    have z := E1.trk j Pa hj h2
    rw [hPa] at z; cases z
  refine ⟨fun i m H2 => m = xs.length - i ∧ i ≤ xs.length ∧ ∃ acc ρ2, W i acc ρ2 ∧ En c H2 σ ρ2 ∧ Gr c σ H1 H2 ∧ H2 Pa = some (SetQO X.w Pa (dedK (accK acc))), ⟨xs.length, by simp, Nat.zero_le _, [], wipeS ρ' vs, w0, ?_, ?_, upd_same⟩, ?_⟩
  · exact (E1.off (Off.refl vs σ) hM hp).same (upd_same' hPa)
  · exact Gr.same (upd_same' hPa)
  rintro i m H2 ⟨rfl, hi, acc, ρ2, hW2, E2, g2, hav⟩
  by_cases hlt : i < xs.length
  · refine .inr ⟨jgo i H2 g2.fx hlt, fun H3 => ∃ acc ρ2, W (i + 1) acc ρ2 ∧ En c H3 σ ρ2 ∧ Gr c σ H1 H3 ∧ H3 Pa = some (SetQO X.w Pa (dedK (accK acc))), fun H3 q => ⟨xs.length - (i + 1), by omega, rfl, hlt, q⟩, fun x H3 y => ?_⟩
    have hx := List.getElem?_eq_getElem hlt
    obtain ⟨sm, rx⟩ := jy i x H2 H3 xs[i] g2.fx hx y
    have E3 : En c H3 (wipe σ vs) (wipeS ρ2 vs) := (E2.same sm).off (off_wipe σ vs) hM hp
    refine ⟨xs[i], wipeS ρ2 vs, _, rx, E3, ws i xs[i] acc ρ2 hx hW2, fun ρ3 σ3 q3 (o3 : Off vs (wipe σ vs) σ3) E4 => ⟨off_wipes ((off_wipe σ vs).trans o3), ?_⟩⟩
    have oσ : Off vs σ3 σ := ((off_wipe σ vs).trans o3).symm
    have gM' : ∀ i, i ∈ c.M → σ3[i]? = σ[i]? := fun i h => (Off.M oσ hM i h).symm
    refine ⟨ρ3, _, E4, q3, fun b ρ4 H4 q4 g4 E5 => ?_⟩
    have g24 : Gr c σ H1 H4 := (g2.trans (Gr.same sm)).trans (g4.congr gM')
    have nOw : ¬ Ow c σ3 Pa := fun w => E1.notOw hPa ((Ow.congr gM').mp w)
    have hD4 := g4.kp Pa _ (sm Pa _ hav) nOw
    cases b with
    | false => exact ⟨acc, _, q4, E5.off oσ hM hp, g24, hD4⟩
    | true =>
      refine ⟨ρ4, _, E5, q4, fun ys ρ5 J1 H5 q5 g5 E6 hJ1 => ?_⟩
      obtain ⟨W1, w10, ws1, wd1⟩ := q5
      obtain ⟨jgo1, jy1, jstop1⟩ := hJ1
      have g25 : Gr c σ H1 H5 := g24.trans (g5.congr gM')
      refine ⟨fun j k Hx => k = ys.length - j ∧ j ≤ ys.length ∧ ∃ acc1 ρ6, W1 j acc1 ρ6 ∧ En c Hx σ3 ρ6 ∧ Gr c σ H1 Hx ∧ Fx H5 Hx ∧ Hx Pa = some (SetQO X.w Pa (dedK (accK acc1))), ⟨ys.length, by simp, Nat.zero_le _, acc, ρ5, w10, E6, g25, Fx.refl _, g5.kp Pa _ hD4 nOw⟩, ?_⟩
      rintro j k Hx ⟨rfl, hj, acc1, ρ6, hW1, E7, g7, f7, hav1⟩
      by_cases hjl : j < ys.length
      · refine .inr ⟨jgo1 j Hx f7 hjl, fun Hn => ∃ acc1 ρ6, W1 (j + 1) acc1 ρ6 ∧ En c Hn σ3 ρ6 ∧ Gr c σ H1 Hn ∧ Fx H5 Hn ∧ Hn Pa = some (SetQO X.w Pa (dedK (accK acc1))), fun Hn q => ⟨ys.length - (j + 1), by omega, rfl, hjl, q⟩, fun x1 Hy y1 => ?_⟩
        have hy := List.getElem?_eq_getElem hjl
        obtain ⟨sm1, ry⟩ := jy1 j x1 Hx Hy ys[j] f7 hy y1
        have E8 : En c Hy (wipe σ3 vs1) (wipeS ρ6 vs1) := (E7.same sm1).off (off_wipe σ3 vs1) hM1 hp1
        refine ⟨ys[j], wipeS ρ6 vs1, _, ry, E8, ws1 j ys[j] acc1 ρ6 hy hW1, fun ρ7 σ4 q7 (o4 : Off vs1 (wipe σ3 vs1) σ4) E9 => ⟨off_wipes ((off_wipe σ3 vs1).trans o4), ?_⟩⟩
        have oσ4 : Off vs1 σ4 σ3 := ((off_wipe σ3 vs1).trans o4).symm
        have gN' : ∀ i, i ∈ c.M → σ4[i]? = σ[i]? := fun i h => ((Off.M oσ4 hM1 i h).symm).trans (gM' i h)
        refine ⟨ρ7, _, E9, q7, fun b1 ρ8 H8 q8 g8 E10 => ?_⟩
        have g28 : Gr c σ H1 H8 := (g7.trans (Gr.same sm1)).trans (g8.congr gN')
        have f58 : Fx H5 H8 := (f7.trans (Same.fx sm1)).trans g8.fx
        have nOw1 : ¬ Ow c σ4 Pa := fun w => E1.notOw hPa ((Ow.congr gN').mp w)
        have hD8 := g8.kp Pa _ (sm1 Pa _ hav1) nOw1
        cases b1 with
        | false => exact ⟨acc1, _, q8, E10.off oσ4 hM1 hp1, g28, f58, hD8⟩
        | true =>
          refine ⟨ρ8, _, E10, q8, fun d ρ9 v H9 q9 g9 E11 i11 => ?_⟩
          obtain ⟨⟨kk, hk⟩, room, w9⟩ := q9
          have hD9 := g9.kp Pa _ hD8 nOw1
          have E12 : En c H9 σ3 (wipeS ρ9 vs1) := E11.off oσ4 hM1 hp1
          have fxD : Fx H9 (upd H9 Pa (SetQO X.w Pa (dedK (accK (acc1 ++ [d]))))) := fun b o f q => by
            by_cases e : b = Pa
            · subst e; rw [hD9] at q; cases q; cases f
            · rw [upd_ne e]; exact q
          have g29 := g28.trans (g9.congr gN')
          refine ⟨_, dedK (accK (acc1 ++ [d])), hD9, ⟨kk, is_key' i11 hk, room, by rw [accK_snoc hk, dedK_snoc]⟩, acc1 ++ [d], wipeS ρ9 vs1, w9, E12.updS hD9 rfl h0P (slotN gM'), ⟨g29.fx.trans fxD, fun b o e w => ?_⟩, (f58.trans g9.fx).trans fxD, upd_same⟩
          have nb : b ≠ Pa := fun z => by subst z; rw [hPa] at e; cases e
          rw [upd_ne nb]
          exact g29.kp b o e w
      · have e : j = ys.length := by omega
        subst e
        exact .inl ⟨jstop1 _ Hx f7 (Nat.le_refl _), acc1, _, wd1 acc1 ρ6 hW1, E7.off oσ hM hp, g7, hav1⟩
  · have e : i = xs.length := by omega
    subst e
    exact .inl ⟨jstop _ H2 g2.fx (Nat.le_refl _), k acc ρ2 Pa H2 (wd acc ρ2 hW2) (gr.trans g2) E2 HP (by rw [hW]; exact hav)⟩
theorem dq_sc {R : Rel} {elt iter : Expr} {ifs : List Expr} {scope : Scope} {own : List (Str × Nat)} {wi : LW} {g : GW} {wt : BW} {we : DW} (hc : X.calm = true) (hN : X.N.Nodup) (ok : BlkOk X.N X.env.scope scope own) (hM : ∀ i, i ∈ own.map (·.2) → i ∉ c.M) (hp : c.pot = none ∨ 0 ∉ own.map (·.2))
    (hi : PI X tg iter (iR R c wi)) (hg : InBlk X scope fun Y => PG Y tg (gR R c (own.map (·.2)) g)) (ht : InBlk X scope fun Y => PTs Y ifs (tT c wt)) (he : InBlk X scope fun Y => PE Y elt (tD c we)) (hW : c.w = X.w := by rfl) (hs : ∀ x, foldedSetIterable iter X.env x = pure x := by intro _; rfl) :
    PE X (.SetComp elt [⟨tg, iter, ifs, 0⟩] scope pos) (tQ c (wSc (own.map (·.2)) wi g wt we)) := PE.imp (pe_set1 (gatherK X.prog X.w X.K X.A) hc hN hi ok hg ht he hs) (sc_imp hW hM hp X rfl rfl rfl rfl)
theorem dq_sc2 {R R1 : Rel} {elt iter iter1 : Expr} {ifs ifs1 : List Expr} {scope : Scope} {own : List (Str × Nat)} {vs1 : List Nat} {wi wi1 : LW} {g g1 : GW} {wt wt1 : BW} {we : DW} (hc : X.calm = true) (hN : X.N.Nodup) (ok : BlkOk X.N X.env.scope scope own) (hM : ∀ i, i ∈ own.map (·.2) → i ∉ c.M) (hp : c.pot = none ∨ 0 ∉ own.map (·.2)) (hv : ∀ i, i ∈ vs1 → i ∈ own.map (·.2))
    (hi : PI X tg iter (iR R c wi)) (hg : InBlk X scope fun Y => PG Y tg (gR R c (own.map (·.2)) g)) (ht : InBlk X scope fun Y => PTs Y ifs (tT c wt))
    (hi1 : InBlk X scope fun Y => PI Y tg1 iter1 (iR R1 c wi1)) (hg1 : InBlk X scope fun Y => PG Y tg1 (gR R1 c vs1 g1)) (ht1 : InBlk X scope fun Y => PTs Y ifs1 (tT c wt1)) (he : InBlk X scope fun Y => PE Y elt (tD c we))
    (hW : c.w = X.w := by rfl) (hs : ∀ x, foldedSetIterable iter X.env x = pure x := by intro _; rfl) (hs1 : ∀ env x, foldedSetIterable iter1 env x = pure x := by intro _ _; rfl) :
    PE X (.SetComp elt [⟨tg, iter, ifs, 0⟩, ⟨tg1, iter1, ifs1, 0⟩] scope pos) (tQ c (wSc2 (own.map (·.2)) vs1 wi g wt wi1 g1 wt1 we)) := PE.imp (pe_set2 (gatherK X.prog X.w X.K X.A) hc hN hi ok hv hg ht hi1 hg1 ht1 he hs hs1) (sc2_imp (w := X.w) hM hp hv X hW)
/-- set(xs) -/
def wSetOf (w : LW) : LW := fun ρ Q => w ρ fun ds ρ1 => ∃ acc, (ds = [.list acc] ∨ ds = [.tuple acc]) ∧ (∀ d ∈ acc, ∃ k, keyOfD d = some k) ∧ (dedK (accK acc)).length + 1 < scanBound ∧ Q acc ρ1
theorem keys_all {K : PySem.W.Frag} {H : Hp} : ∀ {vs : List V} {ds : List D}, IsAll K H vs ds → (∀ d ∈ ds, ∃ k, keyOfD d = some k) → vs = (accK ds).map kV
  | _, _, .nil, _ => rfl
  | _, _, .cons (d := d) (ds := ds) i t, h => by
    obtain ⟨k, hk⟩ := h d List.mem_cons_self
    rw [keys_all t fun x hx => h x (.tail _ hx), is_key' i hk]
    unfold accK
    rw [List.filterMap_cons, hk] <;> rfl
theorem dq_set {p : Pos} {w : LW} (hc : X.calm = true) (hg : Gl X "set") (hm : X.mg "set" = none) (ha : PA X (e :: es) (tA c w)) (hK : c.K = X.K := by rfl) (hW : c.w = X.w := by rfl)
    (he : starEach (e :: es) X.env = (false, eval e X.env) :: starEach es X.env := by rfl) (hpl : (backTo pos (starEach es X.env)).any (·.1) = false := by rfl) : PE X (.Call (.Name "set" p) (e :: es) [] pos) (tQ c (wSetOf w)) := by
  refine PE.imp (pe_callTy (cr_setQ hc) hg hm (by decide +kernel) ha (by decide) (by decide) he hpl) ?_
  rintro σ H Q ⟨ρ, Q0, E, hw, k⟩
  refine ⟨ρ, _, E, hw, fun ds ρ' vs H' q g E1 i1 => ?_⟩
  obtain ⟨acc, hd, hk, room, q⟩ := q
  have fin : ∀ (p : Addr), H' p = none → Q (.ref p) (upd H' p (SetQO X.w p (dedK (accK acc)))) := fun p n => by
    have sm := upd_same' (o := SetQO X.w p (dedK (accK acc))) n
    exact k acc ρ' p _ q (g.trans (Gr.same sm)) (E1.same sm) (g.free E1 n) (by rw [hW]; exact upd_same)
  rcases hd with rfl | rfl
  · cases i1 with
    | cons i2 i3 =>
      cases i3
      cases i2 with
      | lst g1 g2 =>
        rw [keys_all g2 hk] at g1
        exact ⟨_, accK acc, rfl, .inl (.inl (.inr ⟨_, g1⟩)), room, fin⟩
  · cases i1 with
    | cons i2 i3 =>
      cases i3
      cases i2 with
      | tup g1 g2 =>
        rw [keys_all g2 hk] at g1
        exact ⟨_, accK acc, rfl, .inr (by rw [← hK]; exact g1.sqT), room, fin⟩
/-- sorted(a set) -/
def wSortQ (w : LW) : LW := fun ρ Q => w ρ fun acc ρ1 => (∃ is : List Int, acc = is.map .int ∧ Q ((srtI (ded is)).map .int) ρ1) ∨ ∃ xs : List Str, acc = xs.map .str ∧ Q ((srtS (ded xs)).map .str) ρ1
theorem all_keyD {K : PySem.W.Frag} {H : Hp} : ∀ ks : List Key, IsAll K H (ks.map kV) (ks.map keyD)
  | [] => .nil
  | .inl i :: ks => .cons (.int i) (all_keyD ks)
  | .inr x :: ks => .cons (.str x) (all_keyD ks)
theorem df_sortQ {p : Pos} {w : LW} (hc : X.calm = true) (hg : Gl X "sorted") (hm : X.mg "sorted" = none) (hu : X.A.units + 120 < cLine) (ha : PE X e (tQ c w)) (hW : c.w = X.w := by rfl)
    (he : starEach [e] X.env = (false, eval e X.env) :: starEach [] X.env := by rfl) (hpl : (backTo pos (starEach [] X.env)).any (·.1) = false := by rfl) : PE X (.Call (.Name "sorted" p) [e] [] pos) (tF c (wSortQ w)) := by
  refine PE.imp (pe_callB (cr_sortQ hc hu) hg hm (by decide +kernel) (pa_cons ha pa_nil he) (by decide) (by decide) he hpl) ?_
  rintro σ H Q ⟨ρ, Q0, E, hw, k⟩
  refine ⟨ρ, _, E, hw, fun acc ρ' a H' q g E1 n hS => ?_⟩
  have all : ∀ (ys : List D) (ks : List Key), ((dedK (accK acc)).mergeSort (PySem.W.dataLe false keyD)) = ks → ys = ks.map keyD → Q0 ys ρ' → ∀ p, H' p = none → Q (.ref p) (upd H' p (.lst (((dedK (accK acc)).mergeSort (PySem.W.dataLe false keyD)).map kV))) := fun ys ks e1 e2 q p n => by
    subst e2
    rw [e1]
    have sm := upd_same' (o := .lst (ks.map kV)) n
    exact k _ ρ' p _ _ q (g.trans (Gr.same sm)) (E1.same sm) (g.free E1 n) upd_same (all_keyD ks)
  rw [hW] at hS
  rcases q with ⟨is, rfl, q⟩ | ⟨xs, rfl, q⟩
  · have e := accK_ints is
    refine ⟨a, dedK (accK (is.map .int)), rfl, hS, .inl ⟨ded is, by rw [e, dedK_ints]⟩, all _ ((srtI (ded is)).map .inl) ?_ ?_ q⟩
    · rw [e, dedK_ints]; exact sort_ints (List.Perm.refl _)
    · rw [List.map_map] <;> rfl
  · have e := accK_strs xs
    refine ⟨a, dedK (accK (xs.map .str)), rfl, hS, .inr ⟨ded xs, by rw [e, dedK_strs]⟩, all _ ((srtS (ded xs)).map .inr) ?_ ?_ q⟩
    · rw [e, dedK_strs]; exact sort_strs (List.Perm.refl _)
    · rw [List.map_map] <;> rfl
/-- len(a set) -/
def wLenQ (w : LW) : DW := fun ρ Q => w ρ fun acc ρ1 => Q (.int (dedK (accK acc)).length) ρ1
def rLenQ (w : World) : List V → Hp → VK → Prop := fun vs H Q => ∃ (a : Addr) (ks : List Key), vs = [.ref a] ∧ H a = some (SetQO w a ks) ∧ Q (.int ks.length) H
theorem cr_lenQ : CallR X (.builtin "len") (rLenQ X.w) := by
  intro pins s σ H vs us Q I r h
  obtain ⟨a, ks, rfl, ha, q⟩ := h
  rw [Vals.ref1 r]
  obtain ⟨es, ⟨o, ep, t, ho, hx, hd, few, fit, _⟩, _, pm, _⟩ := setQO_get I ha
  have z : es.size = ks.length := by rw [← pm.length_eq, List.length_map, Array.length_toList]
  have := (by decide : scanBound < 2 ^ 62)
  refine call_len_set ho hx hd fit (by omega) ⟨.int ks.length, H, I.tok _, ⟨_, by rw [z]⟩, q⟩
theorem de_lenQ {p : Pos} {w : LW} (hg : Gl X "len") (hm : X.mg "len" = none) (ha : PE X e (tQ c w)) (hW : c.w = X.w := by rfl)
    (he : starEach [e] X.env = (false, eval e X.env) :: starEach [] X.env := by rfl) (hpl : (backTo pos (starEach [] X.env)).any (·.1) = false := by rfl) : PE X (.Call (.Name "len" p) [e] [] pos) (tD c (wLenQ w)) := by
  refine PE.imp (pe_callB cr_lenQ hg hm PySem.boot_len (pa_cons ha pa_nil he) (by decide) (by decide) he hpl) ?_
  rintro σ H Q ⟨ρ, Q0, E, hw, k⟩
  refine ⟨ρ, _, E, hw, fun acc ρ' a H' q g E1 n hS => ?_⟩
  exact ⟨a, dedK (accK acc), rfl, by rw [← hW]; exact hS, k _ ρ' _ H' q g E1 (.int _)⟩
end
end DL
/-! sum and max of a list of ints. -/
namespace DL
open PySem PySem.Spec PyProof.Rows L2
def intsD : List D → Option (List Int)
  | [] => some []
  | .int i :: ds => (intsD ds).map (i :: ·)
  | _ => none
theorem intsD_map (is : List Int) : intsD (is.map .int) = some is := by
  induction is with
  | nil => rfl
  | cons i is ih => show (intsD (is.map .int)).map (i :: ·) = _; rw [ih] <;> rfl
theorem is_ints {K : PySem.W.Frag} {H : Hp} : ∀ {vs : List V} {ds : List D} {is : List Int}, IsAll K H vs ds → intsD ds = some is → vs = is.map V.int
  | _, _, is, .nil, e => by cases e; rfl
  | _, _, is, .cons (d := d) (ds := ds) h t, e => by
    cases h with
    | int i =>
      have e : (intsD ds).map (i :: ·) = some is := e
      cases q : intsD ds with
      | none => rw [q] at e; cases e
      | some js =>
        rw [q] at e
        cases e
        rw [is_ints t q] <;> rfl
    | _ => exact nomatch e
/-- the greatest -/
def topI : List Int → Int
  | [] => 0
  | [i] => i
  | i :: js => max i (topI js)
theorem topI_mem : ∀ {is : List Int}, is ≠ [] → topI is ∈ is
  | [], h => absurd rfl h
  | [i], _ => by simp [topI]
  | i :: j :: js, _ => by
    have q := topI_mem (is := j :: js) (by simp)
    show max i (topI (j :: js)) ∈ _
    rcases Int.le_total i (topI (j :: js)) with h | h
    · rw [Int.max_eq_right h]; exact .tail _ q
    · rw [Int.max_eq_left h]; exact .head _
theorem topI_ge : ∀ {is : List Int} {y : Int}, y ∈ is → y ≤ topI is
  | [i], y, h => by rw [List.mem_singleton.mp h]; exact Int.le_refl _
  | i :: j :: js, y, h => by
    show y ≤ max i (topI (j :: js))
    rcases List.mem_cons.mp h with e | e
    · rw [e]; exact Int.le_max_left _ _
    · exact Int.le_trans (topI_ge e) (Int.le_max_right _ _)
theorem topI_is {is : List Int} {m : Int} (h1 : m ∈ is) (h2 : ∀ y, y ∈ is → y ≤ m) : m = topI is :=
  Int.le_antisymm (topI_ge h1) (h2 _ (topI_mem fun e => by rw [e] at h1; cases h1))
def sumL : List D → Option D
  | [.list xs] => (intsD xs).map fun is => .int is.sum
  | _ => none
def topL : List D → Option D
  | [.list xs] => (intsD xs).bind fun is => if is = [] then none else some (.int (topI is))
  | _ => none
section
variable {X : Cx}
theorem cr_sumD (hc : X.calm = true) : CallR X (.builtin "sum") (rCl X.K sumL) := by
  intro pins s σ H xs us Q I r h
  obtain ⟨ds, r', hd, hr, q⟩ := h
  cases hd with
  | nil => exact nomatch hr
  | cons h1 h2 =>
    cases h2 with
    | cons _ _ => cases h1 <;> exact nomatch hr
    | nil =>
      cases h1 with
      | @lst a o ys ds g1 g2 =>
        have hr : (intsD ds).map (fun is => PyData.int is.sum) = some r' := hr
        cases hb : intsD ds with
        | none => rw [hb] at hr; cases hr
        | some is =>
          rw [hb] at hr
          cases hr
          have e := is_ints g2 hb
          subst e
          exact cr_sum hc pins s σ H _ us Q I r ⟨a, is, rfl, .inl (.inr ⟨_, g1⟩), q _ H (Same.refl H) (.int _)⟩
      | _ => exact nomatch hr
theorem cr_topD (hc : X.calm = true) : CallR X (.builtin "max") (rCl X.K topL) := by
  intro pins s σ H xs us Q I r h
  obtain ⟨ds, r', hd, hr, q⟩ := h
  cases hd with
  | nil => exact nomatch hr
  | cons h1 h2 =>
    cases h2 with
    | cons _ _ => cases h1 <;> exact nomatch hr
    | nil =>
      cases h1 with
      | @lst a o ys ds g1 g2 =>
        have hr : ((intsD ds).bind fun is => if is = [] then none else some (PyData.int (topI is))) = some r' := hr
        cases hb : intsD ds with
        | none => rw [hb] at hr; cases hr
        | some is =>
          rw [hb] at hr
          have hr : (if is = [] then none else some (PyData.int (topI is))) = some r' := hr
          by_cases hz : is = []
          · rw [if_pos hz] at hr; cases hr
          rw [if_neg hz] at hr
          cases hr
          have e := is_ints g2 hb
          subst e
          exact cr_max hc pins s σ H _ us Q I r ⟨a, is, rfl, .inl (.inr ⟨_, g1⟩), List.length_pos_iff.mpr hz, fun m m1 m2 => by rw [topI_is m1 m2]; exact q _ H (Same.refl H) (.int _)⟩
      | _ => exact nomatch hr
end
end DL
namespace K7
open PySem PySem.Spec PyProof.Rows L2 DL
abbrev N__law_pot : List Str := ["script", "spot", "cell", "own"]
def wb__law_pot : SW := (wSeq (wSet 2 (wIf (wTst (wBin ltD (wVar 1) (wLenI 0))) (wIxI 0 (wVar 1)) (wBin addD (wC (.int 5)) (wVar 1)))) (wSeq (wSet 3 (wBin mulD (wBin modD (wCl absL (wCons (wVar 2) wNil)) (wBin powD (wBin powD (wC (.int 10)) (wC (.int 60))) (wC (.int 5)))) (wCl intL (wCons (wBin geD (wCl absL (wCons (wVar 2) wNil)) (wBin powD (wC (.int 10)) (wC (.int 18)))) wNil)))) (wRetF (wLst (wCons (wVar 3) (wCons (wBin modD (wBin addD (wBin addD (wBin mulD (wBin modD (wVar 2) (wC (.int 2305843009213693951))) (wC (.int 48271))) (wBin mulD (wBin mulD (wC (.int 7919)) (wVar 1)) (wVar 1))) (wC (.int 29))) (wC (.int 2305843009213693921))) (wCons (wC (.int 0)) wNil)))))))
def w__law_pot : PI' := dI N__law_pot wb__law_pot
abbrev N__law_take : List Str := ["pot", "upto", "digit", "prime", "drawn"]
def wb__law_take : SW := (wSeq (wIfS (wTst (wBin gtD (wIxN 0 (wC (.int 0))) (wC (.int 0)))) (wSeq (wSet 2 (wBin modD (wIxN 0 (wC (.int 0))) (wVar 1))) (wSeq (wSetIx 0 0 (wBin fdivD (wIxN 0 (wC (.int 0))) (wVar 1))) (wRet (wVar 2)))) wNext) (wSeq (wSetIx 0 2 (wBin addD (wIxN 0 (wC (.int 2))) (wC (.int 1)))) (wSeq (wSet 3 (wBin ixD (wL (wLst (wCons (wC (.int 2147483647)) (wCons (wC (.int 2147483629)) (wCons (wC (.int 2147483587)) (wCons (wC (.int 2147483579)) (wCons (wC (.int 2147483563)) wNil))))))) (wBin modD (wIxN 0 (wC (.int 2))) (wC (.int 5))))) (wSeq (wSet 4 (wBin modD (wBin powD (wBin addD (wIxN 0 (wC (.int 1))) (wBin mulD (wC (.int 7919)) (wIxN 0 (wC (.int 2))))) (wC (.int 3))) (wVar 3))) (wRet (wBin modD (wBin fdivD (wBin modD (wBin mulD (wVar 4) (wBin addD (wBin modD (wVar 4) (wC (.int 1013))) (wIxN 0 (wC (.int 2))))) (wVar 3)) (wC (.int 5))) (wVar 1)))))))
def w__law_take : PP := dP N__law_take wb__law_take
abbrev N__law_sorts : List Str := ["pot", "most", "wide", "left", "found", "turn"]
def wb__law_sorts : SW := (wSeq (wPar2 3 4 (wMo (wLst (wCons (wC (.str (Str.ofString "bit"))) (wCons (wC (.str (Str.ofString "c"))) (wCons (wC (.str (Str.ofString "int"))) (wCons (wC (.str (Str.ofString "num"))) (wCons (wC (.str (Str.ofString "z"))) (wCons (wC (.str (Str.ofString "zzzzzzzz"))) wNil))))))) (wMo (wLst wNil) wMnil))) (wSeq (wFor (wRange1 (wCons (wBin addD (wC (.int 1)) (wCallP 0 1 w__law_take (wCons (wVar 1) wNil))) wNil)) (wName 5) (wDrop (wApp 4 (wTup (wCons (wPopAt 3 (wCallP 0 1 w__law_take (wCons (wLenN 3) wNil))) (wCons (wBin addD (wC (.int 1)) (wCallP 0 1 w__law_take (wCons (wVar 2) wNil))) wNil)))))) (wRet (wCl tupL (wCons (wL (wSort (wCons (wVar 4) wNil))) wNil)))))
def w__law_sorts : PP := dP N__law_sorts wb__law_sorts
abbrev N__law_row : List Str := ["pot", "many", "count", "turn"]
def wb__law_row : SW := (wRet (wCl tupL (wCons (wL (wLc ([3] : List Nat) (wRange1 (wCons (wVar 1) wNil)) (wName 3) wYes (wCallP 0 1 w__law_take (wCons (wVar 2) wNil)))) wNil)))
def w__law_row : PP := dP N__law_row wb__law_row
abbrev N__law_of : List Str := ["pot", "some"]
def wb__law_of : SW := (wRet (wIxN 1 (wCallP 0 1 w__law_take (wCons (wLenN 1) wNil))))
def w__law_of : PP := dP N__law_of wb__law_of
abbrev N__law_item : List Str := ["pot", "sorts", "at", "names", "counts", "way", "first", "start", "end", "row", "called", "needed", "many", "turn", "name", "word", "count"]
def wb__law_item : SW := (wSeq (wPar3 3 4 5 (wMd (wL (wLc ([14, 16] : List Nat) (wItems (wVar 1)) (wUnp [14, 16]) wYes (wVar 14))) (wMd (wCl dictL (wCons (wVar 1) wNil)) (wMd (wCallP 0 1 w__law_take (wCons (wC (.int 5)) wNil)) wMnil)))) (wSeq (wIfS (wAnd (wTst (wBin ltD (wVar 5) (wC (.int 3)))) (wTst (wBin gtD (wLenN 3) (wC (.int 1))))) (wSeq (wSet 6 (wCallP 0 1 w__law_take (wCons (wLenN 3) wNil))) (wSeq (wPar2 7 8 (wMd (wIxN 3 (wVar 6)) (wMd (wIxN 3 (wBin modD (wBin addD (wBin addD (wVar 6) (wC (.int 1))) (wCallP 0 1 w__law_take (wCons (wBin subD (wLenN 3) (wC (.int 1))) wNil))) (wLenN 3))) wMnil))) (wSeq (wSet 9 (wCallP 0 2 w__law_row (wCons (wIxN 4 (wVar 7)) (wCons (wIxN 4 (wVar 8)) wNil)))) (wSeq (wSet 10 (wBin addD (wL (wLst (wCons (wC (.str (Str.ofString "int"))) (wCons (wC (.str (Str.ofString "f"))) (wCons (wC (.str (Str.ofString "bit"))) (wCons (wC (.str (Str.ofString "one"))) (wCons (wC (.str (Str.ofString "c"))) (wCons (wC (.str (Str.ofString "kind"))) (wCons (wC (.str (Str.ofString "g"))) (wCons (wC (.str (Str.ofString "input"))) (wCons (wC (.str (Str.ofString "num"))) (wCons (wC (.str (Str.ofString "call"))) wNil)))))))))))) (wL (wClF lstrL (wCons (wC (.str (Str.ofString "abdehijklmnopqr"))) wNil))))) (wRet (wTup (wCons (wC (.str (Str.ofString "conversion"))) (wCons (wIxN 10 (wVar 2)) (wCons (wVar 7) (wCons (wVar 8) (wCons (wBin gtD (wVar 5) (wC (.int 0))) (wCons (wVar 9) wNil)))))))))))) wNext) (wSeq (wPar2 11 12 (wMd (wL (wLst wNil)) (wMd (wC (.int 1)) wMnil))) (wSeq (wFor (wRange1 (wCons (wCallP 0 1 w__law_take (wCons (wC (.int 4)) wNil)) wNil)) (wName 13) (wSeq (wSet 14 (wCallP 0 1 w__law_of (wCons (wVar 3) wNil))) (wIfS (wTst (wBin leD (wBin mulD (wVar 12) (wIxN 4 (wVar 14))) (wC (.int 64)))) (wPar2 11 12 (wMd (wBin addD (wVar 11) (wL (wLst (wCons (wVar 14) wNil)))) (wMd (wBin mulD (wVar 12) (wIxN 4 (wVar 14))) wMnil))) wNext))) (wSeq (wSet 8 (wCallP 0 1 w__law_of (wCons (wVar 3) wNil))) (wSeq (wSet 15 (wCallP 0 1 w__law_of (wCons (wL (wLst (wCons (wC (.str (Str.ofString "f"))) (wCons (wC (.str (Str.ofString "g"))) (wCons (wC (.str (Str.ofString "one"))) (wCons (wC (.str (Str.ofString "int"))) wNil)))))) wNil))) (wRet (wTup (wCons (wC (.str (Str.ofString "definition"))) (wCons (wVar 15) (wCons (wCl tupL (wCons (wVar 11) wNil)) (wCons (wVar 8) (wCons (wCallP 0 2 w__law_row (wCons (wVar 12) (wCons (wIxN 4 (wVar 8)) wNil))) wNil)))))))))))))
def w__law_item : PP := dP N__law_item wb__law_item
abbrev N__law_book : List Str := ["pot", "most", "wide", "many", "sorts", "items", "met", "at", "item", "key"]
def wb__law_book : SW := (wSeq (wPar3 4 5 6 (wMd (wCallP 0 2 w__law_sorts (wCons (wVar 1) (wCons (wVar 2) wNil))) (wMo (wLst wNil) (wMb wMnil)))) (wSeq (wFor (wRange1 (wCons (wCallP 0 1 w__law_take (wCons (wBin addD (wVar 3) (wC (.int 1))) wNil)) wNil)) (wName 7) (wSeq (wSet 8 (wCallP 0 2 w__law_item (wCons (wVar 4) (wCons (wVar 7) wNil)))) (wSeq (wSet 9 (wIf (wTst (wBin eqD (wIxN 8 (wC (.int 0))) (wC (.str (Str.ofString "definition"))))) (wSl (wVar 8) (wP (wC (.int 1))) (wP (wC (.int 4)))) (wVar 7))) (wIfS (wTst (wInB true 6 (wVar 9))) (wSeq (wPutB 6 (wVar 9) (wC (.bool true))) (wDrop (wApp 5 (wVar 8)))) wNext)))) (wRet (wTup (wCons (wVar 4) (wCons (wCl tupL (wCons (wVar 5) wNil)) (wCons (wCallP 0 1 w__law_of (wCons (wL (wLst (wCons (wC (.int 1)) (wCons (wC (.int 2)) (wCons (wC (.int 0)) (wCons (wC (.int 3)) (wCons (wC (.int 4)) wNil))))))) wNil)) wNil)))))))
def w__law_book : PP := dP N__law_book wb__law_book
abbrev N__law_dense : List Str := ["pot", "names", "items", "at", "first", "end", "word", "name"]
def wb__law_dense : SW := (wSeq (wPar2 1 2 (wMd (wL (wLst (wCons (wC (.str (Str.ofString "a"))) (wCons (wC (.str (Str.ofString "b"))) (wCons (wC (.str (Str.ofString "c"))) (wCons (wC (.str (Str.ofString "d"))) (wCons (wC (.str (Str.ofString "e"))) (wCons (wC (.str (Str.ofString "f"))) wNil)))))))) (wMo (wLst wNil) wMnil))) (wSeq (wFor (wRange1 (wCons (wBin addD (wC (.int 12)) (wCallP 0 1 w__law_take (wCons (wC (.int 10)) wNil))) wNil)) (wName 3) (wSeq (wSet 4 (wCallP 0 1 w__law_take (wCons (wC (.int 6)) wNil))) (wSeq (wSet 5 (wIxN 1 (wBin modD (wBin addD (wBin addD (wVar 4) (wC (.int 1))) (wCallP 0 1 w__law_take (wCons (wC (.int 5)) wNil))) (wC (.int 6))))) (wSeq (wSet 6 (wBin ixD (wC (.str (Str.ofString "abcdefghijklmnopqrstuvwxyz"))) (wBin modD (wBin addD (wBin mulD (wC (.int 5)) (wVar 3)) (wC (.int 3))) (wC (.int 26))))) (wDrop (wApp 2 (wTup (wCons (wC (.str (Str.ofString "conversion"))) (wCons (wVar 6) (wCons (wIxN 1 (wVar 4)) (wCons (wVar 5) (wCons (wBin gtD (wCallP 0 1 w__law_take (wCons (wC (.int 5)) wNil)) (wC (.int 0))) (wCons (wTup (wCons (wC (.int 0)) wNil)) wNil))))))))))))) (wRet (wTup (wCons (wCl tupL (wCons (wL (wLc ([7] : List Nat) (wItems (wVar 1)) (wName 7) wYes (wTup (wCons (wVar 7) (wCons (wC (.int 1)) wNil))))) wNil)) (wCons (wCl tupL (wCons (wVar 2) wNil)) (wCons (wCallP 0 1 w__law_of (wCons (wL (wLst (wCons (wC (.int 2)) (wCons (wC (.int 3)) (wCons (wC (.int 4)) wNil))))) wNil)) wNil)))))))
def w__law_dense : PP := dP N__law_dense wb__law_dense
abbrev N__law_chains : List Str := ["book", "start", "places", "found", "waiting", "names", "seen", "item", "at", "name", "length", "spots", "end"]
def wb__law_chains : SW := (wSeq (wSet 2 (wCl dictL (wCons (wL (wLc ([8, 7] : List Nat) (wEnumT (wCons (wIxN 0 (wC (.int 1))) wNil)) (wUnp [8, 7]) (wAnd (wTst (wBin eqD (wIxN 7 (wC (.int 0))) (wC (.str (Str.ofString "conversion"))))) (wTru (wIxN 7 (wC (.int 4))))) (wTup (wCons (wIxN 7 (wC (.int 1))) (wCons (wVar 8) wNil))))) wNil))) (wSeq (wPar2 3 4 (wMo (wLst wNil) (wMo (wLst (wCons (wTup (wCons (wTup wNil) (wCons (wTup (wCons (wVar 1) wNil)) wNil))) wNil)) wMnil))) (wSeq (wWhile (wTst (wOwnNe 4 (wL (wLst wNil)))) (wSeq (wAsg (wPop 4) (wUnp [5, 6])) (wSeq (wDrop (wApp 3 (wTup (wCons (wLenN 5) (wCons (wL (wLc ([9] : List Nat) (wItems (wVar 5)) (wName 9) wYes (wIxN 2 (wVar 9)))) (wCons (wVar 5) (wCons (wIxN 6 (wUn negD (wC (.int 1)))) wNil))))))) (wFor (wItems (wIxN 0 (wC (.int 1)))) (wName 7) (wIfS (wAnd (wTst (wBin eqD (wIxN 7 (wC (.int 0))) (wC (.str (Str.ofString "conversion"))))) (wAnd (wTru (wIxN 7 (wC (.int 4)))) (wAnd (wTst (wBin eqD (wIxN 7 (wC (.int 2))) (wIxN 6 (wUn negD (wC (.int 1)))))) (wTst (wBin notInD (wIxN 7 (wC (.int 3))) (wVar 6)))))) (wIfS (wTst (wBin ltD (wLenN 5) (wIxN 0 (wC (.int 2))))) (wDrop (wApp 4 (wTup (wCons (wBin addD (wVar 5) (wTup (wCons (wIxN 7 (wC (.int 1))) wNil))) (wCons (wBin addD (wVar 6) (wTup (wCons (wIxN 7 (wC (.int 3))) wNil))) wNil))))) wNext) wNext))))) (wRetF (wLc ([10, 11, 5, 12] : List Nat) (wItems (wL (wSort (wCons (wVar 3) wNil)))) (wUnp [10, 11, 5, 12]) wYes (wTup (wCons (wVar 5) (wCons (wVar 12) wNil))))))))
def w__law_chains : PN := dN N__law_chains wb__law_chains
abbrev N_implicit_steps : List Str := ["library", "rows", "item", "name", "source", "target", "is_implicit"]
def wb_implicit_steps : SW := (wSeq (wSet 1 (wL (wLc ([2] : List Nat) (wItems (wIxN 0 (wC (.int 1)))) (wName 2) (wTst (wBin eqD (wIxN 2 (wC (.int 0))) (wC (.str (Str.ofString "conversion"))))) (wSl (wVar 2) (wP (wC (.int 1))) (wP (wC (.int 5))))))) (wRetF (wLc ([3, 4, 5, 6] : List Nat) (wItems (wVar 1)) (wUnp [3, 4, 5, 6]) (wTru (wVar 6)) (wTup (wCons (wVar 3) (wCons (wVar 4) (wCons (wVar 5) wNil)))))))
def w_implicit_steps : PN := dN N_implicit_steps wb_implicit_steps
abbrev N_ways_on : List Str := ["steps", "kinds", "name", "source", "target"]
def wb_ways_on : SW := (wRetF (wLc ([2, 3, 4] : List Nat) (wItems (wVar 0)) (wUnp [2, 3, 4]) (wAnd (wTst (wBin eqD (wVar 3) (wIxN 1 (wUn negD (wC (.int 1)))))) (wTst (wBin notInD (wVar 4) (wVar 1)))) (wTup (wCons (wVar 2) (wCons (wVar 4) wNil)))))
def w_ways_on : PN := dN N_ways_on wb_ways_on
abbrev N_chains_from : List Str := ["library", "source", "steps", "longest", "found", "_", "chain", "kinds", "name", "target"]
def wb_chains_from : SW := (wSeq (wSet 2 (wL (wCallF 1 w_implicit_steps (wCons (wVar 0) wNil)))) (wSeq (wSet 3 (wL (wLst (wCons (wTup (wCons (wTup wNil) (wCons (wTup (wCons (wVar 1) wNil)) wNil))) wNil)))) (wSeq (wSetO 4 (wClF lisL (wCons (wVar 3) wNil))) (wSeq (wFor (wRange1 (wCons (wIxN 0 (wC (.int 2))) wNil)) (wName 5) (wSeq (wSet 3 (wL (wLc2 ([6, 7, 8, 9] : List Nat) ([8, 9] : List Nat) (wItems (wVar 3)) (wUnp [6, 7]) wYes (wItems (wL (wCallF 2 w_ways_on (wCons (wVar 2) (wCons (wVar 7) wNil))))) (wUnp [8, 9]) wYes (wTup (wCons (wBin addD (wVar 6) (wTup (wCons (wVar 8) wNil))) (wCons (wBin addD (wVar 7) (wTup (wCons (wVar 9) wNil))) wNil)))))) (wDrop (wExt 4 (wVar 3))))) (wRetO 4)))))
def w_chains_from : PN := dN N_chains_from wb_chains_from
abbrev N_reached : List Str := ["library", "source", "_", "kinds"]
def wb_reached : SW := (wRet (wCl tupL (wCons (wL (wSortQ (wSc ([2, 3] : List Nat) (wItems (wL (wCallF 2 w_chains_from (wCons (wVar 0) (wCons (wVar 1) wNil))))) (wUnp [2, 3]) wYes (wIxN 3 (wUn negD (wC (.int 1))))))) wNil)))
def w_reached : PN := dN N_reached wb_reached
abbrev N_chains : List Str := ["library", "source", "target", "chain", "kinds"]
def wb_chains : SW := (wRet (wCl tupL (wCons (wL (wLc ([3, 4] : List Nat) (wItems (wL (wCallF 2 w_chains_from (wCons (wVar 0) (wCons (wVar 1) wNil))))) (wUnp [3, 4]) (wTst (wBin eqD (wIxN 4 (wUn negD (wC (.int 1)))) (wVar 2))) (wVar 3))) wNil)))
def w_chains : PN := dN N_chains wb_chains
abbrev N__law_right : List Str := ["book", "names", "start", "due", "goal", "told", "name", "count", "row", "end"]
def wb__law_right : SW := (wSeq (wSet 1 (wL (wLc ([6, 7] : List Nat) (wItems (wIxN 0 (wC (.int 0)))) (wUnp [6, 7]) wYes (wVar 6)))) (wSeq (wFor (wItems (wVar 1)) (wName 2) (wSeq (wSet 3 (wL (wCallF 2 w__law_chains (wCons (wVar 0) (wCons (wVar 2) wNil))))) (wSeq (wIfS (wTst (wBin neD (wCl reprE (wCons (wCall 2 w_reached (wCons (wVar 0) (wCons (wVar 2) wNil))) wNil)) (wCl reprE (wCons (wCl tupL (wCons (wL (wSortQ (wSetOf (wCons (wL (wLc ([8, 9] : List Nat) (wItems (wVar 3)) (wUnp [8, 9]) wYes (wVar 9))) wNil)))) wNil)) wNil)))) (wRet (wC (.bool false))) wNext) (wFor (wItems (wVar 1)) (wName 4) (wSeq (wSet 5 (wCl tupL (wCons (wL (wLc ([8, 9] : List Nat) (wItems (wVar 3)) (wUnp [8, 9]) (wTst (wBin eqD (wVar 9) (wVar 4))) (wVar 8))) wNil))) (wSeq (wIfS (wTst (wBin neD (wCl reprE (wCons (wCall 3 w_chains (wCons (wVar 0) (wCons (wVar 2) (wCons (wVar 4) wNil)))) wNil)) (wCl reprE (wCons (wVar 5) wNil)))) (wRet (wC (.bool false))) wNext) (wIfS (wTst (wBin neD (wCallK 3 w_chains (kG 3 [2, 1, 0] []) (wCons (wVar 4) (wCons (wVar 2) (wCons (wVar 0) wNil)))) (wVar 5))) (wRet (wC (.bool false))) wNext))))))) (wRet (wBin eqD (wCallK 2 w_reached (kG 2 [1, 0] []) (wCons (wIxN 1 (wC (.int 0))) (wCons (wVar 0) wNil))) (wCall 2 w_reached (wCons (wVar 0) (wCons (wIxN 1 (wC (.int 0))) wNil)))))))
def w__law_right : PN := dN N__law_right wb__law_right
abbrev N_law : List Str := ["script", "spot", "pot", "some", "turn", "book"]
def wb_law : SW := (wSeq (wFor (wRange1 (wCons (wCl maxL (wCons (wC (.int 1)) (wCons (wCl minL (wCons (wC (.int 3)) (wCons (wLenI 0) wNil))) wNil))) wNil)) (wName 1) (wSeq (wSetO 2 (wCallIF 0 1 w__law_pot (wCons (wVar 1) wNil))) (wSeq (wSet 3 (wBin addD (wL (wLc ([4] : List Nat) (wRange1 (wCons (wC (.int 3)) wNil)) (wName 4) wYes (wCallP 2 3 w__law_book (wCons (wC (.int 6)) (wCons (wC (.int 3)) (wCons (wCallP 2 1 w__law_of (wCons (wL (wLst (wCons (wC (.int 6)) (wCons (wC (.int 12)) wNil)))) wNil)) wNil)))))) (wL (wLst (wCons (wCallP 2 0 w__law_dense wNil) wNil))))) (wIfS (wNot (wTru (wCl allL (wCons (wL (wLc ([5] : List Nat) (wItems (wVar 3)) (wName 5) wYes (wCall 1 w__law_right (wCons (wVar 5) wNil)))) wNil)))) (wRet (wC (.bool false))) wNext)))) (wRet (wC (.bool true))))
def w_law : PI' := dI N_law wb_law

def topS (i : Nat) : Stmt := PySem.Challenge.pw_samereading_k07_chains_in_their_order.main.body.getD i (.Pass ⟨0, 0, 0, 0⟩)
abbrev s__law_pot : Stmt := topS 7
theorem sc__law_pot : FnScope N__law_pot ["script", "spot"] (defScope s__law_pot) := ⟨rfl, rfl, rfl, by decide +kernel, rfl, by decide +kernel, by decide +kernel⟩
abbrev s__law_take : Stmt := topS 8
theorem sc__law_take : FnScope N__law_take ["pot", "upto"] (defScope s__law_take) := ⟨rfl, rfl, rfl, by decide +kernel, rfl, by decide +kernel, by decide +kernel⟩
abbrev s__law_sorts : Stmt := topS 10
theorem sc__law_sorts : FnScope N__law_sorts ["pot", "most", "wide"] (defScope s__law_sorts) := ⟨rfl, rfl, rfl, by decide +kernel, rfl, by decide +kernel, by decide +kernel⟩
abbrev s__law_row : Stmt := topS 11
theorem sc__law_row : FnScope N__law_row ["pot", "many", "count"] (defScope s__law_row) := ⟨rfl, rfl, rfl, by decide +kernel, rfl, by decide +kernel, by decide +kernel⟩
abbrev s__law_of : Stmt := topS 9
theorem sc__law_of : FnScope N__law_of ["pot", "some"] (defScope s__law_of) := ⟨rfl, rfl, rfl, by decide +kernel, rfl, by decide +kernel, by decide +kernel⟩
abbrev s__law_item : Stmt := topS 12
theorem sc__law_item : FnScope N__law_item ["pot", "sorts", "at"] (defScope s__law_item) := ⟨rfl, rfl, rfl, by decide +kernel, rfl, by decide +kernel, by decide +kernel⟩
abbrev s__law_book : Stmt := topS 13
theorem sc__law_book : FnScope N__law_book ["pot", "most", "wide", "many"] (defScope s__law_book) := ⟨rfl, rfl, rfl, by decide +kernel, rfl, by decide +kernel, by decide +kernel⟩
abbrev s__law_dense : Stmt := topS 15
theorem sc__law_dense : FnScope N__law_dense ["pot"] (defScope s__law_dense) := ⟨rfl, rfl, rfl, by decide +kernel, rfl, by decide +kernel, by decide +kernel⟩
abbrev s__law_chains : Stmt := topS 14
theorem sc__law_chains : FnScope N__law_chains ["book", "start"] (defScope s__law_chains) := ⟨rfl, rfl, rfl, by decide +kernel, rfl, by decide +kernel, by decide +kernel⟩
abbrev s_implicit_steps : Stmt := topS 1
theorem sc_implicit_steps : FnScope N_implicit_steps ["library"] (defScope s_implicit_steps) := ⟨rfl, rfl, rfl, by decide +kernel, rfl, by decide +kernel, by decide +kernel⟩
abbrev s_ways_on : Stmt := topS 2
theorem sc_ways_on : FnScope N_ways_on ["steps", "kinds"] (defScope s_ways_on) := ⟨rfl, rfl, rfl, by decide +kernel, rfl, by decide +kernel, by decide +kernel⟩
abbrev s_chains_from : Stmt := topS 3
theorem sc_chains_from : FnScope N_chains_from ["library", "source"] (defScope s_chains_from) := ⟨rfl, rfl, rfl, by decide +kernel, rfl, by decide +kernel, by decide +kernel⟩
abbrev s_reached : Stmt := topS 5
theorem sc_reached : FnScope N_reached ["library", "source"] (defScope s_reached) := ⟨rfl, rfl, rfl, by decide +kernel, rfl, by decide +kernel, by decide +kernel⟩
abbrev s_chains : Stmt := topS 4
theorem sc_chains : FnScope N_chains ["library", "source", "target"] (defScope s_chains) := ⟨rfl, rfl, rfl, by decide +kernel, rfl, by decide +kernel, by decide +kernel⟩
abbrev s__law_right : Stmt := topS 16
theorem sc__law_right : FnScope N__law_right ["book"] (defScope s__law_right) := ⟨rfl, rfl, rfl, by decide +kernel, rfl, by decide +kernel, by decide +kernel⟩
abbrev s_law : Stmt := topS 17
theorem sc_law : FnScope N_law ["script"] (defScope s_law) := ⟨rfl, rfl, rfl, by decide +kernel, rfl, by decide +kernel, by decide +kernel⟩
/-- what the top has left -/
structure Tx (K : PySem.W.Frag) (mg : Str → Option Value) where
  f__law_pot : Addr
  d__law_pot : FuncData
  F__law_pot : Fun K "_law_pot" "_law_pot" s__law_pot f__law_pot d__law_pot
  g__law_pot : mg "_law_pot" = some (.ref f__law_pot)
  b__law_pot : Binds K d__law_pot ["script", "spot"] []
  f__law_take : Addr
  d__law_take : FuncData
  F__law_take : Fun K "_law_take" "_law_take" s__law_take f__law_take d__law_take
  g__law_take : mg "_law_take" = some (.ref f__law_take)
  b__law_take : Binds K d__law_take ["pot", "upto"] []
  f__law_sorts : Addr
  d__law_sorts : FuncData
  F__law_sorts : Fun K "_law_sorts" "_law_sorts" s__law_sorts f__law_sorts d__law_sorts
  g__law_sorts : mg "_law_sorts" = some (.ref f__law_sorts)
  b__law_sorts : Binds K d__law_sorts ["pot", "most", "wide"] []
  f__law_row : Addr
  d__law_row : FuncData
  F__law_row : Fun K "_law_row" "_law_row" s__law_row f__law_row d__law_row
  g__law_row : mg "_law_row" = some (.ref f__law_row)
  b__law_row : Binds K d__law_row ["pot", "many", "count"] []
  f__law_of : Addr
  d__law_of : FuncData
  F__law_of : Fun K "_law_of" "_law_of" s__law_of f__law_of d__law_of
  g__law_of : mg "_law_of" = some (.ref f__law_of)
  b__law_of : Binds K d__law_of ["pot", "some"] []
  f__law_item : Addr
  d__law_item : FuncData
  F__law_item : Fun K "_law_item" "_law_item" s__law_item f__law_item d__law_item
  g__law_item : mg "_law_item" = some (.ref f__law_item)
  b__law_item : Binds K d__law_item ["pot", "sorts", "at"] []
  f__law_book : Addr
  d__law_book : FuncData
  F__law_book : Fun K "_law_book" "_law_book" s__law_book f__law_book d__law_book
  g__law_book : mg "_law_book" = some (.ref f__law_book)
  b__law_book : Binds K d__law_book ["pot", "most", "wide", "many"] []
  f__law_dense : Addr
  d__law_dense : FuncData
  F__law_dense : Fun K "_law_dense" "_law_dense" s__law_dense f__law_dense d__law_dense
  g__law_dense : mg "_law_dense" = some (.ref f__law_dense)
  b__law_dense : Binds K d__law_dense ["pot"] []
  f__law_chains : Addr
  d__law_chains : FuncData
  F__law_chains : Fun K "_law_chains" "_law_chains" s__law_chains f__law_chains d__law_chains
  g__law_chains : mg "_law_chains" = some (.ref f__law_chains)
  b__law_chains : Binds K d__law_chains ["book", "start"] []
  f_implicit_steps : Addr
  d_implicit_steps : FuncData
  F_implicit_steps : Fun K "implicit_steps" "implicit_steps" s_implicit_steps f_implicit_steps d_implicit_steps
  g_implicit_steps : mg "implicit_steps" = some (.ref f_implicit_steps)
  b_implicit_steps : Binds K d_implicit_steps ["library"] []
  f_ways_on : Addr
  d_ways_on : FuncData
  F_ways_on : Fun K "ways_on" "ways_on" s_ways_on f_ways_on d_ways_on
  g_ways_on : mg "ways_on" = some (.ref f_ways_on)
  b_ways_on : Binds K d_ways_on ["steps", "kinds"] []
  f_chains_from : Addr
  d_chains_from : FuncData
  F_chains_from : Fun K "chains_from" "chains_from" s_chains_from f_chains_from d_chains_from
  g_chains_from : mg "chains_from" = some (.ref f_chains_from)
  b_chains_from : Binds K d_chains_from ["library", "source"] []
  f_reached : Addr
  d_reached : FuncData
  F_reached : Fun K "reached" "reached" s_reached f_reached d_reached
  g_reached : mg "reached" = some (.ref f_reached)
  b_reached : Binds K d_reached ["library", "source"] []
  kb_reached_source_library : KBinds K d_reached ["library", "source"] ["source", "library"] (kG 2 [1, 0]) (kG 2 [1, 0])
  f_chains : Addr
  d_chains : FuncData
  F_chains : Fun K "chains" "chains" s_chains f_chains d_chains
  g_chains : mg "chains" = some (.ref f_chains)
  b_chains : Binds K d_chains ["library", "source", "target"] []
  kb_chains_target_source_library : KBinds K d_chains ["library", "source", "target"] ["target", "source", "library"] (kG 3 [2, 1, 0]) (kG 3 [2, 1, 0])
  f__law_right : Addr
  d__law_right : FuncData
  F__law_right : Fun K "_law_right" "_law_right" s__law_right f__law_right d__law_right
  g__law_right : mg "_law_right" = some (.ref f__law_right)
  b__law_right : Binds K d__law_right ["book"] []
  f_law : Addr
  d_law : FuncData
  F_law : Fun K "law" "law" s_law f_law d_law
  g_law : mg "law" = some (.ref f_law)
  b_law : Binds K d_law ["script"] []
  m_int : mg "int" = none
  m_len : mg "len" = none
  m_abs : mg "abs" = none
  m_range : mg "range" = none
  m_tuple : mg "tuple" = none
  m_sorted : mg "sorted" = none
  m_dict : mg "dict" = none
  m_list : mg "list" = none
  m_enumerate : mg "enumerate" = none
  m_repr : mg "repr" = none
  m_set : mg "set" = none
  m_max : mg "max" = none
  m_min : mg "min" = none
  m_all : mg "all" = none
theorem ok__law_pot {P : Program} {w : World} {K : PySem.W.Frag} {mg : Str → Option Value} {base : Heap} (T : Tx K mg) :
    FnOk P w K mg base CX0 1 T.f__law_pot T.d__law_pot ["script", "spot"] (spI K 1 w__law_pot) := by
  refine okI T.F__law_pot sc__law_pot ([] : List Nat) wb__law_pot rfl (by decide) fun cdv A outer s H E hr => ?_
  have hu := hu120 hr
  have hu1 := hu_of hr
  exact (dss_cons (ds_set 2 sc__law_pot.nd rfl (by first | exact .inl rfl | exact .inr rfl) (show (2 : Nat) ∉ ([] : List Nat) by decide) (.inl rfl) (de_if (dt_cmp op_ltD (de_var 1) (de_lenI 0 (by rfl) T.m_len) (nomark _)) (de_ixI 0 (de_var 1)) (de_bin op_addD de_int (de_var 1)))) (dss_cons (ds_set 3 sc__law_pot.nd rfl (by first | exact .inl rfl | exact .inr rfl) (show (3 : Nat) ∉ ([] : List Nat) by decide) (.inl rfl) (de_bin op_mulD (de_bin op_modD (de_clB cr_abs (by rfl) T.m_abs (by decide +kernel) (da_cons (de_var 2) da_nil)) (de_bin op_powD (de_bin op_powD de_int de_int) de_int)) (de_clT cr_int (by rfl) T.m_int (by decide +kernel) (da_cons (de_cmp op_geD (de_clB cr_abs (by rfl) T.m_abs (by decide +kernel) (da_cons (de_var 2) da_nil)) (de_bin op_powD de_int de_int) (nomark _)) da_nil)))) (dss_one (ds_retF (de_lst (da_cons (de_var 3) (da_cons (de_bin op_modD (de_bin op_addD (de_bin op_addD (de_bin op_mulD (de_bin op_modD (de_var 2) de_int) de_int) (de_bin op_mulD (de_bin op_mulD de_int (de_var 1)) (de_var 1))) de_int) de_int) (da_cons de_int da_nil))))))))
theorem ok__law_take {P : Program} {w : World} {K : PySem.W.Frag} {mg : Str → Option Value} {base : Heap} (T : Tx K mg) :
    FnOk P w K mg base CX0 1 T.f__law_take T.d__law_take ["pot", "upto"] (spP K 1 w__law_take) := by
  refine okP T.F__law_take sc__law_take ([0] : List Nat) wb__law_take rfl (by decide) (by decide) fun cdv A outer s H E a hr => ?_
  have hu := hu120 hr
  have hu1 := hu_of hr
  exact (dss_cons (ds_if (dt_cmp op_gtD (de_ixN hu1 0 de_int) de_int (nomark _)) (dss_cons (ds_set 2 sc__law_take.nd rfl (by first | exact .inl rfl | exact .inr rfl) (show (2 : Nat) ∉ ([0] : List Nat) by decide) (.inr (by decide)) (de_bin op_modD (de_ixN hu1 0 de_int) (de_var 1))) (dss_cons (ds_setIx 0 (de_bin op_fdivD (de_ixN hu1 0 de_int) (de_var 1))) (dss_one (ds_ret (de_var 2))))) dss_nil) (dss_cons (ds_setIx 0 (de_bin op_addD (de_ixN hu1 0 de_int) de_int)) (dss_cons (ds_set 3 sc__law_take.nd rfl (by first | exact .inl rfl | exact .inr rfl) (show (3 : Nat) ∉ ([0] : List Nat) by decide) (.inr (by decide)) (de_ix hu1 (de_fz (de_lst (da_cons de_int (da_cons de_int (da_cons de_int (da_cons de_int (da_cons de_int da_nil))))))) (de_bin op_modD (de_ixN hu1 0 de_int) de_int))) (dss_cons (ds_set 4 sc__law_take.nd rfl (by first | exact .inl rfl | exact .inr rfl) (show (4 : Nat) ∉ ([0] : List Nat) by decide) (.inr (by decide)) (de_bin op_modD (de_bin op_powD (de_bin op_addD (de_ixN hu1 0 de_int) (de_bin op_mulD de_int (de_ixN hu1 0 de_int))) de_int) (de_var 3))) (dss_one (ds_ret (de_bin op_modD (de_bin op_fdivD (de_bin op_modD (de_bin op_mulD (de_var 4) (de_bin op_addD (de_bin op_modD (de_var 4) de_int) (de_ixN hu1 0 de_int))) (de_var 3)) de_int) (de_var 1))))))))
theorem ok__law_sorts {P : Program} {w : World} {K : PySem.W.Frag} {mg : Str → Option Value} {base : Heap} (T : Tx K mg)
    (G__law_take : FnOk P w K mg base CX0 1 T.f__law_take T.d__law_take ["pot", "upto"] (spP K 1 w__law_take)) :
    FnOk P w K mg base CX0 2 T.f__law_sorts T.d__law_sorts ["pot", "most", "wide"] (spP K 2 w__law_sorts) := by
  refine okP T.F__law_sorts sc__law_sorts ([0, 3, 4] : List Nat) wb__law_sorts rfl (by decide) (by decide) fun cdv A outer s H E a hr => ?_
  have hu := hu120 hr
  have hu1 := hu_of hr
  exact (dss_cons (ds_par2 (k1' := .o) (k2' := .o) 3 4 rfl rfl sc__law_sorts.nd rfl rfl (by decide) rfl rfl (show (3 : Nat) ∈ ([0, 3, 4] : List Nat) by decide) (show (4 : Nat) ∈ ([0, 3, 4] : List Nat) by decide) (fun h => by cases h) (.inr (by decide)) (.inr (by decide)) (dm_o (de_lst (da_cons de_str (da_cons de_str (da_cons de_str (da_cons de_str (da_cons de_str (da_cons de_str da_nil))))))) (dm_o (de_lst da_nil) dm_nil)) (by rfl)) (dss_cons (ds_for (R := Is) (vs := ([5] : List Nat)) PassesOwn.never rfl (di_range1 (by rfl) T.m_range (da_cons (de_bin op_addD de_int (de_callP 0 G__law_take (hr.mono (by decide)) (by rfl) T.g__law_take T.F__law_take.kp T.b__law_take pass0 (da_cons (de_var 1) da_nil))) da_nil)) (dg_name 5 ([5] : List Nat) sc__law_sorts.nd rfl (by first | exact .inl rfl | exact .inr rfl) (show (5 : Nat) ∉ ([0, 3, 4] : List Nat) by decide) (.inr (by decide)) (by decide)) (dss_one (ds_expr (de_app 4 (de_tup (da_cons (de_popAt 3 (de_callP 0 G__law_take (hr.mono (by decide)) (by rfl) T.g__law_take T.F__law_take.kp T.b__law_take pass0 (da_cons (de_lenN 3 (by rfl) T.m_len) da_nil))) (da_cons (de_bin op_addD de_int (de_callP 0 G__law_take (hr.mono (by decide)) (by rfl) T.g__law_take T.F__law_take.kp T.b__law_take pass0 (da_cons (de_var 2) da_nil))) da_nil))))))) (dss_one (ds_ret (de_clT cr_tuple (by rfl) T.m_tuple (by decide +kernel) (da_cons (de_fz (df_sort (by rfl) T.m_sorted hu (da_cons (de_var 4) da_nil))) da_nil))))))
theorem ok__law_row {P : Program} {w : World} {K : PySem.W.Frag} {mg : Str → Option Value} {base : Heap} (T : Tx K mg)
    (G__law_take : FnOk P w K mg base CX0 1 T.f__law_take T.d__law_take ["pot", "upto"] (spP K 1 w__law_take)) :
    FnOk P w K mg base CX0 2 T.f__law_row T.d__law_row ["pot", "many", "count"] (spP K 2 w__law_row) := by
  refine okP T.F__law_row sc__law_row ([0] : List Nat) wb__law_row rfl (by decide) (by decide) fun cdv A outer s H E a hr => ?_
  have hu := hu120 hr
  have hu1 := hu_of hr
  exact (dss_one (ds_ret (de_clT cr_tuple (by rfl) T.m_tuple (by decide +kernel) (da_cons (de_fz (df_lc (R := Is) (own := [("turn", 3)]) rfl sc__law_row.nd (blkOk_by (own := [("turn", 3)]) (N := N__law_row) (sc := defScope s__law_row) (by decide +kernel)) (show ∀ i, i ∈ ([3] : List Nat) → i ∉ ([0] : List Nat) by decide) (.inr (show (0 : Nat) ∉ ([3] : List Nat) by decide)) (di_range1 (by rfl) T.m_range (da_cons (de_var 1) da_nil)) (fun _ _ _ _ _ => (dg_name 3 ([3] : List Nat) sc__law_row.nd rfl (by first | exact .inl rfl | exact .inr rfl) (show (3 : Nat) ∉ ([0] : List Nat) by decide) (.inr (by decide)) (by decide))) (fun _ _ _ _ _ => dts_nil) (fun _ _ _ _ _ => (de_callP 0 G__law_take (hr.mono (by decide)) (by rfl) T.g__law_take T.F__law_take.kp T.b__law_take pass0 (da_cons (de_var 2) da_nil))))) da_nil))))
theorem ok__law_of {P : Program} {w : World} {K : PySem.W.Frag} {mg : Str → Option Value} {base : Heap} (T : Tx K mg)
    (G__law_take : FnOk P w K mg base CX0 1 T.f__law_take T.d__law_take ["pot", "upto"] (spP K 1 w__law_take)) :
    FnOk P w K mg base CX0 2 T.f__law_of T.d__law_of ["pot", "some"] (spP K 1 w__law_of) := by
  refine okP T.F__law_of sc__law_of ([0] : List Nat) wb__law_of rfl (by decide) (by decide) fun cdv A outer s H E a hr => ?_
  have hu := hu120 hr
  have hu1 := hu_of hr
  exact (dss_one (ds_ret (de_ixN hu1 1 (de_callP 0 G__law_take (hr.mono (by decide)) (by rfl) T.g__law_take T.F__law_take.kp T.b__law_take pass0 (da_cons (de_lenN 1 (by rfl) T.m_len) da_nil)))))
theorem ok__law_item {P : Program} {w : World} {K : PySem.W.Frag} {mg : Str → Option Value} {base : Heap} (T : Tx K mg)
    (G__law_take : FnOk P w K mg base CX0 1 T.f__law_take T.d__law_take ["pot", "upto"] (spP K 1 w__law_take))
    (G__law_row : FnOk P w K mg base CX0 2 T.f__law_row T.d__law_row ["pot", "many", "count"] (spP K 2 w__law_row))
    (G__law_of : FnOk P w K mg base CX0 2 T.f__law_of T.d__law_of ["pot", "some"] (spP K 1 w__law_of)) :
    FnOk P w K mg base CX0 3 T.f__law_item T.d__law_item ["pot", "sorts", "at"] (spP K 2 w__law_item) := by
  refine okP T.F__law_item sc__law_item ([0] : List Nat) wb__law_item rfl (by decide) (by decide) fun cdv A outer s H E a hr => ?_
  have hu := hu120 hr
  have hu1 := hu_of hr
  exact (dss_cons (ds_par3 (k1' := .d) (k2' := .d) (k3' := .d) 3 4 5 rfl rfl sc__law_item.nd rfl rfl rfl (by decide) (by decide) (by decide) rfl rfl rfl (show (3 : Nat) ∉ ([0] : List Nat) by decide) (show (4 : Nat) ∉ ([0] : List Nat) by decide) (show (5 : Nat) ∉ ([0] : List Nat) by decide) (by simp) (.inr (by decide)) (.inr (by decide)) (.inr (by decide)) (dm_d (de_fz (df_lc (R := Is) (own := [("name", 14), ("count", 16)]) rfl sc__law_item.nd (blkOk_by (own := [("name", 14), ("count", 16)]) (N := N__law_item) (sc := defScope s__law_item) (by decide +kernel)) (show ∀ i, i ∈ ([14, 16] : List Nat) → i ∉ ([0] : List Nat) by decide) (.inr (show (0 : Nat) ∉ ([14, 16] : List Nat) by decide)) (di_of (de_var 1)) (fun _ _ _ _ _ => (dg_w (dg_tup (vs := ([14, 16] : List Nat)) rfl (dgs_cons 14 sc__law_item.nd rfl (by first | exact .inl rfl | exact .inr rfl) (show (14 : Nat) ∉ ([0] : List Nat) by decide) (.inr (by decide)) (by decide) (dgs_cons 16 sc__law_item.nd rfl (by first | exact .inl rfl | exact .inr rfl) (show (16 : Nat) ∉ ([0] : List Nat) by decide) (.inr (by decide)) (by decide) (dgs_nil _)))))) (fun _ _ _ _ _ => dts_nil) (fun _ _ _ _ _ => (de_var 14)))) (dm_d (de_clT (cr_dict rfl) (by rfl) T.m_dict (by decide +kernel) (da_cons (de_var 1) da_nil)) (dm_d (de_callP 0 G__law_take (hr.mono (by decide)) (by rfl) T.g__law_take T.F__law_take.kp T.b__law_take pass0 (da_cons de_int da_nil)) dm_nil))) (by rfl)) (dss_cons (ds_if (dt_bool (dw_and (dt_cmp op_ltD (de_var 5) de_int (nomark _)) (dw_and1 (dt_cmp op_gtD (de_lenN 3 (by rfl) T.m_len) de_int (nomark _))))) (dss_cons (ds_set 6 sc__law_item.nd rfl (by first | exact .inl rfl | exact .inr rfl) (show (6 : Nat) ∉ ([0] : List Nat) by decide) (.inr (by decide)) (de_callP 0 G__law_take (hr.mono (by decide)) (by rfl) T.g__law_take T.F__law_take.kp T.b__law_take pass0 (da_cons (de_lenN 3 (by rfl) T.m_len) da_nil))) (dss_cons (ds_par2 (k1' := .d) (k2' := .d) 7 8 rfl rfl sc__law_item.nd rfl rfl (by decide) rfl rfl (show (7 : Nat) ∉ ([0] : List Nat) by decide) (show (8 : Nat) ∉ ([0] : List Nat) by decide) (fun h => by cases h) (.inr (by decide)) (.inr (by decide)) (dm_d (de_ixN hu1 3 (de_var 6)) (dm_d (de_ixN hu1 3 (de_bin op_modD (de_bin op_addD (de_bin op_addD (de_var 6) de_int) (de_callP 0 G__law_take (hr.mono (by decide)) (by rfl) T.g__law_take T.F__law_take.kp T.b__law_take pass0 (da_cons (de_bin op_subD (de_lenN 3 (by rfl) T.m_len) de_int) da_nil))) (de_lenN 3 (by rfl) T.m_len))) dm_nil)) (by rfl)) (dss_cons (ds_set 9 sc__law_item.nd rfl (by first | exact .inl rfl | exact .inr rfl) (show (9 : Nat) ∉ ([0] : List Nat) by decide) (.inr (by decide)) (de_callP 0 G__law_row (hr.mono (by decide)) (by rfl) T.g__law_row T.F__law_row.kp T.b__law_row pass0 (da_cons (de_ixN hu1 4 (de_var 7)) (da_cons (de_ixN hu1 4 (de_var 8)) da_nil)))) (dss_cons (ds_set 10 sc__law_item.nd rfl (by first | exact .inl rfl | exact .inr rfl) (show (10 : Nat) ∉ ([0] : List Nat) by decide) (.inr (by decide)) (de_bin op_addD (de_fz (de_lst (da_cons de_str (da_cons de_str (da_cons de_str (da_cons de_str (da_cons de_str (da_cons de_str (da_cons de_str (da_cons de_str (da_cons de_str (da_cons de_str da_nil)))))))))))) (de_fz (df_clT (cr_listStr rfl) (by rfl) T.m_list (by decide +kernel) (da_cons de_str da_nil))))) (dss_one (ds_ret (de_tup (da_cons de_str (da_cons (de_ixN hu1 10 (de_var 2)) (da_cons (de_var 7) (da_cons (de_var 8) (da_cons (de_cmp op_gtD (de_var 5) de_int (nomark _)) (da_cons (de_var 9) da_nil))))))))))))) dss_nil) (dss_cons (ds_par2 (k1' := .d) (k2' := .d) 11 12 rfl rfl sc__law_item.nd rfl rfl (by decide) rfl rfl (show (11 : Nat) ∉ ([0] : List Nat) by decide) (show (12 : Nat) ∉ ([0] : List Nat) by decide) (fun h => by cases h) (.inr (by decide)) (.inr (by decide)) (dm_d (de_fz (de_lst da_nil)) (dm_d de_int dm_nil)) (by rfl)) (dss_cons (ds_for (R := Is) (vs := ([13] : List Nat)) PassesOwn.never rfl (di_range1 (by rfl) T.m_range (da_cons (de_callP 0 G__law_take (hr.mono (by decide)) (by rfl) T.g__law_take T.F__law_take.kp T.b__law_take pass0 (da_cons de_int da_nil)) da_nil)) (dg_name 13 ([13] : List Nat) sc__law_item.nd rfl (by first | exact .inl rfl | exact .inr rfl) (show (13 : Nat) ∉ ([0] : List Nat) by decide) (.inr (by decide)) (by decide)) (dss_cons (ds_set 14 sc__law_item.nd rfl (by first | exact .inl rfl | exact .inr rfl) (show (14 : Nat) ∉ ([0] : List Nat) by decide) (.inr (by decide)) (de_callP 0 G__law_of (hr.mono (by decide)) (by rfl) T.g__law_of T.F__law_of.kp T.b__law_of pass0 (da_cons (de_var 3) da_nil))) (dss_one (ds_if (dt_cmp op_leD (de_bin op_mulD (de_var 12) (de_ixN hu1 4 (de_var 14))) de_int (nomark _)) (dss_one (ds_par2 (k1' := .d) (k2' := .d) 11 12 rfl rfl sc__law_item.nd rfl rfl (by decide) rfl rfl (show (11 : Nat) ∉ ([0] : List Nat) by decide) (show (12 : Nat) ∉ ([0] : List Nat) by decide) (fun h => by cases h) (.inr (by decide)) (.inr (by decide)) (dm_d (de_bin op_addD (de_var 11) (de_fz (de_lst (da_cons (de_var 14) da_nil)))) (dm_d (de_bin op_mulD (de_var 12) (de_ixN hu1 4 (de_var 14))) dm_nil)) (by rfl))) dss_nil)))) (dss_cons (ds_set 8 sc__law_item.nd rfl (by first | exact .inl rfl | exact .inr rfl) (show (8 : Nat) ∉ ([0] : List Nat) by decide) (.inr (by decide)) (de_callP 0 G__law_of (hr.mono (by decide)) (by rfl) T.g__law_of T.F__law_of.kp T.b__law_of pass0 (da_cons (de_var 3) da_nil))) (dss_cons (ds_set 15 sc__law_item.nd rfl (by first | exact .inl rfl | exact .inr rfl) (show (15 : Nat) ∉ ([0] : List Nat) by decide) (.inr (by decide)) (de_callP 0 G__law_of (hr.mono (by decide)) (by rfl) T.g__law_of T.F__law_of.kp T.b__law_of pass0 (da_cons (de_fz (de_lst (da_cons de_str (da_cons de_str (da_cons de_str (da_cons de_str da_nil)))))) da_nil))) (dss_one (ds_ret (de_tup (da_cons de_str (da_cons (de_var 15) (da_cons (de_clT cr_tuple (by rfl) T.m_tuple (by decide +kernel) (da_cons (de_var 11) da_nil)) (da_cons (de_var 8) (da_cons (de_callP 0 G__law_row (hr.mono (by decide)) (by rfl) T.g__law_row T.F__law_row.kp T.b__law_row pass0 (da_cons (de_var 12) (da_cons (de_ixN hu1 4 (de_var 8)) da_nil))) da_nil))))))))))))))
theorem ok__law_book {P : Program} {w : World} {K : PySem.W.Frag} {mg : Str → Option Value} {base : Heap} (T : Tx K mg)
    (G__law_sorts : FnOk P w K mg base CX0 2 T.f__law_sorts T.d__law_sorts ["pot", "most", "wide"] (spP K 2 w__law_sorts))
    (G__law_take : FnOk P w K mg base CX0 1 T.f__law_take T.d__law_take ["pot", "upto"] (spP K 1 w__law_take))
    (G__law_item : FnOk P w K mg base CX0 3 T.f__law_item T.d__law_item ["pot", "sorts", "at"] (spP K 2 w__law_item))
    (G__law_of : FnOk P w K mg base CX0 2 T.f__law_of T.d__law_of ["pot", "some"] (spP K 1 w__law_of)) :
    FnOk P w K mg base CX0 4 T.f__law_book T.d__law_book ["pot", "most", "wide", "many"] (spP K 3 w__law_book) := by
  refine okP T.F__law_book sc__law_book ([0, 5, 6] : List Nat) wb__law_book rfl (by decide) (by decide) fun cdv A outer s H E a hr => ?_
  have hu := hu120 hr
  have hu1 := hu_of hr
  exact (dss_cons (ds_par3 (k1' := .d) (k2' := .o) (k3' := .b) 4 5 6 rfl rfl sc__law_book.nd rfl rfl rfl (by decide) (by decide) (by decide) rfl rfl rfl (show (4 : Nat) ∉ ([0, 5, 6] : List Nat) by decide) (show (5 : Nat) ∈ ([0, 5, 6] : List Nat) by decide) (show (6 : Nat) ∈ ([0, 5, 6] : List Nat) by decide) (by simp) (.inr (by decide)) (.inr (by decide)) (.inr (by decide)) (dm_d (de_callP 0 G__law_sorts (hr.mono (by decide)) (by rfl) T.g__law_sorts T.F__law_sorts.kp T.b__law_sorts pass0 (da_cons (de_var 1) (da_cons (de_var 2) da_nil))) (dm_o (de_lst da_nil) (dm_b dm_nil))) (by rfl)) (dss_cons (ds_for (R := Is) (vs := ([7] : List Nat)) PassesOwn.never rfl (di_range1 (by rfl) T.m_range (da_cons (de_callP 0 G__law_take (hr.mono (by decide)) (by rfl) T.g__law_take T.F__law_take.kp T.b__law_take pass0 (da_cons (de_bin op_addD (de_var 3) de_int) da_nil)) da_nil)) (dg_name 7 ([7] : List Nat) sc__law_book.nd rfl (by first | exact .inl rfl | exact .inr rfl) (show (7 : Nat) ∉ ([0, 5, 6] : List Nat) by decide) (.inr (by decide)) (by decide)) (dss_cons (ds_set 8 sc__law_book.nd rfl (by first | exact .inl rfl | exact .inr rfl) (show (8 : Nat) ∉ ([0, 5, 6] : List Nat) by decide) (.inr (by decide)) (de_callP 0 G__law_item (hr.mono (by decide)) (by rfl) T.g__law_item T.F__law_item.kp T.b__law_item pass0 (da_cons (de_var 4) (da_cons (de_var 7) da_nil)))) (dss_cons (ds_set 9 sc__law_book.nd rfl (by first | exact .inl rfl | exact .inr rfl) (show (9 : Nat) ∉ ([0, 5, 6] : List Nat) by decide) (.inr (by decide)) (de_if (dt_cmp (op_eqD' hu) (de_ixN hu1 8 de_int) de_str (nomark _)) (de_sl (de_var 8) (dp_some de_int) (dp_some de_int)) (de_var 7))) (dss_one (ds_if (dt_inB 6 hu (de_var 9)) (dss_cons (ds_putB 6 hu (de_var 9) de_bl) (dss_one (ds_expr (de_app 5 (de_var 8))))) dss_nil))))) (dss_one (ds_ret (de_tup (da_cons (de_var 4) (da_cons (de_clT cr_tuple (by rfl) T.m_tuple (by decide +kernel) (da_cons (de_var 5) da_nil)) (da_cons (de_callP 0 G__law_of (hr.mono (by decide)) (by rfl) T.g__law_of T.F__law_of.kp T.b__law_of pass0 (da_cons (de_fz (de_lst (da_cons de_int (da_cons de_int (da_cons de_int (da_cons de_int (da_cons de_int da_nil))))))) da_nil)) da_nil))))))))
theorem ok__law_dense {P : Program} {w : World} {K : PySem.W.Frag} {mg : Str → Option Value} {base : Heap} (T : Tx K mg)
    (G__law_take : FnOk P w K mg base CX0 1 T.f__law_take T.d__law_take ["pot", "upto"] (spP K 1 w__law_take))
    (G__law_of : FnOk P w K mg base CX0 2 T.f__law_of T.d__law_of ["pot", "some"] (spP K 1 w__law_of)) :
    FnOk P w K mg base CX0 3 T.f__law_dense T.d__law_dense ["pot"] (spP K 0 w__law_dense) := by
  refine okP T.F__law_dense sc__law_dense ([0, 2] : List Nat) wb__law_dense rfl (by decide) (by decide) fun cdv A outer s H E a hr => ?_
  have hu := hu120 hr
  have hu1 := hu_of hr
  exact (dss_cons (ds_par2 (k1' := .d) (k2' := .o) 1 2 rfl rfl sc__law_dense.nd rfl rfl (by decide) rfl rfl (show (1 : Nat) ∉ ([0, 2] : List Nat) by decide) (show (2 : Nat) ∈ ([0, 2] : List Nat) by decide) (fun h => by cases h) (.inr (by decide)) (.inr (by decide)) (dm_d (de_fz (de_lst (da_cons de_str (da_cons de_str (da_cons de_str (da_cons de_str (da_cons de_str (da_cons de_str da_nil)))))))) (dm_o (de_lst da_nil) dm_nil)) (by rfl)) (dss_cons (ds_for (R := Is) (vs := ([3] : List Nat)) PassesOwn.never rfl (di_range1 (by rfl) T.m_range (da_cons (de_bin op_addD de_int (de_callP 0 G__law_take (hr.mono (by decide)) (by rfl) T.g__law_take T.F__law_take.kp T.b__law_take pass0 (da_cons de_int da_nil))) da_nil)) (dg_name 3 ([3] : List Nat) sc__law_dense.nd rfl (by first | exact .inl rfl | exact .inr rfl) (show (3 : Nat) ∉ ([0, 2] : List Nat) by decide) (.inr (by decide)) (by decide)) (dss_cons (ds_set 4 sc__law_dense.nd rfl (by first | exact .inl rfl | exact .inr rfl) (show (4 : Nat) ∉ ([0, 2] : List Nat) by decide) (.inr (by decide)) (de_callP 0 G__law_take (hr.mono (by decide)) (by rfl) T.g__law_take T.F__law_take.kp T.b__law_take pass0 (da_cons de_int da_nil))) (dss_cons (ds_set 5 sc__law_dense.nd rfl (by first | exact .inl rfl | exact .inr rfl) (show (5 : Nat) ∉ ([0, 2] : List Nat) by decide) (.inr (by decide)) (de_ixN hu1 1 (de_bin op_modD (de_bin op_addD (de_bin op_addD (de_var 4) de_int) (de_callP 0 G__law_take (hr.mono (by decide)) (by rfl) T.g__law_take T.F__law_take.kp T.b__law_take pass0 (da_cons de_int da_nil))) de_int))) (dss_cons (ds_set 6 sc__law_dense.nd rfl (by first | exact .inl rfl | exact .inr rfl) (show (6 : Nat) ∉ ([0, 2] : List Nat) by decide) (.inr (by decide)) (de_ix hu1 de_str (de_bin op_modD (de_bin op_addD (de_bin op_mulD de_int (de_var 3)) de_int) de_int))) (dss_one (ds_expr (de_app 2 (de_tup (da_cons de_str (da_cons (de_var 6) (da_cons (de_ixN hu1 1 (de_var 4)) (da_cons (de_var 5) (da_cons (de_cmp op_gtD (de_callP 0 G__law_take (hr.mono (by decide)) (by rfl) T.g__law_take T.F__law_take.kp T.b__law_take pass0 (da_cons de_int da_nil)) de_int (nomark _)) (da_cons (de_tup (da_cons de_int da_nil)) da_nil)))))))))))))) (dss_one (ds_ret (de_tup (da_cons (de_clT cr_tuple (by rfl) T.m_tuple (by decide +kernel) (da_cons (de_fz (df_lc (R := Is) (own := [("name", 7)]) rfl sc__law_dense.nd (blkOk_by (own := [("name", 7)]) (N := N__law_dense) (sc := defScope s__law_dense) (by decide +kernel)) (show ∀ i, i ∈ ([7] : List Nat) → i ∉ ([0, 2] : List Nat) by decide) (.inr (show (0 : Nat) ∉ ([7] : List Nat) by decide)) (di_of (de_var 1)) (fun _ _ _ _ _ => (dg_name 7 ([7] : List Nat) sc__law_dense.nd rfl (by first | exact .inl rfl | exact .inr rfl) (show (7 : Nat) ∉ ([0, 2] : List Nat) by decide) (.inr (by decide)) (by decide))) (fun _ _ _ _ _ => dts_nil) (fun _ _ _ _ _ => (de_tup (da_cons (de_var 7) (da_cons de_int da_nil)))))) da_nil)) (da_cons (de_clT cr_tuple (by rfl) T.m_tuple (by decide +kernel) (da_cons (de_var 2) da_nil)) (da_cons (de_callP 0 G__law_of (hr.mono (by decide)) (by rfl) T.g__law_of T.F__law_of.kp T.b__law_of pass0 (da_cons (de_fz (de_lst (da_cons de_int (da_cons de_int (da_cons de_int da_nil))))) da_nil)) da_nil))))))))
theorem ok__law_chains {P : Program} {w : World} {K : PySem.W.Frag} {mg : Str → Option Value} {base : Heap} (T : Tx K mg) :
    FnOk P w K mg base CX0 1 T.f__law_chains T.d__law_chains ["book", "start"] (spN K 2 w__law_chains) := by
  refine okN T.F__law_chains sc__law_chains ([3, 4] : List Nat) wb__law_chains rfl (by decide) fun cdv A outer s H E hr => ?_
  have hu := hu120 hr
  have hu1 := hu_of hr
  exact (dss_cons (ds_set 2 sc__law_chains.nd rfl (by first | exact .inl rfl | exact .inr rfl) (show (2 : Nat) ∉ ([3, 4] : List Nat) by decide) (.inl rfl) (de_clT (cr_dict rfl) (by rfl) T.m_dict (by decide +kernel) (da_cons (de_fz (df_lc (R := IsW) (own := [("at", 8), ("item", 7)]) rfl sc__law_chains.nd (blkOk_by (own := [("at", 8), ("item", 7)]) (N := N__law_chains) (sc := defScope s__law_chains) (by decide +kernel)) (show ∀ i, i ∈ ([8, 7] : List Nat) → i ∉ ([3, 4] : List Nat) by decide) (.inl rfl) (di_enT (by rfl) T.m_enumerate (da_cons (de_ixN hu1 0 de_int) da_nil)) (fun _ _ _ _ _ => (dg_tup (vs := ([8, 7] : List Nat)) rfl (dgs_cons 8 sc__law_chains.nd rfl (by first | exact .inl rfl | exact .inr rfl) (show (8 : Nat) ∉ ([3, 4] : List Nat) by decide) (.inl rfl) (by decide) (dgs_cons 7 sc__law_chains.nd rfl (by first | exact .inl rfl | exact .inr rfl) (show (7 : Nat) ∉ ([3, 4] : List Nat) by decide) (.inl rfl) (by decide) (dgs_nil _))))) (fun _ _ _ _ _ => (dts_one (dt_bool (dw_and (dt_cmp (op_eqD' hu) (de_ixN hu1 7 de_int) de_str (nomark _)) (dw_and1 (dt_tru (de_ixN hu1 7 de_int))))))) (fun _ _ _ _ _ => (de_tup (da_cons (de_ixN hu1 7 de_int) (da_cons (de_var 8) da_nil)))))) da_nil))) (dss_cons (ds_par2 (k1' := .o) (k2' := .o) 3 4 rfl rfl sc__law_chains.nd rfl rfl (by decide) rfl rfl (show (3 : Nat) ∈ ([3, 4] : List Nat) by decide) (show (4 : Nat) ∈ ([3, 4] : List Nat) by decide) (fun h => by cases h) (.inl rfl) (.inl rfl) (dm_o (de_lst da_nil) (dm_o (de_lst (da_cons (de_tup (da_cons (de_tup da_nil) (da_cons (de_tup (da_cons (de_var 1) da_nil)) da_nil))) da_nil)) dm_nil)) (by rfl)) (dss_cons (ds_while PassesOwn.never (dt_ownNe 4 hu (de_fz (de_lst da_nil)) (nomark _)) (dss_cons (ds_asg (vs := ([5, 6] : List Nat)) (de_pop 4) (dg_w (dg_tup (vs := ([5, 6] : List Nat)) rfl (dgs_cons 5 sc__law_chains.nd rfl (by first | exact .inl rfl | exact .inr rfl) (show (5 : Nat) ∉ ([3, 4] : List Nat) by decide) (.inl rfl) (by decide) (dgs_cons 6 sc__law_chains.nd rfl (by first | exact .inl rfl | exact .inr rfl) (show (6 : Nat) ∉ ([3, 4] : List Nat) by decide) (.inl rfl) (by decide) (dgs_nil _)))))) (dss_cons (ds_expr (de_app 3 (de_tup (da_cons (de_lenN 5 (by rfl) T.m_len) (da_cons (de_fz (df_lc (R := Is) (own := [("name", 9)]) rfl sc__law_chains.nd (blkOk_by (own := [("name", 9)]) (N := N__law_chains) (sc := defScope s__law_chains) (by decide +kernel)) (show ∀ i, i ∈ ([9] : List Nat) → i ∉ ([3, 4] : List Nat) by decide) (.inl rfl) (di_of (de_var 5)) (fun _ _ _ _ _ => (dg_name 9 ([9] : List Nat) sc__law_chains.nd rfl (by first | exact .inl rfl | exact .inr rfl) (show (9 : Nat) ∉ ([3, 4] : List Nat) by decide) (.inl rfl) (by decide))) (fun _ _ _ _ _ => dts_nil) (fun _ _ _ _ _ => (de_ixN hu1 2 (de_var 9))))) (da_cons (de_var 5) (da_cons (de_ixN hu1 6 (de_un un_negD de_int)) da_nil))))))) (dss_one (ds_for (R := Is) (vs := ([7] : List Nat)) PassesOwn.never rfl (di_of (de_ixN hu1 0 de_int)) (dg_name 7 ([7] : List Nat) sc__law_chains.nd rfl (by first | exact .inl rfl | exact .inr rfl) (show (7 : Nat) ∉ ([3, 4] : List Nat) by decide) (.inl rfl) (by decide)) (dss_one (ds_if (dt_bool (dw_and (dt_cmp (op_eqD' hu) (de_ixN hu1 7 de_int) de_str (nomark _)) (dw_and (dt_tru (de_ixN hu1 7 de_int)) (dw_and (dt_cmp (op_eqD' hu) (de_ixN hu1 7 de_int) (de_ixN hu1 6 (de_un un_negD de_int)) (nomark _)) (dw_and1 (dt_cmp (op_notInD hu) (de_ixN hu1 7 de_int) (de_var 6) (by with_unfolding_all rfl))))))) (dss_one (ds_if (dt_cmp op_ltD (de_lenN 5 (by rfl) T.m_len) (de_ixN hu1 0 de_int) (nomark _)) (dss_one (ds_expr (de_app 4 (de_tup (da_cons (de_bin op_addD (de_var 5) (de_tup (da_cons (de_ixN hu1 7 de_int) da_nil))) (da_cons (de_bin op_addD (de_var 6) (de_tup (da_cons (de_ixN hu1 7 de_int) da_nil))) da_nil)))))) dss_nil)) dss_nil))))))) (dss_one (ds_retF (df_lc (R := Is) (own := [("length", 10), ("spots", 11), ("names", 5), ("end", 12)]) rfl sc__law_chains.nd (blkOk_by (own := [("length", 10), ("spots", 11), ("names", 5), ("end", 12)]) (N := N__law_chains) (sc := defScope s__law_chains) (by decide +kernel)) (show ∀ i, i ∈ ([10, 11, 5, 12] : List Nat) → i ∉ ([3, 4] : List Nat) by decide) (.inl rfl) (di_of (de_fz (df_sort (by rfl) T.m_sorted hu (da_cons (de_var 3) da_nil)))) (fun _ _ _ _ _ => (dg_w (dg_tup (vs := ([10, 11, 5, 12] : List Nat)) rfl (dgs_cons 10 sc__law_chains.nd rfl (by first | exact .inl rfl | exact .inr rfl) (show (10 : Nat) ∉ ([3, 4] : List Nat) by decide) (.inl rfl) (by decide) (dgs_cons 11 sc__law_chains.nd rfl (by first | exact .inl rfl | exact .inr rfl) (show (11 : Nat) ∉ ([3, 4] : List Nat) by decide) (.inl rfl) (by decide) (dgs_cons 5 sc__law_chains.nd rfl (by first | exact .inl rfl | exact .inr rfl) (show (5 : Nat) ∉ ([3, 4] : List Nat) by decide) (.inl rfl) (by decide) (dgs_cons 12 sc__law_chains.nd rfl (by first | exact .inl rfl | exact .inr rfl) (show (12 : Nat) ∉ ([3, 4] : List Nat) by decide) (.inl rfl) (by decide) (dgs_nil _)))))))) (fun _ _ _ _ _ => dts_nil) (fun _ _ _ _ _ => (de_tup (da_cons (de_var 5) (da_cons (de_var 12) da_nil))))))))))
theorem ok_implicit_steps {P : Program} {w : World} {K : PySem.W.Frag} {mg : Str → Option Value} {base : Heap} (T : Tx K mg) :
    FnOk P w K mg base CX0 1 T.f_implicit_steps T.d_implicit_steps ["library"] (spN K 1 w_implicit_steps) := by
  refine okN T.F_implicit_steps sc_implicit_steps ([] : List Nat) wb_implicit_steps rfl (by decide) fun cdv A outer s H E hr => ?_
  have hu := hu120 hr
  have hu1 := hu_of hr
  exact (dss_cons (ds_setLc (R := Is) 1 (own := [("item", 2)]) rfl sc_implicit_steps.nd rfl rfl (sw_true rfl rfl rfl (by decide +kernel)) (blkOk_by (own := [("item", 2)]) (N := N_implicit_steps) (sc := defScope s_implicit_steps) (by decide +kernel)) (show ∀ i, i ∈ ([2] : List Nat) → i ∉ ([] : List Nat) by decide) (.inl rfl) (show (1 : Nat) ∉ ([] : List Nat) by decide) (.inl rfl) (di_of (de_ixN hu1 0 de_int)) (fun _ _ _ _ _ => (dg_name 2 ([2] : List Nat) sc_implicit_steps.nd rfl (by first | exact .inl rfl | exact .inr rfl) (show (2 : Nat) ∉ ([] : List Nat) by decide) (.inl rfl) (by decide))) (fun _ _ _ _ _ => (dts_one (dt_cmp (op_eqD' hu) (de_ixN hu1 2 de_int) de_str (nomark _)))) (fun _ _ _ _ _ => (de_sl (de_var 2) (dp_some de_int) (dp_some de_int)))) (dss_one (ds_retF (df_lc (R := Is) (own := [("name", 3), ("source", 4), ("target", 5), ("is_implicit", 6)]) rfl sc_implicit_steps.nd (blkOk_by (own := [("name", 3), ("source", 4), ("target", 5), ("is_implicit", 6)]) (N := N_implicit_steps) (sc := defScope s_implicit_steps) (by decide +kernel)) (show ∀ i, i ∈ ([3, 4, 5, 6] : List Nat) → i ∉ ([] : List Nat) by decide) (.inl rfl) (di_of (de_var 1)) (fun _ _ _ _ _ => (dg_w (dg_tup (vs := ([3, 4, 5, 6] : List Nat)) rfl (dgs_cons 3 sc_implicit_steps.nd rfl (by first | exact .inl rfl | exact .inr rfl) (show (3 : Nat) ∉ ([] : List Nat) by decide) (.inl rfl) (by decide) (dgs_cons 4 sc_implicit_steps.nd rfl (by first | exact .inl rfl | exact .inr rfl) (show (4 : Nat) ∉ ([] : List Nat) by decide) (.inl rfl) (by decide) (dgs_cons 5 sc_implicit_steps.nd rfl (by first | exact .inl rfl | exact .inr rfl) (show (5 : Nat) ∉ ([] : List Nat) by decide) (.inl rfl) (by decide) (dgs_cons 6 sc_implicit_steps.nd rfl (by first | exact .inl rfl | exact .inr rfl) (show (6 : Nat) ∉ ([] : List Nat) by decide) (.inl rfl) (by decide) (dgs_nil _)))))))) (fun _ _ _ _ _ => (dts_one (dt_tru (de_var 6)))) (fun _ _ _ _ _ => (de_tup (da_cons (de_var 3) (da_cons (de_var 4) (da_cons (de_var 5) da_nil)))))))))
theorem ok_ways_on {P : Program} {w : World} {K : PySem.W.Frag} {mg : Str → Option Value} {base : Heap} (T : Tx K mg) :
    FnOk P w K mg base CX0 1 T.f_ways_on T.d_ways_on ["steps", "kinds"] (spN K 2 w_ways_on) := by
  refine okN T.F_ways_on sc_ways_on ([] : List Nat) wb_ways_on rfl (by decide) fun cdv A outer s H E hr => ?_
  have hu := hu120 hr
  have hu1 := hu_of hr
  exact (dss_one (ds_retF (df_lc (R := Is) (own := [("name", 2), ("source", 3), ("target", 4)]) rfl sc_ways_on.nd (blkOk_by (own := [("name", 2), ("source", 3), ("target", 4)]) (N := N_ways_on) (sc := defScope s_ways_on) (by decide +kernel)) (show ∀ i, i ∈ ([2, 3, 4] : List Nat) → i ∉ ([] : List Nat) by decide) (.inl rfl) (di_of (de_var 0)) (fun _ _ _ _ _ => (dg_w (dg_tup (vs := ([2, 3, 4] : List Nat)) rfl (dgs_cons 2 sc_ways_on.nd rfl (by first | exact .inl rfl | exact .inr rfl) (show (2 : Nat) ∉ ([] : List Nat) by decide) (.inl rfl) (by decide) (dgs_cons 3 sc_ways_on.nd rfl (by first | exact .inl rfl | exact .inr rfl) (show (3 : Nat) ∉ ([] : List Nat) by decide) (.inl rfl) (by decide) (dgs_cons 4 sc_ways_on.nd rfl (by first | exact .inl rfl | exact .inr rfl) (show (4 : Nat) ∉ ([] : List Nat) by decide) (.inl rfl) (by decide) (dgs_nil _))))))) (fun _ _ _ _ _ => (dts_one (dt_bool (dw_and (dt_cmp (op_eqD' hu) (de_var 3) (de_ixN hu1 1 (de_un un_negD de_int)) (nomark _)) (dw_and1 (dt_cmp (op_notInD hu) (de_var 4) (de_var 1) (by with_unfolding_all rfl))))))) (fun _ _ _ _ _ => (de_tup (da_cons (de_var 2) (da_cons (de_var 4) da_nil)))))))
theorem ok_chains_from {P : Program} {w : World} {K : PySem.W.Frag} {mg : Str → Option Value} {base : Heap} (T : Tx K mg)
    (G_implicit_steps : FnOk P w K mg base CX0 1 T.f_implicit_steps T.d_implicit_steps ["library"] (spN K 1 w_implicit_steps))
    (G_ways_on : FnOk P w K mg base CX0 1 T.f_ways_on T.d_ways_on ["steps", "kinds"] (spN K 2 w_ways_on)) :
    FnOk P w K mg base CX0 2 T.f_chains_from T.d_chains_from ["library", "source"] (spN K 2 w_chains_from) := by
  refine okN T.F_chains_from sc_chains_from ([4] : List Nat) wb_chains_from rfl (by decide) fun cdv A outer s H E hr => ?_
  have hu := hu120 hr
  have hu1 := hu_of hr
  exact (dss_cons (ds_set 2 sc_chains_from.nd rfl (by first | exact .inl rfl | exact .inr rfl) (show (2 : Nat) ∉ ([4] : List Nat) by decide) (.inl rfl) (de_fz (df_call G_implicit_steps (hr.mono (by decide)) (by rfl) T.g_implicit_steps T.F_implicit_steps.kp T.b_implicit_steps pass0 (da_cons (de_var 0) da_nil)))) (dss_cons (ds_set 3 sc_chains_from.nd rfl (by first | exact .inl rfl | exact .inr rfl) (show (3 : Nat) ∉ ([4] : List Nat) by decide) (.inl rfl) (de_fz (de_lst (da_cons (de_tup (da_cons (de_tup da_nil) (da_cons (de_tup (da_cons (de_var 1) da_nil)) da_nil))) da_nil)))) (dss_cons (ds_setO 4 sc_chains_from.nd rfl (by first | exact .inl rfl | exact .inr rfl) (show (4 : Nat) ∈ ([4] : List Nat) by decide) (.inl rfl) (df_clT cr_list (by rfl) T.m_list (by decide +kernel) (da_cons (de_var 3) da_nil))) (dss_cons (ds_for (R := Is) (vs := ([5] : List Nat)) PassesOwn.never rfl (di_range1 (by rfl) T.m_range (da_cons (de_ixN hu1 0 de_int) da_nil)) (dg_name 5 ([5] : List Nat) sc_chains_from.nd rfl (by first | exact .inl rfl | exact .inr rfl) (show (5 : Nat) ∉ ([4] : List Nat) by decide) (.inl rfl) (by decide)) (dss_cons (ds_setLc2 (R := Is) (R1 := Is) (vs1 := ([8, 9] : List Nat)) 3 (own := [("chain", 6), ("kinds", 7), ("name", 8), ("target", 9)]) rfl sc_chains_from.nd rfl rfl (sw_true rfl rfl rfl (by decide +kernel)) (blkOk_by (own := [("chain", 6), ("kinds", 7), ("name", 8), ("target", 9)]) (N := N_chains_from) (sc := defScope s_chains_from) (by decide +kernel)) (show ∀ i, i ∈ ([6, 7, 8, 9] : List Nat) → i ∉ ([4] : List Nat) by decide) (.inl rfl) (show (3 : Nat) ∉ ([4] : List Nat) by decide) (.inl rfl) (show ∀ i, i ∈ ([8, 9] : List Nat) → i ∈ ([6, 7, 8, 9] : List Nat) by decide) (di_of (de_var 3)) (fun _ _ _ _ _ => (dg_w (dg_tup (vs := ([6, 7, 8, 9] : List Nat)) rfl (dgs_cons 6 sc_chains_from.nd rfl (by first | exact .inl rfl | exact .inr rfl) (show (6 : Nat) ∉ ([4] : List Nat) by decide) (.inl rfl) (by decide) (dgs_cons 7 sc_chains_from.nd rfl (by first | exact .inl rfl | exact .inr rfl) (show (7 : Nat) ∉ ([4] : List Nat) by decide) (.inl rfl) (by decide) (dgs_nil _)))))) (fun _ _ _ _ _ => dts_nil) (fun _ _ _ _ _ => (di_of (de_fz (df_call G_ways_on (hr.mono (by decide)) (by rfl) T.g_ways_on T.F_ways_on.kp T.b_ways_on pass0 (da_cons (de_var 2) (da_cons (de_var 7) da_nil)))))) (fun _ _ _ _ _ => (dg_w (dg_tup (vs := ([8, 9] : List Nat)) rfl (dgs_cons 8 sc_chains_from.nd rfl (by first | exact .inl rfl | exact .inr rfl) (show (8 : Nat) ∉ ([4] : List Nat) by decide) (.inl rfl) (by decide) (dgs_cons 9 sc_chains_from.nd rfl (by first | exact .inl rfl | exact .inr rfl) (show (9 : Nat) ∉ ([4] : List Nat) by decide) (.inl rfl) (by decide) (dgs_nil _)))))) (fun _ _ _ _ _ => dts_nil) (fun _ _ _ _ _ => (de_tup (da_cons (de_bin op_addD (de_var 6) (de_tup (da_cons (de_var 8) da_nil))) (da_cons (de_bin op_addD (de_var 7) (de_tup (da_cons (de_var 9) da_nil))) da_nil))))) (dss_one (ds_expr (de_ext 4 (de_var 3)))))) (dss_one (ds_retO 4 (.inl rfl)))))))
theorem ok_reached {P : Program} {w : World} {K : PySem.W.Frag} {mg : Str → Option Value} {base : Heap} (T : Tx K mg)
    (G_chains_from : FnOk P w K mg base CX0 2 T.f_chains_from T.d_chains_from ["library", "source"] (spN K 2 w_chains_from)) :
    FnOk P w K mg base CX0 3 T.f_reached T.d_reached ["library", "source"] (spN K 2 w_reached) := by
  refine okN T.F_reached sc_reached ([] : List Nat) wb_reached rfl (by decide) fun cdv A outer s H E hr => ?_
  have hu := hu120 hr
  have hu1 := hu_of hr
  exact (dss_one (ds_ret (de_clT cr_tuple (by rfl) T.m_tuple (by decide +kernel) (da_cons (de_fz (df_sortQ rfl (by rfl) T.m_sorted hu (dq_sc (R := Is) (own := [("_", 2), ("kinds", 3)]) rfl sc_reached.nd (blkOk_by (own := [("_", 2), ("kinds", 3)]) (N := N_reached) (sc := defScope s_reached) (by decide +kernel)) (show ∀ i, i ∈ ([2, 3] : List Nat) → i ∉ ([] : List Nat) by decide) (.inl rfl) (di_of (de_fz (df_call G_chains_from (hr.mono (by decide)) (by rfl) T.g_chains_from T.F_chains_from.kp T.b_chains_from pass0 (da_cons (de_var 0) (da_cons (de_var 1) da_nil))))) (fun _ _ _ _ _ => (dg_w (dg_tup (vs := ([2, 3] : List Nat)) rfl (dgs_cons 2 sc_reached.nd rfl (by first | exact .inl rfl | exact .inr rfl) (show (2 : Nat) ∉ ([] : List Nat) by decide) (.inl rfl) (by decide) (dgs_cons 3 sc_reached.nd rfl (by first | exact .inl rfl | exact .inr rfl) (show (3 : Nat) ∉ ([] : List Nat) by decide) (.inl rfl) (by decide) (dgs_nil _)))))) (fun _ _ _ _ _ => dts_nil) (fun _ _ _ _ _ => (de_ixN hu1 3 (de_un un_negD de_int)))))) da_nil))))
theorem ok_chains {P : Program} {w : World} {K : PySem.W.Frag} {mg : Str → Option Value} {base : Heap} (T : Tx K mg)
    (G_chains_from : FnOk P w K mg base CX0 2 T.f_chains_from T.d_chains_from ["library", "source"] (spN K 2 w_chains_from)) :
    FnOk P w K mg base CX0 3 T.f_chains T.d_chains ["library", "source", "target"] (spN K 3 w_chains) := by
  refine okN T.F_chains sc_chains ([] : List Nat) wb_chains rfl (by decide) fun cdv A outer s H E hr => ?_
  have hu := hu120 hr
  have hu1 := hu_of hr
  exact (dss_one (ds_ret (de_clT cr_tuple (by rfl) T.m_tuple (by decide +kernel) (da_cons (de_fz (df_lc (R := Is) (own := [("chain", 3), ("kinds", 4)]) rfl sc_chains.nd (blkOk_by (own := [("chain", 3), ("kinds", 4)]) (N := N_chains) (sc := defScope s_chains) (by decide +kernel)) (show ∀ i, i ∈ ([3, 4] : List Nat) → i ∉ ([] : List Nat) by decide) (.inl rfl) (di_of (de_fz (df_call G_chains_from (hr.mono (by decide)) (by rfl) T.g_chains_from T.F_chains_from.kp T.b_chains_from pass0 (da_cons (de_var 0) (da_cons (de_var 1) da_nil))))) (fun _ _ _ _ _ => (dg_w (dg_tup (vs := ([3, 4] : List Nat)) rfl (dgs_cons 3 sc_chains.nd rfl (by first | exact .inl rfl | exact .inr rfl) (show (3 : Nat) ∉ ([] : List Nat) by decide) (.inl rfl) (by decide) (dgs_cons 4 sc_chains.nd rfl (by first | exact .inl rfl | exact .inr rfl) (show (4 : Nat) ∉ ([] : List Nat) by decide) (.inl rfl) (by decide) (dgs_nil _)))))) (fun _ _ _ _ _ => (dts_one (dt_cmp (op_eqD' hu) (de_ixN hu1 4 (de_un un_negD de_int)) (de_var 2) (nomark _)))) (fun _ _ _ _ _ => (de_var 3)))) da_nil))))
theorem ok__law_right {P : Program} {w : World} {K : PySem.W.Frag} {mg : Str → Option Value} {base : Heap} (T : Tx K mg)
    (G__law_chains : FnOk P w K mg base CX0 1 T.f__law_chains T.d__law_chains ["book", "start"] (spN K 2 w__law_chains))
    (G_reached : FnOk P w K mg base CX0 3 T.f_reached T.d_reached ["library", "source"] (spN K 2 w_reached))
    (G_chains : FnOk P w K mg base CX0 3 T.f_chains T.d_chains ["library", "source", "target"] (spN K 3 w_chains)) :
    FnG P w K mg base CX0 4 T.f__law_right T.d__law_right ["book"] (spN K 1 w__law_right) := by
  refine okNG T.F__law_right sc__law_right ([] : List Nat) wb__law_right rfl (by decide) fun cdv A outer s H E gd hr => ?_
  have hu := hu120 hr
  have hu1 := hu_of hr
  have hg : Gd (A.deeper (envOfC "_law_right" (defScope s__law_right) s.heap.objs.size T.f__law_right cdv)) := gd
  exact (dss_cons (ds_setLc (R := Is) 1 (own := [("name", 6), ("count", 7)]) rfl sc__law_right.nd rfl rfl (sw_true rfl rfl rfl (by decide +kernel)) (blkOk_by (own := [("name", 6), ("count", 7)]) (N := N__law_right) (sc := defScope s__law_right) (by decide +kernel)) (show ∀ i, i ∈ ([6, 7] : List Nat) → i ∉ ([] : List Nat) by decide) (.inl rfl) (show (1 : Nat) ∉ ([] : List Nat) by decide) (.inl rfl) (di_of (de_ixN hu1 0 de_int)) (fun _ _ _ _ _ => (dg_w (dg_tup (vs := ([6, 7] : List Nat)) rfl (dgs_cons 6 sc__law_right.nd rfl (by first | exact .inl rfl | exact .inr rfl) (show (6 : Nat) ∉ ([] : List Nat) by decide) (.inl rfl) (by decide) (dgs_cons 7 sc__law_right.nd rfl (by first | exact .inl rfl | exact .inr rfl) (show (7 : Nat) ∉ ([] : List Nat) by decide) (.inl rfl) (by decide) (dgs_nil _)))))) (fun _ _ _ _ _ => dts_nil) (fun _ _ _ _ _ => (de_var 6))) (dss_cons (ds_for (R := Is) (vs := ([2] : List Nat)) PassesOwn.never rfl (di_of (de_var 1)) (dg_name 2 ([2] : List Nat) sc__law_right.nd rfl (by first | exact .inl rfl | exact .inr rfl) (show (2 : Nat) ∉ ([] : List Nat) by decide) (.inl rfl) (by decide)) (dss_cons (ds_set 3 sc__law_right.nd rfl (by first | exact .inl rfl | exact .inr rfl) (show (3 : Nat) ∉ ([] : List Nat) by decide) (.inl rfl) (de_fz (df_call G__law_chains (hr.mono (by decide)) (by rfl) T.g__law_chains T.F__law_chains.kp T.b__law_chains pass0 (da_cons (de_var 0) (da_cons (de_var 2) da_nil))))) (dss_cons (ds_if (dt_cmp (op_neD' hu) (de_clB (cr_reprE hg hu) (by rfl) T.m_repr (by decide +kernel) (da_cons (de_call G_reached (hr.mono (by decide)) (by rfl) T.g_reached T.F_reached.kp T.b_reached pass0 (da_cons (de_var 0) (da_cons (de_var 2) da_nil))) da_nil)) (de_clB (cr_reprE hg hu) (by rfl) T.m_repr (by decide +kernel) (da_cons (de_clT cr_tuple (by rfl) T.m_tuple (by decide +kernel) (da_cons (de_fz (df_sortQ rfl (by rfl) T.m_sorted hu (dq_set rfl (by rfl) T.m_set (da_cons (de_fz (df_lc (R := Is) (own := [("row", 8), ("end", 9)]) rfl sc__law_right.nd (blkOk_by (own := [("row", 8), ("end", 9)]) (N := N__law_right) (sc := defScope s__law_right) (by decide +kernel)) (show ∀ i, i ∈ ([8, 9] : List Nat) → i ∉ ([] : List Nat) by decide) (.inl rfl) (di_of (de_var 3)) (fun _ _ _ _ _ => (dg_w (dg_tup (vs := ([8, 9] : List Nat)) rfl (dgs_cons 8 sc__law_right.nd rfl (by first | exact .inl rfl | exact .inr rfl) (show (8 : Nat) ∉ ([] : List Nat) by decide) (.inl rfl) (by decide) (dgs_cons 9 sc__law_right.nd rfl (by first | exact .inl rfl | exact .inr rfl) (show (9 : Nat) ∉ ([] : List Nat) by decide) (.inl rfl) (by decide) (dgs_nil _)))))) (fun _ _ _ _ _ => dts_nil) (fun _ _ _ _ _ => (de_var 9)))) da_nil)))) da_nil)) da_nil)) (nomark _)) (dss_one (ds_ret de_bl)) dss_nil) (dss_one (ds_for (R := Is) (vs := ([4] : List Nat)) PassesOwn.never rfl (di_of (de_var 1)) (dg_name 4 ([4] : List Nat) sc__law_right.nd rfl (by first | exact .inl rfl | exact .inr rfl) (show (4 : Nat) ∉ ([] : List Nat) by decide) (.inl rfl) (by decide)) (dss_cons (ds_set 5 sc__law_right.nd rfl (by first | exact .inl rfl | exact .inr rfl) (show (5 : Nat) ∉ ([] : List Nat) by decide) (.inl rfl) (de_clT cr_tuple (by rfl) T.m_tuple (by decide +kernel) (da_cons (de_fz (df_lc (R := Is) (own := [("row", 8), ("end", 9)]) rfl sc__law_right.nd (blkOk_by (own := [("row", 8), ("end", 9)]) (N := N__law_right) (sc := defScope s__law_right) (by decide +kernel)) (show ∀ i, i ∈ ([8, 9] : List Nat) → i ∉ ([] : List Nat) by decide) (.inl rfl) (di_of (de_var 3)) (fun _ _ _ _ _ => (dg_w (dg_tup (vs := ([8, 9] : List Nat)) rfl (dgs_cons 8 sc__law_right.nd rfl (by first | exact .inl rfl | exact .inr rfl) (show (8 : Nat) ∉ ([] : List Nat) by decide) (.inl rfl) (by decide) (dgs_cons 9 sc__law_right.nd rfl (by first | exact .inl rfl | exact .inr rfl) (show (9 : Nat) ∉ ([] : List Nat) by decide) (.inl rfl) (by decide) (dgs_nil _)))))) (fun _ _ _ _ _ => (dts_one (dt_cmp (op_eqD' hu) (de_var 9) (de_var 4) (nomark _)))) (fun _ _ _ _ _ => (de_var 8)))) da_nil))) (dss_cons (ds_if (dt_cmp (op_neD' hu) (de_clB (cr_reprE hg hu) (by rfl) T.m_repr (by decide +kernel) (da_cons (de_call G_chains (hr.mono (by decide)) (by rfl) T.g_chains T.F_chains.kp T.b_chains pass0 (da_cons (de_var 0) (da_cons (de_var 2) (da_cons (de_var 4) da_nil)))) da_nil)) (de_clB (cr_reprE hg hu) (by rfl) T.m_repr (by decide +kernel) (da_cons (de_var 5) da_nil)) (nomark _)) (dss_one (ds_ret de_bl)) dss_nil) (dss_one (ds_if (dt_cmp (op_neD' hu) (de_callK G_chains (hr.mono (by decide)) (by rfl) T.g_chains T.F_chains.kp (T.kb_chains_target_source_library) pass0 (dk_cons (de_var 4) (dk_cons (de_var 2) (dk_cons (de_var 0) dk_nil))) (fun _ _ _ h => kG_all h)) (de_var 5) (nomark _)) (dss_one (ds_ret de_bl)) dss_nil))))))))) (dss_one (ds_ret (de_cmp (op_eqD' hu) (de_callK G_reached (hr.mono (by decide)) (by rfl) T.g_reached T.F_reached.kp (T.kb_reached_source_library) pass0 (dk_cons (de_ixN hu1 1 de_int) (dk_cons (de_var 0) dk_nil)) (fun _ _ _ h => kG_all h)) (de_call G_reached (hr.mono (by decide)) (by rfl) T.g_reached T.F_reached.kp T.b_reached pass0 (da_cons (de_var 0) (da_cons (de_ixN hu1 1 de_int) da_nil))) (nomark _))))))
theorem ok_law {P : Program} {w : World} {K : PySem.W.Frag} {mg : Str → Option Value} {base : Heap} (T : Tx K mg)
    (G__law_pot : FnOk P w K mg base CX0 1 T.f__law_pot T.d__law_pot ["script", "spot"] (spI K 1 w__law_pot))
    (G__law_book : FnOk P w K mg base CX0 4 T.f__law_book T.d__law_book ["pot", "most", "wide", "many"] (spP K 3 w__law_book))
    (G__law_of : FnOk P w K mg base CX0 2 T.f__law_of T.d__law_of ["pot", "some"] (spP K 1 w__law_of))
    (G__law_dense : FnOk P w K mg base CX0 3 T.f__law_dense T.d__law_dense ["pot"] (spP K 0 w__law_dense))
    (G__law_right : FnG P w K mg base CX0 4 T.f__law_right T.d__law_right ["book"] (spN K 1 w__law_right)) :
    FnG P w K mg base CX0 5 T.f_law T.d_law ["script"] (spI K 0 w_law) := by
  refine okIG T.F_law sc_law ([2] : List Nat) wb_law rfl (by decide) fun cdv A outer s H E gd hr => ?_
  have hu := hu120 hr
  have hu1 := hu_of hr
  have hg : Gd (A.deeper (envOfC "law" (defScope s_law) s.heap.objs.size T.f_law cdv)) := gd
  exact (dss_cons (ds_for (R := Is) (vs := ([1] : List Nat)) PassesOwn.never rfl (di_range1 (by rfl) T.m_range (da_cons (de_clB (cr_max2 rfl) (by rfl) T.m_max (by decide +kernel) (da_cons de_int (da_cons (de_clB (cr_min2 rfl) (by rfl) T.m_min (by decide +kernel) (da_cons de_int (da_cons (de_lenI 0 (by rfl) T.m_len) da_nil))) da_nil))) da_nil)) (dg_name 1 ([1] : List Nat) sc_law.nd rfl (by first | exact .inl rfl | exact .inr rfl) (show (1 : Nat) ∉ ([2] : List Nat) by decide) (.inl rfl) (by decide)) (dss_cons (ds_setO 2 sc_law.nd rfl (by first | exact .inl rfl | exact .inr rfl) (show (2 : Nat) ∈ ([2] : List Nat) by decide) (.inl rfl) (df_callI 0 G__law_pot (hr.mono (by decide)) (by rfl) T.g__law_pot T.F__law_pot.kp T.b__law_pot pass0 (da_cons (de_var 1) da_nil))) (dss_cons (ds_set 3 sc_law.nd rfl (by first | exact .inl rfl | exact .inr rfl) (show (3 : Nat) ∉ ([2] : List Nat) by decide) (.inl rfl) (de_bin op_addD (de_fz (df_lc (R := Is) (own := [("turn", 4)]) rfl sc_law.nd (blkOk_by (own := [("turn", 4)]) (N := N_law) (sc := defScope s_law) (by decide +kernel)) (show ∀ i, i ∈ ([4] : List Nat) → i ∉ ([2] : List Nat) by decide) (.inl rfl) (di_range1 (by rfl) T.m_range (da_cons de_int da_nil)) (fun _ _ _ _ _ => (dg_name 4 ([4] : List Nat) sc_law.nd rfl (by first | exact .inl rfl | exact .inr rfl) (show (4 : Nat) ∉ ([2] : List Nat) by decide) (.inl rfl) (by decide))) (fun _ _ _ _ _ => dts_nil) (fun _ _ _ _ _ => (de_callP 2 G__law_book (hr.mono (by decide)) (by rfl) T.g__law_book T.F__law_book.kp T.b__law_book pass0 (da_cons de_int (da_cons de_int (da_cons (de_callP 2 G__law_of (hr.mono (by decide)) (by rfl) T.g__law_of T.F__law_of.kp T.b__law_of pass0 (da_cons (de_fz (de_lst (da_cons de_int (da_cons de_int da_nil)))) da_nil)) da_nil))))))) (de_fz (de_lst (da_cons (de_callP 2 G__law_dense (hr.mono (by decide)) (by rfl) T.g__law_dense T.F__law_dense.kp T.b__law_dense pass0 da_nil) da_nil))))) (dss_one (ds_if (dt_not (dt_tru (de_clB (cr_allD rfl) (by rfl) T.m_all (by decide +kernel) (da_cons (de_fz (df_lc (R := Is) (own := [("book", 5)]) rfl sc_law.nd (blkOk_by (own := [("book", 5)]) (N := N_law) (sc := defScope s_law) (by decide +kernel)) (show ∀ i, i ∈ ([5] : List Nat) → i ∉ ([2] : List Nat) by decide) (.inl rfl) (di_of (de_var 3)) (fun _ _ _ _ _ => (dg_name 5 ([5] : List Nat) sc_law.nd rfl (by first | exact .inl rfl | exact .inr rfl) (show (5 : Nat) ∉ ([2] : List Nat) by decide) (.inl rfl) (by decide))) (fun _ _ _ _ _ => dts_nil) (fun _ _ _ _ _ => (de_callG G__law_right hg (hr.mono (by decide)) (by rfl) T.g__law_right T.F__law_right.kp T.b__law_right pass0 (da_cons (de_var 5) da_nil))))) da_nil)))) (dss_one (ds_ret de_bl)) dss_nil))))) (dss_one (ds_ret de_bl)))

theorem all_mk {l : PySem.W.OpenLaw} {w : World} {K : PySem.W.Frag} {h : Heap} {mg : Str → Option Value} {fa f__law_pot f__law_take f__law_sorts f__law_row f__law_of f__law_item f__law_book f__law_dense f__law_chains f_implicit_steps f_ways_on f_chains_from f_reached f_chains f__law_right f_law : Addr} (X : K.In h) (G : h.Ns mainGlobals mg) (hfa : mg "law" = some (.ref fa))
    {od__law_pot an__law_pot : Option Addr} {sl__law_pot : Array (Option Value)} {oc__law_pot kV__law_pot dc__law_pot pm__law_pot cd__law_pot ct__law_pot : Value} {od__law_take an__law_take : Option Addr} {sl__law_take : Array (Option Value)} {oc__law_take kV__law_take dc__law_take pm__law_take cd__law_take ct__law_take : Value} {od__law_sorts an__law_sorts : Option Addr} {sl__law_sorts : Array (Option Value)} {oc__law_sorts kV__law_sorts dc__law_sorts pm__law_sorts cd__law_sorts ct__law_sorts : Value} {od__law_row an__law_row : Option Addr} {sl__law_row : Array (Option Value)} {oc__law_row kV__law_row dc__law_row pm__law_row cd__law_row ct__law_row : Value} {od__law_of an__law_of : Option Addr} {sl__law_of : Array (Option Value)} {oc__law_of kV__law_of dc__law_of pm__law_of cd__law_of ct__law_of : Value} {od__law_item an__law_item : Option Addr} {sl__law_item : Array (Option Value)} {oc__law_item kV__law_item dc__law_item pm__law_item cd__law_item ct__law_item : Value} {od__law_book an__law_book : Option Addr} {sl__law_book : Array (Option Value)} {oc__law_book kV__law_book dc__law_book pm__law_book cd__law_book ct__law_book : Value} {od__law_dense an__law_dense : Option Addr} {sl__law_dense : Array (Option Value)} {oc__law_dense kV__law_dense dc__law_dense pm__law_dense cd__law_dense ct__law_dense : Value} {od__law_chains an__law_chains : Option Addr} {sl__law_chains : Array (Option Value)} {oc__law_chains kV__law_chains dc__law_chains pm__law_chains cd__law_chains ct__law_chains : Value} {od_implicit_steps an_implicit_steps : Option Addr} {sl_implicit_steps : Array (Option Value)} {oc_implicit_steps kV_implicit_steps dc_implicit_steps pm_implicit_steps cd_implicit_steps ct_implicit_steps : Value} {od_ways_on an_ways_on : Option Addr} {sl_ways_on : Array (Option Value)} {oc_ways_on kV_ways_on dc_ways_on pm_ways_on cd_ways_on ct_ways_on : Value} {od_chains_from an_chains_from : Option Addr} {sl_chains_from : Array (Option Value)} {oc_chains_from kV_chains_from dc_chains_from pm_chains_from cd_chains_from ct_chains_from : Value} {od_reached an_reached : Option Addr} {sl_reached : Array (Option Value)} {oc_reached kV_reached dc_reached pm_reached cd_reached ct_reached : Value} {od_chains an_chains : Option Addr} {sl_chains : Array (Option Value)} {oc_chains kV_chains dc_chains pm_chains cd_chains ct_chains : Value} {od__law_right an__law_right : Option Addr} {sl__law_right : Array (Option Value)} {oc__law_right kV__law_right dc__law_right pm__law_right cd__law_right ct__law_right : Value} {od_law an_law : Option Addr} {sl_law : Array (Option Value)} {oc_law kV_law dc_law pm_law cd_law ct_law : Value}
    (a__law_pot : PySem.W.nsIn K mainGlobals "_law_pot" = some (some (.ref f__law_pot))) (l__law_pot : K.lookup f__law_pot = some ⟨oc__law_pot, od__law_pot, .func (PySem.W.fnOf "_law_pot" "_law_pot" (defArgs s__law_pot) (defBody s__law_pot) (defScope s__law_pot) .none kV__law_pot dc__law_pot pm__law_pot an__law_pot cd__law_pot ct__law_pot), sl__law_pot⟩) (c__law_pot : PySem.W.codeIn K cd__law_pot "_law_pot" = true) (k__law_pot : PySem.W.keepIn K (.ref f__law_pot) = true)
    (a__law_take : PySem.W.nsIn K mainGlobals "_law_take" = some (some (.ref f__law_take))) (l__law_take : K.lookup f__law_take = some ⟨oc__law_take, od__law_take, .func (PySem.W.fnOf "_law_take" "_law_take" (defArgs s__law_take) (defBody s__law_take) (defScope s__law_take) .none kV__law_take dc__law_take pm__law_take an__law_take cd__law_take ct__law_take), sl__law_take⟩) (c__law_take : PySem.W.codeIn K cd__law_take "_law_take" = true) (k__law_take : PySem.W.keepIn K (.ref f__law_take) = true)
    (a__law_sorts : PySem.W.nsIn K mainGlobals "_law_sorts" = some (some (.ref f__law_sorts))) (l__law_sorts : K.lookup f__law_sorts = some ⟨oc__law_sorts, od__law_sorts, .func (PySem.W.fnOf "_law_sorts" "_law_sorts" (defArgs s__law_sorts) (defBody s__law_sorts) (defScope s__law_sorts) .none kV__law_sorts dc__law_sorts pm__law_sorts an__law_sorts cd__law_sorts ct__law_sorts), sl__law_sorts⟩) (c__law_sorts : PySem.W.codeIn K cd__law_sorts "_law_sorts" = true) (k__law_sorts : PySem.W.keepIn K (.ref f__law_sorts) = true)
    (a__law_row : PySem.W.nsIn K mainGlobals "_law_row" = some (some (.ref f__law_row))) (l__law_row : K.lookup f__law_row = some ⟨oc__law_row, od__law_row, .func (PySem.W.fnOf "_law_row" "_law_row" (defArgs s__law_row) (defBody s__law_row) (defScope s__law_row) .none kV__law_row dc__law_row pm__law_row an__law_row cd__law_row ct__law_row), sl__law_row⟩) (c__law_row : PySem.W.codeIn K cd__law_row "_law_row" = true) (k__law_row : PySem.W.keepIn K (.ref f__law_row) = true)
    (a__law_of : PySem.W.nsIn K mainGlobals "_law_of" = some (some (.ref f__law_of))) (l__law_of : K.lookup f__law_of = some ⟨oc__law_of, od__law_of, .func (PySem.W.fnOf "_law_of" "_law_of" (defArgs s__law_of) (defBody s__law_of) (defScope s__law_of) .none kV__law_of dc__law_of pm__law_of an__law_of cd__law_of ct__law_of), sl__law_of⟩) (c__law_of : PySem.W.codeIn K cd__law_of "_law_of" = true) (k__law_of : PySem.W.keepIn K (.ref f__law_of) = true)
    (a__law_item : PySem.W.nsIn K mainGlobals "_law_item" = some (some (.ref f__law_item))) (l__law_item : K.lookup f__law_item = some ⟨oc__law_item, od__law_item, .func (PySem.W.fnOf "_law_item" "_law_item" (defArgs s__law_item) (defBody s__law_item) (defScope s__law_item) .none kV__law_item dc__law_item pm__law_item an__law_item cd__law_item ct__law_item), sl__law_item⟩) (c__law_item : PySem.W.codeIn K cd__law_item "_law_item" = true) (k__law_item : PySem.W.keepIn K (.ref f__law_item) = true)
    (a__law_book : PySem.W.nsIn K mainGlobals "_law_book" = some (some (.ref f__law_book))) (l__law_book : K.lookup f__law_book = some ⟨oc__law_book, od__law_book, .func (PySem.W.fnOf "_law_book" "_law_book" (defArgs s__law_book) (defBody s__law_book) (defScope s__law_book) .none kV__law_book dc__law_book pm__law_book an__law_book cd__law_book ct__law_book), sl__law_book⟩) (c__law_book : PySem.W.codeIn K cd__law_book "_law_book" = true) (k__law_book : PySem.W.keepIn K (.ref f__law_book) = true)
    (a__law_dense : PySem.W.nsIn K mainGlobals "_law_dense" = some (some (.ref f__law_dense))) (l__law_dense : K.lookup f__law_dense = some ⟨oc__law_dense, od__law_dense, .func (PySem.W.fnOf "_law_dense" "_law_dense" (defArgs s__law_dense) (defBody s__law_dense) (defScope s__law_dense) .none kV__law_dense dc__law_dense pm__law_dense an__law_dense cd__law_dense ct__law_dense), sl__law_dense⟩) (c__law_dense : PySem.W.codeIn K cd__law_dense "_law_dense" = true) (k__law_dense : PySem.W.keepIn K (.ref f__law_dense) = true)
    (a__law_chains : PySem.W.nsIn K mainGlobals "_law_chains" = some (some (.ref f__law_chains))) (l__law_chains : K.lookup f__law_chains = some ⟨oc__law_chains, od__law_chains, .func (PySem.W.fnOf "_law_chains" "_law_chains" (defArgs s__law_chains) (defBody s__law_chains) (defScope s__law_chains) .none kV__law_chains dc__law_chains pm__law_chains an__law_chains cd__law_chains ct__law_chains), sl__law_chains⟩) (c__law_chains : PySem.W.codeIn K cd__law_chains "_law_chains" = true) (k__law_chains : PySem.W.keepIn K (.ref f__law_chains) = true)
    (a_implicit_steps : PySem.W.nsIn K mainGlobals "implicit_steps" = some (some (.ref f_implicit_steps))) (l_implicit_steps : K.lookup f_implicit_steps = some ⟨oc_implicit_steps, od_implicit_steps, .func (PySem.W.fnOf "implicit_steps" "implicit_steps" (defArgs s_implicit_steps) (defBody s_implicit_steps) (defScope s_implicit_steps) .none kV_implicit_steps dc_implicit_steps pm_implicit_steps an_implicit_steps cd_implicit_steps ct_implicit_steps), sl_implicit_steps⟩) (c_implicit_steps : PySem.W.codeIn K cd_implicit_steps "implicit_steps" = true) (k_implicit_steps : PySem.W.keepIn K (.ref f_implicit_steps) = true)
    (a_ways_on : PySem.W.nsIn K mainGlobals "ways_on" = some (some (.ref f_ways_on))) (l_ways_on : K.lookup f_ways_on = some ⟨oc_ways_on, od_ways_on, .func (PySem.W.fnOf "ways_on" "ways_on" (defArgs s_ways_on) (defBody s_ways_on) (defScope s_ways_on) .none kV_ways_on dc_ways_on pm_ways_on an_ways_on cd_ways_on ct_ways_on), sl_ways_on⟩) (c_ways_on : PySem.W.codeIn K cd_ways_on "ways_on" = true) (k_ways_on : PySem.W.keepIn K (.ref f_ways_on) = true)
    (a_chains_from : PySem.W.nsIn K mainGlobals "chains_from" = some (some (.ref f_chains_from))) (l_chains_from : K.lookup f_chains_from = some ⟨oc_chains_from, od_chains_from, .func (PySem.W.fnOf "chains_from" "chains_from" (defArgs s_chains_from) (defBody s_chains_from) (defScope s_chains_from) .none kV_chains_from dc_chains_from pm_chains_from an_chains_from cd_chains_from ct_chains_from), sl_chains_from⟩) (c_chains_from : PySem.W.codeIn K cd_chains_from "chains_from" = true) (k_chains_from : PySem.W.keepIn K (.ref f_chains_from) = true)
    (a_reached : PySem.W.nsIn K mainGlobals "reached" = some (some (.ref f_reached))) (l_reached : K.lookup f_reached = some ⟨oc_reached, od_reached, .func (PySem.W.fnOf "reached" "reached" (defArgs s_reached) (defBody s_reached) (defScope s_reached) .none kV_reached dc_reached pm_reached an_reached cd_reached ct_reached), sl_reached⟩) (c_reached : PySem.W.codeIn K cd_reached "reached" = true) (k_reached : PySem.W.keepIn K (.ref f_reached) = true)
    (a_chains : PySem.W.nsIn K mainGlobals "chains" = some (some (.ref f_chains))) (l_chains : K.lookup f_chains = some ⟨oc_chains, od_chains, .func (PySem.W.fnOf "chains" "chains" (defArgs s_chains) (defBody s_chains) (defScope s_chains) .none kV_chains dc_chains pm_chains an_chains cd_chains ct_chains), sl_chains⟩) (c_chains : PySem.W.codeIn K cd_chains "chains" = true) (k_chains : PySem.W.keepIn K (.ref f_chains) = true)
    (a__law_right : PySem.W.nsIn K mainGlobals "_law_right" = some (some (.ref f__law_right))) (l__law_right : K.lookup f__law_right = some ⟨oc__law_right, od__law_right, .func (PySem.W.fnOf "_law_right" "_law_right" (defArgs s__law_right) (defBody s__law_right) (defScope s__law_right) .none kV__law_right dc__law_right pm__law_right an__law_right cd__law_right ct__law_right), sl__law_right⟩) (c__law_right : PySem.W.codeIn K cd__law_right "_law_right" = true) (k__law_right : PySem.W.keepIn K (.ref f__law_right) = true)
    (a_law : PySem.W.nsIn K mainGlobals "law" = some (some (.ref f_law))) (l_law : K.lookup f_law = some ⟨oc_law, od_law, .func (PySem.W.fnOf "law" "law" (defArgs s_law) (defBody s_law) (defScope s_law) .none kV_law dc_law pm_law an_law cd_law ct_law), sl_law⟩) (c_law : PySem.W.codeIn K cd_law "law" = true) (k_law : PySem.W.keepIn K (.ref f_law) = true)
    (z_int : PySem.W.nsIn K mainGlobals "int" = some none)
    (z_len : PySem.W.nsIn K mainGlobals "len" = some none)
    (z_abs : PySem.W.nsIn K mainGlobals "abs" = some none)
    (z_range : PySem.W.nsIn K mainGlobals "range" = some none)
    (z_tuple : PySem.W.nsIn K mainGlobals "tuple" = some none)
    (z_sorted : PySem.W.nsIn K mainGlobals "sorted" = some none)
    (z_dict : PySem.W.nsIn K mainGlobals "dict" = some none)
    (z_list : PySem.W.nsIn K mainGlobals "list" = some none)
    (z_enumerate : PySem.W.nsIn K mainGlobals "enumerate" = some none)
    (z_repr : PySem.W.nsIn K mainGlobals "repr" = some none)
    (z_set : PySem.W.nsIn K mainGlobals "set" = some none)
    (z_max : PySem.W.nsIn K mainGlobals "max" = some none)
    (z_min : PySem.W.nsIn K mainGlobals "min" = some none)
    (z_all : PySem.W.nsIn K mainGlobals "all" = some none) :
    ∃ fd : FuncData, (∀ (s : Shared) (v : Value), BindsTo s fd ⟨[v], []⟩ [("script", v)]) ∧ ∀ base : Heap, K.In base → base.Ns mainGlobals mg → FnG l.prog w K mg base CX0 5 fa fd ["script"] (spI K 0 w_law) := by
  have e := hfa.symm.trans (PySem.W.mg_of X G a_law)
  cases e
  have F__law_pot := fun_mk (st := s__law_pot) l__law_pot c__law_pot k__law_pot
  have b__law_pot := F__law_pot.binds (ps := ["script", "spot"]) fun _ _ _ _ _ _ us hl => match us, hl with | [_, _], _ => rfl
  have F__law_take := fun_mk (st := s__law_take) l__law_take c__law_take k__law_take
  have b__law_take := F__law_take.binds (ps := ["pot", "upto"]) fun _ _ _ _ _ _ us hl => match us, hl with | [_, _], _ => rfl
  have F__law_sorts := fun_mk (st := s__law_sorts) l__law_sorts c__law_sorts k__law_sorts
  have b__law_sorts := F__law_sorts.binds (ps := ["pot", "most", "wide"]) fun _ _ _ _ _ _ us hl => match us, hl with | [_, _, _], _ => rfl
  have F__law_row := fun_mk (st := s__law_row) l__law_row c__law_row k__law_row
  have b__law_row := F__law_row.binds (ps := ["pot", "many", "count"]) fun _ _ _ _ _ _ us hl => match us, hl with | [_, _, _], _ => rfl
  have F__law_of := fun_mk (st := s__law_of) l__law_of c__law_of k__law_of
  have b__law_of := F__law_of.binds (ps := ["pot", "some"]) fun _ _ _ _ _ _ us hl => match us, hl with | [_, _], _ => rfl
  have F__law_item := fun_mk (st := s__law_item) l__law_item c__law_item k__law_item
  have b__law_item := F__law_item.binds (ps := ["pot", "sorts", "at"]) fun _ _ _ _ _ _ us hl => match us, hl with | [_, _, _], _ => rfl
  have F__law_book := fun_mk (st := s__law_book) l__law_book c__law_book k__law_book
  have b__law_book := F__law_book.binds (ps := ["pot", "most", "wide", "many"]) fun _ _ _ _ _ _ us hl => match us, hl with | [_, _, _, _], _ => rfl
  have F__law_dense := fun_mk (st := s__law_dense) l__law_dense c__law_dense k__law_dense
  have b__law_dense := F__law_dense.binds (ps := ["pot"]) fun _ _ _ _ _ _ us hl => match us, hl with | [_], _ => rfl
  have F__law_chains := fun_mk (st := s__law_chains) l__law_chains c__law_chains k__law_chains
  have b__law_chains := F__law_chains.binds (ps := ["book", "start"]) fun _ _ _ _ _ _ us hl => match us, hl with | [_, _], _ => rfl
  have F_implicit_steps := fun_mk (st := s_implicit_steps) l_implicit_steps c_implicit_steps k_implicit_steps
  have b_implicit_steps := F_implicit_steps.binds (ps := ["library"]) fun _ _ _ _ _ _ us hl => match us, hl with | [_], _ => rfl
  have F_ways_on := fun_mk (st := s_ways_on) l_ways_on c_ways_on k_ways_on
  have b_ways_on := F_ways_on.binds (ps := ["steps", "kinds"]) fun _ _ _ _ _ _ us hl => match us, hl with | [_, _], _ => rfl
  have F_chains_from := fun_mk (st := s_chains_from) l_chains_from c_chains_from k_chains_from
  have b_chains_from := F_chains_from.binds (ps := ["library", "source"]) fun _ _ _ _ _ _ us hl => match us, hl with | [_, _], _ => rfl
  have F_reached := fun_mk (st := s_reached) l_reached c_reached k_reached
  have b_reached := F_reached.binds (ps := ["library", "source"]) fun _ _ _ _ _ _ us hl => match us, hl with | [_, _], _ => rfl
  have F_chains := fun_mk (st := s_chains) l_chains c_chains k_chains
  have b_chains := F_chains.binds (ps := ["library", "source", "target"]) fun _ _ _ _ _ _ us hl => match us, hl with | [_, _, _], _ => rfl
  have F__law_right := fun_mk (st := s__law_right) l__law_right c__law_right k__law_right
  have b__law_right := F__law_right.binds (ps := ["book"]) fun _ _ _ _ _ _ us hl => match us, hl with | [_], _ => rfl
  have F_law := fun_mk (st := s_law) l_law c_law k_law
  have b_law := F_law.binds (ps := ["script"]) fun _ _ _ _ _ _ us hl => match us, hl with | [_], _ => rfl
  let T : Tx K mg := ⟨_, _, F__law_pot, PySem.W.mg_of X G a__law_pot, b__law_pot, _, _, F__law_take, PySem.W.mg_of X G a__law_take, b__law_take, _, _, F__law_sorts, PySem.W.mg_of X G a__law_sorts, b__law_sorts, _, _, F__law_row, PySem.W.mg_of X G a__law_row, b__law_row, _, _, F__law_of, PySem.W.mg_of X G a__law_of, b__law_of, _, _, F__law_item, PySem.W.mg_of X G a__law_item, b__law_item, _, _, F__law_book, PySem.W.mg_of X G a__law_book, b__law_book, _, _, F__law_dense, PySem.W.mg_of X G a__law_dense, b__law_dense, _, _, F__law_chains, PySem.W.mg_of X G a__law_chains, b__law_chains, _, _, F_implicit_steps, PySem.W.mg_of X G a_implicit_steps, b_implicit_steps, _, _, F_ways_on, PySem.W.mg_of X G a_ways_on, b_ways_on, _, _, F_chains_from, PySem.W.mg_of X G a_chains_from, b_chains_from, _, _, F_reached, PySem.W.mg_of X G a_reached, b_reached, DL.Fun.kb F_reached (ks := ["source", "library"]) (is := [1, 0]) (by simp) (fun _ _ _ _ _ _ us hl => match us, hl with | [_, _], _ => rfl), _, _, F_chains, PySem.W.mg_of X G a_chains, b_chains, DL.Fun.kb F_chains (ks := ["target", "source", "library"]) (is := [2, 1, 0]) (by simp) (fun _ _ _ _ _ _ us hl => match us, hl with | [_, _, _], _ => rfl), _, _, F__law_right, PySem.W.mg_of X G a__law_right, b__law_right, _, _, F_law, PySem.W.mg_of X G a_law, b_law, PySem.W.mg_none_of X G z_int, PySem.W.mg_none_of X G z_len, PySem.W.mg_none_of X G z_abs, PySem.W.mg_none_of X G z_range, PySem.W.mg_none_of X G z_tuple, PySem.W.mg_none_of X G z_sorted, PySem.W.mg_none_of X G z_dict, PySem.W.mg_none_of X G z_list, PySem.W.mg_none_of X G z_enumerate, PySem.W.mg_none_of X G z_repr, PySem.W.mg_none_of X G z_set, PySem.W.mg_none_of X G z_max, PySem.W.mg_none_of X G z_min, PySem.W.mg_none_of X G z_all⟩
  refine ⟨PySem.W.fnOf "law" "law" (defArgs s_law) (defBody s_law) (defScope s_law) .none kV_law dc_law pm_law an_law cd_law ct_law, fun s v => .of_eq rfl, fun base _ _ => ?_⟩
  have G__law_pot := ok__law_pot (P := l.prog) (w := w) (base := base) T
  have G__law_take := ok__law_take (P := l.prog) (w := w) (base := base) T
  have G__law_sorts := ok__law_sorts (P := l.prog) (w := w) (base := base) T G__law_take
  have G__law_row := ok__law_row (P := l.prog) (w := w) (base := base) T G__law_take
  have G__law_of := ok__law_of (P := l.prog) (w := w) (base := base) T G__law_take
  have G__law_item := ok__law_item (P := l.prog) (w := w) (base := base) T G__law_take G__law_row G__law_of
  have G__law_book := ok__law_book (P := l.prog) (w := w) (base := base) T G__law_sorts G__law_take G__law_item G__law_of
  have G__law_dense := ok__law_dense (P := l.prog) (w := w) (base := base) T G__law_take G__law_of
  have G__law_chains := ok__law_chains (P := l.prog) (w := w) (base := base) T
  have G_implicit_steps := ok_implicit_steps (P := l.prog) (w := w) (base := base) T
  have G_ways_on := ok_ways_on (P := l.prog) (w := w) (base := base) T
  have G_chains_from := ok_chains_from (P := l.prog) (w := w) (base := base) T G_implicit_steps G_ways_on
  have G_reached := ok_reached (P := l.prog) (w := w) (base := base) T G_chains_from
  have G_chains := ok_chains (P := l.prog) (w := w) (base := base) T G_chains_from
  have G__law_right := ok__law_right (P := l.prog) (w := w) (base := base) T G__law_chains G_reached G_chains
  have G_law := ok_law (P := l.prog) (w := w) (base := base) T G__law_pot G__law_book G__law_of G__law_dense G__law_right
  exact G_law
theorem walk {l : PySem.W.OpenLaw} {q : Program} {loose : List Str} {XP : (Str → Option Value) → Heap → Prop} {YP : World → Heap → Prop} {d : DefRec} {K : Params → PySem.W.Frag} (hn : l.most = some 63) (hdf : d.params.defaults = [])
    (hY : ∀ (w : World) (h : Heap), YP w h → (K w.params).In h)
    (F : ∀ (w : World) (mg : Str → Option Value) (fa : Addr) (h : Heap), (K w.params).In h → h.Ns mainGlobals mg → mg d.name = some (.ref fa) →
      ∃ fd : FuncData, (∀ (s : Shared) (u : Value), BindsTo s fd ⟨[u], []⟩ [("script", u)]) ∧ ∀ base : Heap, (K w.params).In base → base.Ns mainGlobals mg → FnG l.prog w (K w.params) mg base CX0 5 fa fd ["script"] (spI (K w.params) 0 w_law))
    (true_law : ∀ ns : List Int, ns.length ≤ 63 → w_law ns [] fun r => r = .d (.bool true)) :
    PySem.W.WalkO q loose XP YP l.row.toRowW d [] (fun f vs => PySem.call f vs) :=
  DL.walkG (n := 63) (k := 5) (x := "script") (sp := fun w => spI (K w.params) 0 w_law) hn (by decide) hdf ⟨rfl, by decide, by decide⟩ hY F
    fun _ _ a ns hl hO hS => ⟨a, [], ns, [], fun r => r = .d (.bool true), rfl, ints_of hO hS, .nil, rfl, true_law ns hl, fun r v H' e _ rv => by subst e; cases rv; rfl⟩

end K7
namespace K7
open PySem PySem.Spec PyProof.Rows L2 DL
/-- a pot: at most c of its numbers are drawn -/
def Pot (c : Nat) (ps : List D) : Prop := ∃ a b n : Int, ps = [.int a, .int b, .int n] ∧ 0 ≤ a ∧ 0 ≤ b ∧ b < 2305843009213693952 ∧ 0 ≤ n ∧ n ≤ c
theorem log_lt {i : Int} {k : Nat} (h0 : 0 ≤ i) (h : i < 2 ^ k) (hk : 0 < k) : i.natAbs.log2 < k := by
  by_cases z : i.natAbs = 0
  · rw [z]; simpa using hk
  · rw [Nat.log2_lt z]
    have : (i.natAbs : Int) = i := Int.natAbs_of_nonneg h0
    have h2 : ((i.natAbs : Nat) : Int) < ((2 ^ k : Nat) : Int) := by rw [this]; push_cast; exact h
    exact Int.ofNat_lt.mp h2
theorem mod_ok {i j : Int} (h : 0 < j) : modD (.int i) (.int j) = some (.int (i % j)) := if_pos h
theorem fdiv_ok {i j : Int} (h : 0 < j) (h2 : j < 2 ^ 64) : fdivD (.int i) (.int j) = some (.int (i / j)) := if_pos ⟨h, by have := log_lt (by omega) h2 (by decide); omega⟩
theorem mul_ok {i j : Int} (hi : 0 ≤ i) (hi2 : i < 2 ^ 1100) (hj : 0 ≤ j) (hj2 : j < 2 ^ 1100) : mulD (.int i) (.int j) = some (.int (i * j)) :=
  if_pos (by have := log_lt hi hi2 (by decide); have := log_lt hj hj2 (by decide); omega)
theorem pow_ok {i j : Int} (h0 : 0 ≤ i) (h : i < 2 ^ 1100) (hj : 0 ≤ j) (hj2 : j ≤ 1000) : powD (.int i) (.int j) = some (.int (i ^ j.toNat)) := by
  refine if_pos ⟨hj, ?_⟩
  have hb : Builtin.Int.intBits i ≤ 1101 := by
    have := log_lt h0 h (by decide)
    unfold Builtin.Int.intBits
    split <;> omega
  have h1 : (Builtin.Int.intBits i : Int) * j ≤ 1101 * 1000 := Int.mul_le_mul (by omega) hj2 hj (by decide)
  have h2 : (1101 * 1000 : Int) ≤ 2 ^ 27 := by decide
  exact Int.le_trans h1 h2
/-- an item of a list by a number -/
theorem atI_ok {α : Type} {xs : List α} {j : Int} (h0 : 0 ≤ j) (h : j < xs.length) : ∃ d, L2.atI xs j = some d ∧ xs[j.toNat]? = some d := by
  have hk : j.toNat < xs.length := by omega
  have e : j = ((j.toNat : Nat) : Int) := by omega
  refine ⟨xs[j.toNat], ?_, List.getElem?_eq_getElem hk⟩
  have z : L2.atI xs ((j.toNat : Nat) : Int) = some xs[j.toNat] := atI_nat (List.getElem?_eq_getElem hk)
  rw [← e] at z
  exact z
theorem ixL_ok {xs : List D} {j : Int} (h0 : 0 ≤ j) (h : j < xs.length) : ∃ d, ixD (.list xs) (.int j) = some d ∧ xs[j.toNat]? = some d := atI_ok h0 h
theorem ixT_ok {xs : List D} {j : Int} (h0 : 0 ≤ j) (h : j < xs.length) : ∃ d, ixD (.tuple xs) (.int j) = some d ∧ xs[j.toNat]? = some d := atI_ok h0 h
def primes : List D := [.int 2147483647, .int 2147483629, .int 2147483587, .int 2147483579, .int 2147483563]
theorem primes_at {j : Int} (h0 : 0 ≤ j) (h : j < 5) : ∃ p : Int, ixD (.list primes) (.int j) = some (.int p) ∧ 1000 < p ∧ p < 2 ^ 31 := by
  obtain ⟨d, e, m⟩ := ixL_ok (xs := primes) h0 h
  have hm := List.mem_of_getElem? m
  simp only [primes, List.mem_cons, List.not_mem_nil, or_false] at hm
  rcases hm with rfl | rfl | rfl | rfl | rfl <;> exact ⟨_, e, by decide, by decide⟩
theorem take_ok {c : Nat} {ps : List D} {u : Int} {Q : Rv → List D → Prop} (hp : Pot c ps) (hc : c < 1000000) (h0 : 0 < u) (h1 : u ≤ 1000) (q : ∀ r ps', 0 ≤ r → r < u → Pot (c + 1) ps' → Q (.d (.int r)) ps') : w__law_take ps [.int u] Q := by
  obtain ⟨a, b, n, rfl, ha, hb, hb2, hn, hn2⟩ := hp
  refine ⟨.inr ⟨_, rfl⟩, .inr ⟨_, _, rfl, rfl, _, rfl, _, rfl, ?_⟩⟩
  refine ite2 (fun c1 => ?_) (fun c1 => ?_)
  · refine ⟨.inr ⟨_, rfl⟩, .inr ⟨_, _, rfl, rfl, .inl ⟨_, rfl, _, mod_ok h0, ?_⟩⟩⟩
    refine ⟨.inr ⟨_, rfl⟩, .inr ⟨_, _, rfl, rfl, .inl ⟨_, rfl, _, fdiv_ok h0 (by omega), _, _, rfl, rfl, ?_⟩⟩⟩
    refine .inl ⟨_, rfl, _, rfl, q _ _ (Int.emod_nonneg _ (by omega)) (Int.emod_lt_of_pos _ h0) ⟨_, _, _, rfl, Int.ediv_nonneg ha (by omega), hb, hb2, hn, by omega⟩⟩
  · refine ⟨.inr ⟨_, rfl⟩, .inr ⟨_, _, rfl, rfl, _, rfl, _, _, rfl, rfl, ?_⟩⟩
    have hn' : 0 ≤ n + 1 := by omega
    obtain ⟨p, ep, hp1, hp2⟩ := primes_at (Int.emod_nonneg (n + 1) (by decide : (5 : Int) ≠ 0)) (Int.emod_lt_of_pos (n + 1) (by decide))
    refine ⟨by decide, .inr ⟨_, rfl⟩, .inr ⟨_, _, rfl, rfl, _, mod_ok (by decide), _, ep, ?_⟩⟩
    have hb3 : 0 ≤ b + 7919 * (n + 1) := by omega
    have hb4 : b + 7919 * (n + 1) < 2 ^ 1100 := by have : b + 7919 * (n + 1) < 2 ^ 64 := by omega
                                                   exact Int.lt_trans this (by decide)
    refine ⟨.inr ⟨_, rfl⟩, .inr ⟨_, _, rfl, rfl, .inr ⟨_, rfl⟩, .inr ⟨_, _, rfl, rfl, _, mul_ok (by decide) (by decide) hn' (Int.lt_trans (by omega : n + 1 < 2 ^ 64) (by decide)), _, rfl, _, pow_ok hb3 hb4 (by decide) (by decide), .inl ⟨_, rfl, _, mod_ok (by omega), ?_⟩⟩⟩⟩
    have d0 : 0 ≤ (b + 7919 * (n + 1)) ^ (3 : Int).toNat % p := Int.emod_nonneg _ (by omega)
    have d1 : (b + 7919 * (n + 1)) ^ (3 : Int).toNat % p < p := Int.emod_lt_of_pos _ (by omega)
    generalize (b + 7919 * (n + 1)) ^ (3 : Int).toNat % p = d at d0 d1 ⊢
    have d2 : 0 ≤ d % 1013 := Int.emod_nonneg _ (by decide)
    have d3 : d % 1013 < 1013 := Int.emod_lt_of_pos _ (by decide)
    refine .inl ⟨_, rfl, .inl ⟨_, rfl, _, mod_ok (by decide), .inr ⟨_, rfl⟩, .inr ⟨_, _, rfl, rfl, _, rfl, _, mul_ok d0 (Int.lt_trans (by omega : d < 2 ^ 64) (by decide)) (by omega) (Int.lt_trans (by omega : d % 1013 + (n + 1) < 2 ^ 64) (by decide)), .inl ⟨_, rfl, _, mod_ok (by omega), _, fdiv_ok (by decide) (by decide), .inl ⟨_, rfl, _, mod_ok h0, ?_⟩⟩⟩⟩⟩
    exact ⟨_, rfl, q _ _ (Int.emod_nonneg _ (by omega)) (Int.emod_lt_of_pos _ h0) ⟨a, b, n + 1, rfl, ha, hb, hb2, hn', by omega⟩⟩
end K7
namespace K7
open PySem PySem.Spec PyProof.Rows L2 DL
theorem Pot.mono {c c' : Nat} {ps : List D} (h : Pot c ps) (hc : c ≤ c') : Pot c' ps := by
  obtain ⟨a, b, n, e, h1, h2, h3, h4, h5⟩ := h
  exact ⟨a, b, n, e, h1, h2, h3, h4, by omega⟩
theorem of_ok {c : Nat} {ps ds : List D} {Q : Rv → List D → Prop} (hp : Pot c ps) (hc : c < 1000000) (h0 : ds ≠ []) (h1 : ds.length ≤ 1000) (q : ∀ d ps', d ∈ ds → Pot (c + 1) ps' → Q (.d d) ps') : w__law_of ps [.list ds] Q := by
  have hl : 0 < ds.length := List.length_pos_iff.mpr h0
  refine ⟨.inl ⟨_, rfl⟩, ⟨_, rfl⟩, .inl ⟨_, _, rfl, rfl, _, rfl, rfl, take_ok hp hc (by omega) (by omega) fun r ps' r0 r1 hp' => ⟨_, rfl, ?_⟩⟩⟩
  obtain ⟨d, e, m⟩ := ixL_ok (xs := ds) r0 r1
  exact .inl ⟨_, _, rfl, e, _, rfl, q d ps' (List.mem_of_getElem? m) hp'⟩
theorem row_ok {c : Nat} {ps : List D} {m u : Int} {Q : Rv → List D → Prop} (hp : Pot c ps) (hc : c < 900000) (m0 : 0 ≤ m) (m1 : m ≤ 64) (h0 : 0 < u) (h1 : u ≤ 1000)
    (q : ∀ (is : List Int) ps', (is.length : Int) = m → (∀ i ∈ is, 0 ≤ i ∧ i < u) → Pot (c + 64) ps' → Q (.d (.tuple (is.map .int))) ps') : w__law_row ps [.int m, .int u] Q := by
  refine .inl ⟨_, rfl, m, rfl, Int.le_trans (by decide) m0, Int.lt_of_le_of_lt m1 (by decide), fun i acc ρ => i ≤ m.toNat ∧ ∃ (is : List Int) (ps' : List D), acc = is.map .int ∧ is.length = i ∧ (∀ j ∈ is, 0 ≤ j ∧ j < u) ∧ Pot (c + i) ps' ∧ ρ = [.own ps', .dat (.int m), .dat (.int u), .un], ?_, ?_, ?_⟩
  · exact ⟨Nat.zero_le _, [], ps, rfl, rfl, fun j hj => by simp at hj, hp, rfl⟩
  · rintro i x acc ρ hx ⟨hi, is, ps', rfl, rfl, his, hp', rfl⟩
    obtain ⟨_, hlt⟩ := upto_get hx
    refine ⟨⟨_, rfl⟩, .inl ⟨_, rfl, ?_⟩⟩
    refine ⟨_, rfl, rfl, take_ok hp' (by omega) h0 h1 fun r ps2 r0 r1 hp2 => ⟨_, rfl, ?_⟩⟩
    refine ⟨by rw [List.length_map]; have : (64 : Nat) < sizeLine := by decide
               omega, hlt, is ++ [r], ps2, by simp, by simp, fun j hj => ?_, hp2, rfl⟩
    rcases List.mem_append.mp hj with z | z
    · exact his j z
    · rw [List.mem_singleton.mp z]; exact ⟨r0, r1⟩
  · rintro acc ρ ⟨hi, is, ps', rfl, hl, his, hp', rfl⟩
    rw [upto_length] at hl
    exact ⟨_, rfl, _, rfl, q is ps' (by omega) his (hp'.mono (by omega))⟩
theorem bit0 (b : Bool) : (0 : Int) ≤ if b = true then 1 else 0 := by cases b <;> decide
theorem bit1 (b : Bool) : (if b = true then 1 else 0 : Int) < 2 ^ 1100 := by cases b <;> decide
theorem pot_ok {ns : List Int} {k : Int} {Q : Rv → Prop} (k0 : 0 ≤ k) (k1 : k ≤ 100) (q : ∀ ps, Pot 0 ps → Q (.f ps)) : w__law_pot ns [.int k] Q := by
  have rest : ∀ cell : Int, (wSeq (wSet 3 (wBin mulD (wBin modD (wCl absL (wCons (wVar 2) wNil)) (wBin powD (wBin powD (wC (.int 10)) (wC (.int 60))) (wC (.int 5)))) (wCl intL (wCons (wBin geD (wCl absL (wCons (wVar 2) wNil)) (wBin powD (wC (.int 10)) (wC (.int 18)))) wNil)))) (wRetF (wLst (wCons (wVar 3) (wCons (wBin modD (wBin addD (wBin addD (wBin mulD (wBin modD (wVar 2) (wC (.int 2305843009213693951))) (wC (.int 48271))) (wBin mulD (wBin mulD (wC (.int 7919)) (wVar 1)) (wVar 1))) (wC (.int 29))) (wC (.int 2305843009213693921))) (wCons (wC (.int 0)) wNil))))))
      ⟨fun _ => Q (.d .none), fun r _ => Q r, fun _ => False, fun _ => False⟩ [.ints ns, .dat (.int k), .dat (.int cell), .un] := fun cell => by
    refine .inl ⟨_, rfl, _, rfl, _, pow_ok (by decide) (by decide) (by decide) (by decide), _, pow_ok (by decide +kernel) (by decide +kernel) (by decide) (by decide), _, mod_ok (by decide +kernel), ?_⟩
    refine .inl ⟨_, rfl, _, rfl, _, pow_ok (by decide) (by decide) (by decide) (by decide), _, rfl, _, rfl, _, mul_ok (Int.emod_nonneg _ (by decide +kernel)) (Int.lt_trans (Int.emod_lt_of_pos _ (by decide +kernel)) (by decide +kernel)) (bit0 _) (bit1 _), ?_⟩
    have c0 : 0 ≤ cell % 2305843009213693951 := Int.emod_nonneg _ (by decide)
    have c1 : cell % 2305843009213693951 < 2305843009213693951 := Int.emod_lt_of_pos _ (by decide)
    refine .inl ⟨_, rfl, .inl ⟨_, rfl, _, mod_ok (by decide), _, mul_ok c0 (Int.lt_trans c1 (by decide)) (by decide) (by decide), .inl ⟨_, rfl, _, mul_ok (by decide) (by decide) k0 (Int.lt_of_le_of_lt k1 (by decide)), .inl ⟨_, rfl, _, mul_ok (by omega) (Int.lt_of_le_of_lt (by omega : (7919 : Int) * k ≤ 2 ^ 64) (by decide)) k0 (Int.lt_of_le_of_lt k1 (by decide)), _, rfl, _, rfl, _, mod_ok (by decide), ?_⟩⟩⟩⟩
    refine ⟨show 3 ≤ sizeLine by decide, q _ ⟨_, _, _, rfl, ?_, Int.emod_nonneg _ (by decide), Int.lt_trans (Int.emod_lt_of_pos _ (by decide)) (by decide), by decide, by decide⟩⟩
    exact Int.mul_nonneg (Int.emod_nonneg _ (by decide +kernel)) (bit0 _)
  show wTst _ _ _
  refine .inl ⟨_, rfl, ns, rfl, _, rfl, _, rfl, ?_⟩
  refine ite2 (fun c1 => ?_) (fun c1 => ?_)
  · have c2 : k < ns.length := of_decide_eq_true c1
    obtain ⟨z, e, _⟩ := atI_ok (xs := ns) k0 c2
    exact ⟨⟨ns, rfl⟩, .inl ⟨_, rfl, ns, k, z, rfl, rfl, e, rest z⟩⟩
  · exact .inl ⟨_, rfl, _, rfl, rest _⟩
end K7
namespace K7
open PySem PySem.Spec PyProof.Rows L2 DL
theorem noBag_of {ρ : List Sl} (h : ∀ s ∈ ρ, ∀ ks, s ≠ .bag ks) : NoBag ρ := fun j ks e => h _ (List.mem_of_getElem? e) ks rfl
theorem perm_map_inv {α β : Type} {g : α → β} {f : β → Option α} (hg : ∀ a, f (g a) = some a) {l : List β} {xs : List α} (h : l.Perm (xs.map g)) : ∃ ys : List α, l = ys.map g ∧ ys.Perm xs := by
  have hm : ∀ l : List β, (∀ d ∈ l, ∃ p, d = g p) → (l.filterMap f).map g = l := by
    intro l
    induction l with
    | nil => intro _; rfl
    | cons d l ih =>
      intro hd
      obtain ⟨p, rfl⟩ := hd d List.mem_cons_self
      rw [List.filterMap_cons_some (hg p), List.map_cons, ih fun e he => hd e (List.mem_cons_of_mem _ he)]
  have he : ∀ xs : List α, (xs.map g).filterMap f = xs := by
    intro xs
    induction xs with
    | nil => rfl
    | cons x xs ih => rw [List.map_cons, List.filterMap_cons_some (hg x), ih]
  refine ⟨l.filterMap f, (hm l fun d hd => ?_).symm, ?_⟩
  · obtain ⟨p, _, e⟩ := List.mem_map.mp (h.mem_iff.mp hd)
    exact ⟨p, e.symm⟩
  · have := h.filterMap f
    rw [he xs] at this
    exact this
def pD (p : Str × Int) : D := .tuple [.str p.1, .int p.2]
def pU : D → Option (Str × Int)
  | .tuple [.str x, .int i] => some (x, i)
  | _ => none
/-- a word that repr shows shortly -/
def Wd (w : Str) : Prop := (reprText w).length ≤ 20
structure GS (ss : List (Str × Int)) : Prop where
  ne : ss ≠ []
  len : ss.length ≤ 6
  nd : (ss.map (·.1)).Nodup
  cnt : ∀ p ∈ ss, 1 ≤ p.2 ∧ p.2 ≤ 8
  wd : ∀ p ∈ ss, Wd p.1
theorem sorted_pairs {fs : List (Str × Int)} : PyData.plainAll (fs.map pD) = true ∧ PySem.W.AllAlike (fs.map pD) ∧ PySem.W.Sortable (fs.map pD) ∧ ∀ d, d ∈ fs.map pD → d.depth ≤ 100 := by
  have hm : ∀ d ∈ fs.map pD, ∃ x i, d = .tuple [.str x, .int i] := fun d hd => by
    obtain ⟨p, _, rfl⟩ := List.mem_map.mp hd
    exact ⟨_, _, rfl⟩
  refine ⟨?_, fun d hd d' hd' => ?_, .inl fun d hd => ?_, fun d hd => ?_⟩
  · induction fs with
    | nil => rfl
    | cons p fs ih =>
      rw [List.map_cons, PyData.plainAll]
      rw [ih fun d hd => hm d (List.mem_cons_of_mem _ hd)]
      rfl
  · obtain ⟨x, i, rfl⟩ := hm d hd
    obtain ⟨y, j, rfl⟩ := hm d' hd'
    rfl
  · obtain ⟨x, i, rfl⟩ := hm d hd
    exact ⟨_, _, rfl⟩
  · obtain ⟨x, i, rfl⟩ := hm d hd
    show PyData.depth _ ≤ 100
    simp [PyData.depth, PyData.depthAll]
theorem perm_erase {α : Type} {xs : List α} {m : Nat} {x : α} (h : xs[m]? = some x) : xs.Perm (x :: xs.eraseIdx m) := by
  induction xs generalizing m with
  | nil => simp at h
  | cons y ys ih =>
    cases m with
    | zero => simp at h; subst h; simp
    | succ m =>
      rw [List.eraseIdx_cons_succ]
      exact ((ih (by simpa using h)).cons y).trans (.swap x y _)
theorem erase_map {α β : Type} {f : α → β} : ∀ (xs : List α) (k : Nat), (xs.map f).eraseIdx k = (xs.eraseIdx k).map f
  | [], _ => rfl
  | _ :: _, 0 => rfl
  | x :: xs, k + 1 => by simp only [List.map_cons, List.eraseIdx_cons_succ]; rw [erase_map xs k]
theorem seq_ok {i : Int} {n : Nat} (h0 : 0 ≤ i) (h : i.toNat < n) : seqIndex? i n = some i.toNat := by
  unfold seqIndex?
  simp
  omega
theorem pool_wd : ∀ x ∈ (["bit", "c", "int", "num", "z", "zzzzzzzz"] : List Str), Wd x := by
  unfold Wd
  decide +kernel
theorem sorts_ok {c : Nat} {ps : List D} {Q : Rv → List D → Prop} (hp : Pot c ps) (hc : c < 900000) (q : ∀ ss ps', GS ss → Pot (c + 20) ps' → Q (.d (.tuple (ss.map pD))) ps') : w__law_sorts ps [.int 6, .int 3] Q := by
  refine ⟨show 6 ≤ sizeLine by decide, show 0 ≤ sizeLine by decide, noBag_of (fun s hs ks => by simp [slotsP] at hs; rcases hs with rfl | rfl | rfl | rfl <;> simp), _, _, rfl, ?_⟩
  refine ⟨⟨_, rfl⟩, .inl ⟨_, rfl, ?_⟩⟩
  refine ⟨_, rfl, rfl, take_ok hp (by omega) (by decide) (by decide) fun r ps1 r0 r1 hp1 => ⟨_, rfl, _, rfl, 1 + r, rfl, by omega, by omega, ?_⟩⟩
  refine ⟨fun i ρ => ∃ (ps' : List D) (fs : List (Str × Int)) (rem : List Str) (s5 : Sl), ρ = [.own ps', .dat (.int 6), .dat (.int 3), .own (rem.map .str), .own (fs.map pD), s5] ∧ fs.length = i ∧ rem.length + i = 6 ∧ (fs.map (·.1) ++ rem).Nodup ∧ (∀ p ∈ fs, (1 ≤ p.2 ∧ p.2 ≤ 8) ∧ Wd p.1) ∧ (∀ x ∈ rem, Wd x) ∧ Pot (c + 1 + 2 * i) ps', ?_, ?_, ?_⟩
  · exact ⟨ps1, [], ["bit", "c", "int", "num", "z", "zzzzzzzz"], .un, rfl, rfl, rfl, by decide +kernel, fun p hp => by simp at hp, fun x hx => pool_wd x hx, hp1⟩
  · rintro i x ρ hx ⟨ps', fs, rem, s5, rfl, hi, hrem, hnd, hcnt, hrw, hp'⟩
    obtain ⟨_, hlt⟩ := upto_get hx
    have hlt : i < 6 := by omega
    show wDrop _ _ _
    refine ⟨⟨_, rfl⟩, ?_⟩
    refine ⟨⟨_, rfl⟩, ⟨_, rfl⟩, .inr ⟨_, rfl, ?_⟩⟩
    have hl : (rem.map PyData.str).length = rem.length := List.length_map _
    refine ⟨_, rfl, rfl, take_ok hp' (by omega) (by omega) (by omega) fun r2 ps2 a0 a1 hp2 => ⟨_, rfl, ?_⟩⟩
    rw [hl] at a1
    have hm : r2.toNat < rem.length := by omega
    refine ⟨rem.map .str, r2, r2.toNat, .str rem[r2.toNat], rfl, rfl, by omega, by omega, ?_, by rw [List.getElem?_map, List.getElem?_eq_getElem hm]; rfl, ?_⟩
    · rw [hl]
      exact seq_ok a0 hm
    refine ⟨⟨_, rfl⟩, .inl ⟨_, rfl, ?_⟩⟩
    refine ⟨_, rfl, rfl, take_ok hp2 (by omega) (by decide) (by decide) fun r3 ps3 b0 b1 hp3 => ⟨_, rfl, _, rfl, show 2 ≤ sizeLine by decide, ?_⟩⟩
    refine ⟨fs.map pD, rfl, by rw [List.length_map]; have : (10 : Nat) < sizeLine := by decide
                               omega, ?_⟩
    refine ⟨ps3, fs ++ [(rem[r2.toNat], 1 + r3)], rem.eraseIdx r2.toNat, .dat x, ?_, by simp [hi], by rw [List.length_eraseIdx_of_lt hm]; omega, ?_, fun p hp => ?_, fun x hx => hrw x (List.mem_of_mem_eraseIdx hx), hp3.mono (by omega)⟩
    · show [_, _, _, _, _, _] = _
      rw [erase_map, List.map_append]
      rfl
    · have pm := (perm_erase (List.getElem?_eq_getElem hm)).append_left (fs.map (·.1))
      have := pm.nodup_iff.mp hnd
      rw [List.map_append, List.append_assoc]
      exact this
    · rcases List.mem_append.mp hp with z | z
      · exact hcnt p z
      · rw [List.mem_singleton.mp z]; exact ⟨⟨by omega, by omega⟩, hrw _ (List.getElem_mem hm)⟩
  · rintro ρ ⟨ps', fs, rem, s5, rfl, hi, hrem, hnd, hcnt, hrw, hp'⟩
    rw [upto_length] at hi hp' hrem
    have hf : (fs.length : Int) = 1 + r := by omega
    obtain ⟨s1, s2, s3, s4⟩ := sorted_pairs (fs := fs)
    refine .inr ⟨_, rfl, _, rfl, s1, s2, s3, s4, _, rfl, ?_⟩
    obtain ⟨ss, e, pm⟩ := perm_map_inv (g := pD) (f := pU) (fun _ => rfl) (List.mergeSort_perm (fs.map pD) (PySem.W.dataLe false fun d => d))
    rw [e]
    refine ⟨_, rfl, q ss ps' ⟨fun z => ?_, by rw [pm.length_eq]; omega, ?_, fun p hp => (hcnt p (pm.mem_iff.mp hp)).1, fun p hp => (hcnt p (pm.mem_iff.mp hp)).2⟩ (hp'.mono (by omega))⟩
    · subst z
      have := pm.length_eq
      simp at this
      omega
    · exact ((pm.map (·.1)).nodup_iff).mpr (List.nodup_append.mp hnd).1
end K7
namespace K7
open PySem PySem.Spec PyProof.Rows L2 DL
theorem ifT {A B : Prop} (h : A) : if (true : Bool) = true then A else B := h
theorem ifF {A B : Prop} (h : B) : if (false : Bool) = true then A else B := h
theorem take_map {α β : Type} {f : α → β} {xs : List α} {i : Nat} {a : α} (h : xs[i]? = some a) : (xs.take (i + 1)).map f = (xs.take i).map f ++ [f a] := by
  rw [List.take_add_one, h, List.map_append]; rfl
theorem putP_new {es : List (Key × D)} {k : Key} {d : D} (h : ∀ p ∈ es, p.1 ≠ k) : putP es k d = es ++ [(k, d)] := by
  unfold putP
  rw [if_neg]
  intro z
  obtain ⟨p, hp, e⟩ := List.any_eq_true.mp z
  exact h p hp (of_decide_eq_true e)
theorem mergeP_nd : ∀ (more acc : List (Key × D)), ((acc ++ more).map (·.1)).Nodup → mergeP acc more = acc ++ more
  | [], acc, _ => by simp [mergeP]
  | (k, d) :: more, acc, h => by
    have hk : ∀ p ∈ acc, p.1 ≠ k := fun p hp e => by
      rw [List.map_append, List.nodup_append] at h
      exact h.2.2 p.1 (List.mem_map_of_mem hp) k (by simp) e
    show mergeP (putP acc k d) more = _
    rw [putP_new hk, mergeP_nd more (acc ++ [(k, d)]) (by simpa using h)]
    simp
theorem lookD_mem : ∀ {es : List (Key × D)} {k : Key} {d : D}, (es.map (·.1)).Nodup → (k, d) ∈ es → lookD (kD es) k = some d
  | [], _, _, _, h => by simp at h
  | (k', d') :: es, k, d, hn, h => by
    unfold lookD kD
    simp only [List.map_cons, List.find?_cons, keyOf_keyD]
    rcases List.mem_cons.mp h with e | e
    · cases e
      simp
    · have hne : k' ≠ k := fun z => by
        subst z
        rw [List.map_cons, List.nodup_cons] at hn
        exact hn.1 (List.mem_map_of_mem (f := (·.1)) e)
      have hne' : ¬ (some k' = some k) := fun z => hne (Option.some.inj z)
      simp only [hne', decide_false]
      rw [List.map_cons, List.nodup_cons] at hn
      exact lookD_mem hn.2 e
inductive Item where
  | conv (name st en : Str) (b : Bool) (row : List Int)
  | defi (word : Str) (needed : List Str) (en : Str) (row : List Int)
def itD : Item → D
  | .conv name st en b row => .tuple [.str "conversion", .str name, .str st, .str en, .bool b, .tuple (row.map .int)]
  | .defi word needed en row => .tuple [.str "definition", .str word, .tuple (needed.map .str), .str en, .tuple (row.map .int)]
def calledL : List Str := ["int", "f", "bit", "one", "c", "kind", "g", "input", "num", "call", "a", "b", "d", "e", "h", "i", "j", "k", "l", "m", "n", "o", "p", "q", "r"]
def GoodItem (ss : List (Str × Int)) (at' : Nat) : Item → Prop
  | .conv name st en _ row => calledL[at']? = some name ∧ ∃ cs ce, (st, cs) ∈ ss ∧ (en, ce) ∈ ss ∧ (row.length : Int) = cs ∧ ∀ j ∈ row, 0 ≤ j ∧ j < ce
  | .defi word needed _ _ => needed.length ≤ 3 ∧ Wd word
def cntE (ss : List (Str × Int)) : List (Key × D) := ss.map fun p => (.inr p.1, .int p.2)
theorem pairs_cnt : ∀ ss : List (Str × Int), pairsD (ss.map pD) = some (cntE ss)
  | [] => rfl
  | p :: ss => by
    show (pairD (pD p)).bind (fun q => (pairsD (ss.map pD)).map fun es => q :: es) = _
    rw [pairs_cnt ss]; rfl
theorem cnt_nd {ss : List (Str × Int)} (h : (ss.map (·.1)).Nodup) : ((cntE ss).map (·.1)).Nodup := by
  have e : (cntE ss).map (·.1) = (ss.map (·.1)).map Sum.inr := by simp [cntE]
  rw [e]
  exact List.Pairwise.map _ (fun a b hab z => hab (Sum.inr.inj z)) h
theorem dict_cnt {ss : List (Str × Int)} (h : GS ss) : dictL [.tuple (ss.map pD)] = some (.dict (kD (cntE ss))) := by
  show (pairsD (ss.map pD)).map (fun es => PyData.dict (kD (mergeP [] es))) = _
  rw [pairs_cnt, Option.map_some, mergeP_nd _ _ (by simpa using cnt_nd h.nd)]
  rfl
theorem cnt_at {ss : List (Str × Int)} (h : GS ss) {p : Str × Int} (hp : p ∈ ss) : ixD (.dict (kD (cntE ss))) (.str p.1) = some (.int p.2) :=
  lookD_mem (cnt_nd h.nd) (List.mem_map_of_mem (f := fun p : Str × Int => ((.inr p.1 : Key), PyData.int p.2)) hp)
def namesL (ss : List (Str × Int)) : List D := ss.map fun p => .str p.1
theorem called_add : addD (.list [.str "int", .str "f", .str "bit", .str "one", .str "c", .str "kind", .str "g", .str "input", .str "num", .str "call"]) (.list (signsD (Str.ofString "abdehijklmnopqr"))) = some (.list (calledL.map .str)) := by
  rfl
theorem item_ok {c : Nat} {ps : List D} {ss : List (Str × Int)} {k : Nat} {Q : Rv → List D → Prop} (hp : Pot c ps) (hc : c < 800000) (hs : GS ss) (hk : k < 25)
    (q : ∀ it ps', GoodItem ss k it → Pot (c + 100) ps' → Q (.d (itD it)) ps') : w__law_item ps [.tuple (ss.map pD), .int (k : Nat)] Q := by
  have hlen := hs.len
  have hne : 0 < ss.length := List.length_pos_iff.mpr hs.ne
  have small : (100 : Nat) < sizeLine := by decide
  -- names, counts, way
  refine .inl ⟨_, rfl, _, rfl, fun i acc ρ => acc = (ss.take i).map (fun p => PyData.str p.1) ∧ ρ = slotsP N__law_item ps [.tuple (ss.map pD), .int (k : Nat)], ⟨rfl, rfl⟩, ?_, ?_⟩
  · rintro i x acc ρ hx ⟨rfl, rfl⟩
    rw [List.getElem?_map] at hx
    cases hi : ss[i]? with
    | none => rw [hi] at hx; cases hx
    | some p =>
      rw [hi] at hx
      cases hx
      have hi' := (List.getElem?_eq_some_iff.mp hi).1
      refine ⟨_, rfl, rfl, .inl ⟨_, rfl, ?_, ?_, rfl⟩⟩
      · rw [List.length_map, List.length_take]; omega
      · exact (take_map (f := fun p : Str × Int => PyData.str p.1) hi).symm
  rintro acc ρ ⟨rfl, rfl⟩
  rw [List.length_map, List.take_length]
  refine .inl ⟨_, rfl, _, dict_cnt hs, ⟨_, rfl⟩, _, rfl, rfl, take_ok hp (by omega) (by decide) (by decide) fun way ps1 w0 w1 hp1 => ⟨_, rfl, ?_⟩⟩
  refine ⟨noBag_of (fun s hs ks => by simp [slotsP] at hs; rcases hs with rfl | rfl | rfl | rfl <;> simp), _, _, _, rfl, ?_⟩
  have hl : (ss.map fun p : Str × Int => PyData.str p.1).length = ss.length := List.length_map _
  generalize hnm : (ss.map fun p : Str × Int => PyData.str p.1) = nm at hl ⊢
  have nmI : ∀ j : Int, 0 ≤ j → j < ss.length → ∃ p, p ∈ ss ∧ ixD (.list nm) (.int j) = some (.str p.1) := fun j j0 j1 => by
    obtain ⟨d, e, m⟩ := ixL_ok (xs := nm) j0 (by omega)
    rw [← hnm, List.getElem?_map] at m
    cases hi : ss[j.toNat]? with
    | none => rw [hi] at m; cases m
    | some p =>
      rw [hi] at m
      cases m
      exact ⟨p, List.mem_of_getElem? hi, e⟩
  have nmM : ∀ d, d ∈ nm → ∃ p, p ∈ ss ∧ d = .str p.1 := fun d hd => by
    rw [← hnm] at hd
    obtain ⟨p, hp, e⟩ := List.mem_map.mp hd
    exact ⟨p, hp, e.symm⟩
  have nmN : nm ≠ [] := fun z => by rw [z] at hl; simp at hl; omega
  -- a definition
  have defi : (wSeq (wPar2 11 12 (wMd (wL (wLst wNil)) (wMd (wC (.int 1)) wMnil))) (wSeq (wFor (wRange1 (wCons (wCallP 0 1 w__law_take (wCons (wC (.int 4)) wNil)) wNil)) (wName 13) (wSeq (wSet 14 (wCallP 0 1 w__law_of (wCons (wVar 3) wNil))) (wIfS (wTst (wBin leD (wBin mulD (wVar 12) (wIxN 4 (wVar 14))) (wC (.int 64)))) (wPar2 11 12 (wMd (wBin addD (wVar 11) (wL (wLst (wCons (wVar 14) wNil)))) (wMd (wBin mulD (wVar 12) (wIxN 4 (wVar 14))) wMnil))) wNext))) (wSeq (wSet 8 (wCallP 0 1 w__law_of (wCons (wVar 3) wNil))) (wSeq (wSet 15 (wCallP 0 1 w__law_of (wCons (wL (wLst (wCons (wC (.str (Str.ofString "f"))) (wCons (wC (.str (Str.ofString "g"))) (wCons (wC (.str (Str.ofString "one"))) (wCons (wC (.str (Str.ofString "int"))) wNil)))))) wNil))) (wRet (wTup (wCons (wC (.str (Str.ofString "definition"))) (wCons (wVar 15) (wCons (wCl tupL (wCons (wVar 11) wNil)) (wCons (wVar 8) (wCons (wCallP 0 2 w__law_row (wCons (wVar 12) (wCons (wIxN 4 (wVar 8)) wNil))) wNil)))))))))))
      ⟨fun ρ => ∃ ps', ρ[0]? = some (.own ps') ∧ Q (.d .none) ps', fun r ρ => ∃ ps', ρ[0]? = some (.own ps') ∧ Q r ps', fun _ => False, fun _ => False⟩
      [.own ps1, .dat (.tuple (ss.map pD)), .dat (.int (k : Nat)), .dat (.list nm), .dat (.dict (kD (cntE ss))), .dat (.int way), .un, .un, .un, .un, .un, .un, .un, .un, .un, .un, .un] := by
    refine ⟨show 0 ≤ sizeLine by decide, noBag_of (fun s hs ks => by simp at hs; rcases hs with rfl | rfl | rfl | rfl | rfl | rfl | rfl <;> simp), _, _, rfl, ?_⟩
    refine ⟨⟨_, rfl⟩, _, rfl, rfl, take_ok hp1 (by omega) (by decide) (by decide) fun n4 ps2 n0 n1 hp2 => ⟨_, rfl, n4, rfl, by omega, by omega, ?_⟩⟩
    refine ⟨fun i ρ => ∃ (ps' : List D) (nd : List Str) (many : Int) (s13 s14 : Sl), ρ = [.own ps', .dat (.tuple (ss.map pD)), .dat (.int (k : Nat)), .dat (.list nm), .dat (.dict (kD (cntE ss))), .dat (.int way), .un, .un, .un, .un, .un, .dat (.list (nd.map .str)), .dat (.int many), s13, s14, .un, .un] ∧ nd.length ≤ i ∧ 1 ≤ many ∧ many ≤ 64 ∧ Pot (c + 2 + i) ps' ∧ (∀ ks, s13 ≠ .bag ks) ∧ ∀ ks, s14 ≠ .bag ks, ?_, ?_, ?_⟩
    · exact ⟨ps2, [], 1, .un, .un, rfl, Nat.zero_le _, by decide, by decide, hp2, fun _ z => (by cases z), fun _ z => (by cases z)⟩
    · rintro i x ρ hx ⟨ps', nd, many, s13, s14, rfl, hnd, hm0, hm1, hp', hb3, hb4⟩
      obtain ⟨_, hlt⟩ := upto_get hx
      have hlt : i < 4 := by omega
      show wSeq _ _ _ _
      refine ⟨⟨_, rfl⟩, .inl ⟨_, rfl, ?_⟩⟩
      refine ⟨_, rfl, rfl, of_ok hp' (by omega) nmN (by rw [hl]; omega) fun d ps3 hd hp3 => ⟨_, rfl, ?_⟩⟩
      obtain ⟨p, hpm, rfl⟩ := nmM d hd
      have hcn := hs.cnt p hpm
      refine .inl ⟨_, rfl, .inl ⟨_, rfl⟩, .inl ⟨_, rfl, .inl ⟨_, _, rfl, cnt_at hs hpm, _, mul_ok (by omega) (Int.lt_of_le_of_lt hm1 (by decide)) (by omega) (Int.lt_of_le_of_lt hcn.2 (by decide)), _, rfl, _, rfl, ?_⟩⟩⟩
      refine ite2 (fun c1 => ?_) (fun c1 => ?_)
      · have c1 : many * p.2 ≤ 64 := of_decide_eq_true c1
        have pos : 1 * 1 ≤ many * p.2 := Int.mul_le_mul hm0 hcn.1 (by decide) (by omega)
        refine .inl ⟨_, rfl, .inl ⟨_, rfl, show 1 ≤ sizeLine by decide, .list ((nd ++ [p.1]).map .str), ?_, ?_⟩⟩
        · show (if (nd.map PyData.str).length + 1 ≤ sizeLine then some (PyData.list (nd.map .str ++ [.str p.1])) else none) = _
          rw [if_pos (by rw [List.length_map]; omega), List.map_append]; rfl
        refine .inl ⟨_, rfl, .inl ⟨_, rfl⟩, .inl ⟨_, rfl, .inl ⟨_, _, rfl, cnt_at hs hpm, _, mul_ok (by omega) (Int.lt_of_le_of_lt hm1 (by decide)) (by omega) (Int.lt_of_le_of_lt hcn.2 (by decide)), ?_⟩⟩⟩
        refine ⟨noBag_of (fun s hs ks => by simp at hs; rcases hs with rfl | rfl | rfl | rfl | rfl | rfl | rfl | rfl | rfl | rfl | rfl | rfl <;> simp), _, _, rfl, ps3, nd ++ [p.1], many * p.2, _, _, rfl, by simp; omega, by omega, c1, hp3.mono (by omega), fun _ z => (by cases z), fun _ z => (by cases z)⟩
      · exact ⟨ps3, nd, many, _, _, rfl, by omega, hm0, hm1, hp3.mono (by omega), fun _ z => (by cases z), fun _ z => (by cases z)⟩
    · rintro ρ ⟨ps', nd, many, s13, s14, rfl, hnd, hm0, hm1, hp', hb3, hb4⟩
      rw [upto_length] at hnd hp'
      show wSeq _ _ _ _
      refine ⟨⟨_, rfl⟩, .inl ⟨_, rfl, ?_⟩⟩
      refine ⟨_, rfl, rfl, of_ok (hp'.mono (by omega : _ ≤ c + 6)) (by omega) nmN (by rw [hl]; omega) fun d ps3 hd hp3 => ⟨_, rfl, ?_⟩⟩
      obtain ⟨p, hpm, rfl⟩ := nmM d hd
      have hcn := hs.cnt p hpm
      refine ⟨⟨_, rfl⟩, show 4 ≤ sizeLine by decide, _, rfl, rfl, of_ok hp3 (by omega) (by simp) (by simp) fun d ps4 hd hp4 => ⟨_, rfl, ?_⟩⟩
      have hw : ∃ w : Str, d = .str w ∧ Wd w := by
        simp only [List.mem_cons, List.not_mem_nil, or_false] at hd
        rcases hd with rfl | rfl | rfl | rfl <;> exact ⟨_, rfl, by unfold Wd; decide +kernel⟩
      obtain ⟨w, rfl, hwd⟩ := hw
      refine .inl ⟨_, rfl, .inl ⟨_, rfl, _, rfl, .inl ⟨_, rfl, ⟨_, rfl⟩, .inl ⟨_, rfl, .inl ⟨_, rfl⟩, .inl ⟨_, rfl, .inl ⟨_, _, rfl, cnt_at hs hpm, ?_⟩⟩⟩⟩⟩⟩
      refine ⟨_, rfl, rfl, row_ok hp4 (by omega) (by omega) hm1 (by omega) (by omega) fun is ps5 hi1 hi2 hp5 => ⟨_, rfl, show 5 ≤ sizeLine by decide, _, rfl, ?_⟩⟩
      exact q (.defi w nd p.1 is) ps5 ⟨(show nd.length ≤ 3 by omega), hwd⟩ (hp5.mono (by omega))
  -- way < 3 and more names than one: a conversion
  refine .inl ⟨_, rfl, _, rfl, _, rfl, ?_⟩
  refine ite2 (fun c1 => ?_) (fun c1 => ifF defi)
  refine .inl ⟨_, _, rfl, rfl, _, rfl, _, rfl, ?_⟩
  refine ite2 (fun c2 => ?_) (fun c2 => defi)
  have c2 : (1 : Int) < nm.length := of_decide_eq_true c2
  refine ⟨⟨_, rfl⟩, .inl ⟨_, _, rfl, rfl, _, rfl, rfl, take_ok hp1 (by omega) (by omega) (by omega) fun r1 ps2 a0 a1 hp2 => ⟨_, rfl, ?_⟩⟩⟩
  obtain ⟨p, hpm, ep⟩ := nmI r1 a0 (by omega)
  have hcp := hs.cnt p hpm
  refine ⟨.inl ⟨_, rfl⟩, .inl ⟨_, rfl, .inl ⟨_, _, rfl, ep, .inl ⟨_, rfl⟩, .inl ⟨_, rfl, _, rfl, ⟨_, rfl⟩, .inl ⟨_, _, rfl, rfl, _, rfl, _, rfl, rfl, take_ok hp2 (by omega) (by omega) (by omega) fun r2 ps3 b0 b1 hp3 => ⟨_, rfl, _, rfl, .inl ⟨_, _, rfl, rfl, _, mod_ok (by omega), ?_⟩⟩⟩⟩⟩⟩⟩
  obtain ⟨p2, hpm2, ep2⟩ := nmI ((r1 + 1 + r2) % (nm.length : Int)) (Int.emod_nonneg _ (by omega)) (by rw [← hl]; exact Int.emod_lt_of_pos _ (by omega))
  have hcp2 := hs.cnt p2 hpm2
  refine .inl ⟨_, _, rfl, ep2, noBag_of (fun s hs ks => by simp [slotsP] at hs; rcases hs with rfl | rfl | rfl | rfl | rfl | rfl | rfl | rfl <;> simp), _, _, rfl, ?_⟩
  refine ⟨⟨_, rfl⟩, .inl ⟨_, rfl⟩, .inl ⟨_, rfl, .inl ⟨_, _, rfl, cnt_at hs hpm, .inl ⟨_, rfl⟩, .inl ⟨_, rfl, .inl ⟨_, _, rfl, cnt_at hs hpm2, ?_⟩⟩⟩⟩⟩
  refine ⟨_, rfl, rfl, row_ok hp3 (by omega) (by omega) (by omega) (by omega) (by omega) fun is ps4 hi1 hi2 hp4 => ⟨_, rfl, ?_⟩⟩
  refine ⟨show 10 ≤ sizeLine by decide, signsD (Str.ofString "abdehijklmnopqr"), rfl, _, called_add, ?_⟩
  have hkl : (k : Int) < (calledL.map PyData.str).length := by
    have : (calledL.map PyData.str).length = 25 := rfl
    omega
  obtain ⟨d, ed, md⟩ := ixL_ok (xs := calledL.map .str) (j := (k : Int)) (by omega) hkl
  rw [List.getElem?_map] at md
  cases hn : calledL[k]? with
  | none =>
    have e : (k : Int).toNat = k := by omega
    rw [e, hn] at md; cases md
  | some name =>
    have e : (k : Int).toNat = k := by omega
    rw [e, hn] at md
    cases md
    refine ⟨.inl ⟨_, rfl⟩, .inl ⟨_, rfl, .inl ⟨_, _, rfl, ed, .inl ⟨_, rfl, .inl ⟨_, rfl, .inl ⟨_, rfl, _, rfl, .inl ⟨_, rfl, show 6 ≤ sizeLine by decide, _, rfl, ?_⟩⟩⟩⟩⟩⟩⟩
    exact q (.conv name p.1 p2.1 _ is) ps4 ⟨hn, p.2, p2.2, hpm, hpm2, hi1, hi2⟩ (hp4.mono (by omega))
end K7
namespace K7
open PySem PySem.Spec PyProof.Rows L2 DL
def convName : Item → Option Str
  | .conv name _ _ _ _ => some name
  | .defi _ _ _ _ => none
structure GB (ss : List (Str × Int)) (its : List Item) (lim : Int) : Prop where
  gs : GS ss
  len : its.length ≤ 12
  good : ∀ it ∈ its, ∃ k, GoodItem ss k it
  nd : (its.filterMap convName).Nodup
  l0 : 0 ≤ lim
  l1 : lim ≤ 4
def bookD (ss : List (Str × Int)) (its : List Item) (lim : Int) : D := .tuple [.tuple (ss.map pD), .tuple (its.map itD), .int lim]
theorem nkAll_strs : ∀ ws : List Str, nkAll (ws.map PyData.str) = some (ws.map NestedKey.text)
  | [] => rfl
  | w :: ws => by
    show (match nkOf (.str w), nkAll (ws.map PyData.str) with
      | some k, some ks => some (k :: ks)
      | _, _ => none) = _
    rw [nkAll_strs ws]; rfl
theorem depth_strs : ∀ ws : List Str, NestedKey.depthAll (ws.map NestedKey.text) = 0
  | [] => rfl
  | w :: ws => by
    show max (NestedKey.depth (.text w)) (NestedKey.depthAll (ws.map NestedKey.text)) = 0
    rw [depth_strs ws]; rfl
theorem key_of (w : Str) (ws : List Str) (e : Str) : ∃ k, nkOf (.tuple [.str w, .tuple (ws.map .str), .str e]) = some k ∧ k.depth ≤ 8 := by
  refine ⟨.tup [.text w, .tup (ws.map NestedKey.text), .text e], ?_, ?_⟩
  · simp only [nkOf, nkAll]
    rw [nkAll_strs ws]; rfl
  · simp only [NestedKey.depth, NestedKey.depthAll]
    rw [depth_strs ws]; decide
theorem nd1 : ∀ it : Item, (List.filterMap convName [it]).Nodup
  | .conv n _ _ _ _ => (show List.Nodup [n] by simp)
  | .defi _ _ _ _ => List.nodup_nil
theorem called_inj : ∀ i, i < 25 → ∀ k, k < 25 → calledL[i]? = calledL[k]? → i = k := by decide +kernel
theorem called_lt {k : Nat} {n : Str} (h : calledL[k]? = some n) : k < 25 := (List.getElem?_eq_some_iff.mp h).1
theorem book_ok {c : Nat} {mm : Int} (mm0 : 0 ≤ mm) (mm1 : mm ≤ 12) {ps : List D} {Q : Rv → List D → Prop} (hp : Pot c ps) (hc : c < 700000) (q : ∀ ss its lim ps', GB ss its lim → Pot (c + 1300) ps' → Q (.d (bookD ss its lim)) ps') : w__law_book ps [.int 6, .int 3, .int mm] Q := by
  refine ⟨⟨_, rfl⟩, .inl ⟨_, rfl, .inl ⟨_, rfl, ?_⟩⟩⟩
  refine ⟨_, rfl, rfl, sorts_ok hp (by omega) fun ss ps1 hs hp1 => ⟨_, rfl, show 0 ≤ sizeLine by decide, noBag_of (fun s hs ks => by simp [slotsP] at hs; rcases hs with rfl | rfl | rfl | rfl | rfl <;> simp), _, _, _, rfl, ?_⟩⟩
  refine ⟨⟨_, rfl⟩, .inl ⟨_, rfl, _, rfl, ?_⟩⟩
  refine ⟨_, rfl, rfl, take_ok hp1 (by omega) (by omega) (by omega) fun n ps2 n0 n1 hp2 => ⟨_, rfl, n, rfl, by omega, by omega, ?_⟩⟩
  refine ⟨fun i ρ => ∃ (ps' : List D) (its : List Item) (ks : List NK) (s7 s8 s9 : Sl), ρ = [.own ps', .dat (.int 6), .dat (.int 3), .dat (.int mm), .dat (.tuple (ss.map pD)), .own (its.map itD), .bag ks, s7, s8, s9] ∧ its.length ≤ i ∧ ks.length ≤ i ∧ (∀ it ∈ its, ∃ k, k < i ∧ GoodItem ss k it) ∧ (its.filterMap convName).Nodup ∧ Pot (c + 21 + 100 * i) ps', ?_, ?_, ?_⟩
  · exact ⟨ps2, [], [], .un, .un, .un, rfl, Nat.zero_le _, Nat.zero_le _, fun it h => by simp at h, List.nodup_nil, hp2⟩
  · rintro i x ρ hx ⟨ps', its, ks, s7, s8, s9, rfl, hil, hkl, hgood, hnd, hp'⟩
    obtain ⟨rfl, hlt⟩ := upto_get hx
    have hlt : i < 12 := by omega
    rw [Int.zero_add]
    show wSeq _ _ _ _
    refine ⟨⟨_, rfl⟩, .inl ⟨_, rfl, .inl ⟨_, rfl, ?_⟩⟩⟩
    refine ⟨_, rfl, rfl, item_ok hp' (by omega) hs (by omega) fun it ps3 hit hp3 => ⟨_, rfl, ?_⟩⟩
    have small : (100 : Nat) < sizeLine := by decide
    -- what the item is kept by
    have key : ∀ (rt : Rv → List Sl → Prop) (bk ct : List Sl → Prop) (d : D), (∃ k, nkOf d = some k ∧ k.depth ≤ 8) → topD d = true →
      (wSeq (wIfS (wTst (wInB true 6 (wVar 9))) (wSeq (wPutB 6 (wVar 9) (wC (.bool true))) (wDrop (wApp 5 (wVar 8)))) wNext) wNext)
        ⟨fun ρ => ∃ (ps' : List D) (its : List Item) (ks : List NK) (s7 s8 s9 : Sl), ρ = [.own ps', .dat (.int 6), .dat (.int 3), .dat (.int mm), .dat (.tuple (ss.map pD)), .own (its.map itD), .bag ks, s7, s8, s9] ∧ its.length ≤ i + 1 ∧ ks.length ≤ i + 1 ∧ (∀ it ∈ its, ∃ k, k < i + 1 ∧ GoodItem ss k it) ∧ (its.filterMap convName).Nodup ∧ Pot (c + 21 + 100 * (i + 1)) ps', rt, bk, ct⟩
        [.own ps3, .dat (.int 6), .dat (.int 3), .dat (.int mm), .dat (.tuple (ss.map pD)), .own (its.map itD), .bag ks, .dat (.int (i : Nat)), .dat (itD it), .dat d] := by
      rintro rt bk ct d ⟨k, hk, hd⟩ ht
      refine .inl ⟨_, rfl, ks, k, rfl, hk, hd, ht, _, rfl, ?_⟩
      refine ite2 (fun c1 => ?_) (fun c1 => ?_)
      · have nk : k ∉ ks := fun z => by rw [decide_eq_true z] at c1; exact absurd c1 (by decide)
        refine ⟨⟨_, rfl⟩, .inl ⟨_, rfl, ks, k, rfl, hk, hd, ht, by omega, ⟨_, rfl⟩, .inl ⟨_, rfl, _, rfl, by rw [List.length_map]; omega, ?_⟩⟩⟩
        refine ⟨ps3, its ++ [it], ks ++ [k], .dat (.int (i : Nat)), .dat (itD it), .dat d, ?_, by simp; omega, by simp; omega, fun it2 h2 => ?_, ?_, hp3.mono (by omega)⟩
        · rw [List.map_append, if_neg nk]; rfl
        · rcases List.mem_append.mp h2 with z | z
          · obtain ⟨k2, a, b⟩ := hgood it2 z
            exact ⟨k2, by omega, b⟩
          · rw [List.mem_singleton.mp z]; exact ⟨i, by omega, hit⟩
        · rw [List.filterMap_append, List.nodup_append]
          refine ⟨hnd, ?_, ?_⟩
          · exact nd1 it
          · intro a ha b hb e
            subst e
            obtain ⟨it2, h2, e2⟩ := List.mem_filterMap.mp ha
            obtain ⟨k2, hk2, g2⟩ := hgood it2 h2
            cases it with
            | defi _ _ _ _ => simp [convName] at hb
            | conv nm st en bb row =>
              simp [convName] at hb
              subst hb
              cases it2 with
              | defi _ _ _ _ => simp [convName] at e2
              | conv nm2 st2 en2 bb2 row2 =>
                simp [convName] at e2
                subst e2
                have e3 : calledL[k2]? = calledL[i]? := g2.1.trans hit.1.symm
                have := called_inj k2 (by omega) i (by omega) e3
                omega
      · exact ⟨ps3, its, ks, _, _, _, rfl, by omega, by omega, fun it2 h2 => let ⟨k2, a, b⟩ := hgood it2 h2; ⟨k2, by omega, b⟩, hnd, hp3.mono (by omega)⟩
    cases it with
    | conv nm st en bb row =>
      refine ⟨.inl ⟨_, rfl⟩, .inl ⟨_, _, rfl, rfl, _, rfl, _, rfl, ifF (.inl ⟨_, rfl, key _ _ _ (.int (i : Nat)) ⟨_, rfl, show (0 : Nat) ≤ 8 by decide⟩ rfl⟩)⟩⟩
    | defi w nd en row =>
      refine ⟨.inl ⟨_, rfl⟩, .inl ⟨_, _, rfl, rfl, _, rfl, _, rfl, ifT (.inl ⟨_, rfl, _, rfl, _, rfl, _, rfl, key _ _ _ _ (key_of w nd en) rfl⟩)⟩⟩
  · rintro ρ ⟨ps', its, ks, s7, s8, s9, rfl, hil, hkl, hgood, hnd, hp'⟩
    rw [upto_length] at hil hp'
    refine .inl ⟨_, rfl, .inr ⟨_, rfl, _, rfl, ⟨_, rfl⟩, show 5 ≤ sizeLine by decide, _, rfl, rfl, of_ok (hp'.mono (by omega : _ ≤ c + 1250)) (by omega) (by simp) (by simp) fun d ps3 hd hp3 => ⟨_, rfl, show 3 ≤ sizeLine by decide, _, rfl, ?_⟩⟩⟩
    have hw : ∃ l : Int, d = .int l ∧ 0 ≤ l ∧ l ≤ 4 := by
      simp only [List.mem_cons, List.not_mem_nil, or_false] at hd
      rcases hd with rfl | rfl | rfl | rfl | rfl <;> exact ⟨_, rfl, by decide, by decide⟩
    obtain ⟨l, rfl, l0, l1⟩ := hw
    exact q ss its l ps3 ⟨hs, by omega, fun it h => let ⟨k, _, g⟩ := hgood it h; ⟨k, g⟩, hnd, l0, l1⟩ (hp3.mono (by omega))
end K7
namespace K7
open PySem PySem.Spec PyProof.Rows L2 DL
/-! all chains: level by level, and each with what follows it -/
structure En7 where
  pl : List Int
  nm : List Str
  sn : List Str
structure St7 where
  k : Nat
  n : Str
  s : Str
  m : Str
def stE : Item × Nat → Option St7
  | (.conv n s m true _, k) => some ⟨k, n, s, m⟩
  | _ => none
def steps (its : List Item) : List St7 := its.zipIdx.filterMap stE
def fits (x : En7) (q : St7) : Bool := decide (x.sn.getLast? = some q.s) && decide (q.m ∉ x.sn)
def grow (x : En7) (q : St7) : En7 := ⟨x.pl ++ [(q.k : Int)], x.nm ++ [q.n], x.sn ++ [q.m]⟩
def ext (st : List St7) (x : En7) : List En7 := (st.filter (fits x)).map (grow x)
def desc (st : List St7) : Nat → En7 → List En7
  | 0, x => [x]
  | n + 1, x => x :: (ext st x).flatMap (desc st n)
def lev (st : List St7) : Nat → List En7 → List En7
  | 0, l => l
  | n + 1, l => l ++ lev st n (l.flatMap (ext st))
def lv (st : List St7) : Nat → List En7 → List En7
  | 0, l => l
  | n + 1, l => lv st n (l.flatMap (ext st))
theorem lev_snoc (st : List St7) : ∀ (n : Nat) (l : List En7), lev st (n + 1) l = lev st n l ++ lv st (n + 1) l
  | 0, l => rfl
  | n + 1, l => by
    show l ++ lev st (n + 1) (l.flatMap (ext st)) = (l ++ lev st n (l.flatMap (ext st))) ++ lv st (n + 1) (l.flatMap (ext st))
    rw [lev_snoc st n, List.append_assoc]
theorem lv_snoc (st : List St7) : ∀ (n : Nat) (l : List En7), lv st (n + 1) l = (lv st n l).flatMap (ext st)
  | 0, l => rfl
  | n + 1, l => lv_snoc st n (l.flatMap (ext st))
theorem lev_perm (st : List St7) : ∀ (n : Nat) (l : List En7), (lev st n l).Perm (l.flatMap (desc st n))
  | 0, l => by
    have e : l.flatMap (desc st 0) = l := by
      induction l with
      | nil => rfl
      | cons x l ih => rw [List.flatMap_cons, ih]; rfl
    rw [e]
    exact List.Perm.refl _
  | n + 1, l => by
    show (l ++ lev st n (l.flatMap (ext st))).Perm _
    refine ((lev_perm st n (l.flatMap (ext st))).append_left l).trans ?_
    induction l with
    | nil => exact List.Perm.refl _
    | cons x l ih =>
      rw [List.flatMap_cons, List.flatMap_append, List.flatMap_cons]
      show (x :: (l ++ ((ext st x).flatMap (desc st n) ++ (l.flatMap (ext st)).flatMap (desc st n)))).Perm (x :: (ext st x).flatMap (desc st n) ++ l.flatMap (desc st (n + 1)))
      refine .cons x ?_
      refine List.Perm.trans ?_ (ih.append_left _)
      rw [← List.append_assoc, ← List.append_assoc]
      exact List.perm_append_comm.append_right _
/-! their order -/
def klt (x y : En7) : Prop := x.pl.length < y.pl.length ∨ (x.pl.length = y.pl.length ∧ x.pl < y.pl)
instance (x y : En7) : Decidable (klt x y) := by unfold klt; infer_instance
theorem lex_app : ∀ {a b : List Int} (c d : List Int), a.length = b.length → a < b → a ++ c < b ++ d
  | [], [], c, d, _, h => absurd h (by simp)
  | x :: a, y :: b, c, d, hl, h => by
    rw [List.cons_lt_cons_iff] at h
    rw [List.cons_append, List.cons_append, List.cons_lt_cons_iff]
    rcases h with h | ⟨e, h⟩
    · exact .inl h
    · exact .inr ⟨e, lex_app c d (by simpa using hl) h⟩
theorem lex_last : ∀ (a : List Int) {x y : Int}, x < y → a ++ [x] < a ++ [y]
  | [], x, y, h => by
    show [x] < [y]
    rw [List.cons_lt_cons_iff]; exact .inl h
  | z :: a, x, y, h => by
    rw [List.cons_append, List.cons_append, List.cons_lt_cons_iff]
    exact .inr ⟨rfl, lex_last a h⟩
theorem zip_pair (its : List Item) : ∀ k : Nat, (its.zipIdx k).Pairwise fun a b => a.2 < b.2 := by
  induction its with
  | nil => intro k; exact .nil
  | cons x its ih =>
    intro k
    rw [List.zipIdx_cons]
    refine List.pairwise_cons.mpr ⟨fun b hb => ?_, ih (k + 1)⟩
    have := List.mem_zipIdx hb
    show k < b.2
    omega
theorem steps_pair (its : List Item) : (steps its).Pairwise fun a b => a.k < b.k := by
  unfold steps
  refine List.Pairwise.filterMap _ (fun a b hab c hc d hd => ?_) (zip_pair its 0)
  obtain ⟨i, k⟩ := a
  obtain ⟨j, k2⟩ := b
  cases i with
  | defi _ _ _ _ => cases hc
  | conv n s m bb row =>
    cases bb with
    | false => cases hc
    | true =>
      cases hc
      cases j with
      | defi _ _ _ _ => cases hd
      | conv n s m bb row =>
        cases bb with
        | false => cases hd
        | true => cases hd; exact hab
theorem ext_len {st : List St7} {x y : En7} (h : y ∈ ext st x) : y.pl.length = x.pl.length + 1 := by
  obtain ⟨q, _, rfl⟩ := List.mem_map.mp h
  simp [grow]
theorem ext_pair {st : List St7} (hs : st.Pairwise fun a b => a.k < b.k) (x : En7) : (ext st x).Pairwise fun a b => a.pl < b.pl := by
  unfold ext
  rw [List.pairwise_map]
  exact (hs.filter _).imp fun {a b} h => lex_last _ (Int.ofNat_lt.mpr h)
theorem next_pair {st : List St7} (hs : st.Pairwise fun a b => a.k < b.k) : ∀ {l : List En7} {a : Nat}, (∀ x ∈ l, x.pl.length = a) → l.Pairwise (fun a b => a.pl < b.pl) → (l.flatMap (ext st)).Pairwise (fun a b => a.pl < b.pl) ∧ ∀ x ∈ l.flatMap (ext st), x.pl.length = a + 1
  | [], a, _, _ => ⟨.nil, fun x h => by simp at h⟩
  | x :: l, a, hl, hp => by
    obtain ⟨h1, h2⟩ := List.pairwise_cons.mp hp
    obtain ⟨i1, i2⟩ := next_pair hs (l := l) (a := a) (fun y hy => hl y (.tail _ hy)) h2
    have hx := hl x List.mem_cons_self
    refine ⟨?_, fun y hy => ?_⟩
    · rw [List.flatMap_cons, List.pairwise_append]
      refine ⟨ext_pair hs x, i1, fun y hy z hz => ?_⟩
      obtain ⟨w, hw, hzw⟩ := List.mem_flatMap.mp hz
      obtain ⟨q, _, rfl⟩ := List.mem_map.mp hy
      obtain ⟨r, _, rfl⟩ := List.mem_map.mp hzw
      exact lex_app _ _ (by rw [hx, hl w (.tail _ hw)]) (h1 w hw)
    · rw [List.flatMap_cons] at hy
      rcases List.mem_append.mp hy with z | z
      · rw [ext_len z, hx]
      · exact i2 y z
theorem lev_ge {st : List St7} (hs : st.Pairwise fun a b => a.k < b.k) : ∀ (n : Nat) {l : List En7} {a : Nat}, (∀ x ∈ l, x.pl.length = a) → l.Pairwise (fun a b => a.pl < b.pl) → (lev st n l).Pairwise klt ∧ ∀ x ∈ lev st n l, a ≤ x.pl.length
  | 0, l, a, hl, hp => ⟨hp.imp_of_mem fun {x y} hx hy h => .inr ⟨by rw [hl x hx, hl y hy], h⟩, fun x hx => by rw [hl x hx]; exact Nat.le_refl _⟩
  | n + 1, l, a, hl, hp => by
    obtain ⟨a1, a2⟩ := next_pair hs hl hp
    obtain ⟨b1, b2⟩ := lev_ge hs n a2 a1
    refine ⟨List.pairwise_append.mpr ⟨hp.imp_of_mem fun {x y} hx hy h => .inr ⟨by rw [hl x hx, hl y hy], h⟩, b1, fun x hx y hy => ?_⟩, fun x hx => ?_⟩
    · have := b2 y hy
      rw [← hl x hx] at this
      exact .inl (by omega)
    · rcases List.mem_append.mp hx with z | z
      · rw [hl x z]; exact Nat.le_refl _
      · have := b2 x z; omega
/-! as data -/
def lastD (x : En7) : D := match x.sn.getLast? with | some e => .str e | none => .none
def fD (x : En7) : D := .tuple [.int (x.nm.length : Nat), .list (x.pl.map .int), .tuple (x.nm.map .str), lastD x]
theorem alike_ints : ∀ xs ys : List Int, PySem.W.alikeAll (xs.map .int) (ys.map .int) = true
  | [], _ => by simp [PySem.W.alikeAll]
  | _ :: _, [] => by simp [PySem.W.alikeAll]
  | x :: xs, y :: ys => by
    simp only [List.map_cons, PySem.W.alikeAll, PySem.W.alike, Bool.true_and]
    exact alike_ints xs ys
theorem alike_strs : ∀ xs ys : List Str, PySem.W.alikeAll (xs.map .str) (ys.map .str) = true
  | [], _ => by simp [PySem.W.alikeAll]
  | _ :: _, [] => by simp [PySem.W.alikeAll]
  | x :: xs, y :: ys => by
    simp only [List.map_cons, PySem.W.alikeAll, PySem.W.alike, Bool.true_and]
    exact alike_strs xs ys
theorem eqv_ints : ∀ xs ys : List Int, PyData.eqvAll (xs.map .int) (ys.map .int) = decide (xs = ys)
  | [], [] => rfl
  | [], _ :: _ => rfl
  | _ :: _, [] => rfl
  | x :: xs, y :: ys => by
    show ((x == y) && PyData.eqvAll (xs.map .int) (ys.map .int)) = _
    rw [eqv_ints xs ys]
    by_cases h : x = y
    · subst h; simp
    · simp [h]
theorem lt_fD (x y : En7) (hx : x.nm.length = x.pl.length) (hy : y.nm.length = y.pl.length) (ne : x.pl ≠ y.pl) : PySem.W.dataLt (fD x) (fD y) = decide (klt x y) := by
  unfold fD
  rw [PySem.W.dataLt_tuple, PySem.W.dataLt_cons rfl]
  by_cases hl : x.pl.length = y.pl.length
  · have e1 : PyData.eqv (.int ((x.nm.length : Nat) : Int)) (.int ((y.nm.length : Nat) : Int)) = true := by
      rw [hx, hy, hl]; exact beq_self_eq_true _
    rw [if_pos e1, PySem.W.dataLt_cons (show PySem.W.alike (.list (x.pl.map .int)) (.list (y.pl.map .int)) = true from alike_ints _ _)]
    have e2 : PyData.eqv (.list (x.pl.map .int)) (.list (y.pl.map .int)) = false := by
      show PyData.eqvAll _ _ = false
      rw [eqv_ints]; exact decide_eq_false ne
    rw [if_neg (by rw [e2]; exact Bool.false_ne_true), PySem.W.dataLt_list]
    show PySem.W.rowLt (x.pl.map .int) (y.pl.map .int) = _
    rw [PySem.W.dataLt_ints]
    unfold klt
    simp [hl]
  · have e1 : PyData.eqv (.int ((x.nm.length : Nat) : Int)) (.int ((y.nm.length : Nat) : Int)) = false := by
      rw [hx, hy]
      exact beq_eq_false_iff_ne.mpr (by omega)
    rw [if_neg (by rw [e1]; exact Bool.false_ne_true), PySem.W.dataLt_int, hx, hy]
    unfold klt
    simp [hl]
theorem klt_anti {x y : En7} (h1 : klt x y) (h2 : klt y x) : False := by
  rcases h1 with h1 | ⟨e1, h1⟩
  · rcases h2 with h2 | ⟨e2, h2⟩ <;> omega
  · rcases h2 with h2 | ⟨e2, h2⟩
    · omega
    · exact absurd h2 (List.lt_asymm h1)
theorem klt_ne {x y : En7} (h : klt x y) : x.pl ≠ y.pl := fun e => by
  rcases h with h | ⟨_, h⟩
  · rw [e] at h; omega
  · rw [e] at h; exact List.lt_irrefl _ h
theorem pair_or {α : Type} {R : α → α → Prop} : ∀ {l : List α}, l.Pairwise R → ∀ a ∈ l, ∀ b ∈ l, a = b ∨ R a b ∨ R b a
  | [], _, a, ha, _, _ => by cases ha
  | x :: l, h, a, ha, b, hb => by
    obtain ⟨h1, h2⟩ := List.pairwise_cons.mp h
    rcases List.mem_cons.mp ha with e1 | e1
    · rcases List.mem_cons.mp hb with e2 | e2
      · exact .inl (e1.trans e2.symm)
      · exact .inr (.inl (e1 ▸ h1 b e2))
    · rcases List.mem_cons.mp hb with e2 | e2
      · exact .inr (.inr (e2 ▸ h1 a e1))
      · exact pair_or h2 a e1 b e2
/-- sorted by places they stand as the levels have them -/
theorem sort_lev {l fd : List En7} (hp : l.Pairwise klt) (hn : ∀ x ∈ l, x.nm.length = x.pl.length) (pm : fd.Perm l) : (fd.map fD).mergeSort (PySem.W.dataLe false fun d => d) = l.map fD := by
  have T := PySem.W.sortLe_total (listOrd itemOrd) false (fun d : D => PySem.W.keyToks d)
  have le_of : ∀ x ∈ l, ∀ y ∈ l, klt x y → PySem.W.dataLe false (fun d : D => d) (fD x) (fD y) = true := fun x hx y hy h => by
    show (!PySem.W.dataLt (fD y) (fD x)) = true
    rw [lt_fD y x (hn y hy) (hn x hx) (klt_ne h).symm, decide_eq_false fun z => klt_anti h z]; rfl
  refine List.Perm.eq_of_pairwise (le := fun a b => PySem.W.dataLe false (fun d : D => d) a b = true) (fun a b ha hb h1 h2 => ?_) ?_ ?_ ((List.mergeSort_perm _ _).trans (pm.map fD))
  · have ha2 := (pm.map fD).mem_iff.mp ((List.mergeSort_perm _ _).mem_iff.mp ha)
    obtain ⟨x, hx, rfl⟩ := List.mem_map.mp ha2
    obtain ⟨y, hy, rfl⟩ := List.mem_map.mp hb
    rcases pair_or hp x hx y hy with e | h | h
    · rw [e]
    · have z : (!PySem.W.dataLt (fD x) (fD y)) = true := h2
      rw [lt_fD x y (hn x hx) (hn y hy) (klt_ne h), decide_eq_true h] at z
      cases z
    · have z : (!PySem.W.dataLt (fD y) (fD x)) = true := h1
      rw [lt_fD y x (hn y hy) (hn x hx) (klt_ne h), decide_eq_true h] at z
      cases z
  · exact List.pairwise_mergeSort T.trans (fun a b => by have := T.total a b; simpa using this) _
  · rw [List.pairwise_map]
    exact hp.imp_of_mem fun {x y} hx hy h => le_of x hx y hy h
end K7
namespace K7
open PySem PySem.Spec PyProof.Rows L2 DL
theorem fm_take {α β : Type} {f : α → Option β} {xs : List α} {i : Nat} {a : α} (h : xs[i]? = some a) : (xs.take (i + 1)).filterMap f = (xs.take i).filterMap f ++ (match f a with | some b => [b] | none => []) := by
  rw [List.take_add_one, h, List.filterMap_append]
  congr 1
  cases e : f a with
  | none => simp [e]
  | some b => simp [e]
theorem strs_plain : ∀ xs : List Str, PyData.plainAll (xs.map .str) = true
  | [] => rfl
  | x :: xs => by
    show (PyData.plain (.str x) && PyData.plainAll (xs.map .str)) = true
    rw [strs_plain xs]; rfl
theorem ints_plain : ∀ xs : List Int, PyData.plainAll (xs.map .int) = true
  | [] => rfl
  | x :: xs => by
    show (PyData.plain (.int x) && PyData.plainAll (xs.map .int)) = true
    rw [ints_plain xs]; rfl
theorem any_strs (x : Str) : ∀ xs : List Str, ((xs.map PyData.str).any fun y => PyData.eqv y (.str x)) = decide (x ∈ xs)
  | [] => rfl
  | y :: xs => by
    rw [List.map_cons, List.any_cons, any_strs x xs]
    show ((y == x) || decide (x ∈ xs)) = _
    by_cases e : y = x
    · subst e; simp
    · have e2 : (y == x) = false := beq_eq_false_iff_ne.mpr e
      have e3 : ¬ x = y := fun z => e z.symm
      rw [e2, Bool.false_or]
      simp [e3]
theorem notIn_ok (x : Str) (xs : List Str) : notInD (.str x) (.tuple (xs.map .str)) = some (.bool (!decide (x ∈ xs))) := by
  have m : memD (.str x) (.tuple (xs.map .str)) = some ((xs.map PyData.str).any fun y => PyData.eqv y (.str x)) := if_pos (by
    simp only [PyData.plain, strs_plain, Bool.and_self, Bool.true_and, decide_eq_true_eq]
    exact Nat.le_trans (Nat.min_le_right _ _) (by simp [PyData.depth]))
  unfold notInD
  rw [m, any_strs]
  rfl
theorem ix_last {xs : List Str} {e : Str} (h : xs.getLast? = some e) : ixD (.tuple (xs.map .str)) (.int (-1)) = some (.str e) := by
  refine atI_map (g := PyData.str) (i := -1) ?_
  have hne : 0 < xs.length := by
    cases xs with
    | nil => simp at h
    | cons _ _ => simp
  rw [List.getLast?_eq_getElem?] at h
  unfold L2.atI
  have e1 : ixN xs.length (-1) = some (xs.length - 1) := by
    unfold ixN
    rw [if_neg (by decide), if_pos (by omega)]
    congr 1
    omega
  rw [e1]
  exact h
/-- where the implicit conversions stand -/
def plE : Item × Nat → Option (Str × Int)
  | (.conv n _ _ true _, k) => some (n, (k : Nat))
  | _ => none
theorem pl_sub : ∀ (its : List Item) (k : Nat), (((its.zipIdx k).filterMap plE).map (·.1)).Sublist (its.filterMap convName)
  | [], _ => .slnil
  | .conv n s m b row :: its, k => by
    have ih := pl_sub its (k + 1)
    rw [List.zipIdx_cons]
    have e2 : ((Item.conv n s m b row :: its).filterMap convName) = n :: its.filterMap convName := rfl
    rw [e2]
    cases b with
    | true => exact ih.cons₂ n
    | false => exact ih.cons n
  | .defi w nd e row :: its, k => by
    rw [List.zipIdx_cons]
    exact pl_sub its (k + 1)
def places (its : List Item) : D := .dict (kD (cntE (its.zipIdx.filterMap plE)))
/-- a book whose chains are looked at: fewer than b items, words of at most L signs as shown -/
structure CB (b L : Nat) (ss : List (Str × Int)) (its : List Item) (lim : Int) : Prop where
  ne : ss ≠ []
  len : ss.length ≤ 6
  wd : ∀ p ∈ ss, Wd p.1
  few : its.length < b
  nd : (its.filterMap convName).Nodup
  l0 : 0 ≤ lim
  l1 : lim ≤ 4
  wl : ∀ n s m bb row, Item.conv n s m bb row ∈ its → (reprText n).length ≤ L ∧ m ∈ ss.map (·.1)
  b22 : b ≤ 22
  bnd : b ^ 4 * (4 * (L + 2) + 5) ≤ 15000000
theorem steps_mem {its : List Item} {q : St7} (h : q ∈ steps its) : (q.n, (q.k : Int)) ∈ its.zipIdx.filterMap plE ∧ ∃ row, Item.conv q.n q.s q.m true row ∈ its := by
  obtain ⟨⟨it, k⟩, hm, e⟩ := List.mem_filterMap.mp h
  cases it with
  | defi _ _ _ _ => cases e
  | conv n s m bb row =>
    cases bb with
    | false => cases e
    | true =>
      cases e
      refine ⟨List.mem_filterMap.mpr ⟨_, hm, rfl⟩, row, ?_⟩
      have := (List.mem_zipIdx hm).2.2
      rw [this]
      exact List.getElem_mem _
theorem place_of {its : List Item} (nd : (its.filterMap convName).Nodup) {q : St7} (h : q ∈ steps its) : ixD (places its) (.str q.n) = some (.int (q.k : Nat)) :=
  lookD_mem (cnt_nd ((pl_sub its 0).nodup nd)) (List.mem_map_of_mem (f := fun p : Str × Int => ((.inr p.1 : Key), PyData.int p.2)) (steps_mem h).1)
theorem dict_pl {its : List Item} (nd : (its.filterMap convName).Nodup) : dictL [.list ((its.zipIdx.filterMap plE).map pD)] = some (places its) := by
  show (pairsD _).map (fun es => PyData.dict (kD (mergeP [] es))) = _
  rw [pairs_cnt, Option.map_some, mergeP_nd _ _ (by simpa using cnt_nd ((pl_sub its 0).nodup nd))]
  rfl
theorem steps_len (its : List Item) : (steps its).length ≤ its.length := by
  have := List.length_filterMap_le stE its.zipIdx
  rw [List.length_zipIdx] at this
  exact this
/-- what is known of an entry -/
structure Ok7 (its : List Item) (start : Str) (x : En7) : Prop where
  ln : x.nm.length = x.pl.length
  ls : x.sn.length = x.pl.length + 1
  le : ∃ e, x.sn.getLast? = some e
  at' : ∀ (j : Nat) (n : Str), x.nm[j]? = some n → ∃ k : Int, x.pl[j]? = some k ∧ ixD (places its) (.str n) = some (.int k)
  ms : ∀ m ∈ x.sn, m = start ∨ ∃ q ∈ steps its, q.m = m
  ns : ∀ n ∈ x.nm, ∃ q ∈ steps its, q.n = n
def root (start : Str) : En7 := ⟨[], [], [start]⟩
theorem root_ok (its : List Item) (start : Str) : Ok7 its start (root start) :=
  ⟨rfl, rfl, ⟨start, rfl⟩, fun j n h => by simp [root] at h, fun m h => .inl (List.mem_singleton.mp h), fun n h => by simp [root] at h⟩
theorem grow_ok {its : List Item} (nd : (its.filterMap convName).Nodup) {start : Str} {x : En7} (h : Ok7 its start x) {q : St7} (hq : q ∈ steps its) : Ok7 its start (grow x q) := by
  refine ⟨by simp [grow, h.ln], by simp [grow, h.ls], ⟨q.m, by simp [grow]⟩, fun j n hj => ?_, fun m hm => ?_, fun n hn => ?_⟩
  · show ∃ k, (x.pl ++ [(q.k : Int)])[j]? = some k ∧ _
    have hj : (x.nm ++ [q.n])[j]? = some n := hj
    by_cases hl : j < x.nm.length
    · rw [List.getElem?_append_left hl] at hj
      obtain ⟨k, a, b⟩ := h.at' j n hj
      exact ⟨k, by rw [List.getElem?_append_left (by rw [← h.ln]; exact hl)]; exact a, b⟩
    · have he : j = x.nm.length := by
        have := (List.getElem?_eq_some_iff.mp hj).1
        rw [List.length_append, List.length_singleton] at this
        omega
      subst he
      rw [List.getElem?_append_right (Nat.le_refl _), Nat.sub_self] at hj
      cases hj
      exact ⟨q.k, by rw [h.ln, List.getElem?_append_right (Nat.le_refl _), Nat.sub_self]; rfl, place_of nd hq⟩
  · rcases List.mem_append.mp hm with z | z
    · exact h.ms m z
    · rw [List.mem_singleton.mp z]; exact .inr ⟨q, hq, rfl⟩
  · rcases List.mem_append.mp hn with z | z
    · exact h.ns n z
    · rw [List.mem_singleton.mp z]; exact ⟨q, hq, rfl⟩
theorem ext_ok {its : List Item} (nd : (its.filterMap convName).Nodup) {start : Str} {x y : En7} (h : Ok7 its start x) (hy : y ∈ ext (steps its) x) : Ok7 its start y := by
  obtain ⟨q, hq, rfl⟩ := List.mem_map.mp hy
  exact grow_ok nd h (List.mem_filter.mp hq).1
theorem lev_ok {its : List Item} (nd : (its.filterMap convName).Nodup) {start : Str} : ∀ (n : Nat) {l : List En7} {a : Nat}, (∀ x ∈ l, Ok7 its start x ∧ x.pl.length = a) → (∀ x ∈ lev (steps its) n l, Ok7 its start x ∧ x.pl.length ≤ a + n) ∧ ∀ x ∈ lv (steps its) n l, Ok7 its start x ∧ x.pl.length = a + n
  | 0, l, a, h => ⟨fun x hx => ⟨(h x hx).1, by rw [(h x hx).2]; exact Nat.le_refl _⟩, h⟩
  | n + 1, l, a, h => by
    have h2 : ∀ x ∈ l.flatMap (ext (steps its)), Ok7 its start x ∧ x.pl.length = a + 1 := fun x hx => by
      obtain ⟨y, hy, hxy⟩ := List.mem_flatMap.mp hx
      exact ⟨ext_ok nd (h y hy).1 hxy, by rw [ext_len hxy, (h y hy).2]⟩
    obtain ⟨i1, i2⟩ := lev_ok nd n h2
    refine ⟨fun x hx => ?_, fun x hx => ⟨(i2 x hx).1, by rw [(i2 x hx).2]; omega⟩⟩
    rcases List.mem_append.mp hx with z | z
    · exact ⟨(h x z).1, by rw [(h x z).2]; omega⟩
    · exact ⟨(i1 x z).1, by have := (i1 x z).2; omega⟩
theorem desc_len (st : List St7) : ∀ (n : Nat) (x : En7), (desc st n x).length ≤ (st.length + 1) ^ n
  | 0, x => by simp [desc]
  | n + 1, x => by
    have he : (ext st x).length ≤ st.length := by
      unfold ext; rw [List.length_map]; exact List.length_filter_le _ _
    have go : ∀ l : List En7, (l.flatMap (desc st n)).length ≤ l.length * (st.length + 1) ^ n := fun l => by
      induction l with
      | nil => simp
      | cons y l ih =>
        rw [List.flatMap_cons, List.length_append, List.length_cons, Nat.succ_mul]
        have := desc_len st n y
        omega
    have h1 := go (ext st x)
    have h2 := Nat.mul_le_mul_right ((st.length + 1) ^ n) he
    have hp : 0 < (st.length + 1) ^ n := Nat.pow_pos (by omega)
    show ((ext st x).flatMap (desc st n)).length + 1 ≤ _
    rw [Nat.pow_succ, Nat.mul_comm, Nat.succ_mul]
    omega
theorem lev_len (st : List St7) (n : Nat) (x : En7) : (lev st n [x]).length ≤ (st.length + 1) ^ n := by
  rw [(lev_perm st n [x]).length_eq]
  have := desc_len st n x
  simpa using this
theorem lv_len (st : List St7) : ∀ (n : Nat) (l : List En7), (lv st n l).length ≤ (lev st n l).length
  | 0, l => Nat.le_refl _
  | n + 1, l => by
    have := lv_len st n (l.flatMap (ext st))
    show (lv st n _).length ≤ (l ++ lev st n _).length
    rw [List.length_append]; omega
theorem pow_b {b L : Nat} {ss : List (Str × Int)} {its : List Item} {lim : Int} (g : CB b L ss its lim) {n : Nat} (hn : n ≤ 4) : ((steps its).length + 1) ^ n ≤ b ^ 4 ∧ b ^ 4 ≤ 240000 := by
  have h1 := steps_len its
  have h2 := g.few
  refine ⟨Nat.le_trans (Nat.pow_le_pow_left (by omega : (steps its).length + 1 ≤ b) n) (Nat.pow_le_pow_right (by omega) hn), ?_⟩
  exact Nat.le_trans (Nat.pow_le_pow_left g.b22 4) (by decide)
/-! the code -/
def cD (x : En7) : D := .tuple [.tuple (x.nm.map .str), .tuple (x.sn.map .str)]
def cvE : Item → Option (Str × Str × Str × Bool)
  | .conv n s m b _ => some (n, s, m, b)
  | .defi _ _ _ _ => none
def cvD (x : Str × Str × Str × Bool) : D := .tuple [.str x.1, .str x.2.1, .str x.2.2.1, .bool x.2.2.2]
def imE (x : Str × Str × Str × Bool) : Option (Str × Str × Str) := if x.2.2.2 = true then some (x.1, x.2.1, x.2.2.1) else none
def stD (q : St7) : D := .tuple [.str q.n, .str q.s, .str q.m]
def imS (x : Str × Str × Str × Bool) : Option D := if x.2.2.2 = true then some (.tuple [.str x.1, .str x.2.1, .str x.2.2.1]) else none
theorem im_steps (its : List Item) : (its.filterMap cvE).filterMap imS = (steps its).map stD := by
  have go : ∀ k : Nat, (its.filterMap cvE).filterMap imS = ((its.zipIdx k).filterMap stE).map stD := by
    induction its with
    | nil => intro k; rfl
    | cons it its ih =>
      intro k
      rw [List.zipIdx_cons]
      cases it with
      | defi w nd en row => exact ih (k + 1)
      | conv n s m bb row =>
        cases bb with
        | false => exact ih (k + 1)
        | true =>
          show (PyData.tuple [.str n, .str s, .str m]) :: (its.filterMap cvE).filterMap imS = _
          rw [ih (k + 1)]; rfl
  exact go 0
theorem implicit_ok {ss : List (Str × Int)} {its : List Item} {lim : Int} (hl12 : its.length ≤ 100) {Q : Rv → Prop} (q : Q (.f ((steps its).map stD))) : w_implicit_steps [bookD ss its lim] Q := by
  have small : (1000 : Nat) < sizeLine := by decide
  have hcl := List.length_filterMap_le cvE its
  refine ⟨.inl ⟨_, rfl⟩, .inl ⟨_, _, rfl, rfl, _, rfl, fun i acc ρ => acc = ((its.take i).filterMap cvE).map cvD ∧ ρ = [.dat (bookD ss its lim), .un, .un, .un, .un, .un, .un], ⟨rfl, rfl⟩, ?_, ?_⟩⟩
  · rintro i x acc ρ hx ⟨rfl, rfl⟩
    rw [List.getElem?_map] at hx
    cases hj : its[i]? with
    | none => rw [hj] at hx; cases hx
    | some it =>
      rw [hj] at hx
      cases hx
      have tk := fm_take (f := cvE) hj
      cases it with
      | defi w nd en row2 =>
        refine ⟨.inl ⟨_, rfl⟩, .inl ⟨_, _, rfl, rfl, _, rfl, _, rfl, ifF ⟨?_, rfl⟩⟩⟩
        rw [tk]; simp [cvE]
      | conv n2 s2 m2 b2 row2 =>
        refine ⟨.inl ⟨_, rfl⟩, .inl ⟨_, _, rfl, rfl, _, rfl, _, rfl, ifT (.inl ⟨_, rfl, _, rfl, _, rfl, _, rfl, ?_, ?_, rfl⟩)⟩⟩
        · rw [List.length_map]
          have := List.length_filterMap_le cvE (its.take i)
          rw [List.length_take] at this
          omega
        · rw [tk, List.map_append]; rfl
  rintro acc ρ ⟨rfl, rfl⟩
  rw [List.length_map, List.take_length]
  refine .inl ⟨_, rfl, _, rfl, fun i acc ρ => acc = (((its.filterMap cvE).take i).filterMap imS) ∧ ρ = [.dat (bookD ss its lim), .dat (.list ((its.filterMap cvE).map cvD)), .un, .un, .un, .un, .un], ⟨rfl, rfl⟩, ?_, ?_⟩
  · rintro i x acc ρ hx ⟨rfl, rfl⟩
    rw [List.getElem?_map] at hx
    cases hj : (its.filterMap cvE)[i]? with
    | none => rw [hj] at hx; cases hx
    | some it =>
      rw [hj] at hx
      cases hx
      have hlt := (List.getElem?_eq_some_iff.mp hj).1
      have tk := fm_take (f := imS) hj
      obtain ⟨n, s, m, b⟩ := it
      refine ⟨_, rfl, rfl, .inl ⟨_, rfl, _, rfl, ?_⟩⟩
      cases b with
      | false =>
        refine ifF ⟨?_, rfl⟩
        rw [tk]; simp [imS]
      | true =>
        refine ifT (.inl ⟨_, rfl, .inl ⟨_, rfl, .inl ⟨_, rfl, show 3 ≤ sizeLine by decide, ?_, ?_, rfl⟩⟩⟩)
        · have := List.length_filterMap_le imS ((its.filterMap cvE).take i)
          rw [List.length_take] at this
          omega
        · rw [tk]; rfl
  · rintro acc ρ ⟨rfl, rfl⟩
    rw [List.length_map, List.take_length, im_steps]
    exact q
theorem ways_ok {st : List St7} {x : En7} (hst : st.length ≤ 100) (he : ∃ e, x.sn.getLast? = some e) {Q : Rv → Prop} (q : Q (.f ((st.filter (fits x)).map fun q => PyData.tuple [.str q.n, .str q.m]))) : w_ways_on [.list (st.map stD), .tuple (x.sn.map .str)] Q := by
  have small : (1000 : Nat) < sizeLine := by decide
  obtain ⟨e, he⟩ := he
  refine .inl ⟨_, rfl, _, rfl, fun i acc ρ => acc = ((st.take i).filter (fits x)).map (fun q => PyData.tuple [.str q.n, .str q.m]) ∧ ρ = [.dat (.list (st.map stD)), .dat (.tuple (x.sn.map .str)), .un, .un, .un], ⟨rfl, rfl⟩, ?_, ?_⟩
  · rintro i d acc ρ hx ⟨rfl, rfl⟩
    rw [List.getElem?_map] at hx
    cases hj : st[i]? with
    | none => rw [hj] at hx; cases hx
    | some it =>
      rw [hj] at hx
      cases hx
      have hlt := (List.getElem?_eq_some_iff.mp hj).1
      have tk : (st.take (i + 1)).filter (fits x) = (st.take i).filter (fits x) ++ if fits x it = true then [it] else [] := by
        rw [List.take_add_one, hj, List.filter_append]
        congr 1
        by_cases h : fits x it = true <;> simp [h]
      refine ⟨_, rfl, rfl, .inl ⟨_, rfl, .inl ⟨_, rfl⟩, _, rfl, .inl ⟨_, _, rfl, ix_last he, _, rfl, _, rfl, ?_⟩⟩⟩
      refine ite2 (fun c1 => ?_) (fun c1 => ifF ⟨?_, rfl⟩)
      · have e1 : it.s = e := eq_of_beq c1
        refine .inl ⟨_, rfl, .inl ⟨_, rfl, _, notIn_ok it.m x.sn, _, rfl, ?_⟩⟩
        refine ite2 (fun c2 => ?_) (fun c2 => ⟨?_, rfl⟩)
        · have hm : it.m ∉ x.sn := fun z => by rw [decide_eq_true z] at c2; exact absurd c2 (by decide)
          have ew : fits x it = true := by unfold fits; rw [he, e1]; simp [hm]
          refine .inl ⟨_, rfl, .inl ⟨_, rfl, show 2 ≤ sizeLine by decide, ?_, ?_, rfl⟩⟩
          · rw [List.length_map]
            have := List.length_filter_le (fits x) (st.take i)
            rw [List.length_take] at this
            omega
          · rw [tk, if_pos ew, List.map_append]; rfl
        · have hm : it.m ∈ x.sn := Decidable.byContradiction fun z => c2 (by rw [decide_eq_false z]; rfl)
          have ew : ¬ fits x it = true := by unfold fits; simp [hm]
          rw [tk, if_neg ew]; simp
      · have ew : ¬ fits x it = true := fun z => by
          unfold fits at z
          simp only [Bool.and_eq_true, decide_eq_true_eq] at z
          have z1 := z.1
          rw [he] at z1
          cases z1
          exact c1 (beq_self_eq_true _)
        rw [tk, if_neg ew]; simp
  · rintro acc ρ ⟨rfl, rfl⟩
    rw [List.length_map, List.take_length]
    exact q
end K7
namespace K7
open PySem PySem.Spec PyProof.Rows L2 DL
def all (its : List Item) (lim : Int) (start : Str) : List En7 := lev (steps its) lim.toNat [root start]
theorem app_strs {xs ys : List Str} (h : xs.length + ys.length ≤ 100) : addD (.tuple (xs.map .str)) (.tuple (ys.map .str)) = some (.tuple ((xs ++ ys).map .str)) := by
  have small : (1000 : Nat) < sizeLine := by decide
  show (if (xs.map PyData.str).length + (ys.map PyData.str).length ≤ sizeLine then some (PyData.tuple (xs.map .str ++ ys.map .str)) else none) = _
  rw [if_pos (by rw [List.length_map, List.length_map]; omega), List.map_append]
theorem fme_take {st : List St7} {l : List En7} {i : Nat} {x : En7} (h : l[i]? = some x) : (l.take (i + 1)).flatMap (ext st) = (l.take i).flatMap (ext st) ++ ext st x := by
  rw [List.take_add_one, h, List.flatMap_append]
  simp
theorem fme_le (st : List St7) (l : List En7) (i : Nat) : ((l.take i).flatMap (ext st)).length ≤ (l.flatMap (ext st)).length := by
  conv => rhs; rw [← List.take_append_drop i l]
  rw [List.flatMap_append, List.length_append]; omega
theorem from_ok {b L : Nat} {ss : List (Str × Int)} {its : List Item} {lim : Int} (g : CB b L ss its lim) {start : Str} {Q : Rv → Prop} (q : Q (.f ((all its lim start).map cD))) : w_chains_from [bookD ss its lim, .str start] Q := by
  have small : (1000000 : Nat) < sizeLine := by decide
  have hb := g.b22
  have hf := g.few
  have hst := steps_len its
  have l0 := g.l0
  have l1 := g.l1
  have rk : ∀ x ∈ [root start], Ok7 its start x ∧ x.pl.length = 0 := fun x hx => by rw [List.mem_singleton.mp hx]; exact ⟨root_ok its start, rfl⟩
  refine .inl ⟨_, rfl, rfl, implicit_ok (by omega) ⟨_, rfl, ?_⟩⟩
  refine ⟨show 0 ≤ sizeLine by decide, .inl ⟨_, rfl, show 1 ≤ sizeLine by decide, show 2 ≤ sizeLine by decide, show 1 ≤ sizeLine by decide, ?_⟩⟩
  refine .inl ⟨_, rfl, _, rfl, ?_⟩
  refine ⟨.inl ⟨_, rfl⟩, .inl ⟨_, _, rfl, rfl, lim, rfl, Int.le_trans (by decide) l0, Int.lt_of_le_of_lt l1 (by decide), fun i ρ => i ≤ lim.toNat ∧ ∃ s5 : Sl, ρ = [.dat (bookD ss its lim), .dat (.str start), .dat (.list ((steps its).map stD)), .dat (.list ((lv (steps its) i [root start]).map cD)), .own ((lev (steps its) i [root start]).map cD), s5, .un, .un, .un, .un], ⟨Nat.zero_le _, .un, rfl⟩, ?_, ?_⟩⟩
  · rintro i x ρ hx ⟨hi, s5, rfl⟩
    obtain ⟨_, hlt⟩ := upto_get hx
    have hi4 : i + 1 ≤ 4 := by omega
    obtain ⟨p1, p2⟩ := pow_b g hi4
    have n1 := lev_len (steps its) (i + 1) (root start)
    have n2 := lv_len (steps its) (i + 1) [root start]
    have n3 : (lev (steps its) i [root start]).length ≤ (lev (steps its) (i + 1) [root start]).length := by rw [lev_snoc, List.length_append]; omega
    have lks := (lev_ok g.nd i rk).2
    have nx : (lv (steps its) i [root start]).flatMap (ext (steps its)) = lv (steps its) (i + 1) [root start] := (lv_snoc _ _ _).symm
    generalize hl : lv (steps its) i [root start] = l at lks nx
    refine .inl ⟨_, rfl, _, rfl, fun j acc ρ => j ≤ l.length ∧ acc = ((l.take j).flatMap (ext (steps its))).map cD ∧ ρ = [.dat (bookD ss its lim), .dat (.str start), .dat (.list ((steps its).map stD)), .dat (.list (l.map cD)), .own ((lev (steps its) i [root start]).map cD), .dat x, .un, .un, .un, .un], ⟨Nat.zero_le _, rfl, rfl⟩, ?_, ?_⟩
    · rintro j d acc ρ hd ⟨hj, rfl, rfl⟩
      rw [List.getElem?_map] at hd
      cases hjj : l[j]? with
      | none => rw [hjj] at hd; cases hd
      | some y =>
        rw [hjj] at hd
        cases hd
        have hlt2 := (List.getElem?_eq_some_iff.mp hjj).1
        obtain ⟨oy, oyl⟩ := lks y (List.mem_of_getElem? hjj)
        have tk := fme_take (st := steps its) hjj
        have le1 := fme_le (steps its) l (j + 1)
        rw [tk, List.length_append, nx] at le1
        refine ⟨_, rfl, rfl, .inl ⟨_, rfl, .inl ⟨_, rfl, rfl, ways_ok (x := y) (by omega) oy.le ⟨_, rfl, _, rfl, fun k acc1 ρ6 => k ≤ (ext (steps its) y).length ∧ acc1 = ((l.take j).flatMap (ext (steps its)) ++ (ext (steps its) y).take k).map cD ∧ ρ6 = [.dat (bookD ss its lim), .dat (.str start), .dat (.list ((steps its).map stD)), .dat (.list (l.map cD)), .own ((lev (steps its) i [root start]).map cD), .dat x, .dat (.tuple (y.nm.map .str)), .dat (.tuple (y.sn.map .str)), .un, .un], ⟨Nat.zero_le _, by simp, rfl⟩, ?_, ?_⟩⟩⟩⟩
        · rintro k z acc1 ρ6 hz ⟨hk, rfl, rfl⟩
          rw [List.getElem?_map] at hz
          cases hkk : ((steps its).filter (fits y))[k]? with
          | none => rw [hkk] at hz; cases hz
          | some w =>
            rw [hkk] at hz
            cases hz
            have hek : (ext (steps its) y)[k]? = some (grow y w) := by unfold ext; rw [List.getElem?_map, hkk]; rfl
            have hkl := (List.getElem?_eq_some_iff.mp hek).1
            have a1 := app_strs (xs := y.nm) (ys := [w.n]) (by have := oy.ln; simp; omega)
            have a2 := app_strs (xs := y.sn) (ys := [w.m]) (by have := oy.ls; simp; omega)
            refine ⟨_, rfl, rfl, .inl ⟨_, rfl, .inl ⟨_, rfl, show 1 ≤ sizeLine by decide, _, a1, .inl ⟨_, rfl, .inl ⟨_, rfl, show 1 ≤ sizeLine by decide, _, a2, show 2 ≤ sizeLine by decide, ?_, hkl, ?_, rfl⟩⟩⟩⟩⟩
            · rw [List.length_map, List.length_append, List.length_take]; omega
            · rw [List.take_add_one, hek, ← List.append_assoc, List.map_append (l₁ := _ ++ _)]; rfl
        · rintro acc1 ρ6 ⟨hk, rfl, rfl⟩
          have e1 : (((steps its).filter (fits y)).map fun q => PyData.tuple [.str q.n, .str q.m]).length = (ext (steps its) y).length := by unfold ext; rw [List.length_map, List.length_map]
          rw [e1, List.take_length]
          exact ⟨hlt2, by rw [tk], rfl⟩
    · rintro acc ρ ⟨hj, rfl, rfl⟩
      rw [List.length_map, List.take_length, nx]
      refine ⟨⟨_, rfl⟩, .inl ⟨_, rfl, _, _, rfl, rfl, by rw [List.length_map, List.length_map]; have := lev_snoc (steps its) i [root start]; have e := congrArg List.length this; rw [List.length_append] at e; omega, hlt, .dat x, ?_⟩⟩
      rw [lev_snoc, List.map_append]; rfl
  · rintro ρ ⟨hi, s5, rfl⟩
    rw [upto_length]
    exact ⟨_, rfl, q⟩
theorem all_len {b L : Nat} {ss : List (Str × Int)} {its : List Item} {lim : Int} (g : CB b L ss its lim) (start : Str) : (all its lim start).length ≤ b ^ 4 ∧ b ^ 4 ≤ 240000 := by
  have l0 := g.l0
  have l1 := g.l1
  obtain ⟨p1, p2⟩ := pow_b g (n := lim.toNat) (by omega)
  have := lev_len (steps its) lim.toNat (root start)
  exact ⟨by unfold all; omega, p2⟩
theorem all_ok {b L : Nat} {ss : List (Str × Int)} {its : List Item} {lim : Int} (g : CB b L ss its lim) (start : Str) : ∀ x ∈ all its lim start, Ok7 its start x ∧ x.pl.length ≤ 4 := fun x hx => by
  have rk : ∀ x ∈ [root start], Ok7 its start x ∧ x.pl.length = 0 := fun x hx => by rw [List.mem_singleton.mp hx]; exact ⟨root_ok its start, rfl⟩
  obtain ⟨a, c⟩ := (lev_ok g.nd lim.toNat rk).1 x hx
  have l1 := g.l1
  exact ⟨a, by omega⟩
/-- chains by their end -/
def lastS (x : En7) : Str := (x.sn.getLast?).getD ⟨#[]⟩
theorem last_of {its : List Item} {start : Str} {x : En7} (h : Ok7 its start x) : x.sn.getLast? = some (lastS x) := by
  obtain ⟨e, he⟩ := h.le
  unfold lastS; rw [he]; rfl
def told (its : List Item) (lim : Int) (start goal : Str) : D := .tuple (((all its lim start).filter fun x => decide (lastS x = goal)).map fun x => PyData.tuple (x.nm.map .str))
theorem eq_strs (x y : Str) : eqD (.str x) (.str y) = some (.bool (decide (x = y))) := by
  show some (PyData.bool (x == y)) = _
  by_cases h : x = y
  · subst h; simp
  · simp [h]
theorem flt_take {p : En7 → Bool} {l : List En7} {i : Nat} {x : En7} (h : l[i]? = some x) : (l.take (i + 1)).filter p = (l.take i).filter p ++ if p x = true then [x] else [] := by
  rw [List.take_add_one, h, List.filter_append]
  congr 1
  by_cases h : p x = true <;> simp [h]
theorem chains_ok {b L : Nat} {ss : List (Str × Int)} {its : List Item} {lim : Int} (g : CB b L ss its lim) {start goal : Str} {Q : Rv → Prop} (q : Q (.d (told its lim start goal))) : w_chains [bookD ss its lim, .str start, .str goal] Q := by
  have small : (1000000 : Nat) < sizeLine := by decide
  obtain ⟨al, al2⟩ := all_len g start
  have ok := all_ok g start
  refine .inl ⟨_, rfl, .inl ⟨_, rfl, rfl, from_ok g ⟨_, rfl, _, rfl, ?_⟩⟩⟩
  unfold told at q
  generalize hl : all its lim start = l at *
  refine ⟨fun i acc ρ => acc = ((l.take i).filter fun x => decide (lastS x = goal)).map (fun x => PyData.tuple (x.nm.map .str)) ∧ ρ = [.dat (bookD ss its lim), .dat (.str start), .dat (.str goal), .un, .un], ⟨rfl, rfl⟩, ?_, ?_⟩
  · rintro i d acc ρ hx ⟨rfl, rfl⟩
    rw [List.getElem?_map] at hx
    cases hj : l[i]? with
    | none => rw [hj] at hx; cases hx
    | some x =>
      rw [hj] at hx
      cases hx
      have hlt := (List.getElem?_eq_some_iff.mp hj).1
      have ox := (ok x (List.mem_of_getElem? hj)).1
      have tk := flt_take (p := fun x => decide (lastS x = goal)) hj
      refine ⟨_, rfl, rfl, .inl ⟨_, rfl⟩, _, rfl, .inl ⟨_, _, rfl, ix_last (last_of ox), .inl ⟨_, rfl, _, eq_strs _ _, _, rfl, ?_⟩⟩⟩
      refine ite2 (fun c1 => .inl ⟨_, rfl, ?_, ?_, rfl⟩) (fun c1 => ⟨?_, rfl⟩)
      · rw [List.length_map]
        have := List.length_filter_le (fun x => decide (lastS x = goal)) (l.take i)
        rw [List.length_take] at this
        omega
      · rw [tk, if_pos c1, List.map_append]; rfl
      · rw [tk, if_neg c1]; simp
  · rintro acc ρ ⟨rfl, rfl⟩
    rw [List.length_map, List.take_length]
    exact ⟨_, rfl, q⟩
def ends (its : List Item) (lim : Int) (start : Str) : List Str := (all its lim start).map lastS
def reachD (its : List Item) (lim : Int) (start : Str) : D := .tuple ((srtS (ded (ends its lim start))).map .str)
theorem end_in {b L : Nat} {ss : List (Str × Int)} {its : List Item} {lim : Int} (g : CB b L ss its lim) {start : Str} (hs : start ∈ ss.map (·.1)) {x : En7} (h : Ok7 its start x) : lastS x ∈ ss.map (·.1) := by
  have hm : lastS x ∈ x.sn := List.mem_of_getLast? (last_of h)
  rcases h.ms _ hm with e | ⟨q, hq, e⟩
  · rw [e]; exact hs
  · obtain ⟨_, row, hc⟩ := steps_mem hq
    rw [← e]
    exact (g.wl _ _ _ _ _ hc).2
theorem room7 {names : List Str} (hn : names.length ≤ 6) {ws : List Str} (h : ∀ w ∈ ws, w ∈ names) : (dedK (accK (ws.map .str))).length + 1 < scanBound := by
  rw [accK_strs, dedK_strs, List.length_map]
  have := nodup_le (ded_nodup ws) fun y hy => h y (mem_ded.mp hy)
  have : 10 < scanBound := by decide
  omega
theorem reached_ok {b L : Nat} {ss : List (Str × Int)} {its : List Item} {lim : Int} (g : CB b L ss its lim) {start : Str} (hs : start ∈ ss.map (·.1)) {Q : Rv → Prop} (q : Q (.d (reachD its lim start))) : w_reached [bookD ss its lim, .str start] Q := by
  have ok := all_ok g start
  refine .inl ⟨_, rfl, .inl ⟨_, rfl, rfl, from_ok g ⟨_, rfl, _, rfl, ?_⟩⟩⟩
  unfold reachD ends at q
  generalize hl : all its lim start = l at *
  refine ⟨fun i acc ρ => acc = ((l.take i).map lastS).map .str ∧ ρ = [.dat (bookD ss its lim), .dat (.str start), .un, .un], ⟨rfl, rfl⟩, ?_, ?_⟩
  · rintro i d acc ρ hx ⟨rfl, rfl⟩
    rw [List.getElem?_map] at hx
    cases hj : l[i]? with
    | none => rw [hj] at hx; cases hx
    | some x =>
      rw [hj] at hx
      cases hx
      have ox := (ok x (List.mem_of_getElem? hj)).1
      refine ⟨_, rfl, rfl, .inl ⟨_, rfl⟩, _, rfl, .inl ⟨_, _, rfl, ix_last (last_of ox), ⟨_, rfl⟩, ?_, ?_, rfl⟩⟩
      · refine room7 (names := ss.map (·.1)) (by rw [List.length_map]; exact g.len) fun w hw => ?_
        obtain ⟨y, hy, rfl⟩ := List.mem_map.mp hw
        exact end_in g hs (ok y (List.mem_of_mem_take hy)).1
      · rw [List.take_add_one, hj, List.map_append, List.map_append]; rfl
  · rintro acc ρ ⟨rfl, rfl⟩
    rw [List.length_map, List.take_length]
    exact .inr ⟨_, rfl, _, rfl, q⟩
end K7
namespace K7
open PySem PySem.Spec PyProof.Rows L2 DL
theorem cD_plain : ∀ wt : List En7, PyData.plainAll (wt.map cD) = true
  | [] => rfl
  | x :: wt => by
    show (PyData.plain (cD x) && PyData.plainAll (wt.map cD)) = true
    rw [cD_plain wt]
    simp only [cD, PyData.plain, PyData.plainAll, strs_plain, Bool.and_self]
theorem lastD_eq {its : List Item} {start : Str} {x : En7} (h : Ok7 its start x) : lastD x = .str (lastS x) := by
  unfold lastD; rw [last_of h]
theorem depth_ints : ∀ xs : List Int, PyData.depthAll (xs.map .int) = 0
  | [] => rfl
  | x :: xs => by simp only [List.map_cons, PyData.depthAll, PyData.depth]; rw [depth_ints xs]; rfl
theorem depth_strs' : ∀ xs : List Str, PyData.depthAll (xs.map .str) = 0
  | [] => rfl
  | x :: xs => by simp only [List.map_cons, PyData.depthAll, PyData.depth]; rw [depth_strs' xs]; rfl
theorem lastD_str (x : En7) : lastD x = .none ∨ ∃ e, lastD x = .str e := by
  unfold lastD
  cases x.sn.getLast? with
  | none => exact .inl rfl
  | some e => exact .inr ⟨e, rfl⟩
theorem fD_sort {its : List Item} {start : Str} {fd : List En7} (ok : ∀ x ∈ fd, Ok7 its start x) : PyData.plainAll (fd.map fD) = true ∧ PySem.W.AllAlike (fd.map fD) ∧ PySem.W.Sortable (fd.map fD) ∧ ∀ d, d ∈ fd.map fD → d.depth ≤ 100 := by
  refine ⟨?_, fun d hd d' hd' => ?_, .inl fun d hd => ?_, fun d hd => ?_⟩
  · induction fd with
    | nil => rfl
    | cons f fd ih =>
      show (PyData.plain (fD f) && PyData.plainAll (fd.map fD)) = true
      rw [ih fun x hx => ok x (.tail _ hx)]
      simp only [fD, lastD_eq (ok f List.mem_cons_self), PyData.plain, PyData.plainAll, strs_plain, ints_plain, Bool.and_self]
  · obtain ⟨f, hf, rfl⟩ := List.mem_map.mp hd
    obtain ⟨f', hf', rfl⟩ := List.mem_map.mp hd'
    simp only [fD, lastD_eq (ok f hf), lastD_eq (ok f' hf'), PySem.W.alike, PySem.W.alikeAll, alike_ints, alike_strs, Bool.and_self]
  · obtain ⟨f, _, rfl⟩ := List.mem_map.mp hd
    exact ⟨_, _, rfl⟩
  · obtain ⟨f, hf, rfl⟩ := List.mem_map.mp hd
    simp only [fD, lastD_eq (ok f hf), PyData.depth, PyData.depthAll, depth_ints, depth_strs']
    omega
theorem ne_nil {ds : List D} (h : PyData.plainAll ds = true) : neD (.list ds) (.list []) = some (.bool (!ds.isEmpty)) := by
  unfold neD
  rw [if_pos]
  · cases ds <;> rfl
  · unfold pl2
    simp only [PyData.plain, h, PyData.plainAll, Bool.and_self, Bool.true_and, decide_eq_true_eq]
    exact Nat.le_trans (Nat.min_le_right _ _) (by simp [PyData.depth, PyData.depthAll])
/-- what follows what waits -/
def R7 (st : List St7) (N : Nat) (wt : List En7) : List En7 := wt.flatMap fun x => desc st (N - x.pl.length) x
theorem R7_app (st : List St7) (N : Nat) (a b : List En7) : R7 st N (a ++ b) = R7 st N a ++ R7 st N b := by unfold R7; rw [List.flatMap_append]
def extL (st : List St7) (N : Nat) (x : En7) : List En7 := if x.pl.length < N then ext st x else []
theorem R7_one (st : List St7) (N : Nat) (x : En7) : R7 st N [x] = x :: R7 st N (extL st N x) := by
  unfold R7 extL
  rw [List.flatMap_cons, List.flatMap_nil, List.append_nil]
  by_cases h : x.pl.length < N
  · rw [if_pos h]
    obtain ⟨k, hk⟩ : ∃ k, N - x.pl.length = k + 1 := ⟨N - x.pl.length - 1, by omega⟩
    rw [hk]
    show x :: (ext st x).flatMap (desc st k) = _
    congr 1
    have go : ∀ l : List En7, (∀ y ∈ l, y.pl.length = x.pl.length + 1) → l.flatMap (desc st k) = l.flatMap (fun y => desc st (N - y.pl.length) y) := fun l => by
      induction l with
      | nil => intro _; rfl
      | cons y l ih =>
        intro hy
        rw [List.flatMap_cons, List.flatMap_cons, ih fun z hz => hy z (.tail _ hz)]
        have e : N - y.pl.length = k := by rw [hy y List.mem_cons_self]; omega
        rw [e]
    exact go _ fun y hy => ext_len hy
  · rw [if_neg h]
    have e : N - x.pl.length = 0 := by omega
    rw [e]; rfl
theorem R7_len (st : List St7) (N : Nat) (wt : List En7) : wt.length ≤ (R7 st N wt).length := by
  induction wt with
  | nil => exact Nat.le_refl _
  | cons x wt ih =>
    have e : R7 st N (x :: wt) = R7 st N [x] ++ R7 st N wt := R7_app st N [x] wt
    rw [e, R7_one, List.length_append, List.length_cons, List.length_cons]
    omega
def lawD (x : En7) : D := .tuple [.tuple (x.nm.map .str), .str (lastS x)]
theorem law_chains_ok {b L : Nat} {ss : List (Str × Int)} {its : List Item} {lim : Int} (g : CB b L ss its lim) {start : Str} {Q : Rv → Prop} (q : Q (.f ((all its lim start).map lawD))) : w__law_chains [bookD ss its lim, .str start] Q := by
  have hf := g.few
  have hb := g.b22
  have l0 := g.l0
  have l1 := g.l1
  have small : (1000000 : Nat) < sizeLine := by decide
  refine ⟨.inl ⟨_, rfl⟩, .inl ⟨_, _, rfl, rfl, _, rfl, fun j acc ρ => acc = ((its.zipIdx.take j).filterMap plE).map pD ∧ ρ = [.dat (bookD ss its lim), .dat (.str start), .un, .un, .un, .un, .un, .un, .un, .un, .un, .un, .un], ⟨rfl, rfl⟩, ?_, ?_⟩⟩
  · rintro j x acc ρ hx ⟨rfl, rfl⟩
    obtain ⟨z, hz, rfl⟩ := enumD_get hx
    rw [List.getElem?_map] at hz
    cases hj : its[j]? with
    | none => rw [hj] at hz; cases hz
    | some it =>
      rw [hj] at hz
      cases hz
      have hlt := (List.getElem?_eq_some_iff.mp hj).1
      have hzj : its.zipIdx[j]? = some (it, j) := by rw [List.getElem?_zipIdx, hj]; simp
      have tk := fm_take (f := plE) hzj
      cases it with
      | defi w nd en row2 =>
        refine ⟨_, rfl, rfl, .inl ⟨_, rfl⟩, .inl ⟨_, _, rfl, rfl, _, rfl, _, rfl, ifF (ifF ⟨?_, rfl⟩)⟩⟩
        rw [tk]; simp [plE]
      | conv n2 s2 m2 b2 row2 =>
        refine ⟨_, rfl, rfl, .inl ⟨_, rfl⟩, .inl ⟨_, _, rfl, rfl, _, rfl, _, rfl, ifT ?_⟩⟩
        refine ⟨.inl ⟨_, rfl⟩, .inl ⟨_, _, rfl, rfl, _, rfl, ?_⟩⟩
        cases b2 with
        | false =>
          refine ifF ⟨?_, rfl⟩
          rw [tk]; simp [plE]
        | true =>
          refine ifT ⟨.inl ⟨_, rfl⟩, .inl ⟨_, _, rfl, rfl, .inl ⟨_, rfl, show 2 ≤ sizeLine by decide, ?_, ?_, rfl⟩⟩⟩
          · rw [List.length_map]
            have := List.length_filterMap_le plE (its.zipIdx.take j)
            rw [List.length_take] at this
            omega
          · rw [tk, List.map_append]; rfl
  rintro acc ρ ⟨rfl, rfl⟩
  rw [enumD_length, List.length_map]
  have hz : its.zipIdx.take its.length = its.zipIdx := List.take_of_length_le (by rw [List.length_zipIdx]; exact Nat.le_refl _)
  rw [hz]
  refine ⟨_, dict_pl g.nd, ?_⟩
  generalize hN : lim.toNat = N
  have hN4 : N ≤ 4 := by omega
  have tot := desc_len (steps its) N (root start)
  obtain ⟨pb1, pb2⟩ := pow_b g hN4
  -- found, waiting
  refine ⟨show 0 ≤ sizeLine by decide, show 0 ≤ sizeLine by decide, .inl ⟨_, rfl, show 1 ≤ sizeLine by decide, show 2 ≤ sizeLine by decide, show 1 ≤ sizeLine by decide, noBag_of (fun s hs ks => by simp at hs; rcases hs with rfl | rfl | rfl | rfl <;> simp), _, _, rfl, ?_⟩⟩
  refine ⟨fun m ρ => ∃ (fd wt : List En7) (s5 s6 s7 : Sl), ρ = [.dat (bookD ss its lim), .dat (.str start), .dat (places its), .own (fd.map fD), .own (wt.map cD), s5, s6, s7, .un, .un, .un, .un, .un] ∧
    (∀ x ∈ fd, Ok7 its start x) ∧ (∀ x ∈ wt, Ok7 its start x ∧ x.pl.length ≤ N) ∧ m = (R7 (steps its) N wt).length ∧ (fd ++ R7 (steps its) N wt).Perm (desc (steps its) N (root start)), ⟨_, [], [root start], .un, .un, .un, rfl, fun x h => by simp at h, fun x h => ?_, rfl, ?_⟩, ?_⟩
  · rw [List.mem_singleton.mp h]
    exact ⟨root_ok its start, Nat.zero_le _⟩
  · have e : R7 (steps its) N [root start] = desc (steps its) N (root start) := by simp [R7, root]
    rw [e]; exact List.Perm.refl _
  rintro m ρ ⟨fd, wt, s5, s6, s7, rfl, hfd, hwt, rfl, pm⟩
  have hlen := pm.length_eq
  rw [List.length_append] at hlen
  have hwl := R7_len (steps its) N wt
  refine ⟨⟨_, rfl⟩, show 0 ≤ sizeLine by decide, _, _, rfl, ne_nil (cD_plain wt), _, rfl, ?_⟩
  refine ite2 (fun c1 => ?_) (fun c1 => ?_)
  · rcases List.eq_nil_or_concat wt with rfl | ⟨wt', x, e0⟩
    · exact absurd c1 (by decide)
    rw [List.concat_eq_append] at e0
    subst e0
    obtain ⟨ox, hxN⟩ := hwt x (by simp)
    have hl := last_of ox
    have hln := ox.ln
    have hls := ox.ls
    rw [List.length_append, List.length_singleton] at hwl
    refine ⟨wt'.map cD, cD x, by rw [List.map_append]; rfl, _, rfl, rfl, ?_⟩
    refine ⟨⟨_, rfl⟩, .inl ⟨_, _, rfl, rfl, .inl ⟨_, rfl, _, rfl, fun j acc ρ => j ≤ x.nm.length ∧ acc = (x.pl.take j).map .int ∧ ρ = [.dat (bookD ss its lim), .dat (.str start), .dat (places its), .own (fd.map fD), .own (wt'.map cD), .dat (.tuple (x.nm.map .str)), .dat (.tuple (x.sn.map .str)), s7, .un, .un, .un, .un, .un], ⟨Nat.zero_le _, rfl, rfl⟩, ?_, ?_⟩⟩⟩
    · rintro j y acc ρ hy ⟨hj, rfl, rfl⟩
      rw [List.getElem?_map] at hy
      cases hn : x.nm[j]? with
      | none => rw [hn] at hy; cases hy
      | some n =>
        rw [hn] at hy
        cases hy
        have hlt := (List.getElem?_eq_some_iff.mp hn).1
        obtain ⟨z, hz1, hz2⟩ := ox.at' j n hn
        refine ⟨.inl ⟨_, rfl⟩, .inl ⟨_, rfl, .inl ⟨_, _, rfl, hz2, by rw [List.length_map, List.length_take]; omega, hlt, ?_, rfl⟩⟩⟩
        rw [List.take_add_one, hz1, List.map_append]; rfl
    rintro acc ρ ⟨_, rfl, rfl⟩
    rw [List.length_map, hln, List.take_length]
    refine .inl ⟨_, rfl, .inl ⟨_, rfl⟩, _, rfl, .inl ⟨_, _, rfl, ix_last hl, show 4 ≤ sizeLine by decide, _, rfl, by rw [List.length_map]; omega, ?_⟩⟩
    have eF : (fd.map fD ++ [PyData.tuple [.int (x.pl.length : Nat), .list (x.pl.map .int), .tuple (x.nm.map .str), .str (lastS x)]]) = (fd ++ [x]).map fD := by
      rw [List.map_append]
      show _ = _ ++ [fD x]
      unfold fD
      rw [lastD_eq ox, hln]
    rw [eF]
    refine ⟨.inl ⟨_, rfl⟩, .inl ⟨_, _, rfl, rfl, _, rfl, fun i ρ => ∃ (s7 : Sl), ρ = [.dat (bookD ss its lim), .dat (.str start), .dat (places its), .own ((fd ++ [x]).map fD), .own ((wt' ++ extL ((its.zipIdx.take i).filterMap stE) N x).map cD), .dat (.tuple (x.nm.map .str)), .dat (.tuple (x.sn.map .str)), s7, .un, .un, .un, .un, .un], ⟨s7, by simp [extL, ext]⟩, ?_, ?_⟩⟩
    · rintro i y ρ hy ⟨s7, rfl⟩
      rw [List.getElem?_map] at hy
      cases hj : its[i]? with
      | none => rw [hj] at hy; cases hy
      | some it =>
        rw [hj] at hy
        cases hy
        have hlt := (List.getElem?_eq_some_iff.mp hj).1
        have hzj : its.zipIdx[i]? = some (it, i) := by rw [List.getElem?_zipIdx, hj]; simp
        have tk := fm_take (f := stE) hzj
        have elen : (extL ((its.zipIdx.take i).filterMap stE) N x).length ≤ 22 := by
          unfold extL
          split
          · unfold ext
            rw [List.length_map]
            have a := List.length_filter_le (fits x) ((its.zipIdx.take i).filterMap stE)
            have c := List.length_filterMap_le stE (its.zipIdx.take i)
            rw [List.length_take, List.length_zipIdx] at c
            omega
          · exact Nat.zero_le _
        have same : ∀ l : List St7, (∀ q ∈ l, x.pl.length < N → fits x q = false) → extL ((its.zipIdx.take i).filterMap stE ++ l) N x = extL ((its.zipIdx.take i).filterMap stE) N x := fun l hq => by
          unfold extL
          split
          · rename_i hN1
            unfold ext
            have en : l.filter (fits x) = [] := List.filter_eq_nil_iff.mpr fun q hql => by rw [hq q hql hN1]; exact Bool.false_ne_true
            rw [List.filter_append, en, List.append_nil]
          · rfl
        cases it with
        | defi w nd en row2 =>
          refine ⟨.inl ⟨_, rfl⟩, .inl ⟨_, _, rfl, rfl, _, rfl, _, rfl, ifF (ifF ⟨.dat (itD (.defi w nd en row2)), ?_⟩)⟩⟩
          rw [tk, same _ (by simp [stE])]; rfl
        | conv n2 s2 m2 b2 row2 =>
          refine ⟨.inl ⟨_, rfl⟩, .inl ⟨_, _, rfl, rfl, _, rfl, _, rfl, ifT ?_⟩⟩
          refine ⟨.inl ⟨_, rfl⟩, .inl ⟨_, _, rfl, rfl, _, rfl, ?_⟩⟩
          cases b2 with
          | false =>
            refine ifF (ifF ⟨.dat (itD (.conv n2 s2 m2 false row2)), ?_⟩)
            rw [tk, same _ (by simp [stE])]; rfl
          | true =>
            have tk : (its.zipIdx.take (i + 1)).filterMap stE = (its.zipIdx.take i).filterMap stE ++ [(⟨i, n2, s2, m2⟩ : St7)] := tk
            refine ifT ⟨.inl ⟨_, rfl⟩, .inl ⟨_, _, rfl, rfl, .inl ⟨_, rfl⟩, _, rfl, .inl ⟨_, _, rfl, ix_last hl, _, rfl, _, rfl, ?_⟩⟩⟩
            refine ite2 (fun c2 => ?_) (fun c2 => ifF ?_)
            rotate_left
            · refine ⟨.dat (itD (.conv n2 s2 m2 true row2)), ?_⟩
              · rw [tk, same _ ?_]
                · rfl
                · intro q hq _
                  rw [List.mem_singleton.mp hq]; unfold fits
                  rw [hl]
                  have : ¬ (lastS x = s2) := fun z => c2 (by subst z; exact beq_self_eq_true _)
                  simp [this]
            have e3 : s2 = lastS x := eq_of_beq c2
            refine ⟨.inl ⟨_, rfl⟩, .inl ⟨_, _, rfl, rfl, .inl ⟨_, rfl, _, notIn_ok m2 x.sn, _, rfl, ?_⟩⟩⟩
            refine ite2 (fun c3 => ?_) (fun c3 => ?_)
            rotate_left
            · refine ⟨.dat (itD (.conv n2 s2 m2 true row2)), ?_⟩
              · rw [tk, same _ ?_]
                · rfl
                · intro q hq _
                  rw [List.mem_singleton.mp hq]; unfold fits
                  have : m2 ∈ x.sn := Decidable.byContradiction fun z => c3 (by rw [decide_eq_false z]; rfl)
                  simp [this]
            have hns : m2 ∉ x.sn := fun z => by rw [decide_eq_true z] at c3; exact absurd c3 (by decide)
            refine .inl ⟨_, _, rfl, rfl, .inl ⟨_, rfl⟩, .inl ⟨_, _, rfl, rfl, _, rfl, _, rfl, ?_⟩⟩
            refine ite2 (fun c4 => ?_) (fun c4 => ?_)
            rotate_left
            · refine ⟨.dat (itD (.conv n2 s2 m2 true row2)), ?_⟩
              · rw [tk, same _ ?_]
                · rfl
                · intro q hq h2
                  exfalso
                  refine c4 (decide_eq_true ?_)
                  rw [List.length_map, hln]; omega
            have c4 : ((x.nm.map PyData.str).length : Int) < lim := of_decide_eq_true c4
            rw [List.length_map, hln] at c4
            have a1 := app_strs (xs := x.nm) (ys := [n2]) (by simp; omega)
            have a2 := app_strs (xs := x.sn) (ys := [m2]) (by simp; omega)
            refine ⟨⟨_, rfl⟩, .inl ⟨_, rfl, .inl ⟨_, rfl⟩, .inl ⟨_, _, rfl, rfl, show 1 ≤ sizeLine by decide, _, a1, .inl ⟨_, rfl, .inl ⟨_, rfl⟩, .inl ⟨_, _, rfl, rfl, show 1 ≤ sizeLine by decide, _, a2, show 2 ≤ sizeLine by decide, _, rfl, ?_, ?_⟩⟩⟩⟩⟩
            · rw [List.length_map, List.length_append]; omega
            · refine ⟨.dat (itD (.conv n2 s2 m2 true row2)), ?_⟩
              have hlN : x.pl.length < N := by omega
              have hfit : fits x ⟨i, n2, s2, m2⟩ = true := by unfold fits; rw [hl, e3]; simp [hns]
              have ee : extL ((its.zipIdx.take i).filterMap stE ++ [⟨i, n2, s2, m2⟩]) N x = extL ((its.zipIdx.take i).filterMap stE) N x ++ [grow x ⟨i, n2, s2, m2⟩] := by
                unfold extL
                rw [if_pos hlN, if_pos hlN]
                unfold ext
                rw [List.filter_append, List.map_append]
                congr 1
                simp [hfit]
              rw [tk, ee, ← List.append_assoc, List.map_append (l₁ := wt' ++ _)]; rfl
    · rintro ρ ⟨s7', rfl⟩
      have hz2 : its.zipIdx.take (its.map itD).length = its.zipIdx := by rw [List.length_map]; exact hz
      rw [hz2]
      have e1 : R7 (steps its) N (wt' ++ [x]) = R7 (steps its) N wt' ++ (x :: R7 (steps its) N (extL (steps its) N x)) := by rw [R7_app, R7_one]
      refine ⟨(R7 (steps its) N (wt' ++ extL (steps its) N x)).length, ?_, fd ++ [x], wt' ++ extL (steps its) N x, _, _, _, rfl, fun y hy => ?_, fun y hy => ?_, rfl, ?_⟩
      · rw [e1, R7_app, List.length_append, List.length_append, List.length_cons]; omega
      · rcases List.mem_append.mp hy with z | z
        · exact hfd y z
        · rw [List.mem_singleton.mp z]; exact ox
      · rcases List.mem_append.mp hy with z | z
        · exact hwt y (List.mem_append_left _ z)
        · unfold extL at z
          split at z
          · rename_i hlN
            exact ⟨ext_ok g.nd ox z, by rw [ext_len z]; omega⟩
          · cases z
      · refine List.Perm.trans ?_ pm
        rw [e1, R7_app, List.append_assoc]
        refine List.Perm.append_left fd ?_
        have p1 : ([x] ++ (R7 (steps its) N wt' ++ R7 (steps its) N (extL (steps its) N x))).Perm (R7 (steps its) N wt' ++ (x :: R7 (steps its) N (extL (steps its) N x))) := (List.perm_middle (l₁ := R7 (steps its) N wt') (a := x) (l₂ := R7 (steps its) N (extL (steps its) N x))).symm
        exact p1
  · have wnil : wt = [] := by
      cases wt with
      | nil => rfl
      | cons x wt => exact absurd rfl c1
    subst wnil
    have pm : (fd ++ []).Perm (desc (steps its) N (root start)) := pm
    rw [List.append_nil] at pm
    have pm2 : fd.Perm (all its lim start) := by
      unfold all
      rw [hN]
      refine pm.trans ?_
      have := (lev_perm (steps its) N [root start]).symm
      simpa using this
    obtain ⟨s1, s2, s3, s4⟩ := fD_sort hfd
    refine .inr ⟨_, rfl, _, rfl, s1, s2, s3, s4, _, rfl, ?_⟩
    have hp := (lev_ge (steps_pair its) lim.toNat (l := [root start]) (a := 0) (fun x hx => by rw [List.mem_singleton.mp hx]; rfl) (List.pairwise_singleton _ _)).1
    rw [sort_lev hp (fun x hx => (all_ok g start x hx).1.ln) pm2]
    obtain ⟨al, al2⟩ := all_len g start
    have ok := all_ok g start
    show ∃ W, _
    have eall : lev (steps its) lim.toNat [root start] = all its lim start := rfl
    rw [eall]
    generalize hl : all its lim start = l at *
    refine ⟨fun j acc ρ => acc = (l.take j).map lawD ∧ ρ = [.dat (bookD ss its lim), .dat (.str start), .dat (places its), .dat (.list (fd.map fD)), .own [], .un, s6, s7, .un, .un, .un, .un, .un], ⟨rfl, rfl⟩, ?_, ?_⟩
    · rintro j y acc ρ hy ⟨rfl, rfl⟩
      rw [List.getElem?_map] at hy
      cases hj : l[j]? with
      | none => rw [hj] at hy; cases hy
      | some f =>
        rw [hj] at hy
        cases hy
        have hlt := (List.getElem?_eq_some_iff.mp hj).1
        have of := (ok f (List.mem_of_getElem? hj)).1
        have tk : (l.take (j + 1)).map lawD = (l.take j).map lawD ++ [lawD f] := take_map hj
        have efd : fD f = .tuple [.int (f.nm.length : Nat), .list (f.pl.map .int), .tuple (f.nm.map .str), .str (lastS f)] := by unfold fD; rw [lastD_eq of]
        rw [efd]
        exact ⟨_, rfl, rfl, .inl ⟨_, rfl, .inl ⟨_, rfl, show 2 ≤ sizeLine by decide, by rw [List.length_map, List.length_take]; omega, tk.symm, rfl⟩⟩⟩
    · rintro acc ρ ⟨rfl, rfl⟩
      rw [List.length_map, List.take_length]
      exact q
end K7
namespace K7
open PySem PySem.Spec PyProof.Rows L2 DL
/-! what repr shows of a tree -/
structure Fine (p n : Nat) (d : D) : Prop where
  sh : d.showable = true
  pl : d.plain = true
  dp : d.depth ≤ p
  ln : d.shown.length ≤ n
theorem Fine.mono {p n p' n' : Nat} {d : D} (h : Fine p n d) (hp : p ≤ p') (hn : n ≤ n') : Fine p' n' d := ⟨h.sh, h.pl, Nat.le_trans h.dp hp, Nat.le_trans h.ln hn⟩
theorem piled_sum : ∀ ds : List D, piled (PyData.shownAll ds) = (ds.map fun d => d.shown.length + 2).sum
  | [] => rfl
  | d :: ds => by
    have := piled_sum ds
    simp only [PyData.shownAll, piled_cons, List.map_cons, List.sum_cons]
    omega
theorem tuple_len (ds : List D) : (PyData.shown (.tuple ds)).length ≤ (ds.map fun d => d.shown.length + 2).sum + 3 := by
  rw [← piled_sum]
  have e : PyData.shown (.tuple ds) = tupleText (PyData.shownAll ds) := by simp only [PyData.shown]
  rw [e]
  unfold tupleText
  rw [strLen_append, strLen_append]
  have e1 : ((("(" : String) : Str)).length = 1 := rfl
  have e3 : (((if (PyData.shownAll ds).length == 1 then ",)" else ")" : String) : Str)).length ≤ 2 := by split <;> decide
  rw [e1]
  by_cases h : PyData.shownAll ds = []
  · rw [h] at e3 ⊢
    have : (Str.join ", " []).length = 0 := rfl
    omega
  · have := join_length_add _ h
    omega
theorem fine_str {w : Str} (h : Wd w) : Fine 0 20 (.str w) := ⟨rfl, rfl, Nat.le_refl _, h⟩
theorem wd_call : Wd "call" := by unfold Wd; decide +kernel
theorem wd_cast : Wd "cast" := by unfold Wd; decide +kernel
theorem wd_input : Wd "input" := by unfold Wd; decide +kernel
theorem fine_int0 {i : Nat} (h : i < 3) : Fine 0 20 (.int (i : Nat)) := by
  rcases (show i = 0 ∨ i = 1 ∨ i = 2 by omega) with rfl | rfl | rfl
  all_goals exact ⟨by decide +kernel, rfl, Nat.le_refl _, by decide +kernel⟩
theorem fine2 {p n m : Nat} {a b : D} (ha : Fine p n a) (hb : Fine p m b) : Fine (p + 1) (n + m + 7) (.tuple [a, b]) := by
  refine ⟨by simp only [PyData.showable, PyData.showableAll, ha.sh, hb.sh, Bool.and_self], by simp only [PyData.plain, PyData.plainAll, ha.pl, hb.pl, Bool.and_self], ?_, ?_⟩
  · have := ha.dp
    have := hb.dp
    simp only [PyData.depth, PyData.depthAll]
    omega
  · have z := tuple_len [a, b]
    have := ha.ln
    have := hb.ln
    simp only [List.map_cons, List.map_nil, List.sum_cons, List.sum_nil] at z
    omega
theorem fine3 {p n m k : Nat} {a b c : D} (ha : Fine p n a) (hb : Fine p m b) (hc : Fine p k c) : Fine (p + 1) (n + m + k + 9) (.tuple [a, b, c]) := by
  refine ⟨by simp only [PyData.showable, PyData.showableAll, ha.sh, hb.sh, hc.sh, Bool.and_self], by simp only [PyData.plain, PyData.plainAll, ha.pl, hb.pl, hc.pl, Bool.and_self], ?_, ?_⟩
  · have := ha.dp
    have := hb.dp
    have := hc.dp
    simp only [PyData.depth, PyData.depthAll]
    omega
  · have z := tuple_len [a, b, c]
    have := ha.ln
    have := hb.ln
    have := hc.ln
    simp only [List.map_cons, List.map_nil, List.sum_cons, List.sum_nil] at z
    omega
theorem fine_tup {p n : Nat} {ds : List D} (h : ∀ d ∈ ds, Fine p n d) : Fine (p + 1) (ds.length * (n + 2) + 3) (.tuple ds) := by
  have h1 : PyData.showableAll ds = true ∧ PyData.plainAll ds = true ∧ PyData.depthAll ds ≤ p ∧ (ds.map fun d => d.shown.length + 2).sum ≤ ds.length * (n + 2) := by
    induction ds with
    | nil => exact ⟨rfl, rfl, Nat.zero_le _, by simp⟩
    | cons d ds ih =>
      obtain ⟨a1, a2, a3, a4⟩ := ih fun e he => h e (List.mem_cons_of_mem _ he)
      have hd := h d List.mem_cons_self
      have := hd.dp
      have := hd.ln
      refine ⟨by simp only [PyData.showableAll, hd.sh, a1, Bool.and_self], by simp only [PyData.plainAll, hd.pl, a2, Bool.and_self], ?_, ?_⟩
      · simp only [PyData.depthAll]; omega
      · rw [List.map_cons, List.sum_cons, List.length_cons, Nat.succ_mul]; omega
  obtain ⟨a1, a2, a3, a4⟩ := h1
  refine ⟨by simp only [PyData.showable]; exact a1, by simp only [PyData.plain]; exact a2, by simp only [PyData.depth]; omega, ?_⟩
  have := tuple_len ds
  omega
theorem repr_fine {p n : Nat} {d : D} (h : Fine p n d) (hp : p ≤ 100) (hn : n ≤ 16000000) : reprA [d] = some (.str d.shown) := by
  refine if_pos ?_
  have := h.dp
  have := h.ln
  have s : (16000000 : Nat) ≤ sizeLine := by decide
  simp only [h.sh, h.pl, Bool.and_self, Bool.true_and, Bool.and_eq_true, decide_eq_true_eq]
  exact ⟨by omega, by omega⟩
mutual
theorem eqv_self : ∀ d : D, d.plain = true → PyData.eqv d d = true
  | .none, _ => rfl
  | .bool b, _ => by show (b == b) = true; exact beq_self_eq_true b
  | .int i, _ => by show (i == i) = true; exact beq_self_eq_true i
  | .str x, _ => by show (x == x) = true; exact beq_self_eq_true x
  | .list ds, h => by
    simp only [PyData.plain] at h
    simp only [PyData.eqv]
    exact eqvs_self ds h
  | .tuple ds, h => by
    simp only [PyData.plain] at h
    simp only [PyData.eqv]
    exact eqvs_self ds h
  | .dict es, h => (plain_dict_false h).elim
theorem eqvs_self : ∀ ds : List D, PyData.plainAll ds = true → PyData.eqvAll ds ds = true
  | [], _ => rfl
  | d :: ds, h => by
    simp only [PyData.plainAll, Bool.and_eq_true] at h
    simp only [PyData.eqvAll, eqv_self d h.1, eqvs_self ds h.2, Bool.and_self]
end
theorem ne_fine {p n : Nat} {d : D} (h : Fine p n d) (hp : p ≤ 100) : neD d d = some (.bool false) := by
  unfold neD
  have := h.dp
  rw [if_pos (by unfold pl2; simp only [h.pl, Bool.and_self, Bool.true_and, decide_eq_true_eq]; omega), eqv_self d h.pl]
  rfl
theorem ne_str (x : Str) : neD (.str x) (.str x) = some (.bool false) := by
  show some (PyData.bool (!(x == x))) = _
  rw [beq_self_eq_true]; rfl

theorem reprE_fine {p n : Nat} {d : D} (h : Fine p n d) (hp : p ≤ 100) (hn : n ≤ 16000000) : reprE [d] = some (.str d.shown) := by
  have e := repr_fine h hp hn
  have pl := h.pl
  cases d with
  | dict es => exact (plain_dict_false pl).elim
  | _ => exact e
theorem eq_fine {p n : Nat} {d : D} (h : Fine p n d) (hp : p ≤ 100) : eqD d d = some (.bool true) := by
  unfold eqD
  have := h.dp
  rw [if_pos (by unfold pl2; simp only [h.pl, Bool.and_self, Bool.true_and, decide_eq_true_eq]; omega), eqv_self d h.pl]
theorem told_fine {b L : Nat} {ss : List (Str × Int)} {its : List Item} {lim : Int} (g : CB b L ss its lim) (start goal : Str) : Fine 5 16000000 (told its lim start goal) := by
  obtain ⟨al, _⟩ := all_len g start
  have ok := all_ok g start
  have each : ∀ d ∈ ((all its lim start).filter fun x => decide (lastS x = goal)).map (fun x => PyData.tuple (x.nm.map .str)), Fine 1 (4 * (L + 2) + 3) d := fun d hd => by
    obtain ⟨x, hx, rfl⟩ := List.mem_map.mp hd
    obtain ⟨ox, ol⟩ := ok x (List.mem_filter.mp hx).1
    have f := fine_tup (ds := x.nm.map PyData.str) (p := 0) (n := L) fun d hd => by
      obtain ⟨w, hw, rfl⟩ := List.mem_map.mp hd
      obtain ⟨q, hq, e⟩ := ox.ns w hw
      obtain ⟨_, row, hc⟩ := steps_mem hq
      have := (g.wl _ _ _ _ _ hc).1
      rw [e] at this
      exact ⟨rfl, rfl, Nat.le_refl _, this⟩
    rw [List.length_map] at f
    have hl : x.nm.length ≤ 4 := by rw [ox.ln]; exact ol
    have := Nat.mul_le_mul_right (L + 2) hl
    exact f.mono (Nat.le_refl _) (by omega)
  have f := fine_tup each
  rw [List.length_map] at f
  have h1 := List.length_filter_le (fun x => decide (lastS x = goal)) (all its lim start)
  have h2 := Nat.mul_le_mul_right (4 * (L + 2) + 3 + 2) (Nat.le_trans h1 al)
  have h3 := g.bnd
  have e : 4 * (L + 2) + 3 + 2 = 4 * (L + 2) + 5 := by omega
  rw [e] at f h2
  exact f.mono (by omega) (by omega)
theorem srtS_mem {l : List Str} {w : Str} (h : w ∈ srtS (ded l)) : w ∈ l := mem_ded.mp ((List.mergeSort_perm _ _).mem_iff.mp h)
theorem reach_fine {b L : Nat} {ss : List (Str × Int)} {its : List Item} {lim : Int} (g : CB b L ss its lim) {start : Str} (hs : start ∈ ss.map (·.1)) : Fine 5 1000 (reachD its lim start) := by
  have inn : ∀ w ∈ ends its lim start, w ∈ ss.map (·.1) := fun w hw => by
    obtain ⟨x, hx, rfl⟩ := List.mem_map.mp hw
    exact end_in g hs (all_ok g start x hx).1
  have f := fine_tup (ds := (srtS (ded (ends its lim start))).map PyData.str) (p := 0) (n := 20) fun d hd => by
    obtain ⟨w, hw, rfl⟩ := List.mem_map.mp hd
    obtain ⟨p, hp, e⟩ := List.mem_map.mp (inn w (srtS_mem hw))
    exact fine_str (by rw [← e]; exact g.wd p hp)
  rw [List.length_map] at f
  have hl : (srtS (ded (ends its lim start))).length ≤ 6 := by
    rw [show (srtS (ded (ends its lim start))).length = (ded (ends its lim start)).length from (List.mergeSort_perm _ _).length_eq]
    have := nodup_le (ded_nodup (ends its lim start)) fun y hy => inn y (mem_ded.mp hy)
    rw [List.length_map] at this
    have := g.len
    omega
  exact f.mono (by omega) (by omega)
theorem keys_strs (ws : List Str) : ∀ d ∈ ws.map PyData.str, ∃ k, keyOfD d = some k := fun d hd => by
  obtain ⟨w, _, rfl⟩ := List.mem_map.mp hd
  exact ⟨_, rfl⟩
theorem right_ok {b L : Nat} {ss : List (Str × Int)} {its : List Item} {lim : Int} (g : CB b L ss its lim) {Q : Rv → Prop} (q : Q (.d (.bool true))) : w__law_right [bookD ss its lim] Q := by
  have small : (1000000 : Nat) < sizeLine := by decide
  have gl := g.len
  refine ⟨.inl ⟨_, rfl⟩, .inl ⟨_, _, rfl, rfl, _, rfl, fun i acc ρ => i ≤ ss.length ∧ acc = ((ss.take i).map (·.1)).map .str ∧ ρ = [.dat (bookD ss its lim), .un, .un, .un, .un, .un, .un, .un, .un, .un], ⟨Nat.zero_le _, rfl, rfl⟩, ?_, ?_⟩⟩
  · rintro i x acc ρ hx ⟨hi, rfl, rfl⟩
    rw [List.getElem?_map] at hx
    cases hj : ss[i]? with
    | none => rw [hj] at hx; cases hx
    | some p =>
      rw [hj] at hx
      cases hx
      have hlt := (List.getElem?_eq_some_iff.mp hj).1
      refine ⟨_, rfl, rfl, .inl ⟨_, rfl, ?_, hlt, ?_, rfl⟩⟩
      · rw [List.length_map, List.length_map, List.length_take]; omega
      · rw [List.take_add_one, hj, List.map_append, List.map_append]; rfl
  rintro acc ρ ⟨_, rfl, rfl⟩
  rw [List.length_map, List.take_length]
  refine .inl ⟨_, rfl, _, rfl, fun _ ρ => ∃ s2 s3 s4 s5 : Sl, ρ = [.dat (bookD ss its lim), .dat (.list ((ss.map (·.1)).map .str)), s2, s3, s4, s5, .un, .un, .un, .un], ⟨_, _, _, _, rfl⟩, ?_, ?_⟩
  · rintro i x ρ hx ⟨s2, s3, s4, s5, rfl⟩
    obtain ⟨start, hs, rfl⟩ := List.mem_map.mp (List.mem_of_getElem? hx)
    obtain ⟨al, al2⟩ := all_len g start
    have ok := all_ok g start
    have fR := reprE_fine (reach_fine g hs) (by decide) (by decide)
    refine .inl ⟨_, rfl, .inl ⟨_, rfl, rfl, law_chains_ok g ⟨_, rfl, ?_⟩⟩⟩
    refine .inl ⟨_, rfl, .inl ⟨_, rfl, rfl, reached_ok g hs ⟨_, rfl, _, fR, .inl ⟨_, rfl, _, rfl, fun j acc ρ => acc = (((all its lim start).take j).map lastS).map .str ∧ ρ = [.dat (bookD ss its lim), .dat (.list ((ss.map (·.1)).map .str)), .dat (.str start), .dat (.list ((all its lim start).map lawD)), s4, s5, .un, .un, .un, .un], ⟨rfl, rfl⟩, ?_, ?_⟩⟩⟩⟩
    · rintro j d acc ρ hd ⟨rfl, rfl⟩
      rw [List.getElem?_map] at hd
      cases hj : (all its lim start)[j]? with
      | none => rw [hj] at hd; cases hd
      | some y =>
        rw [hj] at hd
        cases hd
        have hlt := (List.getElem?_eq_some_iff.mp hj).1
        refine ⟨_, rfl, rfl, .inl ⟨_, rfl, ?_, ?_, rfl⟩⟩
        · rw [List.length_map, List.length_map, List.length_take]; omega
        · rw [List.take_add_one, hj, List.map_append, List.map_append]; rfl
    rintro acc ρ ⟨rfl, rfl⟩
    rw [List.length_map, List.take_length]
    have room := room7 (names := ss.map (·.1)) (by rw [List.length_map]; exact gl) (ws := ends its lim start) fun w hw => by
      obtain ⟨y, hy, rfl⟩ := List.mem_map.mp hw
      exact end_in g hs (ok y hy).1
    refine ⟨_, .inl rfl, keys_strs (ends its lim start), room, .inr ⟨ends its lim start, rfl, _, rfl, _, fR, _, ne_str _, _, rfl, ifF ?_⟩⟩
    refine .inl ⟨_, rfl, _, rfl, fun _ ρ => ∃ s4 s5 : Sl, ρ = [.dat (bookD ss its lim), .dat (.list ((ss.map (·.1)).map .str)), .dat (.str start), .dat (.list ((all its lim start).map lawD)), s4, s5, .un, .un, .un, .un], ⟨_, _, rfl⟩, ?_, ?_⟩
    · rintro k z ρ hz ⟨s4, s5, rfl⟩
      obtain ⟨goal, hgoal, rfl⟩ := List.mem_map.mp (List.mem_of_getElem? hz)
      have ft := told_fine g start goal
      have fT := reprE_fine ft (by decide) (by decide)
      refine .inl ⟨_, rfl, _, rfl, fun j acc ρ => acc = (((all its lim start).take j).filter fun x => decide (lastS x = goal)).map (fun x => PyData.tuple (x.nm.map .str)) ∧ ρ = [.dat (bookD ss its lim), .dat (.list ((ss.map (·.1)).map .str)), .dat (.str start), .dat (.list ((all its lim start).map lawD)), .dat (.str goal), s5, .un, .un, .un, .un], ⟨rfl, rfl⟩, ?_, ?_⟩
      · rintro j d acc ρ hd ⟨rfl, rfl⟩
        rw [List.getElem?_map] at hd
        cases hj : (all its lim start)[j]? with
        | none => rw [hj] at hd; cases hd
        | some y =>
          rw [hj] at hd
          cases hd
          have hlt := (List.getElem?_eq_some_iff.mp hj).1
          have tk := flt_take (p := fun x => decide (lastS x = goal)) hj
          refine ⟨_, rfl, rfl, .inl ⟨_, rfl, .inl ⟨_, rfl, _, eq_strs _ _, _, rfl, ?_⟩⟩⟩
          refine ite2 (fun c1 => .inl ⟨_, rfl, ?_, ?_, rfl⟩) (fun c1 => ⟨?_, rfl⟩)
          · rw [List.length_map]
            have := List.length_filter_le (fun x => decide (lastS x = goal)) ((all its lim start).take j)
            rw [List.length_take] at this
            omega
          · rw [tk, if_pos c1, List.map_append]; rfl
          · rw [tk, if_neg c1]; simp
      rintro acc ρ ⟨rfl, rfl⟩
      rw [List.length_map, List.take_length]
      refine ⟨_, rfl, ?_⟩
      refine .inl ⟨_, rfl, .inl ⟨_, rfl, .inl ⟨_, rfl, rfl, chains_ok g ⟨_, rfl, _, fT, .inl ⟨_, rfl, _, fT, _, ne_str _, _, rfl, ifF ?_⟩⟩⟩⟩⟩
      refine .inl ⟨_, rfl, .inl ⟨_, rfl, .inl ⟨_, rfl, rfl, ?_⟩⟩⟩
      exact chains_ok g ⟨_, rfl, .inl ⟨_, rfl, _, ne_fine ft (by decide), _, rfl, ifF ⟨_, _, rfl⟩⟩⟩
    · rintro ρ ⟨s4, s5, rfl⟩
      exact ⟨_, _, _, _, rfl⟩
  · rintro ρ ⟨s2, s3, s4, s5, rfl⟩
    obtain ⟨p0, ss', hss⟩ := List.exists_cons_of_ne_nil g.ne
    have hs : p0.1 ∈ ss.map (·.1) := by rw [hss]; simp
    have hix : ixD (.list ((ss.map (·.1)).map .str)) (.int 0) = some (.str p0.1) := by
      obtain ⟨d, e, m⟩ := ixL_ok (xs := (ss.map (·.1)).map PyData.str) (j := 0) (by decide) (by rw [hss]; simp)
      rw [hss] at m
      cases m; exact e
    refine ⟨.inl ⟨_, rfl⟩, .inl ⟨_, _, rfl, hix, .inl ⟨_, rfl, rfl, ?_⟩⟩⟩
    refine reached_ok g hs ⟨_, rfl, .inl ⟨_, rfl, .inl ⟨_, rfl⟩, .inl ⟨_, _, rfl, hix, rfl, reached_ok g hs ⟨_, rfl, _, eq_fine (reach_fine g hs) (by decide), q⟩⟩⟩⟩
end K7
namespace K7
open PySem PySem.Spec PyProof.Rows L2 DL
theorem GB.cb {ss : List (Str × Int)} {its : List Item} {lim : Int} (g : GB ss its lim) : CB 13 20 ss its lim where
  ne := g.gs.ne
  len := g.gs.len
  wd := g.gs.wd
  few := by have := g.len; omega
  nd := g.nd
  l0 := g.l0
  l1 := g.l1
  wl := fun n s m bb row h => by
    obtain ⟨k, hk, cs, ce, _, he, _⟩ := g.good _ h
    have called : ∀ w ∈ calledL, (reprText w).length ≤ 20 := by decide +kernel
    exact ⟨called n (List.mem_of_getElem? hk), List.mem_map.mpr ⟨_, he, rfl⟩⟩
  b22 := by decide
  bnd := by decide
def names6 : List Str := ["a", "b", "c", "d", "e", "f"]
def wordN (i : Nat) : Str := ⟨#[97 + (5 * i + 3) % 26]⟩
theorem word_at : ∀ i, i < 22 → L2.atI (Str.ofString "abcdefghijklmnopqrstuvwxyz").cps.toList (((5 * i + 3) % 26 : Nat) : Int) = some (97 + (5 * i + 3) % 26) := by decide +kernel
theorem word_inj : ∀ i, i < 22 → ∀ j, j < 22 → (5 * i + 3) % 26 = (5 * j + 3) % 26 → i = j := by decide +kernel
theorem word_len : ∀ i, i < 22 → (reprText (wordN i)).length ≤ 3 := by decide +kernel
theorem names_wd : ∀ x ∈ names6, Wd x := by unfold Wd; decide +kernel
theorem words_nd : ∀ n, n ≤ 22 → ((List.range n).map wordN).Nodup := fun n hn => by
  refine List.pairwise_map.mpr (List.Pairwise.imp_of_mem (fun {a b} ha hb h e => ?_) (List.nodup_range (n := n)))
  have ha := List.mem_range.mp ha
  have hb := List.mem_range.mp hb
  refine h (word_inj a (by omega) b (by omega) ?_)
  have e2 : (#[97 + (5 * a + 3) % 26] : Array Nat) = #[97 + (5 * b + 3) % 26] := congrArg Str.cps e
  have e3 : ([97 + (5 * a + 3) % 26] : List Nat) = [97 + (5 * b + 3) % 26] := congrArg Array.toList e2
  have e4 : 97 + (5 * a + 3) % 26 = 97 + (5 * b + 3) % 26 := by injection e3
  omega
theorem six_at {j : Int} (h0 : 0 ≤ j) (h : j < 6) : ∃ n ∈ names6, ixD (.list (names6.map .str)) (.int j) = some (.str n) := by
  obtain ⟨d, e, m⟩ := ixL_ok (xs := names6.map PyData.str) h0 h
  rw [List.getElem?_map] at m
  cases hj : names6[j.toNat]? with
  | none => rw [hj] at m; cases m
  | some n => rw [hj] at m; cases m; exact ⟨n, List.mem_of_getElem? hj, e⟩
theorem dense_ok {c : Nat} {ps : List D} {Q : Rv → List D → Prop} (hp : Pot c ps) (hc : c < 700000) (q : ∀ ss its lim ps', CB 22 3 ss its lim → Pot (c + 200) ps' → Q (.d (bookD ss its lim)) ps') : w__law_dense ps [] Q := by
  have small : (1000000 : Nat) < sizeLine := by decide
  refine ⟨show 6 ≤ sizeLine by decide, show 0 ≤ sizeLine by decide, noBag_of (fun s hs ks => by simp [slotsP] at hs; rcases hs with rfl | rfl <;> simp), _, _, rfl, ?_⟩
  refine ⟨⟨_, rfl⟩, _, rfl, rfl, take_ok hp (by omega) (by decide) (by decide) fun r ps1 r0 r1 hp1 => ⟨_, rfl, _, rfl, 12 + r, rfl, by omega, by omega, fun i ρ => i ≤ (12 + r).toNat ∧ ∃ (its : List Item) (ps' : List D) (s3 s4 s5 s6 : Sl), ρ = [.own ps', .dat (.list (names6.map .str)), .own (its.map itD), s3, s4, s5, s6, .un] ∧ its.length = i ∧ its.filterMap convName = (List.range i).map wordN ∧ (∀ it ∈ its, ∃ n s m bb, it = .conv n s m bb [0] ∧ m ∈ names6 ∧ (reprText n).length ≤ 3) ∧ Pot (c + 1 + 3 * i) ps', ⟨Nat.zero_le _, [], ps1, .un, .un, .un, .un, rfl, rfl, rfl, fun it h => by simp at h, hp1⟩, ?_, ?_⟩⟩
  · rintro i x ρ hx ⟨hi, its, ps', s3, s4, s5, s6, rfl, hil, hnm, hit, hp'⟩
    obtain ⟨rfl, hlt⟩ := upto_get hx
    have hi22 : i < 22 := by omega
    refine ⟨⟨_, rfl⟩, _, rfl, rfl, take_ok hp' (by omega) (by decide) (by decide) fun f ps2 f0 f1 hp2 => ⟨_, rfl, ?_⟩⟩
    refine ⟨.inl ⟨_, rfl⟩, .inl ⟨_, rfl, _, rfl, ⟨_, rfl⟩, _, rfl, rfl, take_ok hp2 (by omega) (by decide) (by decide) fun e ps3 e0 e1 hp3 => ⟨_, rfl, _, rfl, _, mod_ok (by decide), ?_⟩⟩⟩
    obtain ⟨en, hen, een⟩ := six_at (Int.emod_nonneg (f + 1 + e) (by decide : (6 : Int) ≠ 0)) (Int.emod_lt_of_pos (f + 1 + e) (by decide))
    refine .inl ⟨_, _, rfl, een, ?_⟩
    have ea : ((5 * (0 + (i : Int)) + 3) % 26) = (((5 * i + 3) % 26 : Nat) : Int) := by omega
    have ew : ixD (.str (Str.ofString "abcdefghijklmnopqrstuvwxyz")) (.int ((5 * (0 + (i : Int)) + 3) % 26)) = some (.str (wordN i)) := by
      rw [ea]
      show (if (Str.ofString "abcdefghijklmnopqrstuvwxyz").length ≤ sizeLine then (L2.atI (Str.ofString "abcdefghijklmnopqrstuvwxyz").cps.toList (((5 * i + 3) % 26 : Nat) : Int)).map (fun c => PyData.str ⟨#[c]⟩) else none) = _
      rw [if_pos (by decide +kernel), word_at i hi22]; rfl
    refine .inl ⟨_, rfl, _, mul_ok (by decide) (by decide) (by omega) (Int.lt_trans (by omega : 0 + (i : Int) < 2 ^ 64) (by decide)), _, rfl, _, mod_ok (by decide), _, ew, ?_⟩
    obtain ⟨st, hst, est⟩ := six_at f0 f1
    refine ⟨⟨_, rfl⟩, .inl ⟨_, rfl, .inl ⟨_, rfl⟩, .inl ⟨_, rfl, .inl ⟨_, _, rfl, est, .inl ⟨_, rfl, ⟨_, rfl⟩, _, rfl, rfl, take_ok hp3 (by omega) (by decide) (by decide) fun z ps4 z0 z1 hp4 => ⟨_, rfl, _, rfl, show 1 ≤ sizeLine by decide, show 6 ≤ sizeLine by decide, _, rfl, by rw [List.length_map]; omega, hlt, ?_⟩⟩⟩⟩⟩⟩
    refine ⟨its ++ [.conv (wordN i) st en (decide (0 < z)) [0]], ps4, .dat (.int (0 + (i : Int))), .dat (.int f), .dat (.str en), .dat (.str (wordN i)), ?_, by simp [hil], ?_, fun it h => ?_, hp4.mono (by omega)⟩
    · rw [List.map_append]; rfl
    · rw [List.filterMap_append, hnm, List.range_succ, List.map_append]; rfl
    · rcases List.mem_append.mp h with y | y
      · exact hit it y
      · rw [List.mem_singleton.mp y]; exact ⟨_, _, _, _, rfl, hen, word_len i hi22⟩
  rintro ρ ⟨hi, its, ps', s3, s4, s5, s6, rfl, hil, hnm, hit, hp'⟩
  rw [upto_length] at hil hnm hp'
  refine .inl ⟨_, rfl, _, rfl, fun k acc ρ => k ≤ 6 ∧ acc = (((names6.map fun n => (n, (1 : Int))).take k).map pD) ∧ ρ = [.own ps', .dat (.list (names6.map .str)), .own (its.map itD), s3, s4, s5, s6, .un], ⟨by decide, rfl, rfl⟩, ?_, ?_⟩
  · rintro k x acc ρ hx ⟨hk, rfl, rfl⟩
    rw [List.getElem?_map] at hx
    cases hj : names6[k]? with
    | none => rw [hj] at hx; cases hx
    | some n =>
      rw [hj] at hx
      cases hx
      have hlt : k < 6 := (List.getElem?_eq_some_iff.mp hj).1
      have hg : (names6.map fun n => (n, (1 : Int)))[k]? = some (n, 1) := by rw [List.getElem?_map, hj]; rfl
      refine .inl ⟨_, rfl, show 2 ≤ sizeLine by decide, by rw [List.length_map, List.length_take]; omega, by omega, ?_, rfl⟩
      rw [List.take_add_one, hg, List.map_append]; rfl
  rintro acc ρ ⟨_, rfl, rfl⟩
  have e6 : (((names6.map fun n => (n, (1 : Int))).take (names6.map PyData.str).length).map pD) = (names6.map fun n => (n, (1 : Int))).map pD := rfl
  rw [e6]
  refine ⟨_, rfl, .inr ⟨_, rfl, _, rfl, ⟨_, rfl⟩, show 3 ≤ sizeLine by decide, _, rfl, rfl, of_ok hp' (by omega) (by simp) (by simp) fun d ps3 hd hp3 => ⟨_, rfl, show 3 ≤ sizeLine by decide, _, rfl, ?_⟩⟩⟩
  have hw : ∃ l : Int, d = .int l ∧ 0 ≤ l ∧ l ≤ 4 := by
    simp only [List.mem_cons, List.not_mem_nil, or_false] at hd
    rcases hd with rfl | rfl | rfl <;> exact ⟨_, rfl, by decide, by decide⟩
  obtain ⟨l, rfl, l0, l1⟩ := hw
  refine q (names6.map fun n => (n, (1 : Int))) its l ps3 ⟨by simp [names6], by simp [names6], fun p hp => ?_, by omega, ?_, l0, l1, fun n s m bb row h => ?_, by decide, by decide⟩ (hp3.mono (by omega))
  · obtain ⟨n, hn, rfl⟩ := List.mem_map.mp hp
    exact names_wd n hn
  · rw [hnm]; exact words_nd _ (by omega)
  · obtain ⟨n2, s2, m2, b2, e, hm, hl⟩ := hit _ h
    cases e
    exact ⟨hl, List.mem_map.mpr ⟨(m, 1), List.mem_map.mpr ⟨m, hm, rfl⟩, rfl⟩⟩
theorem all_bools : ∀ n : Nat, bools (List.replicate n (PyData.bool true)) = some (List.replicate n true)
  | 0 => rfl
  | n + 1 => by
    rw [List.replicate_succ]
    show (bools (List.replicate n (PyData.bool true))).map (true :: ·) = _
    rw [all_bools n]; rfl
theorem allL_true (n : Nat) : allL [.list (List.replicate n (PyData.bool true))] = some (.bool true) := by
  show (bools (List.replicate n (PyData.bool true))).map _ = _
  rw [all_bools n]
  show some (PyData.bool ((List.replicate n true).all id)) = _
  rw [show (List.replicate n true).all id = true from List.all_eq_true.mpr fun x hx => by rw [(List.mem_replicate.mp hx).2]; rfl]
def Bk (d : D) : Prop := ∃ b L ss its lim, CB b L ss its lim ∧ d = bookD ss its lim
theorem true_law (ns : List Int) (h : ns.length ≤ 63) : w_law ns [] fun r => r = .d (.bool true) := by
  have small : (100000 : Nat) < sizeLine := by decide
  refine ⟨ns, rfl, _, rfl, _, rfl, ?_⟩
  generalize hj : (if (if ((ns.length : Nat) : Int) < 3 then ((ns.length : Nat) : Int) else 3) > 1 then (if ((ns.length : Nat) : Int) < 3 then ((ns.length : Nat) : Int) else 3) else 1) = j
  have hj3 : j ≤ 3 := by rw [← hj]; split <;> split <;> omega
  have hj0 : 0 ≤ j := by rw [← hj]; split <;> split <;> omega
  refine ⟨j, rfl, by omega, by omega, fun _ ρ => ∃ s1 s2 s3, ρ = [.ints ns, s1, s2, s3, .un, .un], ⟨.un, .un, .un, rfl⟩, ?_, ?_⟩
  · rintro i x ρ hx ⟨s1, s2, s3, rfl⟩
    obtain ⟨rfl, hi⟩ := upto_get hx
    refine ⟨⟨_, rfl⟩, .inl ⟨_, rfl, ns, rfl, rfl, pot_ok (by omega) (by omega) fun ps hps => ⟨_, rfl, ?_⟩⟩⟩
    refine ⟨3, rfl, by decide, by decide, fun k acc ρ => ∃ ps', acc.length = k ∧ (∀ d ∈ acc, Bk d) ∧ Pot (1500 * k) ps' ∧ k ≤ 3 ∧ ρ = [.ints ns, .dat (.int (0 + (i : Nat))), .own ps', s3, .un, .un], ⟨ps, rfl, fun d h => by simp at h, hps, by decide, rfl⟩, ?_, ?_⟩
    · rintro k x acc ρ hx ⟨ps', hl, hb, hps', hk, rfl⟩
      obtain ⟨_, hk3⟩ := upto_get hx
      have hk3 : k < 3 := hk3
      refine ⟨⟨_, rfl⟩, ⟨_, rfl⟩, show 2 ≤ sizeLine by decide, _, rfl, rfl, of_ok hps' (by omega) (by simp) (by simp) fun d ps2 hd hp2 => ⟨_, rfl, ?_⟩⟩
      have hw : ∃ m : Int, d = .int m ∧ 0 ≤ m ∧ m ≤ 12 := by
        simp only [List.mem_cons, List.not_mem_nil, or_false] at hd
        rcases hd with rfl | rfl <;> exact ⟨_, rfl, by decide, by decide⟩
      obtain ⟨m, rfl, m0, m1⟩ := hw
      refine ⟨_, rfl, rfl, book_ok m0 m1 hp2 (by omega) fun ss its lim ps3 g hp3 => ⟨_, rfl, by omega, ps3, by simp [hl], fun d hd => ?_, hp3.mono (by omega), hk3, rfl⟩⟩
      rcases List.mem_append.mp hd with z | z
      · exact hb d z
      · rw [List.mem_singleton.mp z]; exact ⟨13, 20, ss, its, lim, g.cb, rfl⟩
    · rintro acc ρ ⟨ps', hl, hb, hps', hk, rfl⟩
      rw [upto_length] at hl hps'
      have hl : acc.length = 3 := hl
      refine ⟨⟨_, rfl⟩, _, rfl, rfl, dense_ok hps' (by omega) fun ss its lim ps3 g hp3 => ⟨_, rfl, show 1 ≤ sizeLine by decide, .list (acc ++ [bookD ss its lim]), if_pos (by rw [hl]; show 3 + 1 ≤ sizeLine; decide), ?_⟩⟩
      have hall : ∀ d ∈ acc ++ [bookD ss its lim], Bk d := fun d hd => by
        rcases List.mem_append.mp hd with z | z
        · exact hb d z
        · rw [List.mem_singleton.mp z]; exact ⟨22, 3, ss, its, lim, g, rfl⟩
      have hal : (acc ++ [bookD ss its lim]).length = 4 := by rw [List.length_append, hl]; rfl
      generalize acc ++ [bookD ss its lim] = bs at hall hal ⊢
      refine .inl ⟨_, rfl, _, rfl, fun k acc ρ => k ≤ 4 ∧ acc = List.replicate k (PyData.bool true) ∧ ρ = [.ints ns, .dat (.int (0 + (i : Nat))), .own ps3, .dat (.list bs), .un, .un], ⟨by decide, rfl, rfl⟩, ?_, ?_⟩
      · rintro k x acc ρ hx ⟨hk, rfl, rfl⟩
        have hlt := (List.getElem?_eq_some_iff.mp hx).1
        obtain ⟨b, L, ss, its, lim, g, rfl⟩ := hall x (List.mem_of_getElem? hx)
        refine .inl ⟨_, rfl, rfl, right_ok g ⟨_, rfl, by rw [List.length_replicate]; omega, by omega, ?_, rfl⟩⟩
        rw [← List.replicate_succ']
      rintro acc ρ ⟨_, rfl, rfl⟩
      exact ⟨_, allL_true _, _, rfl, ifF ⟨_, _, _, rfl⟩⟩
  · rintro ρ ⟨s1, s2, s3, rfl⟩
    rfl
end K7
open PySem PySem.W PyProof.Rows
set_option maxRecDepth 100000 in
set_option maxHeartbeats 0 in
theorem PySem.Challenge.cw_samereading_k07_chains_in_their_order_holds : PySem.Challenge.rw_samereading_k07_chains_in_their_order.Holds := by
  w_on; o_law; k_head; (case hw => w_witness2)
  k_fill
  refine K7.walk (l := PySem.Challenge.rw_samereading_k07_chains_in_their_order) rfl rfl (fun w h Y => PySem.W.kIn_of Y) ?F K7.true_law
  case F =>
    intro w mg fa h KX G hmg
    refine' K7.all_mk KX G hmg ?a__law_pot ?l__law_pot ?c__law_pot ?k__law_pot ?a__law_take ?l__law_take ?c__law_take ?k__law_take ?a__law_sorts ?l__law_sorts ?c__law_sorts ?k__law_sorts ?a__law_row ?l__law_row ?c__law_row ?k__law_row ?a__law_of ?l__law_of ?c__law_of ?k__law_of ?a__law_item ?l__law_item ?c__law_item ?k__law_item ?a__law_book ?l__law_book ?c__law_book ?k__law_book ?a__law_dense ?l__law_dense ?c__law_dense ?k__law_dense ?a__law_chains ?l__law_chains ?c__law_chains ?k__law_chains ?a_implicit_steps ?l_implicit_steps ?c_implicit_steps ?k_implicit_steps ?a_ways_on ?l_ways_on ?c_ways_on ?k_ways_on ?a_chains_from ?l_chains_from ?c_chains_from ?k_chains_from ?a_reached ?l_reached ?c_reached ?k_reached ?a_chains ?l_chains ?c_chains ?k_chains ?a__law_right ?l__law_right ?c__law_right ?k__law_right ?a_law ?l_law ?c_law ?k_law ?z_int ?z_len ?z_abs ?z_range ?z_tuple ?z_sorted ?z_dict ?z_list ?z_enumerate ?z_repr ?z_set ?z_max ?z_min ?z_all
    (case a__law_pot => k_is); (case l__law_pot => k_is); (case c__law_pot => k_is); (case k__law_pot => k_is)
    (case a__law_take => k_is); (case l__law_take => k_is); (case c__law_take => k_is); (case k__law_take => k_is)
    (case a__law_sorts => k_is); (case l__law_sorts => k_is); (case c__law_sorts => k_is); (case k__law_sorts => k_is)
    (case a__law_row => k_is); (case l__law_row => k_is); (case c__law_row => k_is); (case k__law_row => k_is)
    (case a__law_of => k_is); (case l__law_of => k_is); (case c__law_of => k_is); (case k__law_of => k_is)
    (case a__law_item => k_is); (case l__law_item => k_is); (case c__law_item => k_is); (case k__law_item => k_is)
    (case a__law_book => k_is); (case l__law_book => k_is); (case c__law_book => k_is); (case k__law_book => k_is)
    (case a__law_dense => k_is); (case l__law_dense => k_is); (case c__law_dense => k_is); (case k__law_dense => k_is)
    (case a__law_chains => k_is); (case l__law_chains => k_is); (case c__law_chains => k_is); (case k__law_chains => k_is)
    (case a_implicit_steps => k_is); (case l_implicit_steps => k_is); (case c_implicit_steps => k_is); (case k_implicit_steps => k_is)
    (case a_ways_on => k_is); (case l_ways_on => k_is); (case c_ways_on => k_is); (case k_ways_on => k_is)
    (case a_chains_from => k_is); (case l_chains_from => k_is); (case c_chains_from => k_is); (case k_chains_from => k_is)
    (case a_reached => k_is); (case l_reached => k_is); (case c_reached => k_is); (case k_reached => k_is)
    (case a_chains => k_is); (case l_chains => k_is); (case c_chains => k_is); (case k_chains => k_is)
    (case a__law_right => k_is); (case l__law_right => k_is); (case c__law_right => k_is); (case k__law_right => k_is)
    (case a_law => k_is); (case l_law => k_is); (case c_law => k_is); (case k_law => k_is)
    (case z_int => k_is)
    (case z_len => k_is)
    (case z_abs => k_is)
    (case z_range => k_is)
    (case z_tuple => k_is)
    (case z_sorted => k_is)
    (case z_dict => k_is)
    (case z_list => k_is)
    (case z_enumerate => k_is)
    (case z_repr => k_is)
    (case z_set => k_is)
    (case z_max => k_is)
    (case z_min => k_is)
    (case z_all => k_is)

