import PyProof.Rows.All
import Wide.All
import OpenK.AllK
import Wide.FinOn
import HandS.Base
import HandS.Call
import HandS.List
import HandS.Dict
import HandS.Iter
import KE.GoesMore
import KE.GoesEnum
import HandS.ForMost
import HandS.Evl
import HandS.TupAny
import HandS.TupMul
import HandS.TupLe
import HandS.IsInst
import HandS.DictComp
import HandS.DictTup
import HandS.Conv
import KE.KDictList
import PyProof.DictMoreH
import HandS.ForExc
import PyProof.TupleOfSeq
import KE.SortData
import HandS.Deep
import HandS.ExcOwn
import HandS.ExcValue
import HandS.Style
import HandS.TupSets
import HandS.Walk
import HandS.DictSubView
import KE.KDictCopyH
import PyProof.CollectWalk
import KE.KDictZip
import PyProof.ReprRoads
import PyProof.ReprBulk
import HandS.Lambda
import HandS.EndTab
import HandS.ExcIs
import HandS.RaiseMore
import PyProof.CallFns
import KE.KDictPairs
import PyProof.ListNew
import HandS.TupLen
import KE.DataFind
import KE.KExcIs
import KE.OsGo
import HandS.ExcField
import HandS.ExcInit
import HandS.ForSpec
import PyProof.EqAt
import PyProof.EqKinds
import PyProof.TupleCall
import Open.SpecLaws
import KE.KDictOf
import HandS.TryOnly
import KE.DataEq
import HandS.Strs
import KE.DataMinMax
import KE.DataCmp
import PySem.Challenge.RW_movedround_k32_weighings_listed_and_judg
set_option Elab.async false
set_option linter.all false
set_option maxRecDepth 100000
set_option maxHeartbeats 3999999
namespace Mv
open PySem L2 PyProof.Rows PySem.Spec
def keyV : V → Bool
  | .int _ => true
  | .str _ => true
  | _ => false
def keyA (xs : List V) : Bool := !xs.isEmpty && xs.all keyV
def tupO (o : Obj) (xs : List V) : HO := if keyA xs = true then .tup xs else .frz o (.tup xs)
theorem tupO_key {o : Obj} {xs : List V} (h : keyA xs = true) : tupO o xs = .tup xs := if_pos h
theorem tupO_cases (o : Obj) (xs : List V) : tupO o xs = .tup xs ∨ tupO o xs = .frz o (.tup xs) := by
  unfold tupO
  split
  · exact .inl rfl
  · exact .inr rfl
theorem rdO {H : Hp} {a : Addr} {o : Obj} {xs : List V} (e : H a = some (tupO o xs)) : Rd H a (.tup xs) := by
  rcases tupO_cases o xs with q | q
  · exact .inl (e.trans (congrArg some q))
  · exact .inr ⟨o, e.trans (congrArg some q)⟩
theorem sqO {K : PySem.W.Frag} {H : Hp} {a : Addr} {o : Obj} {xs : List V} (e : H a = some (tupO o xs)) : SqT K H a xs := .inl (rdO e)
theorem okO {P : Program} {w : World} {H : Hp} {h : Heap} {a : Addr} {o : Obj} {xs : List V} {its : List Value} (z : xs.length ≤ sizeLine) (r : Vals xs its) (t : IsTup h a its.toArray) (e : h.get? a = some o) : ObjOk P w H h a (tupO o xs) := by
  rcases tupO_cases o xs with q | q
  · rw [q]; exact ⟨z, its, r, t⟩
  · rw [q]; exact ⟨e, z, its, r, t⟩
def TupA (G : Hp) (a : Addr) (xs : List V) : Prop := ∃ o : Obj, o.dict = none ∧ G a = some (tupO o xs)
theorem TupA.mono {G G' : Hp} {a : Addr} {xs : List V} (h : TupA G a xs) (e : ∀ a o, G a = some o → G' a = some o) : TupA G' a xs := by
  obtain ⟨o, n, h⟩ := h
  exact ⟨o, n, e _ _ h⟩
theorem TupA.sq {K : PySem.W.Frag} {G : Hp} {a : Addr} {xs : List V} (h : TupA G a xs) : SqT K G a xs := by
  obtain ⟨o, _, h⟩ := h
  exact sqO h
theorem TupA.new {H : Hp} {p : Addr} {xs : List V} {o : Obj} (n : o.dict = none) : TupA (upd H p (tupO o xs)) p xs := ⟨o, n, upd_same⟩
theorem TupA.ofKey {G : Hp} {a : Addr} {xs : List V} (h : G a = some (.tup xs)) (k : keyA xs = true) : TupA G a xs := ⟨{ cls := .type "tuple", data := .seq #[] }, rfl, by rw [tupO_key k]; exact h⟩
theorem TupA.key {G : Hp} {a : Addr} {xs : List V} (h : TupA G a xs) (k : keyA xs = true) : G a = some (.tup xs) := by
  obtain ⟨o, _, h⟩ := h
  rwa [tupO_key k] at h
theorem TupA.by {G G' : Hp} {a : Addr} {xs : List V} (h : TupA G a xs) (f : ∀ o, (o = .tup xs ∨ ∃ u, o = .frz u (.tup xs)) → G a = some o → G' a = some o) : TupA G' a xs := by
  obtain ⟨o, n, h⟩ := h
  exact ⟨o, n, f _ ((tupO_cases o xs).imp id fun e => ⟨o, e⟩) h⟩
theorem keyV_kk : ∀ (k : List L2.Key), (k.map kV).all keyV = true
  | [] => rfl
  | .inl _ :: k => keyV_kk k
  | .inr _ :: k => keyV_kk k
theorem keyV_ks {k : List L2.Key} (ne : k ≠ []) : keyA (k.map kV) = true := by
  unfold keyA
  rw [keyV_kk]
  cases k with
  | nil => exact (ne rfl).elim
  | cons _ _ => rfl
def SqK (K : PySem.W.Frag) : Bool → Hp → Addr → List V → Prop
  | true, H, a, xs => SqL K H a xs
  | false, H, a, xs => SqT K H a xs
def ItrK : Bool → Heap → Addr → Addr → Nat → Prop
  | true, h, it, a, i => h.IsListIter it a i
  | false, h, it, a, i => h.IsTupleIter it a i
def HasK : Bool → Heap → Addr → Array Value → Prop
  | true, h, a, xs => h.IsList a xs
  | false, h, a, xs => h.IsTuple a xs
def newK : Bool → Addr → Obj
  | true, a => { cls := .type "list_iterator", data := .fields #[.ref a, .int 0 0] }
  | false, a => { cls := .type "tuple_iterator", data := .fields #[.ref a, .int 0 0] }
theorem drawsK {prog : Program} {w : World} {A : Around} (k : Bool) (hh : A.handled = none) (it l : Addr) (hne : l ≠ it) (items : Array Value) :
    Draws prog w A it [it, l] items.size (fun i v => items[i]? = some v) (fun i h => ItrK k h it l i ∧ HasK k h l items) := by
  cases k with
  | true => exact Draws.list hh it l hne items
  | false => exact Draws.tuple hh it l hne items
theorem beginsK (k : Bool) (l : Addr) (items : Array Value) : Begins (.ref l) (newK k l) fun h => HasK k h l items := by
  cases k with
  | true => exact begins_list l items
  | false => exact begins_tuple l items
theorem itrK_new {k : Bool} {h : Heap} {it a : Addr} (e : h.get? it = some (newK k a)) : ItrK k h it a 0 := by
  cases k with
  | true => exact ⟨_, e, rfl, rfl⟩
  | false => exact ⟨_, e, rfl, rfl⟩
theorem ItrK.ob {k : Bool} {h : Heap} {it a : Addr} {i : Nat} (x : ItrK k h it a i) : ∃ o, h.get? it = some o ∧ ∀ v, o.data ≠ .cell v := by
  cases k with
  | true => obtain ⟨o, e, _, d⟩ := x; exact ⟨o, e, fun v q => by rw [d] at q; cases q⟩
  | false => obtain ⟨o, e, _, d⟩ := x; exact ⟨o, e, fun v q => by rw [d] at q; cases q⟩
theorem ItrK.at {k : Bool} {h h' : Heap} {it a : Addr} {i : Nat} (x : ItrK k h it a i) (e : ∀ o, h.get? it = some o → h'.get? it = some o) : ItrK k h' it a i := by
  cases k with
  | true => exact Heap.IsListIter.at x e
  | false => exact Heap.IsTupleIter.at x e
theorem HasK.lt {k : Bool} {h : Heap} {a : Addr} {xs : Array Value} (x : HasK k h a xs) : a < h.objs.size := by
  cases k with
  | true => obtain ⟨o, e, _⟩ := x; exact Heap.lt_size e
  | false => obtain ⟨o, e, _⟩ := x; exact Heap.lt_size e
section
variable {X : Cx} {pns : List (Addr × Obj)} {σ : L2.St} {H : Hp} {s : Shared} {a : Addr} {xs : List V} {k : Bool}
theorem seqK (I : Inv X pns σ H s) (h : SqK X.K k H a xs) : ∃ its : List Value, Vals xs its ∧ HasK k s.heap a its.toArray ∧ xs.length ≤ sizeLine := by
  cases k with
  | true => obtain ⟨its, rv, p, z⟩ := I.list h; exact ⟨its, rv, p.isList, z⟩
  | false => obtain ⟨its, rv, p, z⟩ := I.tuple h; exact ⟨its, rv, p, z⟩
theorem seqK_inj {ys : List V} (I : Inv X pns σ H s) (h : SqK X.K k H a xs) (h' : SqK X.K k H a ys) : xs = ys := by
  cases k with
  | true => exact I.list_inj h h'
  | false => exact I.tuple_inj h h'
end
def It3 (K : PySem.W.Frag) (k1 k2 k3 : Bool) (a b c : Addr) : It :=
  ⟨fun i H => ∃ (xs ys zs : List V) (x y z : V), SqK K k1 H a xs ∧ SqK K k2 H b ys ∧ SqK K k3 H c zs ∧ xs[i]? = some x ∧ ys[i]? = some y ∧ zs[i]? = some z,
    fun i H v H' => ∃ T x y z o, v = .ref T ∧ H T = none ∧ o.dict = none ∧ H' = upd H T (tupO o [x, y, z]) ∧ (∀ xs, SqK K k1 H a xs → xs[i]? = some x) ∧ (∀ ys, SqK K k2 H b ys → ys[i]? = some y) ∧ ∀ zs, SqK K k3 H c zs → zs[i]? = some z,
    fun i H => ∃ xs ys zs : List V, SqK K k1 H a xs ∧ SqK K k2 H b ys ∧ SqK K k3 H c zs ∧ i ≤ xs.length ∧ i ≤ ys.length ∧ i ≤ zs.length ∧ (i = xs.length ∨ i = ys.length ∨ i = zs.length)⟩
structure Sep3 (z TI TO i1 i2 i3 a b c : Addr) : Prop where
  sep : ZipSep3 z TI TO i1 i2 i3 [i1, a] [i2, b] [i3, c]
  n1 : a ≠ i1
  n2 : b ≠ i2
  n3 : c ≠ i3
theorem turn_zip3 {P : Program} {w : World} {K : PySem.W.Frag} {elts : List Expr} {kk : Nat} {tpos : Pos} {k1 k2 k3 : Bool} {a b c z TI TO i1 i2 i3 : Addr} (D : Sep3 z TI TO i1 i2 i3 a b c) :
    Turn P w K (.Tuple elts kk tpos) (It3 K k1 k2 k3 a b c) [z, TI, TO, i1, i2, i3] z (fun i h => IsZip h z TI TO .none ∧ IsTupOf3 h TI (.ref i1) (.ref i2) (.ref i3) ∧ (∃ x y u, IsTupOf3 h TO x y u) ∧ ItrK k1 h i1 a i ∧ ItrK k2 h i2 b i ∧ ItrK k3 h i3 c i) where
  mem := by simp
  obj := fun i h stz q hq => by
    obtain ⟨atZ, atI, ⟨x, y, u, atO⟩, h1, h2, h3⟩ := stz
    have altE : q = z ∨ q = TI ∨ q = TO ∨ q = i1 ∨ q = i2 ∨ q = i3 := by simpa using hq
    rcases altE with e | e | e | e | e | e
    · rw [e]; exact ⟨_, atZ, fun v q => nomatch q⟩
    · rw [e]; exact ⟨_, atI, fun v q => nomatch q⟩
    · rw [e]; exact ⟨_, atO, fun v q => nomatch q⟩
    · rw [e]; exact h1.ob
    · rw [e]; exact h2.ob
    · rw [e]; exact h3.ob
  keep := fun i h h' stz k => by
    obtain ⟨atZ, atI, ⟨x, y, u, atO⟩, h1, h2, h3⟩ := stz
    exact ⟨k z (by simp) _ atZ, k TI (by simp) _ atI, ⟨x, y, u, k TO (by simp) _ atO⟩, h1.at fun o q => k i1 (by simp) o q, h2.at fun o q => k i2 (by simp) o q, h3.at fun o q => k i3 (by simp) o q⟩
  item := by
    intro X ofP ofW ofK hc i pns s σ H E I hf stz hg
    subst ofP ofW ofK
    obtain ⟨atZ, atI, ⟨x0, y0, u0, atO⟩, h1, h2, h3⟩ := stz
    obtain ⟨xs, ys, zs, x, y, u, q1, q2, q3, hx, hy, hu⟩ := hg
    obtain ⟨t1, r1, p1, _⟩ := seqK I q1
    obtain ⟨t2, r2, p2, _⟩ := seqK I q2
    obtain ⟨t3, r3, p3, _⟩ := seqK I q3
    obtain ⟨v1, e1, w1⟩ := r1.get hx
    obtain ⟨v2, e2, w2⟩ := r2.get hy
    obtain ⟨v3, e3, w3⟩ := r3.get hu
    have hh : X.A.in1.handled = none := I.ok.hd hc
    have ltZ : z < s.heap.objs.size := Heap.lt_size atZ
    refine wpAny_pyNext_zipD3_item D.sep (drawsK k1 hh i1 a D.n1 t1.toArray) (drawsK k2 hh i2 b D.n2 t2.toArray) (drawsK k3 hh i3 c D.n3 t3.toArray) atZ atI atO ⟨h1, p1⟩ ⟨h2, p2⟩ ⟨h3, p3⟩
      (by have := (List.getElem?_eq_some_iff.mp e1).1; simpa using this) (by have := (List.getElem?_eq_some_iff.mp e2).1; simpa using this) (by have := (List.getElem?_eq_some_iff.mp e3).1; simpa using this)
      fun y1 y2 y3 h' tk g1 g2 g3 hz' hTO' sA s2 s3 hT hsz hk => ?_
    have f1 : y1 = v1 := by
      have : t1[i]? = some y1 := by simpa using g1
      rw [e1] at this; exact (Option.some.inj this).symm
    have f2 : y2 = v2 := by
      have : t2[i]? = some y2 := by simpa using g2
      rw [e2] at this; exact (Option.some.inj this).symm
    have f3 : y3 = v3 := by
      have : t3[i]? = some y3 := by simpa using g3
      rw [e3] at this; exact (Option.some.inj this).symm
    subst f1 f2 f3
    refine ⟨_, rfl, wpAny_letOwnedTupleGo_zip (s := { s with heap := h', toks := tk }) hz' fun heapB hz'' sb => ?_⟩
    have hT2 : heapB.get? s.heap.objs.size = some { cls := .type "tuple", data := .seq #[y1, y2, y3] } := (sb.2 _ (Nat.ne_of_gt ltZ)).trans hT
    have fresh_ : ObjOk X.prog X.w (upd H s.heap.objs.size (tupO { cls := .type "tuple", data := .seq #[y1, y2, y3] } [x, y, u])) heapB s.heap.objs.size (tupO { cls := .type "tuple", data := .seq #[y1, y2, y3] } [x, y, u]) :=
      okO (by show 3 ≤ sizeLine; decide) (.cons w1 (.cons w2 (.cons w3 .nil))) (its := [y1, y2, y3]) ⟨_, hT2, rfl, _, rfl⟩ hT2
    have invA : Inv X pns σ (upd H s.heap.objs.size (tupO { cls := .type "tuple", data := .seq #[y1, y2, y3] } [x, y, u])) { s with heap := heapB, toks := tk } :=
      I.turnedNew (t' := tk) (ch := [z, TI, TO, i1, i2, i3]) (fun c o hb q => (sb.2 c (fun q' => hb (by simp [q']))).trans (hk c o (fun q' => hb (by simp [q'])) (fun q' => hb (by simp [q'])) (fun q' => hb (by simp [q'])) (fun q' => hb (by simp [q'])) (fun q' => hb (by simp [q'])) q)) hf (Nat.le_refl _) fresh_
    have S := D.sep
    refine ⟨.ref s.heap.objs.size, _, invA, rfl, ⟨_, x, y, u, _, rfl, I.hok.fresh (Nat.le_refl _), rfl, rfl, fun l hl => by rw [seqK_inj I hl q1]; exact hx, fun l hl => by rw [seqK_inj I hl q2]; exact hy, fun l hl => by rw [seqK_inj I hl q3]; exact hu⟩, ⟨hz'', ?_, ⟨y1, y2, y3, ?_⟩, ?_, ?_, ?_⟩, fun c among => ?_⟩
    · exact (sb.2 _ S.TIz).trans (hk _ _ S.TIz S.TITO S.TIi1 S.TIi2 S.TIi3 atI)
    · exact (sb.2 _ S.TOz).trans hTO'
    · exact sA.1.at fun o q => (sb.2 _ (fun e => S.zf1 (by rw [← e]; exact S.mem1))).trans q
    · exact s2.1.at fun o q => (sb.2 _ (fun e => S.zf2 (by rw [← e]; exact S.mem2))).trans q
    · exact s3.1.at fun o q => (sb.2 _ (fun e => S.zf3 (by rw [← e]; exact S.mem3))).trans q
    · have ltC : c < s.heap.objs.size := by
        have altE : c = z ∨ c = TI ∨ c = TO ∨ c = i1 ∨ c = i2 ∨ c = i3 := by simpa using among
        rcases altE with q | q | q | q | q | q
        · rw [q]; exact ltZ
        · rw [q]; exact Heap.lt_size atI
        · rw [q]; exact Heap.lt_size atO
        · rw [q]; obtain ⟨_, e1, _⟩ := h1.ob; exact Heap.lt_size e1
        · rw [q]; obtain ⟨_, e2, _⟩ := h2.ob; exact Heap.lt_size e2
        · rw [q]; obtain ⟨_, e3, _⟩ := h3.ob; exact Heap.lt_size e3
      rw [upd_ne (Nat.ne_of_lt ltC)]
      exact (hf c among).1
  done := by
    intro X ofP ofW ofK hc i pns s σ H E I hf stz hg
    subst ofP ofW ofK
    obtain ⟨atZ, atI, ⟨x0, y0, u0, atO⟩, h1, h2, h3⟩ := stz
    obtain ⟨xs, ys, zs, q1, q2, q3, l1, l2, l3, he⟩ := hg
    obtain ⟨t1, r1, p1, _⟩ := seqK I q1
    obtain ⟨t2, r2, p2, _⟩ := seqK I q2
    obtain ⟨t3, r3, p3, _⟩ := seqK I q3
    have hh : X.A.in1.handled = none := I.ok.hd hc
    have m1 := r1.length
    have m2 := r2.length
    have m3 := r3.length
    have z1 : t1.toArray.size = t1.length := List.size_toArray
    have z2 : t2.toArray.size = t2.length := List.size_toArray
    have z3 : t3.toArray.size = t3.length := List.size_toArray
    refine wpAny_pyNext_zipD3_end D.sep (drawsK k1 hh i1 a D.n1 t1.toArray) (drawsK k2 hh i2 b D.n2 t2.toArray) (drawsK k3 hh i3 c D.n3 t3.toArray) atZ atI atO ⟨h1, p1⟩ ⟨h2, p2⟩ ⟨h3, p3⟩
      (by omega) (by omega) (by omega) (by omega) fun h' tk hk => ⟨rfl, I.turnedL (t' := tk) (ch := [z, TI, TO, i1, i2, i3]) (fun c o hb q =>
      hk c o (fun q' => hb (by simp [q'])) (fun q' => hb (by simp [q'])) (fun q' => hb (by simp [q'])) (fun q' => hb (by simp [q'])) (fun q' => hb (by simp [q'])) q) hf⟩
  self := fun A i s Q E stz h => wpAny_pyIter_zip stz.1 h
def iZip3 (K : PySem.W.Frag) (k1 k2 k3 : Bool) (ta : TA) : TI := fun σ H Rq => ta σ H fun vs H1 => ∃ a b c xs ys zs, vs = [.ref a, .ref b, .ref c] ∧ SqK K k1 H1 a xs ∧ SqK K k2 H1 b ys ∧ SqK K k3 H1 c zs ∧ Rq (It3 K k1 k2 k3 a b c) H1
theorem pi_zip3 (k1 k2 k3 : Bool) {X : Cx} {e e2 e3 : Expr} {ta : TA} {p pos tpos : Pos} {elts : List Expr} {kk : Nat} (hg : Gl X "zip") (hm : X.mg "zip" = none) (ha : PA X [e, e2, e3] ta)
    (hs : starEach [e, e2, e3] X.env = (false, eval e X.env) :: starEach [e2, e3] X.env := by rfl) (plain_ : (backTo pos (starEach [e2, e3] X.env)).any (·.1) = false := by rfl) :
    PI X (.Tuple elts kk tpos) (.Call (.Name "zip" p) [e, e2, e3] [] pos) (iZip3 X.K k1 k2 k3 ta) := by
  refine ⟨fun pns s σ H Rq I h => ?_⟩
  refine Call_ (ld_blt I hg hm PyProof.Rows.boot_zip (PyProof.Rows.callWith_type1 (thn (ha.run pos pns s σ H _ I h) fun uz sA ⟨vs, H1, invA, r1, q1⟩ => ?_) hs plain_))
  obtain ⟨a, b, c, xs, ys, zs, ex, sx, sy, hqz, q⟩ := q1
  subst ex
  cases r1 with
  | cons r rr =>
    cases rr with
    | cons r' rr =>
      cases rr with
      | cons r'' rr =>
        cases rr
        cases r
        cases r'
        cases r''
        have allNew6 : ∀ c, c ∈ [sA.heap.objs.size + 5, sA.heap.objs.size + 3, sA.heap.objs.size + 4, sA.heap.objs.size, sA.heap.objs.size + 1, sA.heap.objs.size + 2] → FpOk X pns H1 c := fun c among => by
          have altE : c = sA.heap.objs.size + 5 ∨ c = sA.heap.objs.size + 3 ∨ c = sA.heap.objs.size + 4 ∨ c = sA.heap.objs.size ∨ c = sA.heap.objs.size + 1 ∨ c = sA.heap.objs.size + 2 := by simpa using among
          have geC : sA.heap.objs.size ≤ c := by
            rcases altE with z | z | z | z | z | z
            · rw [z]; exact (Nat.le_add_right _ _)
            · rw [z]; exact (Nat.le_add_right _ _)
            · rw [z]; exact (Nat.le_add_right _ _)
            · rw [z]; exact Nat.le_refl _
            · rw [z]; exact (Nat.le_add_right _ _)
            · rw [z]; exact (Nat.le_add_right _ _)
          exact invA.fpOk geC (invA.hok.fresh geC)
        obtain ⟨t1, r1, p1, _⟩ := seqK invA sx
        obtain ⟨t2, r2, p2, _⟩ := seqK invA sy
        obtain ⟨t3, r3, p3, _⟩ := seqK invA hqz
        have n1 := p1.lt
        have n2 := p2.lt
        have n3 := p3.lt
        refine zip_begins3 (beginsK k1 a t1.toArray) (beginsK k2 b t2.toArray) (beginsK k3 c t3.toArray) p1 p2 p3 fun h' atZ atI atO e1 e2 e3 hsz hk => wpAny_pyIter_zip atZ ?_
        have invB : Inv X pns σ H1 { sA with heap := h' } := invA.kept (t' := sA.toks) hk
        have D : Sep3 (sA.heap.objs.size + 5) (sA.heap.objs.size + 3) (sA.heap.objs.size + 4) sA.heap.objs.size (sA.heap.objs.size + 1) (sA.heap.objs.size + 2) a b c :=
          ⟨zip_sep3 (by simpa using n1) (by simpa using n2) (by simpa using n3), Nat.ne_of_lt n1, Nat.ne_of_lt (Nat.lt_add_right 1 n2), Nat.ne_of_lt (Nat.lt_add_right 2 n3)⟩
        exact ⟨sA.heap.objs.size + 5, [sA.heap.objs.size + 5, sA.heap.objs.size + 3, sA.heap.objs.size + 4, sA.heap.objs.size, sA.heap.objs.size + 1, sA.heap.objs.size + 2], _, _, H1, rfl, invB, turn_zip3 D, ⟨atZ, atI, ⟨_, _, _, atO⟩, itrK_new e1, itrK_new e2, itrK_new e3⟩, allNew6, q⟩
def It2 (K : PySem.W.Frag) (k1 k2 : Bool) (a b : Addr) : It :=
  ⟨fun i H => ∃ (xs ys : List V) (x y : V), SqK K k1 H a xs ∧ SqK K k2 H b ys ∧ xs[i]? = some x ∧ ys[i]? = some y,
    fun i H v H' => ∃ T x y o, v = .ref T ∧ H T = none ∧ o.dict = none ∧ H' = upd H T (tupO o [x, y]) ∧ (∀ xs, SqK K k1 H a xs → xs[i]? = some x) ∧ (∀ ys, SqK K k2 H b ys → ys[i]? = some y),
    fun i H => ∃ xs ys : List V, SqK K k1 H a xs ∧ SqK K k2 H b ys ∧ i ≤ xs.length ∧ i ≤ ys.length ∧ (i = xs.length ∨ i = ys.length)⟩
structure Sep2Z (z TI TO i1 i2 a b : Addr) : Prop where
  sep : ZipSep2 z TI TO i1 i2 [i1, a] [i2, b]
  n1 : a ≠ i1
  n2 : b ≠ i2
theorem turn_zip2k {P : Program} {w : World} {K : PySem.W.Frag} {elts : List Expr} {kk : Nat} {tpos : Pos} {k1 k2 : Bool} {a b z TI TO i1 i2 : Addr} (D : Sep2Z z TI TO i1 i2 a b) :
    Turn P w K (.Tuple elts kk tpos) (It2 K k1 k2 a b) [z, TI, TO, i1, i2] z (fun i h => IsZip h z TI TO .none ∧ IsTupOf2 h TI (.ref i1) (.ref i2) ∧ (∃ x y, IsTupOf2 h TO x y) ∧ ItrK k1 h i1 a i ∧ ItrK k2 h i2 b i) where
  mem := by simp
  obj := fun i h stz q hq => by
    obtain ⟨atZ, atI, ⟨x, y, atO⟩, h1, h2⟩ := stz
    have altE : q = z ∨ q = TI ∨ q = TO ∨ q = i1 ∨ q = i2 := by simpa using hq
    rcases altE with e | e | e | e | e
    · rw [e]; exact ⟨_, atZ, fun v q => nomatch q⟩
    · rw [e]; exact ⟨_, atI, fun v q => nomatch q⟩
    · rw [e]; exact ⟨_, atO, fun v q => nomatch q⟩
    · rw [e]; exact h1.ob
    · rw [e]; exact h2.ob
  keep := fun i h h' stz k => by
    obtain ⟨atZ, atI, ⟨x, y, atO⟩, h1, h2⟩ := stz
    exact ⟨k z (by simp) _ atZ, k TI (by simp) _ atI, ⟨x, y, k TO (by simp) _ atO⟩, h1.at fun o q => k i1 (by simp) o q, h2.at fun o q => k i2 (by simp) o q⟩
  item := by
    intro X ofP ofW ofK hc i pns s σ H E I hf stz hg
    subst ofP ofW ofK
    obtain ⟨atZ, atI, ⟨x0, y0, atO⟩, h1, h2⟩ := stz
    obtain ⟨xs, ys, x, y, q1, q2, hx, hy⟩ := hg
    obtain ⟨t1, r1, p1, _⟩ := seqK I q1
    obtain ⟨t2, r2, p2, _⟩ := seqK I q2
    obtain ⟨v1, e1, w1⟩ := r1.get hx
    obtain ⟨v2, e2, w2⟩ := r2.get hy
    have hh : X.A.in1.handled = none := I.ok.hd hc
    have ltZ : z < s.heap.objs.size := Heap.lt_size atZ
    refine wpAny_pyNext_zipD2_item D.sep (drawsK k1 hh i1 a D.n1 t1.toArray) (drawsK k2 hh i2 b D.n2 t2.toArray) atZ atI atO ⟨h1, p1⟩ ⟨h2, p2⟩
      (by have := (List.getElem?_eq_some_iff.mp e1).1; simpa using this) (by have := (List.getElem?_eq_some_iff.mp e2).1; simpa using this)
      fun y1 y2 h' tk g1 g2 hz' hTO' sA s2 hT hsz hk => ?_
    have f1 : y1 = v1 := by
      have : t1[i]? = some y1 := by simpa using g1
      rw [e1] at this; exact (Option.some.inj this).symm
    have f2 : y2 = v2 := by
      have : t2[i]? = some y2 := by simpa using g2
      rw [e2] at this; exact (Option.some.inj this).symm
    subst f1 f2
    refine ⟨_, rfl, wpAny_letOwnedTupleGo_zip (s := { s with heap := h', toks := tk }) hz' fun heapB hz'' sb => ?_⟩
    have hT2 : heapB.get? s.heap.objs.size = some { cls := .type "tuple", data := .seq #[y1, y2] } := (sb.2 _ (Nat.ne_of_gt ltZ)).trans hT
    have fresh_ : ObjOk X.prog X.w (upd H s.heap.objs.size (tupO { cls := .type "tuple", data := .seq #[y1, y2] } [x, y])) heapB s.heap.objs.size (tupO { cls := .type "tuple", data := .seq #[y1, y2] } [x, y]) :=
      okO (by show 2 ≤ sizeLine; decide) (.cons w1 (.cons w2 .nil)) (its := [y1, y2]) ⟨_, hT2, rfl, _, rfl⟩ hT2
    have invA : Inv X pns σ (upd H s.heap.objs.size (tupO { cls := .type "tuple", data := .seq #[y1, y2] } [x, y])) { s with heap := heapB, toks := tk } :=
      I.turnedNew (t' := tk) (ch := [z, TI, TO, i1, i2]) (fun c o hb q => (sb.2 c (fun q' => hb (by simp [q']))).trans (hk c o (fun q' => hb (by simp [q'])) (fun q' => hb (by simp [q'])) (fun q' => hb (by simp [q'])) (fun q' => hb (by simp [q'])) q)) hf (Nat.le_refl _) fresh_
    have S := D.sep
    refine ⟨.ref s.heap.objs.size, _, invA, rfl, ⟨_, x, y, _, rfl, I.hok.fresh (Nat.le_refl _), rfl, rfl, fun l hl => by rw [seqK_inj I hl q1]; exact hx, fun l hl => by rw [seqK_inj I hl q2]; exact hy⟩, ⟨hz'', ?_, ⟨y1, y2, ?_⟩, ?_, ?_⟩, fun c among => ?_⟩
    · exact (sb.2 _ S.TIz).trans (hk _ _ S.TIz S.TITO S.TIi1 S.TIi2 atI)
    · exact (sb.2 _ S.TOz).trans hTO'
    · exact sA.1.at fun o q => (sb.2 _ (fun e => S.zf1 (by rw [← e]; exact S.mem1))).trans q
    · exact s2.1.at fun o q => (sb.2 _ (fun e => S.zf2 (by rw [← e]; exact S.mem2))).trans q
    · have ltC : c < s.heap.objs.size := by
        have altE : c = z ∨ c = TI ∨ c = TO ∨ c = i1 ∨ c = i2 := by simpa using among
        rcases altE with q | q | q | q | q
        · rw [q]; exact ltZ
        · rw [q]; exact Heap.lt_size atI
        · rw [q]; exact Heap.lt_size atO
        · rw [q]; obtain ⟨_, e1, _⟩ := h1.ob; exact Heap.lt_size e1
        · rw [q]; obtain ⟨_, e2, _⟩ := h2.ob; exact Heap.lt_size e2
      rw [upd_ne (Nat.ne_of_lt ltC)]
      exact (hf c among).1
  done := by
    intro X ofP ofW ofK hc i pns s σ H E I hf stz hg
    subst ofP ofW ofK
    obtain ⟨atZ, atI, ⟨x0, y0, atO⟩, h1, h2⟩ := stz
    obtain ⟨xs, ys, q1, q2, l1, l2, he⟩ := hg
    obtain ⟨t1, r1, p1, _⟩ := seqK I q1
    obtain ⟨t2, r2, p2, _⟩ := seqK I q2
    have hh : X.A.in1.handled = none := I.ok.hd hc
    have m1 := r1.length
    have m2 := r2.length
    have z1 : t1.toArray.size = t1.length := List.size_toArray
    have z2 : t2.toArray.size = t2.length := List.size_toArray
    refine wpAny_pyNext_zipD2_end D.sep (drawsK k1 hh i1 a D.n1 t1.toArray) (drawsK k2 hh i2 b D.n2 t2.toArray) atZ atI atO ⟨h1, p1⟩ ⟨h2, p2⟩
      (by omega) (by omega) (by omega) fun h' tk hk => ⟨rfl, I.turnedL (t' := tk) (ch := [z, TI, TO, i1, i2]) (fun c o hb q =>
      hk c o (fun q' => hb (by simp [q'])) (fun q' => hb (by simp [q'])) (fun q' => hb (by simp [q'])) (fun q' => hb (by simp [q'])) q) hf⟩
  self := fun A i s Q E stz h => wpAny_pyIter_zip stz.1 h
def iZip2 (K : PySem.W.Frag) (k1 k2 : Bool) (ta : TA) : TI := fun σ H Rq => ta σ H fun vs H1 => ∃ a b xs ys, vs = [.ref a, .ref b] ∧ SqK K k1 H1 a xs ∧ SqK K k2 H1 b ys ∧ Rq (It2 K k1 k2 a b) H1
theorem pi_zip2 (k1 k2 : Bool) {X : Cx} {e e2 : Expr} {ta : TA} {p pos tpos : Pos} {elts : List Expr} {kk : Nat} (hg : Gl X "zip") (hm : X.mg "zip" = none) (ha : PA X [e, e2] ta)
    (hs : starEach [e, e2] X.env = (false, eval e X.env) :: starEach [e2] X.env := by rfl) (plain_ : (backTo pos (starEach [e2] X.env)).any (·.1) = false := by rfl) :
    PI X (.Tuple elts kk tpos) (.Call (.Name "zip" p) [e, e2] [] pos) (iZip2 X.K k1 k2 ta) := by
  refine ⟨fun pns s σ H Rq I h => ?_⟩
  refine Call_ (ld_blt I hg hm PyProof.Rows.boot_zip (PyProof.Rows.callWith_type1 (thn (ha.run pos pns s σ H _ I h) fun uz sA ⟨vs, H1, invA, r1, q1⟩ => ?_) hs plain_))
  obtain ⟨a, b, xs, ys, ex, sx, sy, q⟩ := q1
  subst ex
  cases r1 with
  | cons r rr =>
    cases rr with
    | cons r' rr =>
      cases rr
      cases r
      cases r'
      have allNew : ∀ c, c ∈ [sA.heap.objs.size + 4, sA.heap.objs.size + 2, sA.heap.objs.size + 3, sA.heap.objs.size, sA.heap.objs.size + 1] → FpOk X pns H1 c := fun c among => by
        have altE : c = sA.heap.objs.size + 4 ∨ c = sA.heap.objs.size + 2 ∨ c = sA.heap.objs.size + 3 ∨ c = sA.heap.objs.size ∨ c = sA.heap.objs.size + 1 := by simpa using among
        have geC : sA.heap.objs.size ≤ c := by
          rcases altE with z | z | z | z | z
          · rw [z]; exact (Nat.le_add_right _ _)
          · rw [z]; exact (Nat.le_add_right _ _)
          · rw [z]; exact (Nat.le_add_right _ _)
          · rw [z]; exact Nat.le_refl _
          · rw [z]; exact (Nat.le_add_right _ _)
        exact invA.fpOk geC (invA.hok.fresh geC)
      obtain ⟨t1, r1, p1, _⟩ := seqK invA sx
      obtain ⟨t2, r2, p2, _⟩ := seqK invA sy
      have n1 := p1.lt
      have n2 := p2.lt
      refine zip_begins2 (beginsK k1 a t1.toArray) (beginsK k2 b t2.toArray) p1 p2 fun h' atZ atI atO e1 e2 hsz hk => wpAny_pyIter_zip atZ ?_
      have invB : Inv X pns σ H1 { sA with heap := h' } := invA.kept (t' := sA.toks) hk
      have D : Sep2Z (sA.heap.objs.size + 4) (sA.heap.objs.size + 2) (sA.heap.objs.size + 3) sA.heap.objs.size (sA.heap.objs.size + 1) a b :=
        ⟨zip_sep2 (by simpa using n1) (by simpa using n2), Nat.ne_of_lt n1, Nat.ne_of_lt (Nat.lt_add_right 1 n2)⟩
      exact ⟨sA.heap.objs.size + 4, [sA.heap.objs.size + 4, sA.heap.objs.size + 2, sA.heap.objs.size + 3, sA.heap.objs.size, sA.heap.objs.size + 1], _, _, H1, rfl, invB, turn_zip2k D, ⟨atZ, atI, ⟨_, _, atO⟩, itrK_new e1, itrK_new e2⟩, allNew, q⟩
end Mv
namespace Mv
open PySem PySem.Spec PyProof.Rows L2 HT
section
variable {X : Cx} {pins : List (Addr × Obj)} {σ : L2.St} {H : Hp} {s : Shared} {xs : List V} {its : List Value}
theorem laidT (I : Inv X pins σ H s) (z : xs.length ≤ sizeLine) (r : Vals xs its) :
    Inv X pins σ (upd H s.heap.objs.size (tupO { cls := .type "tuple", data := .seq its.toArray } xs)) { s with heap := s.heap.push { cls := .type "tuple", data := .seq its.toArray } } :=
  I.laid (t' := s.toks) (fun b u e => Heap.get?_push_of_some _ e) (Nat.le_refl _) (okO z r (IsTup.new _ _) (Heap.get?_push_size _ rfl))
end
section
variable {X : Cx} {es : List Expr} {t : TA} {pos : Pos}
def tTup (t : TA) : TE := fun σ H Q => t σ H fun xs H1 => xs.length ≤ sizeLine ∧ ∀ p o, H1 p = none → o.dict = none → Q (.ref p) (upd H1 p (tupO o xs))
theorem pe_tup {x1} (h : PA X es t) : PE X (.Tuple es x1 pos) (tTup t) := by
  constructor
  intro pns s σ H Q I hq
  refine wpAny_Tuple_spliced (thn (h.run pos pns s σ H _ I hq) ?_)
  rintro us s1 ⟨xs, H1, J, rv, room, done⟩
  refine ⟨by rw [← rv.length]; exact room, .ref s1.heap.objs.size, _, laidT J room rv, rfl, done _ _ (J.hok.fresh (Nat.le_refl _)) rfl⟩
def rSlA (K : PySem.W.Frag) : V → Option Int → Option Int → Hp → VK → Prop := fun x lo hi H Q => ∃ a xs, x = .ref a ∧ SqT K H a xs ∧
  (sIx xs.length 0 lo = 0 ∧ sIx xs.length xs.length hi = xs.length → Q (.ref a) H) ∧ (¬ (sIx xs.length 0 lo = 0 ∧ sIx xs.length xs.length hi = xs.length) → ∀ p o, H p = none → o.dict = none → Q (.ref p) (upd H p (tupO o (cutV xs lo hi))))
theorem sl_tupA : SlR X (rSlA X.K) := by
  intro pins; intro s σ H x v vl vu lo hi sl Q I rx hs pl pu h
  obtain ⟨a, xs, rfl, hx, all_, part_⟩ := h
  cases rx
  by_cases whole : sIx xs.length 0 lo = 0 ∧ sIx xs.length xs.length hi = xs.length
  · exact L2.sl_tupA pins s σ H (.ref a) (.ref a) vl vu lo hi sl Q I rfl hs pl pu ⟨a, xs, rfl, hx, all_, fun z => absurd whole z⟩
  · obtain ⟨its, rv, tt, room⟩ := I.tuple hx
    have le : its.toArray.size = xs.length := by rw [List.size_toArray]; exact rv.length.symm
    refine ⟨"tuple", _, PyProof.Rows.slot_tuple_getitem.lookup, tt.typeIs, getItem_tuple_cut tt hs pl pu (by rw [le]; exact whole) ?_ (by rw [le]; exact room)⟩
    rw [le]
    exact ⟨.ref s.heap.objs.size, _, laidT I (Nat.le_trans (cutV_length xs lo hi) room) ((rv.drop (sIx xs.length 0 lo)).take (sIx xs.length xs.length hi - sIx xs.length 0 lo)), rfl, part_ whole _ _ (I.hok.fresh (Nat.le_refl _)) rfl⟩
def rCatA (K : PySem.W.Frag) : R2 := fun x y H Q => ∃ a b xs ys, x = .ref a ∧ y = .ref b ∧ SqT K H a xs ∧ SqT K H b ys ∧ xs.length + ys.length ≤ sizeLine ∧
  (xs = [] → Q (.ref b) H) ∧ (xs ≠ [] → ys = [] → Q (.ref a) H) ∧ (xs ≠ [] → ys ≠ [] → ∀ p o, H p = none → o.dict = none → Q (.ref p) (upd H p (tupO o (xs ++ ys))))
theorem op_catA : OpR X (binaryOp .Add) (rCatA X.K) := by
  intro pins; intro s σ H x y v u Q I rx ry h
  obtain ⟨a, b, xs, ys, rfl, rfl, ha, hb, room, e0, e1, e2⟩ := h
  by_cases hx : xs = []
  · exact L2.op_catA pins s σ H _ _ v u Q I rx ry ⟨a, b, xs, ys, rfl, rfl, ha, hb, room, e0, e1, fun z => absurd hx z⟩
  · cases rx
    cases ry
    obtain ⟨as, r1, p1, _⟩ := I.tuple ha
    obtain ⟨bs, r2, p2, _⟩ := I.tuple hb
    refine cat_tup p1 p2 (fun z => hx (r1.nil_iff.mp z)) (fun z => ⟨.ref a, H, I, rfl, e1 hx (r2.nil_iff.mp z)⟩) (fun z => ?_) (by rw [← r1.length, ← r2.length]; exact room)
    exact ⟨.ref s.heap.objs.size, _, laidT I (by rw [List.length_append]; exact room) (r1.append r2), rfl, e2 hx (fun w => z (r2.nil_iff.mpr w)) _ _ (I.hok.fresh (Nat.le_refl _)) rfl⟩
abbrev rTupOf (K : PySem.W.Frag) : List V → Hp → VK → Prop := fun xs H Q => ∃ p ys, xs = [.ref p] ∧ ((SqL K H p ys ∧ ∀ l o, H l = none → o.dict = none → Q (.ref l) (upd H l (tupO o ys))) ∨ (SqT K H p ys ∧ Q (.ref p) H))
theorem call_tuple_of : CallR X (.type "tuple") (rTupOf X.K) := by
  intro pins; intro s σ H xs us Q I r h
  obtain ⟨p, ys, rfl, ⟨hq, q⟩ | ⟨hq, q⟩⟩ := h
  · cases r with
    | cons rx rn =>
      cases rn
      cases rx
      obtain ⟨its, rv, pl, room⟩ := I.list hq
      have le := rv.length
      refine call_tuple_list pl.isList (fun h' kp => ?_) (by rw [List.size_toArray]; omega)
      have J : Inv X pins σ H { s with heap := h' } := I.kept (t' := s.toks) kp
      exact ⟨.ref h'.objs.size, _, laidT J room rv, rfl, q _ _ (J.hok.fresh (Nat.le_refl _)) rfl⟩
  · exact L2.call_tupleT pins s σ H _ us Q I r ⟨p, ys, rfl, hq, q⟩
theorem op_repO {pins : List (Addr × Obj)} {s : Shared} {σ : L2.St} {H : Hp} {l : Addr} {k : Int} {t : Tok} {xs : List V} {Q : V → Hp → Prop} (I : Inv X pins σ H s) (hT : SqT X.K H l xs) (hne : xs ≠ []) (h1 : 2 ≤ k) (h2 : k ≤ 1000) (hz : xs.length ≤ 1000)
    (q : ∀ p o, H p = none → o.dict = none → Q (.ref p) (upd H p (tupO o (List.replicate k.toNat xs).flatten))) : wpAny (model X.prog X.w) X.A (binaryOp .Mult (.ref l) (.int k t)) (EP X pins σ Q) X.xe s := by
  obtain ⟨its, r, ⟨⟨cls, dd, data, sl⟩, ho, hc, n, hd⟩, _⟩ := I.tuple hT
  simp only at hc hd
  subst hc hd
  have le : its.length = xs.length := r.length.symm
  have many : k.toNat * xs.length ≤ 1000 * 1000 := Nat.mul_le_mul (by omega) hz
  have some_ : its.toArray.isEmpty = false := by
    cases its with
    | nil => exact absurd (List.eq_nil_of_length_eq_zero le.symm) hne
    | cons _ _ => rfl
  have size_ : its.toArray.size = xs.length := by rw [List.size_toArray, le]
  have few : ((its.toArray.size : Nat) : Int) * k ≤ 1000000 := by
    rw [size_]
    have := Int.mul_le_mul_of_nonneg_right (a := ((xs.length : Nat) : Int)) (b := 1000) (c := k) (by omega) (by omega)
    omega
  have room : (List.replicate k.toNat its).flatten.length ≤ sizeLine := by rw [PyProof.Rows.lm_len_rep_flat, le, sizeLine_eq]; omega
  have d0 : (decide (k < -(2 ^ 63)) || decide (k ≥ 2 ^ 63)) = false := by rw [Bool.or_eq_false_iff]; exact ⟨decide_eq_false (by omega), decide_eq_false (by omega)⟩
  have d1 : (its.toArray.isEmpty || k == 1) = false := by rw [Bool.or_eq_false_iff]; exact ⟨some_, beq_eq_false_iff_ne.mpr (by omega)⟩
  have d2 : (decide (k ≤ 0) || its.toArray.isEmpty) = false := by rw [Bool.or_eq_false_iff]; exact ⟨decide_eq_false (by omega), some_⟩
  have d4 : Builtin.Tuple.tupleTooMany (((its.toArray.size : Nat) : Int) * k) = false := by
    unfold Builtin.Tuple.tupleTooMany
    rw [sizeLine_eq]
    exact (decide_eq_false (by omega))
  refine wpAny_binaryOp_repeat_ref (T := "tuple") (U := "int") (by decide) ⟨_, ho, rfl⟩ (fun z => typeIs_int z k t) noFill_tuple_mul F.fills_int_mul F.slot_int_rmul repeat_tuple F.slot_int_index.lookup
    (call_meets F.slot_int_rmul (typeIs_int s k t) F.entry_int_rmul (F.args_int_rmul_2 _ _) (int_rmul_tuple k t l its.toArray n dd sl) ⟨ho, rfl, ⟨_, ho, rfl⟩, ?_⟩)
  refine call_meets F.slot_tuple_mul ⟨_, ho, rfl⟩ F.entry_tuple_mul (F.args_tuple_mul_2 _ _) (tuple_mulW l its.toArray n dd sl k t d0 d1 d2 (by omega) d4 (by rw [size_rep, List.size_toArray]; exact room)) ⟨ho, ?_⟩
  rw [size_rep]
  exact ⟨.ref s.heap.objs.size, _, laidT I (by rw [PyProof.Rows.lm_len_rep_flat, sizeLine_eq]; omega) (r.rep k.toNat), rfl, q _ _ (I.hok.fresh (Nat.le_refl _)) rfl⟩
end
end Mv
namespace Mv
open PySem L2 Evl
abbrev rLenA (K : PySem.W.Frag) : List V → Hp → VK → Prop := fun xs H Q => ∃ p ys, xs = [.ref p] ∧ (SqL K H p ys ∨ SqT K H p ys) ∧ Q (.int ys.length) H
abbrev rListOf (K : PySem.W.Frag) : List V → Hp → VK → Prop := fun xs H Q => ∃ p ys, xs = [.ref p] ∧ (SqL K H p ys ∨ SqT K H p ys) ∧ ∀ l, H l = none → Q (.ref l) (upd H l (.lst ys))
abbrev D := PyData
def keyD : L2.Key → D
  | .inl i => .int i
  | .inr x => .str x
def kD (k : List L2.Key) : D := .tuple (k.map keyD)
def plainD : List (D × D) → Bool
  | (.tuple _, _) :: _ => false
  | _ :: _ => true
  | [] => false
abbrev dctD (es : List (List L2.Key × D)) : D := .dict (es.map fun e => (kD e.1, e.2))
mutual
inductive Dq (G : Hp) : V → D → Prop
  | non : Dq G .non .none
  | bl (b : Bool) : Dq G (.bl b) (.bool b)
  | int (i : Int) : Dq G (.int i) (.int i)
  | str (x : Str) : Dq G (.str x) (.str x)
  | lst {a : Addr} {xs : List V} {ds : List D} : G a = some (.lst xs) → DqA G xs ds → Dq G (.ref a) (.list ds)
  | tup {a : Addr} {xs : List V} {ds : List D} : TupA G a xs → DqA G xs ds → Dq G (.ref a) (.tuple ds)
  | emp {a : Addr} {kvs : List (L2.Key × V)} {ds : List (D × D)} : G a = some (.dK kvs) → plainD ds = true → Dq G (.ref a) (.dict ds)
  | dct {a : Addr} {o : Obj} {kvs : List (List L2.Key × V)} {es : List (List L2.Key × D)} {ds : List (D × D)} : G a = some (.frz o (.dT kvs)) → DqP G kvs es → ds = es.map (fun e => (kD e.1, e.2)) → Dq G (.ref a) (.dict ds)
inductive DqA (G : Hp) : List V → List D → Prop
  | nil : DqA G [] []
  | cons {v : V} {vs : List V} {d : D} {ds : List D} : Dq G v d → DqA G vs ds → DqA G (v :: vs) (d :: ds)
inductive DqP (G : Hp) : List (List L2.Key × V) → List (List L2.Key × D) → Prop
  | nil : DqP G [] []
  | cons {k : List L2.Key} {v : V} {d : D} {kvs : List (List L2.Key × V)} {es : List (List L2.Key × D)} (ne : k ≠ []) : Dq G v d → DqP G kvs es → DqP G ((k, v) :: kvs) ((k, d) :: es)
end
mutual
theorem Dq.mono {G G' : Hp} (e : Ex G G') : ∀ {v : V} {d : D}, Dq G v d → Dq G' v d
  | _, _, .non => .non
  | _, _, .bl b => .bl b
  | _, _, .int i => .int i
  | _, _, .str x => .str x
  | _, _, .lst h k => .lst (e _ _ h) (DqA.mono e k)
  | _, _, .tup h k => .tup (h.mono e) (DqA.mono e k)
  | _, _, .emp h q => .emp (e _ _ h) q
  | _, _, .dct h k q => .dct (e _ _ h) (DqP.mono e k) q
theorem DqA.mono {G G' : Hp} (e : Ex G G') : ∀ {vs : List V} {ds : List D}, DqA G vs ds → DqA G' vs ds
  | _, _, .nil => .nil
  | _, _, .cons h k => .cons (Dq.mono e h) (DqA.mono e k)
theorem DqP.mono {G G' : Hp} (e : Ex G G') : ∀ {kvs : List (List L2.Key × V)} {es : List (List L2.Key × D)}, DqP G kvs es → DqP G' kvs es
  | _, _, .nil => .nil
  | _, _, .cons n h k => .cons n (Dq.mono e h) (DqP.mono e k)
end
theorem DqA.len {G : Hp} : ∀ {vs : List V} {ds : List D}, DqA G vs ds → vs.length = ds.length
  | _, _, .nil => rfl
  | _, _, .cons _ k => by rw [List.length_cons, List.length_cons, k.len]
theorem DqA.app {G : Hp} : ∀ {vs ws : List V} {ds es : List D}, DqA G vs ds → DqA G ws es → DqA G (vs ++ ws) (ds ++ es)
  | _, _, _, _, .nil, k => k
  | _, _, _, _, .cons h t, k => .cons h (DqA.app t k)
theorem DqA.get {G : Hp} : ∀ {vs : List V} {ds : List D} {i : Nat} {v : V}, DqA G vs ds → vs[i]? = some v → ∃ d, ds[i]? = some d ∧ Dq G v d
  | _, _, _, _, .nil, e => by simp at e
  | _, _, 0, _, .cons h _, e => by simp at e; subst e; exact ⟨_, rfl, h⟩
  | _, _, i + 1, _, .cons _ t, e => by
    obtain ⟨d, h1, h2⟩ := DqA.get (i := i) t (by simpa using e)
    exact ⟨d, by simpa using h1, h2⟩
theorem DqA.getD {G : Hp} : ∀ {vs : List V} {ds : List D} {i : Nat} {d : D}, DqA G vs ds → ds[i]? = some d → ∃ v, vs[i]? = some v ∧ Dq G v d
  | _, _, _, _, .nil, e => by simp at e
  | _, _, 0, _, .cons h _, e => by simp at e; subst e; exact ⟨_, rfl, h⟩
  | _, _, i + 1, _, .cons _ t, e => by
    obtain ⟨d, h1, h2⟩ := DqA.getD (i := i) t (by simpa using e)
    exact ⟨d, by simpa using h1, h2⟩
theorem DqA.snoc {G : Hp} {vs : List V} {ds : List D} {v : V} {d : D} (h : DqA G vs ds) (k : Dq G v d) : DqA G (vs ++ [v]) (ds ++ [d]) := h.app (.cons k .nil)
theorem DqA.rep {G : Hp} {vs : List V} {ds : List D} (h : DqA G vs ds) : ∀ n : Nat, DqA G (List.replicate n vs).flatten (List.replicate n ds).flatten
  | 0 => .nil
  | n + 1 => by
    (rw [List.replicate_succ, List.replicate_succ, List.flatten_cons, List.flatten_cons])
    exact h.app (h.rep n)
theorem DqA.drop {G : Hp} : ∀ {vs : List V} {ds : List D} (n : Nat), DqA G vs ds → DqA G (vs.drop n) (ds.drop n)
  | _, _, 0, h => h
  | _, _, _ + 1, .nil => .nil
  | _, _, n + 1, .cons _ t => DqA.drop n t
theorem DqA.take {G : Hp} : ∀ {vs : List V} {ds : List D} (n : Nat), DqA G vs ds → DqA G (vs.take n) (ds.take n)
  | _, _, 0, _ => .nil
  | _, _, _ + 1, .nil => .nil
  | _, _, n + 1, .cons h t => .cons h (DqA.take n t)
theorem DqA.ints {G : Hp} : ∀ {vs : List V} {ns : List Int}, DqA G vs (ns.map PyData.int) → vs = ns.map V.int
  | _, [], h => by cases h; rfl
  | _, n :: ns, h => by
    cases h with
    | cons h t =>
      cases h
      rw [List.map_cons, ← DqA.ints t]
theorem DqA.bls {G : Hp} : ∀ {vs : List V} {bs : List Bool}, DqA G vs (bs.map PyData.bool) → vs = bs.map V.bl
  | _, [], h => by cases h; rfl
  | _, n :: ns, h => by
    cases h with
    | cons h t =>
      cases h
      rw [List.map_cons, ← DqA.bls t]
structure Stp (G H G' H' : Hp) : Prop where
  g : Ex G G'
  h : Ex H H'
  w : Ex G' H'
  n : ∀ b, G b = none → H b ≠ none → (∀ xs, H b ≠ some (.tup xs)) → G' b = none
theorem Stp.refl {G H : Hp} (e : Ex G H) : Stp G H G H := ⟨.refl G, .refl H, e, fun _ h _ _ => h⟩
theorem Stp.trans {G H G1 H1 G2 H2 : Hp} (a : Stp G H G1 H1) (b : Stp G1 H1 G2 H2) : Stp G H G2 H2 :=
  ⟨a.g.trans b.g, a.h.trans b.h, b.w, fun c h1 h2 h3 => b.n c (a.n c h1 h2 h3) (fun z => by
    cases q : H c with
    | none => exact h2 q
    | some o => rw [a.h c o q] at z; cases z) fun xs z => by
    cases q : H c with
    | none => exact h2 q
    | some o => rw [a.h c o q] at z; exact h3 xs (q.trans z)⟩
theorem Stp.new {G H : Hp} {p : Addr} {o : HO} (e : Ex G H) (hp : H p = none) : Stp G H (upd G p o) (upd H p o) := by
  have gp : G p = none := fresh_back e hp
  refine ⟨.new gp, .new hp, fun a u q => ?_, fun b h1 h2 _ => ?_⟩
  · by_cases ha : a = p
    · subst ha; rw [upd_same] at q ⊢; exact q
    · rw [upd_ne ha] at q ⊢; exact e a u q
  · have hb : b ≠ p := fun z => h2 (z ▸ hp)
    rw [upd_ne hb]; exact h1
theorem Stp.old {G H H' : Hp} (e : Ex G H) (h : Ex H H') : Stp G H G H' := ⟨.refl G, h, e.trans h, fun _ h _ _ => h⟩
def EvD (te : TE) (σ : L2.St) (G : Hp) (d : D) : Prop := ∀ G1 H1, Ex G G1 → Ex G1 H1 → ∀ Q : VK, (∀ v G2 H2, Stp G1 H1 G2 H2 → Dq G2 v d → Q v H2) → te σ H1 Q
def EvB (tt : TT) (σ : L2.St) (G : Hp) (b : Bool) : Prop := ∀ G1 H1, Ex G G1 → Ex G1 H1 → ∀ Q : Bool → Hp → Prop, (∀ G2 H2, Stp G1 H1 G2 H2 → Q b H2) → tt σ H1 Q
def OpD (r : R2) (G : Hp) (d e z : D) : Prop := ∀ x y G1 H1, Ex G G1 → Ex G1 H1 → Dq G1 x d → Dq G1 y e → ∀ Q : VK, (∀ v G2 H2, Stp G1 H1 G2 H2 → Dq G2 v z → Q v H2) → r x y H1 Q
def UnD (r : V → Hp → VK → Prop) (G : Hp) (d z : D) : Prop := ∀ x G1 H1, Ex G G1 → Ex G1 H1 → Dq G1 x d → ∀ Q : VK, (∀ v G2 H2, Stp G1 H1 G2 H2 → Dq G2 v z → Q v H2) → r x H1 Q
def CaD (r : List V → Hp → VK → Prop) (G : Hp) (ds : List D) (z : D) : Prop := ∀ vs G1 H1, Ex G G1 → Ex G1 H1 → DqA G1 vs ds → ∀ Q : VK, (∀ v G2 H2, Stp G1 H1 G2 H2 → Dq G2 v z → Q v H2) → r vs H1 Q
section
variable {K : PySem.W.Frag} {σ : L2.St} {G G' H H' : Hp} {ta tb te tx : TE} {t u : TT} {r : R2} {d e z : D} {ds es : List D}
theorem EvD.mono (x : Ex G G') (h : EvD te σ G d) : EvD te σ G' d := fun G1 H1 a b Q q => h G1 H1 (x.trans a) b Q q
theorem EvB.mono {b : Bool} (x : Ex G G') (h : EvB t σ G b) : EvB t σ G' b := fun G1 H1 a b Q q => h G1 H1 (x.trans a) b Q q
theorem EvD.is (h : EvD te σ G d) (x : d = e) : EvD te σ G e := x ▸ h
theorem EvB.is {b c : Bool} (h : EvB t σ G b) (x : b = c) : EvB t σ G c := x ▸ h
theorem opd_I0 {g : Int → Int → V} {i j : Int} (h : ∀ G, Dq G (g i j) z) : OpD (rI0 g) G (.int i) (.int j) z := fun x y G1 H1 a b hx hy Q q => by
  cases hx; cases hy
  exact ⟨i, j, rfl, rfl, q _ G1 H1 (.refl b) (h G1)⟩
theorem opd_I {C : Int → Int → Prop} {g : Int → Int → V} {i j : Int} (hc : C i j) (h : ∀ G, Dq G (g i j) z) : OpD (rI C g) G (.int i) (.int j) z := fun x y G1 H1 a b hx hy Q q => by
  cases hx; cases hy
  exact ⟨i, j, rfl, rfl, hc, q _ G1 H1 (.refl b) (h G1)⟩
theorem opd_catT {as bs : List D} (hz : as.length + bs.length ≤ sizeLine) : OpD (rCatA K) G (.tuple as) (.tuple bs) (.tuple (as ++ bs)) := fun x y G1 H1 a b hx hy Q q => by
  cases hx with
  | @tup p xs _ hp hxs =>
    cases hy with
    | @tup p2 ys _ hp2 hys =>
      refine ⟨p, p2, xs, ys, rfl, rfl, TupA.sq (TupA.mono hp b), TupA.sq (TupA.mono hp2 b), by rw [hxs.len, hys.len]; exact hz, fun e => ?_, fun _ e => ?_, fun _ _ l o hl od => ?_⟩
      · subst e
        cases hxs
        exact q _ G1 H1 (.refl b) (.tup hp2 hys)
      · subst e
        cases hys
        rw [List.append_nil] at q
        exact q _ G1 H1 (.refl b) (.tup hp hxs)
      · have s := Stp.new (o := tupO o (xs ++ ys)) b hl
        exact q _ _ _ s (.tup (.new od) ((hxs.app hys).mono s.g))
theorem opd_cat {as bs : List D} (hz : as.length + bs.length ≤ sizeLine) : OpD rCat G (.list as) (.list bs) (.list (as ++ bs)) := fun x y G1 H1 a b hx hy Q q => by
  cases hx with
  | @lst p xs _ hp hxs =>
    cases hy with
    | @lst p2 ys _ hp2 hys =>
      refine ⟨p, p2, xs, ys, rfl, rfl, b _ _ hp, b _ _ hp2, by rw [hxs.len, hys.len]; exact hz, fun l hl => ?_⟩
      have s := Stp.new (o := .lst (xs ++ ys)) b hl
      exact q _ _ _ s (.lst upd_same ((hxs.app hys).mono s.g))
mutual
def flatD : D → Bool
  | .dict _ => false
  | .list xs => flatDs xs
  | .tuple xs => flatDs xs
  | _ => true
def flatDs : List D → Bool
  | [] => true
  | x :: xs => flatD x && flatDs xs
end
mutual
theorem dp_of (x : Ex G H) : ∀ {d : D} {v : V}, Dq G v d → flatD d = true → Dp K H v d
  | _, _, .non, _ => .non
  | _, _, .bl b, _ => .bl b
  | _, _, .int i, _ => .int i
  | _, _, .str s, _ => .str s
  | _, _, .lst h k, f => .lst (SqL.of (x _ _ h)) (dpAll_of x k (by simpa [flatD] using f))
  | _, _, .tup h k, f => .tup (TupA.sq (TupA.mono h x)) (dpAll_of x k (by simpa [flatD] using f))
  | _, _, .emp _ _, f => by simp [flatD] at f
  | _, _, .dct _ _ _, f => by simp [flatD] at f
theorem dpAll_of (x : Ex G H) : ∀ {ds : List D} {vs : List V}, DqA G vs ds → flatDs ds = true → DpAll K H vs ds
  | _, _, .nil, _ => .nil
  | _, _, .cons h k, f => by
    simp only [flatDs, Bool.and_eq_true] at f
    exact .cons (dp_of x h f.1) (dpAll_of x k f.2)
end
theorem opd_eq (f1 : flatD d = true) (f2 : flatD e = true) (s1 : SeqAt.shaped d = true) (s2 : SeqAt.shaped e = true) : OpD (rEqD K) G d e (.bool (PyData.eqv d e)) := fun x y G1 H1 a b hx hy Q q =>
  ⟨d, e, dp_of b hx f1, dp_of b hy f2, s1, s2, q _ G1 H1 (.refl b) (.bl _)⟩
theorem opd_ne (f1 : flatD d = true) (f2 : flatD e = true) (s1 : SeqAt.shaped d = true) (s2 : SeqAt.shaped e = true) : OpD (rNeD K) G d e (.bool (!PyData.eqv d e)) := fun x y G1 H1 a b hx hy Q q =>
  ⟨d, e, dp_of b hx f1, dp_of b hy f2, s1, s2, q _ G1 H1 (.refl b) (.bl _)⟩
theorem cad_lenL : CaD (rLenA K) G [.list ds] (.int ds.length) := fun vs G1 H1 x w h Q q => by
  cases h with
  | cons h k =>
    cases k
    cases h with
    | lst hp hx => exact ⟨_, _, rfl, .inl (SqL.of (w _ _ hp)), by rw [hx.len]; exact q _ G1 H1 (.refl w) (.int _)⟩
theorem cad_lenT : CaD (rLenA K) G [.tuple ds] (.int ds.length) := fun vs G1 H1 x w h Q q => by
  cases h with
  | cons h k =>
    cases k
    cases h with
    | tup hp hx => exact ⟨_, _, rfl, .inr (TupA.sq (TupA.mono hp w)), by rw [hx.len]; exact q _ G1 H1 (.refl w) (.int _)⟩
theorem cad_tuple : CaD (rTupOf K) G [.list ds] (.tuple ds) := fun vs G1 H1 x w h Q q => by
  cases h with
  | cons h k =>
    cases k
    cases h with
    | @lst p xs _ hp hx =>
      refine ⟨_, _, rfl, .inl ⟨SqL.of (w _ _ hp), fun l o hl od => ?_⟩⟩
      have s2 := Stp.new (o := tupO o xs) w hl
      exact q _ _ _ s2 (.tup (.new od) (hx.mono s2.g))
theorem cad_int1 {i : Int} : CaD (fun xs H Q => (∃ i, xs = [.int i] ∧ Q (.int i) H) ∨ ∃ k, xs = [.bl k] ∧ Q (.int (if k then 1 else 0)) H) G [.int i] (.int i) := fun vs G1 H1 x w h Q q => by
  cases h with
  | cons h k =>
    cases k
    cases h
    exact .inl ⟨i, rfl, q _ G1 H1 (.refl w) (.int _)⟩
theorem cad_all {bs : List Bool} : CaD (rAll K) G [.list (bs.map PyData.bool)] (.bool (bs.all id)) := fun vs G1 H1 x w h Q q => by
  cases h with
  | cons h k =>
    cases k
    cases h with
    | @lst p xs _ hp hx =>
      have e := hx.bls
      subst e
      exact ⟨p, bs, rfl, SqL.of (w _ _ hp), q _ G1 H1 (.refl w) (.bl _)⟩
theorem cad_min2 {i j : Int} : CaD (fun xs H Q => ∃ i j, xs = [.int i, .int j] ∧ Q (.int (if j < i then j else i)) H) G [.int i, .int j] (.int (if j < i then j else i)) := fun vs G1 H1 x w h Q q => by
  cases h with
  | cons h k =>
    cases k with
    | cons h2 k =>
      cases k
      cases h
      cases h2
      exact ⟨i, j, rfl, q _ G1 H1 (.refl w) (.int _)⟩
structure Mk2 (G0 H0 : Hp) (p : Addr) (ds : List D) (H : Hp) : Prop where
  at_ : ∃ G vs, Stp G0 H0 G H ∧ G p = none ∧ DqA G vs ds ∧ H p = some (.lst vs)
theorem Mk2.start {G0 H0 : Hp} {p : Addr} (x : Ex G0 H0) (hp : H0 p = none) : Mk2 G0 H0 p [] (upd H0 p (.lst [])) :=
  ⟨G0, [], ⟨.refl _, .new hp, x.trans (.new hp), fun _ h _ _ => h⟩, fresh_back x hp, .nil, upd_same⟩
theorem Mk2.turn {G0 H0 H1 : Hp} {p : Addr} {acc : List D} {σ2 : L2.St} {b : Bool} (h0 : H0 p = none) (m : Mk2 G0 H0 p acc H1) (hz : acc.length < sizeLine)
    (ht : ∀ G, Ex G0 G → Ex G H1 → EvB t σ2 G b) (he : ∀ G, Ex G0 G → Ex G H1 → b = true → EvD te σ2 G d) {N : Hp → Prop} (k : ∀ H2, Mk2 G0 H0 p (if b then acc ++ [d] else acc) H2 → N H2) :
    t σ2 H1 fun b' H3 => if b' = true then te σ2 H3 fun y H4 => ∃ ac, H4 p = some (.lst ac) ∧ ac.length < sizeLine ∧ N (upd H4 p (.lst (ac ++ [y]))) else N H3 := by
  obtain ⟨G, vs, s, gp, hvs, hH⟩ := m
  refine ht G s.g s.w G H1 (.refl G) s.w _ fun G2 H2 s2 => ?_
  have g2 : G2 p = none := s2.n p gp (by rw [hH]; intro z; cases z) (by rw [hH]; intro xs z; cases z)
  cases b with
  | false => exact iteF (k _ ⟨G2, vs, s.trans s2, g2, hvs.mono s2.g, s2.h _ _ hH⟩)
  | true =>
    refine iteT (he G s.g s.w rfl G2 H2 s2.g s2.w _ fun v G3 H3 s3 hv => ?_)
    have h3 : H3 p = some (.lst vs) := s3.h _ _ (s2.h _ _ hH)
    have g3 : G3 p = none := s3.n p g2 (by rw [s2.h _ _ hH]; intro z; cases z) (by rw [s2.h _ _ hH]; intro xs z; cases z)
    refine ⟨vs, h3, by rw [hvs.len]; exact hz, k _ ⟨G3, vs ++ [v], ?_, g3, (hvs.mono (s2.g.trans s3.g)).snoc hv, upd_same⟩⟩
    have s4 := (s.trans s2).trans s3
    refine ⟨s4.g, s4.h.mut h0, fun a o q => ?_, s4.n⟩
    have ha : a ≠ p := fun z => by rw [z, g3] at q; cases q
    rw [upd_ne ha]
    exact s3.w a o q
theorem Mk2.done {G0 H0 H1 : Hp} {p : Addr} {acc : List D} (h0 : H0 p = none) (m : Mk2 G0 H0 p acc H1) : ∃ G, Stp G0 H0 G H1 ∧ Dq G (.ref p) (.list acc) := by
  obtain ⟨G, vs, s, gp, hvs, hH⟩ := m
  refine ⟨upd G p (.lst vs), ⟨s.g.trans (.new gp), s.h, fun a o q => ?_, fun b h1 h2 h3 => ?_⟩, .lst upd_same (hvs.mono (.new gp))⟩
  · by_cases ha : a = p
    · subst ha; rw [upd_same] at q; rw [← q]; exact hH
    · rw [upd_ne ha] at q; exact s.w a o q
  · have hb : b ≠ p := fun z => h2 (z ▸ h0)
    rw [upd_ne hb]; exact s.n b h1 h2 h3
end
end Mv
namespace Mv
open PySem L2 PyProof.Rows PySem.Spec
section
variable {X : Cx} {pins : List (Addr × Obj)} {σ : L2.St} {H : Hp} {s : Shared}
theorem setT {E : Value → Shared → Prop} {D b : Addr} {kvs : List (List L2.Key × V)} {k : List L2.Key} {v : V} {r : Value} {Q : Unit → Shared → Prop} (hu : X.A.units + 1 < cLine) (J : Inv X pins σ H s) (at_ : H D = some (.dT kvs)) (room : kvs.length < sizeLine) (key : H b = some (.tup (k.map kV))) (val : RelV v r)
    (go : ∀ t, Inv X pins σ (upd H D (.dT (putK kvs k v))) t → Q () t) : wpAny (model X.prog X.w) X.A (dictSet D (.ref b) r) Q E s := by
  obtain ⟨size, mods, xs, rel, raw⟩ := dt_of J.hok at_
  have same := Paired.length rel
  have more := length_putK kvs k v
  refine wpAny_dictSet_heap (hsz := by omega) (show X.A.units < cLine by omega) (key_of J.hok key) raw fun g now but => go _ ?_
  obtain ⟨ob, es, ep, q1, q2, q3, q4, _, q6⟩ := now
  refine d_write J (by rw [at_]; exact True.intro) but ⟨ob, q1⟩ ⟨by omega, mods, _, (rel.put k key val).keeps fun c ys ec => ?_, ob, es, ep, q1, q2, q3, q4, q6⟩
  rw [upd_ne (ne_of ec at_ (fun z => nomatch z))]
  exact ec
end
section
variable {X : Cx}
def tDcT (wi : TI) (g : TG) (tt : TT) (tk tv : TE) (vs : List Nat) : TE := fun σ H Q => wi σ H fun J H1 => ∀ D, H1 D = none → ∃ W : Nat → Nat → Hp → Prop, (∃ m, W 0 m (upd H1 D (.dT []))) ∧ ∀ i m H, W i m H →
  (J.stop i H ∧ Q (.ref D) H) ∨ (J.go i H ∧ ∃ Nx : Hp → Prop, (∀ H', Nx H' → ∃ m', m' < m ∧ W (i + 1) m' H') ∧ ∀ x H', J.yld i H x H' → g x (wipe σ vs) H' fun σ2 H2 => wipe σ2 vs = wipe σ vs ∧ tt σ2 H2 fun b H3 =>
    if b = true then tk σ2 H3 fun y H4 => tv σ2 H4 fun z H5 => ∃ kvs k a, y = .ref a ∧ H5 a = some (.tup (k.map kV)) ∧ H5 D = some (.dT kvs) ∧ kvs.length < sizeLine ∧ Nx (upd H5 D (.dT (putK kvs k z))) else Nx H3)
theorem dcT_core {pins : List (Addr × Obj)} {s : Shared} {σ : L2.St} {H : Hp} {Q : VK} {use : Option (Value → Sem Unit)} {Qf : Value → Shared → Prop} {pos' : Pos} {kx vx tg iter : Expr} {ifs : List Expr} {scope : Scope} {own : List (Str × Nat)} {pos : Pos} {wi : TI} {g : TG} {tt : TT} {tk tv : TE} (hu : X.A.units + 1 < cLine) (hc : X.calm = true) (hN : X.N.Nodup) (I : Inv X pins σ H s) (hi : PI X tg iter wi) (ok : BlkOk X.N X.env.scope scope own)
    (hg : ∀ (s : Shared) (H : Hp) (C : Addr) (cl : List (Str × Addr)) (fp : List Addr), PG (X.blk s H scope (compEnvC scope cl C X.env) fp) tg g) (ht : ∀ (s : Shared) (H : Hp) (C : Addr) (cl : List (Str × Addr)) (fp : List Addr), PTs (X.blk s H scope (compEnvC scope cl C X.env) fp) ifs tt)
    (hk : ∀ (s : Shared) (H : Hp) (C : Addr) (cl : List (Str × Addr)) (fp : List Addr), PE (X.blk s H scope (compEnvC scope cl C X.env) fp) kx tk)
    (he : ∀ (s : Shared) (H : Hp) (C : Addr) (cl : List (Str × Addr)) (fp : List Addr), PE (X.blk s H scope (compEnvC scope cl C X.env) fp) vx tv) (hs : ∀ x, foldedSetIterable iter X.env x = pure x)
    (start : tDcT wi g tt tk tv (own.map (·.2)) σ H Q) (fin' : ∀ D C t m H', Inv X pins σ H' t → Q (.ref D) H' → t.heap.Ns C m → FpOk X pins H' C → compPost (model X.prog X.w) X.A X.xe use Qf (.ref D) C (.ok .next) t) :
    wpAny (model X.prog X.w) X.A (comprehension (.DictComp kx vx [⟨tg, iter, ifs, 0⟩] scope pos) scope X.env pos' newDict false (eval iter X.env) use) Qf X.xe s := by
  have cells : ∀ y ∈ scope.names, y.2 = .free → ∃ c, X.env.cells.lookup y.1 = some c := fun y m f => (ok.free y m f).elim (fun z => I.ok.has _ (.inl z)) fun z => I.ok.has _ (.inr z)
  refine wpAny_comprehension_free (use := use) rfl hs (closure_ok cells) ok.kind (fun y m f => by rw [ok.uniq y m, f]) (thn (hi.run pins s σ H _ I start) fun xv s1 w1 => thn w1 fun itv s2 w2 => ?_)
  obtain ⟨it, fp, turn, J, Hi, rfl, Ii, T, at0, far, loopOf⟩ := w2
  refine (wpAny_newObj_type (newEnv_comp ?_))
  generalize hD : s2.heap.objs.size = D
  have newD : Hi D = none := Ii.hok.fresh (Nat.le_of_eq hD)
  obtain ⟨W, ⟨m0, W0⟩, step⟩ := loopOf D newD
  generalize e3 : ({ s2 with heap := s2.heap.push { cls := .type "dict", data := .dict #[] } } : Shared) = s3
  have heap3 : s3.heap = s2.heap.push { cls := .type "dict", data := .dict #[] } := by rw [← e3]
  have Id : Inv X pins σ (upd Hi D (.dT [])) s3 := by
    rw [← e3]
    refine Ii.laid (t' := s2.toks) (fun b o z => Heap.get?_push_of_some _ z) (Nat.le_of_eq hD) ?_
    rw [← hD]
    exact dt_empty s2.heap Ii.big
  have below : ∀ b ∈ fp, b < s2.heap.objs.size := fun b m => (T.obj _ _ at0 b m).elim fun _ z => Heap.lt_size z.1
  have far3 : ∀ b ∈ fp, FpOk X pins (upd Hi D (.dT [])) b ∧ b < s3.heap.objs.size := fun b m => by
    have lt := below b m
    refine ⟨⟨?_, (far b m).2⟩, by rw [heap3, Heap.size_push]; exact Nat.lt_succ_of_lt lt⟩
    rw [upd_ne (Nat.ne_of_lt (hD ▸ lt))]
    exact (far b m).1
  have at3 : turn 0 s3.heap := T.keep _ _ _ at0 fun b _ o z => by rw [heap3]; exact Heap.get?_push_of_some _ z
  have Ib := block_start Id ok hN far3
  obtain ⟨cs, ecs⟩ : ∃ cs, cellsFrom (s3.heap.objs.size + 1) scope.names (cloFrom X.env.cells scope.names []) = cs := ⟨_, rfl⟩
  rw [ecs] at Ib
  show (codeAny _ _ (.compStart (.DictComp kx vx [⟨tg, iter, ifs, 0⟩] scope pos) 0 (.ref it) (.ref D) (compEnvC scope (cellsFrom (s3.heap.objs.size + 1) scope.names (cloFrom X.env.cells scope.names [])) s3.heap.objs.size X.env)) (compPost (model X.prog X.w) X.A X.xe use Qf (.ref D) s3.heap.objs.size) { s3 with heap := pushCells (s3.heap.push { cls := .type "dict", data := .dict #[] }) scope.names })
  rw [ecs]
  have pg := hg s3 (upd Hi D (.dT [])) s3.heap.objs.size cs fp
  have pt := ht s3 (upd Hi D (.dT [])) s3.heap.objs.size cs fp
  have pk := hk s3 (upd Hi D (.dT [])) s3.heap.objs.size cs fp
  have pv := he s3 (upd Hi D (.dT [])) s3.heap.objs.size cs fp
  have nofp : ∀ b ∈ fp, upd Hi D (.dT []) b = none := fun b m => (far3 b m).1.1
  obtain ⟨ce, ece⟩ : ∃ ce, compEnvC scope cs s3.heap.objs.size X.env = ce := ⟨_, rfl⟩
  have loc : ce.locals = s3.heap.objs.size := by rw [← ece]; rfl
  rw [ece] at Ib pg pt pk pv
  rw [ece]
  obtain ⟨Hd, eHd⟩ : ∃ Hd, upd Hi D (.dT []) = Hd := ⟨_, rfl⟩
  rw [eHd] at Id Ib pg pt pk pv W0 nofp far3
  obtain ⟨s4, e4⟩ : ∃ t : Shared, ({ s3 with heap := pushCells (s3.heap.push { cls := .type "dict", data := .dict #[] }) scope.names } : Shared) = t := ⟨_, rfl⟩
  rw [e4] at Ib
  rw [e4]
  have at4 : turn 0 s4.heap := T.keep _ _ _ at3 fun b _ o z => by rw [← e4]; exact pushCells_keeps _ _ _ _ (Heap.get?_push_of_some _ z)
  have apart : ∀ {σ' : L2.St} {H' : Hp} {t : Shared}, Inv (X.blk s3 Hd scope ce fp) [] σ' H' t → (∀ b ∈ fp, H' b = none) → ∀ b ∈ fp, FpOk (X.blk s3 Hd scope ce fp) [] H' b := fun {σ' H' t} z n b m =>
    ⟨n b m, (z.ok.exf b m).1, z.ok.exfs b m, .inl m, fun x c q => (z.ok.exf b m).2 x c q, fun p hp => absurd (show p ∈ ([] : List (Addr × Obj)) ++ [] from hp) (by simp)⟩
  refine codeAny_compStart_dict ?run (T.self X.A 0 _ _ _ at4 ?run)
  refine compLoop_anyD (fun n t => ∃ i H', Inv (X.blk s3 Hd scope ce fp) [] (wipe σ (own.map (·.2))) H' t ∧ turn i t.heap ∧ (∀ b ∈ fp, H' b = none) ∧ W i n H') ?_ m0 ⟨0, Hd, Ib, at4, nofp, W0⟩
  rintro n t ⟨i, Ht, It_, att, nt, Wt⟩
  rcases step i n Ht Wt with ⟨halt, fin⟩ | ⟨goes, Nx, dec, body⟩
  · refine thnF (T.done (X.blk s3 Hd scope ce fp) rfl rfl rfl hc i [] t _ Ht (fun _ _ => False) It_ (apart It_ nt) att halt) fun r u z => ?_
    obtain ⟨rfl, Iu⟩ := z
    have Iz : Inv X pins σ Ht u := Id.call' (ch := fp) Iu.os Iu.base Iu.hok Iu.bare fun b m => let ⟨_, z2, z3, z4, z5, z6⟩ := (far3 b m).1; ⟨z4, z2, z5, z6⟩
    have none3 : Ht s3.heap.objs.size = none := by rw [← loc]; exact Iu.free
    obtain ⟨mm, names, _⟩ := Iu.loc
    have names : u.heap.Ns ce.locals mm := names
    rw [loc] at names
    exact fin' D s3.heap.objs.size u mm Ht Iz fin names (Id.fpOk (Nat.le_refl _) none3)
  · refine thnF (T.item (X.blk s3 Hd scope ce fp) rfl rfl rfl hc i [] t _ Ht (fun _ _ => False) It_ (apart It_ nt) att goes) fun r u z => ?_
    obtain ⟨vu, rfl, z⟩ := z
    refine thnF z fun _ s7 ⟨x, H7, I7, r7, y7, at7, n7⟩ => ?_
    refine thnF (pg.run _ s7 _ H7 x vu _ (I7.pinned (apart I7 n7) (T.obj _ _ at7)) r7 (body x H7 y7)) fun _ s8 ⟨σ8, H8, I8, same8, q8⟩ => ?_
    refine thnF (pt.run _ s8 σ8 H8 _ I8 q8) fun b s9 ⟨H9, I9, q9⟩ => ?_
    have back : ∀ {t' : Shared} {H' : Hp}, Inv (X.blk s3 Hd scope ce fp) ([] ++ pinsAt fp s7.heap) σ8 H' t' → Nx H' → ∃ m, m < n ∧ ∃ i H', Inv (X.blk s3 Hd scope ce fp) [] (wipe σ (own.map (·.2))) H' t' ∧ turn i t'.heap ∧ (∀ b ∈ fp, H' b = none) ∧ W i m H' := fun {t' H'} I' nx => by
      obtain ⟨m', lt, w'⟩ := dec H' nx
      have stays : ∀ b ∈ fp, ∀ o, s7.heap.get? b = some o → t'.heap.get? b = some o ∧ H' b = none := fun b m o q => (I'.pin (b, o) (List.mem_append_right _ (List.mem_append_right _ (mem_pinsAt m q)))).imp id fun z => z.1
      refine ⟨m', lt, i + 1, H', (I'.unpinned (pins := [])).weak (by rw [← same8, wipe_length]) (fun j v q => ?_), T.keep _ _ _ at7 fun b m o q => (stays b m o q).1, fun b m => ?_, w'⟩
      · rw [← same8] at q
        exact (wipe_some q).1
      · obtain ⟨o, q, _⟩ := T.obj _ _ at7 b m
        exact (stays b m o q).2
    cases b with
    | false => exact back I9 q9
    | true =>
      refine thnF (pk.run _ s9 σ8 H9 _ I9 q9) fun z s10 ⟨yk, H10, I10, r10, q10⟩ => thnF (pv.run _ s10 σ8 H10 _ I10 q10) fun z2 s11 ⟨yv, H11, I11, r11, kvs, k, a, ek, key, atD, room, nx⟩ => ?_
      subst ek
      obtain rfl : z = Value.ref a := r10
      exact setT (X := X.blk s3 Hd scope ce fp) hu I11 atD room key r11 fun s12 I12 => back I12 nx
theorem pe_dcT {kx vx tg iter : Expr} {ifs : List Expr} {scope : Scope} {own : List (Str × Nat)} {pos : Pos} {wi : TI} {g : TG} {tt : TT} {tk tv : TE} (hu : X.A.units + 1 < cLine) (hc : X.calm = true) (hN : X.N.Nodup) (hi : PI X tg iter wi) (ok : BlkOk X.N X.env.scope scope own)
    (hg : ∀ (s : Shared) (H : Hp) (C : Addr) (cl : List (Str × Addr)) (fp : List Addr), PG (X.blk s H scope (compEnvC scope cl C X.env) fp) tg g) (ht : ∀ (s : Shared) (H : Hp) (C : Addr) (cl : List (Str × Addr)) (fp : List Addr), PTs (X.blk s H scope (compEnvC scope cl C X.env) fp) ifs tt)
    (hk : ∀ (s : Shared) (H : Hp) (C : Addr) (cl : List (Str × Addr)) (fp : List Addr), PE (X.blk s H scope (compEnvC scope cl C X.env) fp) kx tk)
    (he : ∀ (s : Shared) (H : Hp) (C : Addr) (cl : List (Str × Addr)) (fp : List Addr), PE (X.blk s H scope (compEnvC scope cl C X.env) fp) vx tv) (hs : ∀ x, foldedSetIterable iter X.env x = pure x := by intro _; rfl) :
    PE X (.DictComp kx vx [⟨tg, iter, ifs, 0⟩] scope pos) (tDcT wi g tt tk tv (own.map (·.2))) := ⟨fun pins s σ H Q I start => by
  rw [arm_eval_DictComp]
  refine dcT_core hu hc hN I hi ok hg ht hk he hs start fun D C t m H' J q names far => ⟨m, names, fun h'' sb => ?_⟩
  obtain ⟨f0, f1, f2, f3, f4, f5⟩ := far
  exact ⟨.ref D, H', J.turned (t' := t.toks) (fun b o hb z => (sb.2 b hb).trans z) f0 f1 f3 f4 f5, rfl, q⟩⟩
theorem ps_setDcT {i : Nat} {y : Str} {py spos : Pos} {kx vx tg iter : Expr} {ifs : List Expr} {scope : Scope} {own : List (Str × Nat)} {pos : Pos} {wi : TI} {g : TG} {tt : TT} {tk tv : TE} (hu : X.A.units + 1 < cLine) (hc : X.calm = true) (hN : X.N.Nodup) (hy : X.N[i]? = some y) (hyl : X.env.scope.names.lookup y = some .local) (hsw : swapsWith (.DictComp kx vx [⟨tg, iter, ifs, 0⟩] scope pos) (some (.Name y py)) spos.line X.env = pure true) (hi : PI X tg iter wi) (ok : BlkOk X.N X.env.scope scope own)
    (hg : ∀ (s : Shared) (H : Hp) (C : Addr) (cl : List (Str × Addr)) (fp : List Addr), PG (X.blk s H scope (compEnvC scope cl C X.env) fp) tg g) (ht : ∀ (s : Shared) (H : Hp) (C : Addr) (cl : List (Str × Addr)) (fp : List Addr), PTs (X.blk s H scope (compEnvC scope cl C X.env) fp) ifs tt)
    (hk : ∀ (s : Shared) (H : Hp) (C : Addr) (cl : List (Str × Addr)) (fp : List Addr), PE (X.blk s H scope (compEnvC scope cl C X.env) fp) kx tk)
    (he : ∀ (s : Shared) (H : Hp) (C : Addr) (cl : List (Str × Addr)) (fp : List Addr), PE (X.blk s H scope (compEnvC scope cl C X.env) fp) vx tv) (hs : ∀ x, foldedSetIterable iter X.env x = pure x := by intro _; rfl) :
    PS X (.Assign [.Name y py] (.DictComp kx vx [⟨tg, iter, ifs, 0⟩] scope pos) spos) (tAsg (tDcT wi g tt tk tv (own.map (·.2))) (gName i)) := ⟨fun pins s σ H D I start => by
  have start' : tDcT wi g tt tk tv (own.map (·.2)) σ H (fun x H1 => gName i x σ H1 D.nx) := start
  (rw [exec_Assign_Name_used _ _ _ _ hsw])
  refine (wpAny_bind (wpAny_standAt (wpAny_bind ?_)))
  show wpAny _ X.A (do let _ ← comprehension (.DictComp kx vx [⟨tg, iter, ifs, 0⟩] scope pos) scope X.env (firstIterPos [⟨tg, iter, ifs, 0⟩] pos) newDict false (eval iter X.env) (some (assign (.Name y py) X.env))) _ _ s
  refine wpAny_bind (thn (dcT_core (Qf := fun _ t => SP X pins D .next t) hu hc hN I hi ok hg ht hk he hs start' fun L C t m H' J q names far => ?_) fun _ t hq => wpAny_pure (wpAny_pure hq))
  show (wpAny _ _ (assign (.Name y py) X.env (.ref L)) _ _ _)
  obtain ⟨f0, f1, f2, f3, f4, f5⟩ := far
  refine wpAny_assign_Name (store_ok2 (v := V.ref L) J hN hy (.inl hyl) rfl (fun t2 J2 ⟨a, sb, ha⟩ => ?_) (.inr hyl))
  have apart : C ≠ a := fun e => ha.elim (fun z => f1 (e.trans z)) fun z => f4 y a z e.symm
  exact ⟨m, names.sameBut sb apart, fun h3 sb3 => ⟨_, H', J2.turned (t' := t2.toks) (fun b o hb z => (sb3.2 b hb).trans z) f0 f1 f3 f4 f5, q⟩⟩⟩
theorem swT {kx vx : Expr} {gs : List Comprehension} {scope : Scope} {pos py : Pos} {y : Str} {l : Nat} {env : Env} (kind : env.scope.kind = .function) (lc : env.scope.names.lookup y = some .local) (line : (py.line == pos.line) = true)
    (own : (scope.names.any fun (n, k) => n == y && (k == .local || k == .cell)) = false) : swapsWith (.DictComp kx vx gs scope pos) (some (.Name y py)) l env = pure true := by
  have k1 : env.kindOf y = some .local := lc
  have k2 : env.blockKind = .function := by unfold Env.blockKind; rw [kind]; rfl
  unfold swapsWith
  simp only [k1, k2, own, Expr.pos, line]
  rfl
def tFix (te : TE) : TE := fun σ H Q => te σ H fun v H1 => ∃ d u, v = .ref d ∧ H1 d = some u ∧ Mut (some u) ∧ ∀ o, Q v (upd H1 d (.frz o u))
theorem pe_fix {e : Expr} {te : TE} (h : PE X e te) : PE X e (tFix te) := ⟨fun pins s σ H Q I q => thn (h.run pins s σ H _ I q) fun u s1 ⟨v, H1, I1, r, d, x, ev, hd, mu, q1⟩ => by
  subst ev
  obtain ⟨o, I2⟩ := I1.lock hd mu
  exact ⟨.ref d, _, I2, r, q1 o⟩⟩
end
section
variable {prog : Program} {w : World} {A : Around} {E : Value → Shared → Prop} {s : Shared}
end
end Mv
namespace Mv
open PySem L2 Evl
structure Zs (mg : Str → Option Value) : Prop where
  len : mg "len" = none
  zip : mg "zip" = none
  tuple : mg "tuple" = none
  list : mg "list" = none
  range : mg "range" = none
  all : mg "all" = none
  int : mg "int" = none
  bool : mg "bool" = none
  isinstance : mg "isinstance" = none
  abs : mg "abs" = none
  min : mg "min" = none
  repr : mg "repr" = none
structure Cal (P : Program) (w : World) (K : PySem.W.Frag) (mg : Str → Option Value) (base : Heap) (CX : CXT) (k : Nat) (x : Str) (ps : List Str) (sp : Sp) : Prop where
  ex : ∃ (f : Addr) (fd : FuncData), FnOk P w K mg base CX k f fd ps sp ∧ mg x = some (.ref f) ∧ PySem.W.keepIn K (.ref f) = true ∧ Binds K fd ps []
theorem pe_cal {X : Cx} {CX : CXT} {k : Nat} {x : Str} {ps : List Str} {sp : Sp} {E : XK} {p pos : Pos} {e : Expr} {es : List Expr} {t : TA} (C : Cal X.prog X.w X.K X.mg X.base CX k x ps sp) (hr : Room k X.A) (hx : Passes CX X E) (ha : PA X (e :: es) t)
    (hg : Gl X x := by rfl) (hs : starEach (e :: es) X.env = (false, eval e X.env) :: starEach es X.env := by rfl) (hpl : (backTo pos (starEach es X.env)).any (·.1) = false := by rfl) (hdb : (x == ("__debug__" : Str)) = false := by decide) :
    PE X (.Call (.Name x p) (e :: es) [] pos) (tCall sp [] E t) := by
  obtain ⟨f, fd, F, hm, hk, hb⟩ := C.ex
  exact pe_call F hr hg hm hk hb .nil hx ha hdb hs hpl
section
variable {K : PySem.W.Frag} {σ : L2.St} {G G' H H' : Hp} {ta tb te tx : TE} {t u : TT} {d e z : D} {ds es : List D} {D' : Ends} {tu tz : TS}
def sq (k : Bool) (as : List D) : D := if k then .list as else .tuple as
theorem sq_at {k : Bool} {as : List D} {v : V} {G : Hp} (h : Dq G v (sq k as)) : ∃ a xs, v = .ref a ∧ DqA G xs as ∧ ∀ H, Ex G H → SqK K k H a xs := by
  cases k with
  | true =>
    have h : Dq G v (.list as) := h
    cases h with
    | lst ha hx => exact ⟨_, _, rfl, hx, fun H e => SqL.of (e _ _ ha)⟩
  | false =>
    have h : Dq G v (.tuple as) := h
    cases h with
    | tup ha hx => exact ⟨_, _, rfl, hx, fun H e => TupA.sq (TupA.mono ha e)⟩
end
end Mv
namespace Mv
open PySem L2 Evl
section
variable {K : PySem.W.Frag} {σ : L2.St} {G G' H H' : Hp} {ta tb te tx : TE} {t u : TT} {d e z : D} {ds es : List D} {D' : Ends} {tu tz : TS}
end
section
variable {X : Cx}
theorem tuple_mul1 (l : Addr) (items : Array Value) (n : Nat) (dd : Option Addr) (sl : Array (Option Value)) (u : Tok) :
    Meets (Builtin.«tuple.__mul__» ⟨[.ref l, .int 1 u], []⟩) (fun _ R s => s.heap.get? l = some { cls := .type "tuple", dict := dd, data := .seq items n, slots := sl } ∧ R (.ok (.ret (Value.ref l))) s) :=
  .of_wp fun prog w A R s h => by
    obtain ⟨hp, g, d, tk, os⟩ := (s)
    obtain ⟨hl, h⟩ := h
    have f1 := AutoSeq1.idx_int
    wp_walk using wpAny_loadPart' hl
    exact ⟨_, rfl, h⟩
theorem int_rmul1 (a : Int) (t : Tok) (l : Addr) (items : Array Value) (n : Nat) (dd : Option Addr) (sl : Array (Option Value)) :
    Meets (Builtin.«int.__rmul__» ⟨[.int a t, .ref l], []⟩) (fun _ R s => s.heap.get? l = some { cls := .type "tuple", dict := dd, data := .seq items n, slots := sl } ∧ R (.ok (.ret Value.notImplemented)) s) := int_rmul_tuple a t l items n dd sl
def rRepA (K : PySem.W.Frag) : R2 := fun x y H Q => ∃ l k xs, x = .ref l ∧ y = .int k ∧ SqT K H l xs ∧ xs ≠ [] ∧ 1 ≤ k ∧ k ≤ 1000 ∧ xs.length ≤ 1000 ∧ (k = 1 → Q (.ref l) H) ∧ (2 ≤ k → ∀ p o, H p = none → o.dict = none → Q (.ref p) (upd H p (tupO o (List.replicate k.toNat xs).flatten)))
theorem op_repA : OpR X (binaryOp .Mult) (rRepA X.K) := by
  intro pins; intro s σ H x y v u Q I rx ry h
  obtain ⟨l, k, xs, rfl, rfl, hT, hne, h1, h2, hz, q1, q2⟩ := h
  by_cases hk : k = 1
  · subst hk
    cases rx
    obtain ⟨t, rfl⟩ := ry
    obtain ⟨its, r, ⟨⟨cls, dd, data, sl⟩, ho, hc, n, hd⟩, hs⟩ := (I.tuple hT)
    simp only at hc hd
    subst hc hd
    refine wpAny_binaryOp_repeat_ref (T := "tuple") (U := "int") (by decide) ⟨_, ho, rfl⟩ (fun s' => typeIs_int s' 1 t) noFill_tuple_mul F.fills_int_mul F.slot_int_rmul repeat_tuple F.slot_int_index.lookup
      (call_meets F.slot_int_rmul (typeIs_int s 1 t) F.entry_int_rmul (F.args_int_rmul_2 _ _) (int_rmul1 1 t l its.toArray n dd sl)
        ⟨ho, rfl, ⟨_, ho, rfl⟩, call_meets F.slot_tuple_mul ⟨_, ho, rfl⟩ F.entry_tuple_mul (F.args_tuple_mul_2 _ _) (tuple_mul1 l its.toArray n dd sl t) ⟨ho, ?_⟩⟩)
    exact ⟨.ref l, H, I, rfl, q1 rfl⟩
  · cases rx
    obtain ⟨t, rfl⟩ := ry
    exact op_repO I hT hne (by omega) h2 hz (q2 (by omega))
end
section
variable {K : PySem.W.Frag} {G : Hp} {z : D}
theorem opd_rep {as : List D} {k : Nat} (hne : as ≠ []) (h1 : 1 ≤ k) (h2 : k ≤ 1000) (hz : as.length ≤ 1000) : OpD (rRepA K) G (.tuple as) (.int (k : Int)) (.tuple (List.replicate k as).flatten) := fun x y G1 H1 a b hx hy Q q => by
  cases hx with
  | @tup p xs _ hp hxs =>
    cases hy
    refine ⟨p, (k : Int), xs, rfl, rfl, TupA.sq (TupA.mono hp b), fun e => hne (by subst e; cases hxs; rfl), by omega, by omega, by rw [hxs.len]; exact hz, fun e => ?_, fun _ l o hl od => ?_⟩
    · have e : k = 1 := by omega
      subst e
      rw [List.replicate_one, List.flatten_singleton] at q
      exact q _ G1 H1 (.refl b) (.tup hp hxs)
    · have s := Stp.new (o := tupO o (List.replicate (k : Int).toNat xs).flatten) b hl
      have hk : ((k : Int)).toNat = k := by omega
      rw [hk] at s ⊢
      exact q _ _ _ s (.tup (.new od) ((hxs.rep k).mono s.g))
end
end Mv
namespace Mv
open PySem L2 PyProof.Rows PySem.Spec
inductive TyY (K : PySem.W.Frag) (H : Hp) : V → Value → Prop where
  | x {v : V} {t : Value} (h : TyX K H v t) : TyY K H v t
  | d {a : Addr} {o : Obj} {kvs : List (List L2.Key × V)} (e : H a = some (.frz o (.dT kvs))) : TyY K H (.ref a) (.type "dict")
def rIsiY (K : PySem.W.Frag) : List V → Hp → VK → Prop := fun xs H Q => ∃ (v c : V) (t u : Value) (b : Bool), xs = [v, c] ∧ ClsV c u ∧ TyY K H v t ∧ PySem.W.kitOne K t u = some b ∧ Q (.bl b) H
def rIsiTY (K : PySem.W.Frag) : List V → Hp → VK → Prop := fun xs H Q => ∃ (v : V) (p : Addr) (cs : List V) (t : Value) (us : List Value) (b : Bool), xs = [v, .ref p] ∧ SqT K H p cs ∧ Paired ClsV cs us ∧ TyY K H v t ∧ PySem.W.kitAny K t us = some b ∧ Q (.bl b) H
section
variable {X : Cx}
theorem kitY {pins : List (Addr × Obj)} {σ : L2.St} {H : Hp} {s : Shared} {v : V} {u t : Value} (I : Inv X pins σ H s) (r : RelV v u) (ty : TyY X.K H v t) : ∃ S : Heap → Prop, PySem.W.KitX X.K u t S ∧ S s.heap ∧ u ≠ .builtin "__main__.__loader__#opaque" := by
  rcases ty with h | e
  · exact kit_of I r h
  · rename_i a o kvs
    obtain ⟨_, at_, exact_, _⟩ := I.frzT e
    obtain rfl : u = Value.ref a := r
    exact ⟨_, PySem.W.kitx_dict, ⟨o, at_, exact_.1⟩, fun z => nomatch z⟩
theorem call_isiY : CallR X (.builtin "isinstance") (rIsiY X.K) := fun pins s σ H xs us Q I r ⟨v, c, t, u, b, ex, k, ty, e, q⟩ => by
  subst ex
  obtain ⟨w1, w2, rfl, r1, r2⟩ := vals2 r
  obtain rfl := k.eq r2
  obtain ⟨S, Z, p, hx⟩ := kitY I r1 ty
  exact (PySem.W.kia_one Z I.kIn p e hx fun tk => ⟨.bl b, H, I.tok tk, rfl, q⟩)
theorem call_isiTY : CallR X (.builtin "isinstance") (rIsiTY X.K) := fun pins s σ H xs us Q I r ⟨v, p, cs, t, ws, b, ex, hp, k, ty, e, q⟩ => by
  subst ex
  obtain ⟨w1, w2, rfl, r1, r2⟩ := vals2 r
  obtain rfl : w2 = Value.ref p := r2
  obtain ⟨S, Z, at_, hx⟩ := kitY I r1 ty
  obtain ⟨its, rv, ⟨ob, h1, h2, n, h3⟩, _⟩ := I.tuple hp
  obtain rfl := ClsV.all k rv
  obtain ⟨oc, od, dt, sl⟩ := ob
  dsimp only at h2 h3
  subst h2 h3
  exact PySem.W.kia_tup Z I.kIn at_ h1 e hx fun tk => ⟨.bl b, H, I.tok tk, rfl, q⟩
end
end Mv
namespace Mv
open PySem PySem.Spec PyProof.Rows L2 Evl
section
variable {prog : Program} {w : World} {A : Around} {E : Value → Shared → Prop} {s : Shared}
theorem sorted_seq {T : String} {at_ : Addr} {ob : Obj} {vs : List Value} {n : Nat} {Q : Value → Shared → Prop} (hT : T = "list" ∨ T = "tuple") (ho : s.heap.get? at_ = some ob) (hc : ob.cls = .type T) (hd : ob.data = .seq vs.toArray n) (hL : vs.length ≤ sizeLine)
    (go : ∀ hp : Heap, (∀ b u, s.heap.get? b = some u → hp.get? b = some u) → ∀ E' : Value → Shared → Prop,
      wpAny (model prog w) A.in1.in1 (Builtin.«list.sort» ⟨[.ref hp.objs.size], []⟩) (fun f z => f = .done (.ret .none) ∧ Q (.ref hp.objs.size) z) E' { s with heap := hp.push (seqObj "list" vs.toArray 0) }) :
    wpAny (model prog w) A (call (.builtin "sorted") [.ref at_]) Q E s := by
  refine PySem.Calls.call_function_entry kind_sorted plain_sorted entry_sorted (args_sorted1 _) ?_
  unfold Builtin.«sorted»
  refine (wpAny_bind (m := checkCount "sorted" 1 1 _) (wpAny_pure ?_))
  refine wpAny_bind (PySem.wpAny_collect_seq at_ (items := vs.toArray) hT ho hc hd (fun hp keep => ?_) (by simpa using hL))
  refine wpAny_bind (wpAny_newList ?_ (by simpa using hL))
  refine wpAny_bind (wpAny_holding (PySem.wpAny_call_entry slot_list_sort ⟨_, Heap.get?_push_size _ rfl, rfl⟩ entry_list_sort ?body (args_list_sort _)))
  case body =>
    refine wpAny_mono (go hp keep _) (fun f z ⟨e, q⟩ => ?_) fun _ _ e => e
    subst e
    exact ⟨_, rfl, wpAny_pure ⟨_, rfl, q⟩⟩
end
def ordD : D → D → Bool := PySem.W.dataLe false (id : D → D)
def sortD (ds : List D) : List D := ds.mergeSort ordD
def rSortD (K : PySem.W.Frag) : List V → Hp → VK → Prop := fun vs H Q => ∃ (a : Addr) (bs : List (V × D)), vs = [.ref a] ∧ (SqL K H a (bs.map (·.1)) ∨ SqT K H a (bs.map (·.1))) ∧ (∀ b ∈ bs, Dp K H b.1 b.2) ∧ PySem.W.AllAlike (bs.map (·.2)) ∧ PySem.W.Sortable (bs.map (·.2)) ∧ (∀ b ∈ bs, b.2.depth ≤ 60) ∧
  ∀ p, H p = none → Q (.ref p) (upd H p (.lst ((bs.mergeSort (PySem.W.dataLe false (·.2))).map (·.1))))
theorem each_vals {bs : List (V × D)} {its : List Value} (h : Vals (bs.map (·.1)) its) : PySem.W.EachIs (fun v b => RelV b.1 v) its bs := by
  induction bs generalizing its with
  | nil => cases h; exact .nil
  | cons b bs ih => cases h with | cons h1 h2 => exact .cons h1 (ih h2)
theorem vals_each {bs : List (V × D)} {its : List Value} (h : PySem.W.EachIs (fun v b => RelV b.1 v) its bs) : Vals (bs.map (·.1)) its := by
  induction h with
  | nil => exact .nil
  | cons h1 _ ih => exact .cons h1 ih
section
variable {X : Cx}
theorem call_sortD (hu : X.A.units + 64 < cLine) : CallR X (.builtin "sorted") (rSortD X.K) := by
  intro pins; intro s σ H vs us Q I r h
  obtain ⟨a, bs, rfl, hs, hd, hal, hk, hdp, q⟩ := h
  rw [Vals.ref1 r]
  obtain ⟨its, rv, hsz, T, ob, n, hT, ho, hc, hdat⟩ : ∃ its : List Value, Vals (bs.map (·.1)) its ∧ (bs.map (·.1)).length ≤ sizeLine ∧ ∃ (T : String) (ob : Obj) (n : Nat), (T = "list" ∨ T = "tuple") ∧ s.heap.get? a = some ob ∧ ob.cls = .type T ∧ ob.data = .seq its.toArray n := by
    rcases hs with hs | hs
    · obtain ⟨its, rv, hl, hz⟩ := I.list hs
      obtain ⟨o, ho, hc, n, hd⟩ := hl.isList
      exact ⟨its, rv, hz, "list", o, n, .inl rfl, ho, hc, hd⟩
    · obtain ⟨its, rv, hl, hz⟩ := I.tuple hs
      obtain ⟨o, ho, hc, n, hd⟩ := (hl)
      exact ⟨its, rv, hz, "tuple", o, n, .inr rfl, ho, hc, hd⟩
  have ev := each_vals rv
  have er : ∀ {s' : Shared}, (∀ b u, s.heap.get? b = some u → s'.heap.get? b = some u) → PySem.W.EachIs (fun v b => ∃ as, Reads s'.heap v b.2 as) its bs := fun {s'} keep => by
    have key : ∀ {its : List Value} {cs : List (V × D)}, PySem.W.EachIs (fun v b => RelV b.1 v) its cs → (∀ b ∈ cs, b ∈ bs) → PySem.W.EachIs (fun v b => ∃ as, Reads s'.heap v b.2 as) its cs := fun {its cs} h => by
      induction h with
      | nil => intro _; exact .nil
      | @cons v b vs cs h1 _ ih =>
        intro m
        obtain ⟨as, r⟩ := Dp.reads I b.2 b.1 v (hd b (m b (.head _))) h1
        exact .cons ⟨as, Reads.keeps keep r⟩ (ih fun x hx => m x (.tail _ hx))
    exact key ev fun _ h => h
  have il : its.length ≤ sizeLine := by rw [← rv.length]; exact hsz
  refine sorted_seq hT ho hc hdat il fun hp keep E' => ?_
  have up : ∀ b u, s.heap.get? b = some u → (hp.push (seqObj "list" its.toArray 0)).get? b = some u := fun b u q => Heap.get?_push_of_some _ (keep b u q)
  have ne : ∀ b u, s.heap.get? b = some u → b ≠ hp.objs.size := fun b u q => Nat.ne_of_lt (Heap.lt_size (keep b u q))
  have er2 := er (s' := { s with heap := PySem.W.sortingHeap (hp.push (seqObj "list" its.toArray 0)) hp.objs.size its }) fun b u q => PySem.W.sortingHeap_old (ne b u q) (up b u q)
  refine PySem.W.list_sort_vals (s := { s with heap := hp.push (seqObj "list" its.toArray 0) }) (Heap.get?_push_size _ rfl) (PySem.W.SortsAt.data (s := { s with heap := PySem.W.sortingHeap (hp.push (seqObj "list" its.toArray 0)) hp.objs.size its }) (PySem.W.each_map (R := fun v d => ∃ as, Reads (PySem.W.sortingHeap (hp.push (seqObj "list" its.toArray 0)) hp.objs.size its) v d as) (fun b : V × D => b.2) er2) hal hk (fun d m => ?_)) il ⟨rfl, ?_⟩
  · obtain ⟨b, hb, rfl⟩ := List.mem_map.mp m
    have := hdp b hb
    show X.A.units + 2 + _ < _
    omega
  · have ev2 := PySem.W.sortVals_data (R := fun v (b : V × D) => RelV b.1 v) (enc := fun b : V × D => b.2) false ev er2 hal
    have none1 : s.heap.get? hp.objs.size = none := by
      cases q : s.heap.get? hp.objs.size with
      | none => rfl
      | some u => exact absurd rfl (ne _ u q)
    have none2 : H hp.objs.size = none := I.hok.gone none1
    obtain ⟨ep, at2⟩ := sortedHeap_at (out := (PySem.W.sortVals (PySem.W.dataKind (PySem.W.sortingHeap (hp.push (seqObj "list" its.toArray 0)) hp.objs.size its) (bs.map (·.2))) false its its).toArray) (Heap.get?_push_size _ rfl : (hp.push (seqObj "list" its.toArray 0)).get? hp.objs.size = some (seqObj "list" its.toArray 0))
    have vl := vals_each ev2
    have vlen := vl.length
    refine ⟨.ref _, upd H hp.objs.size (.lst ((bs.mergeSort (PySem.W.dataLe false (·.2))).map (·.1))), I.laidN (t' := s.toks) (fun b u q => ?_) none1 none2 ⟨?_, _, ep, vl, at2⟩, rfl, q _ none2⟩
    · rw [sortedHeap_old (ne b u q) (Heap.lt_size (up b u q))]
      exact up b u q
    · rw [List.length_map, List.length_mergeSort]
      rw [List.length_map] at hsz
      exact hsz
end
section
variable {K : PySem.W.Frag} {σ : L2.St} {G H : Hp} {te : TE} {d e z : D} {ds : List D}
theorem zip_dq {G : Hp} : ∀ {vs : List V} {ds : List D}, DqA G vs ds → (vs.zip ds).map (·.1) = vs ∧ (vs.zip ds).map (·.2) = ds ∧ ∀ b ∈ vs.zip ds, Dq G b.1 b.2
  | _, _, .nil => ⟨rfl, rfl, fun _ h => by cases h⟩
  | _, _, .cons h hn => by
    obtain ⟨e1, e2, e3⟩ := zip_dq hn
    refine ⟨by rw [List.zip_cons_cons, List.map_cons, e1], by rw [List.zip_cons_cons, List.map_cons, e2], fun b hb => ?_⟩
    rw [List.zip_cons_cons] at hb
    rcases (List.mem_cons.mp hb) with rfl | hb
    · exact h
    · exact e3 b hb
theorem dqa_pairs {G : Hp} : ∀ {bs : List (V × D)}, (∀ b ∈ bs, Dq G b.1 b.2) → DqA G (bs.map (·.1)) (bs.map (·.2))
  | [], _ => .nil
  | b :: bs, h => .cons (h b (.head _)) (dqa_pairs fun x hx => h x (.tail _ hx))
theorem flat_mem : ∀ {ds : List D}, flatDs ds = true → ∀ d ∈ ds, flatD d = true
  | d :: ds, h, x, hx => by
    simp only [flatDs, Bool.and_eq_true] at h
    rcases (List.mem_cons.mp hx) with rfl | hx
    · exact h.1
    · exact flat_mem h.2 x hx
  | [], _, x, hx => by cases hx
theorem sort_pairs {bs : List (V × D)} : (bs.mergeSort (PySem.W.dataLe false (·.2))).map (·.2) = sortD (bs.map (·.2)) := PySem.W.sort_maps (s := ordD) (fun b : V × D => b.2) fun _ _ _ _ => rfl
structure SortOk (ds : List D) : Prop where
  f : flatDs ds = true
  al : PySem.W.AllAlike ds
  so : PySem.W.Sortable ds
  dp : ∀ d ∈ ds, d.depth ≤ 60
theorem cad_sortL (o : SortOk ds) : CaD (rSortD K) G [.list ds] (.list (sortD ds)) := fun vs G1 H1 x w h Q q => by
  cases h with
  | cons h k =>
    cases k
    cases h with
    | @lst p xs _ hp hxs =>
      obtain ⟨e1, e2, e3⟩ := zip_dq hxs
      refine ⟨p, xs.zip ds, rfl, .inl (by rw [e1]; exact SqL.of (w _ _ hp)), fun b hb => ?_, by rw [e2]; exact o.al, by rw [e2]; exact o.so, fun b hb => ?_, fun p2 hp2 => ?_⟩
      · exact dp_of w (e3 b hb) (flat_mem o.f _ (by rw [← e2]; exact List.mem_map.mpr ⟨b, hb, rfl⟩))
      · exact o.dp _ (by rw [← e2]; exact List.mem_map.mpr ⟨b, hb, rfl⟩)
      · have s := Stp.new (o := .lst (((xs.zip ds).mergeSort (PySem.W.dataLe false (·.2))).map (·.1))) w hp2
        refine q _ _ _ s (.lst upd_same ?_)
        have := dqa_pairs (G := G1) (bs := (xs.zip ds).mergeSort (PySem.W.dataLe false (·.2))) fun b hb => e3 b (List.mem_mergeSort.mp hb)
        rw [sort_pairs, e2] at this
        exact this.mono s.g
theorem cad_sortT (o : SortOk ds) : CaD (rSortD K) G [.tuple ds] (.list (sortD ds)) := fun vs G1 H1 x w h Q q => by
  cases h with
  | cons h k =>
    cases k
    cases h with
    | @tup p xs _ hp hxs =>
      obtain ⟨e1, e2, e3⟩ := zip_dq hxs
      refine ⟨p, xs.zip ds, rfl, .inr (by rw [e1]; exact TupA.sq (TupA.mono hp w)), fun b hb => ?_, by rw [e2]; exact o.al, by rw [e2]; exact o.so, fun b hb => ?_, fun p2 hp2 => ?_⟩
      · exact dp_of w (e3 b hb) (flat_mem o.f _ (by rw [← e2]; exact List.mem_map.mpr ⟨b, hb, rfl⟩))
      · exact o.dp _ (by rw [← e2]; exact List.mem_map.mpr ⟨b, hb, rfl⟩)
      · have s := Stp.new (o := .lst (((xs.zip ds).mergeSort (PySem.W.dataLe false (·.2))).map (·.1))) w hp2
        refine q _ _ _ s (.lst upd_same ?_)
        have := dqa_pairs (G := G1) (bs := (xs.zip ds).mergeSort (PySem.W.dataLe false (·.2))) fun b hb => e3 b (List.mem_mergeSort.mp hb)
        rw [sort_pairs, e2] at this
        exact this.mono s.g
def rInA (K : PySem.W.Frag) (neg : Bool) : R2 := fun x y H Q => ∃ (d : D) (ds : List D), Dp K H x d ∧ (Dp K H y (.list ds) ∧ SeqAt.shaped (.list ds) = true ∨ Dp K H y (.tuple ds) ∧ SeqAt.shaped (.tuple ds) = true) ∧ SeqAt.shaped d = true ∧ Q (.bl (if neg then !ds.any fun z => PyData.eqv z d else ds.any fun z => PyData.eqv z d)) H
theorem op_notInA {X : Cx} (hu : X.A.units + 64 + 1 < cLine) : OpR X (compareOp .NotIn) (rInA X.K true) := by
  intro pins; intro s σ H x y v u Q I rx ry h
  obtain ⟨d, ds, hd, he, sd, q⟩ := h
  obtain ⟨as, r1⟩ := (Dp.reads I d x v hd rx)
  rcases he with ⟨he, se⟩ | ⟨he, se⟩
  · obtain ⟨bs, r2⟩ := Dp.reads I (.list ds) y u he ry
    exact (SeqAt.notIn_list_reads r2 r1 (SeqAt.canLay_of_shaped se) (SeqAt.canLay_of_shaped sd) (room_in_shaped sd hu) ⟨.bl _, H, I, rfl, q⟩)
  · obtain ⟨bs, r2⟩ := Dp.reads I (.tuple ds) y u he ry
    exact SeqAt.notIn_tuple_reads r2 r1 (SeqAt.canLay_of_shaped se) (SeqAt.canLay_of_shaped sd) (room_in_shaped sd hu) ⟨.bl _, H, I, rfl, q⟩
theorem opd_inL {neg : Bool} (f1 : flatD d = true) (f2 : flatD (.list ds) = true) (s1 : SeqAt.shaped d = true) (s2 : SeqAt.shaped (.list ds) = true) : OpD (rInA K neg) G d (.list ds) (.bool (if neg then !ds.any fun z => PyData.eqv z d else ds.any fun z => PyData.eqv z d)) := fun x y G1 H1 a b hx hy Q q =>
  ⟨d, ds, dp_of b hx f1, .inl ⟨dp_of b hy f2, s2⟩, s1, q _ G1 H1 (.refl b) (.bl _)⟩
theorem opd_inT {neg : Bool} (f1 : flatD d = true) (f2 : flatD (.tuple ds) = true) (s1 : SeqAt.shaped d = true) (s2 : SeqAt.shaped (.tuple ds) = true) : OpD (rInA K neg) G d (.tuple ds) (.bool (if neg then !ds.any fun z => PyData.eqv z d else ds.any fun z => PyData.eqv z d)) := fun x y G1 H1 a b hx hy Q q =>
  ⟨d, ds, dp_of b hx f1, .inr ⟨dp_of b hy f2, s2⟩, s1, q _ G1 H1 (.refl b) (.bl _)⟩
end
end Mv
namespace Mv
open PySem PySem.Spec PyProof.Rows L2 Evl HT
section
variable {prog : Program} {w : World} {A : Around} {E : Value → Shared → Prop} {s : Shared}
end
section
variable {X : Cx}
end
section
variable {K : PySem.W.Frag} {σ : L2.St} {G : Hp} {te : TE}
end
end Mv
namespace Mv
open PySem PySem.Spec PyProof.Rows L2 Evl
section
variable {X : Cx}
end
theorem nodup_len {α : Type} [DecidableEq α] : ∀ {L M : List α}, L.Nodup → (∀ x ∈ L, x ∈ M) → L.length ≤ M.length
  | [], _, _, _ => Nat.zero_le _
  | x :: L, M, h, s => by
    have hx := s x (.head _)
    have hn := List.nodup_cons.mp h
    have ih := nodup_len (L := L) (M := M.erase x) hn.2 fun y hy => (List.mem_erase_of_ne (fun e => hn.1 (by rw [← e]; exact hy))).mpr (s y (.tail _ hy))
    rw [List.length_erase_of_mem hx] at ih
    have := List.length_pos_of_mem hx
    rw [List.length_cons]
    omega
theorem nodup_perm {α : Type} [DecidableEq α] : ∀ {L M : List α}, L.Nodup → (∀ x ∈ L, x ∈ M) → L.length = M.length → L.Perm M
  | [], M, _, _, e => by
    have : M = [] := List.eq_nil_of_length_eq_zero e.symm
    rw [this]
  | x :: L, M, h, s, e => by
    have hx := s x (.head _)
    have hn := List.nodup_cons.mp h
    have hl : L.length = (M.erase x).length := by
      rw [List.length_erase_of_mem hx]
      rw [List.length_cons] at e
      omega
    have ih := nodup_perm (L := L) (M := M.erase x) hn.2 (fun y hy => (List.mem_erase_of_ne (fun e => hn.1 (by rw [← e]; exact hy))).mpr (s y (.tail _ hy))) hl
    exact (ih.cons x).trans (List.perm_cons_erase hx).symm
theorem nodup_iff {α : Type} [DecidableEq α] {L M : List α} (h : L.Nodup) (s : ∀ x ∈ L, x ∈ M) (t : ∀ x ∈ M, x ∈ L) : L.length = M.length ↔ M.Nodup := by
  refine ⟨fun e => (nodup_perm h s e).nodup_iff.mp h, fun hm => ?_⟩
  have h1 := nodup_len h s
  have h2 := nodup_len hm t
  omega
section
variable {K : PySem.W.Frag} {P : Program} {w : World} {σ : L2.St} {G H : Hp} {te : TE}
end
end Mv
namespace Mv
open PySem L2 Evl
abbrev KK := List L2.Key
def lkD (es : List (KK × D)) (k : KK) : Option D := (es.find? fun e => decide (e.1 = k)).map (·.2)
def putD (es : List (KK × D)) (k : KK) (d : D) : List (KK × D) := if (es.any fun e => decide (e.1 = k)) = true then es.map (fun e => if e.1 = k then (e.1, d) else e) else es ++ [(k, d)]
def dropD (es : List (KK × D)) (k : KK) : List (KK × D) := es.filter fun e => decide (e.1 ≠ k)
theorem putD_len (es : List (KK × D)) (k : KK) (d : D) : (putD es k d).length ≤ es.length + 1 := by
  unfold putD
  split
  · rw [List.length_map]; omega
  · rw [List.length_append]; exact Nat.le_refl _
section
variable {G G' H : Hp} {kvs : List (KK × V)} {es : List (KK × D)} {k : KK} {d : D} {v : V}
theorem DqP.len (h : DqP G kvs es) : kvs.length = es.length := by
  induction kvs generalizing es with
  | nil => cases h; rfl
  | cons x xs ih => cases h with | cons _ _ t => rw [List.length_cons, List.length_cons, ih t]
theorem DqP.keys (h : DqP G kvs es) : kvs.map (·.1) = es.map (·.1) := by
  induction kvs generalizing es with
  | nil => cases h; rfl
  | cons x xs ih => cases h with | cons _ _ t => rw [List.map_cons, List.map_cons, ih t]
theorem DqP.val (h : DqP G kvs es) (l : lkD es k = some d) : ∃ v, valV kvs k = some v ∧ Dq G v d ∧ k ≠ [] := by
  induction kvs generalizing es with
  | nil => cases h; cases l
  | cons x xs ih =>
    cases h with
    | @cons k' v' d' _ es' nk q t =>
      unfold lkD at l
      rw [List.find?_cons] at l
      by_cases e : k' = k
      · rw [decide_eq_true e] at l
        cases l
        exact ⟨v', valV_pos e, q, e ▸ nk⟩
      · rw [decide_eq_false e] at l
        obtain ⟨u, h1, h2⟩ := ih t l
        exact ⟨u, (valV_neg e).trans h1, h2⟩
theorem any_key {α : Type} : ∀ {xs : List (KK × α)} {ys : List (KK × D)}, xs.map (·.1) = ys.map (·.1) → (xs.any fun e => decide (e.1 = k)) = ys.any fun e => decide (e.1 = k)
  | [], [], _ => rfl
  | [], _ :: _, h => by simp at h
  | _ :: _, [], h => by simp at h
  | x :: xs, y :: ys, h => by
    rw [List.map_cons, List.map_cons] at h
    injection h with h1 h2
    rw [List.any_cons, List.any_cons, any_key h2, h1]
theorem DqP.snoc (h : DqP G kvs es) (nk : k ≠ []) (q : Dq G v d) : DqP G (kvs ++ [(k, v)]) (es ++ [(k, d)]) := by
  induction kvs generalizing es with
  | nil => cases h; exact .cons nk q .nil
  | cons x xs ih => cases h with | cons n a t => exact .cons n a (ih t)
theorem DqP.repl (h : DqP G kvs es) (q : Dq G v d) : DqP G (kvs.map fun kv => if kv.1 = k then (kv.1, v) else kv) (es.map fun e => if e.1 = k then (e.1, d) else e) := by
  induction kvs generalizing es with
  | nil => cases h; exact .nil
  | cons x xs ih =>
    cases h with
    | @cons k' v' d' _ es' nk a t =>
      (rw [List.map_cons, List.map_cons])
      by_cases e : k' = k
      · simp only [e, if_true]; exact .cons (e ▸ nk) q (ih t)
      · simp only [e, if_false]; exact .cons nk a (ih t)
theorem DqP.put (h : DqP G kvs es) (nk : k ≠ []) (q : Dq G v d) : DqP G (putK kvs k v) (putD es k d) := by
  unfold putK putD
  rw [any_key h.keys]
  split
  · exact h.repl q
  · exact h.snoc nk q
theorem DqP.drop (h : DqP G kvs es) : DqP G (dropK kvs k) (dropD es k) := by
  unfold dropK dropD
  induction kvs generalizing es with
  | nil => cases h; exact .nil
  | cons x xs ih =>
    cases h with
    | @cons k' v' d' _ es' nk a t =>
      by_cases e : k' = k
      · rw [List.filter_cons_of_neg (by simp [e]), List.filter_cons_of_neg (by simp [e])]; exact ih t
      · rw [List.filter_cons_of_pos (by simp [e]), List.filter_cons_of_pos (by simp [e])]; exact .cons nk a (ih t)
theorem DqP.get {i : Nat} (h : DqP G kvs es) (e : kvs[i]? = some (k, v)) : ∃ d, es[i]? = some (k, d) ∧ Dq G v d ∧ k ≠ [] := by
  induction kvs generalizing es i with
  | nil => simp at e
  | cons x xs ih =>
    cases h with
    | @cons k' v' d' _ es' nk a t =>
      cases i with
      | zero => simp at e; obtain ⟨rfl, rfl⟩ := e; exact ⟨d', rfl, a, nk⟩
      | succ i => obtain ⟨d, h1, h2⟩ := ih t (by simpa using e); exact ⟨d, by simpa using h1, h2⟩
theorem keyD_inj : ∀ {a b : L2.Key}, keyD a = keyD b → a = b
  | .inl i, .inl j, h => by have h' : PyData.int i = .int j := h; injection h' with h'; rw [h']
  | .inr x, .inr y, h => by have h' : PyData.str x = .str y := h; injection h' with h'; rw [h']
  | .inl i, .inr y, h => nomatch (show PyData.int i = .str y from h)
  | .inr x, .inl j, h => nomatch (show PyData.str x = .int j from h)
theorem keyDs_inj : ∀ {a b : KK}, a.map keyD = b.map keyD → a = b
  | [], [], _ => rfl
  | [], _ :: _, h => by simp at h
  | _ :: _, [], h => by simp at h
  | x :: xs, y :: ys, h => by
    rw [List.map_cons, List.map_cons] at h
    injection h with h1 h2
    rw [keyD_inj h1, keyDs_inj h2]
theorem pairs_inj : ∀ {a b : List (KK × D)}, (a.map fun e => (kD e.1, e.2)) = (b.map fun e => (kD e.1, e.2)) → a = b
  | [], [], _ => rfl
  | [], _ :: _, h => by simp at h
  | _ :: _, [], h => by simp at h
  | (k1, d1) :: xs, (k2, d2) :: ys, h => by
    rw [List.map_cons, List.map_cons] at h
    injection h with h1 h2
    injection h1 with h3 h4
    have h3' : PyData.tuple (k1.map keyD) = .tuple (k2.map keyD) := h3
    injection h3' with h3'
    rw [keyDs_inj h3', pairs_inj h2, show d1 = d2 from h4]
theorem Dq.dict (h : Dq G v (dctD es)) : ∃ a o kvs, v = .ref a ∧ G a = some (.frz o (.dT kvs)) ∧ DqP G kvs es := by
  generalize e : dctD es = z at h
  cases h with
  | emp hp q =>
    exfalso
    injection e with e
    subst e
    cases es with
    | nil => cases q
    | cons x xs => cases q
  | dct hp k q =>
    injection e with e
    subst q
    have := pairs_inj e
    subst this
    exact ⟨_, _, _, rfl, hp, k⟩
  | _ => cases e
theorem keys_at : ∀ {k : KK} {vs : List V}, DqA G vs (k.map keyD) → vs = k.map kV
  | [], _, h => by cases h; rfl
  | .inl i :: k, _, h => by
    cases h with
    | cons a t => cases a; rw [List.map_cons, ← keys_at t]; rfl
  | .inr x :: k, _, h => by
    cases h with
    | cons a t => cases a; rw [List.map_cons, ← keys_at t]; rfl
theorem at_keys : ∀ (k : KK), DqA G (k.map kV) (k.map keyD)
  | [] => .nil
  | .inl i :: k => .cons (.int i) (at_keys k)
  | .inr x :: k => .cons (.str x) (at_keys k)
theorem Dq.key (h : Dq G v (kD k)) (nk : k ≠ []) : ∃ b, v = .ref b ∧ G b = some (.tup (k.map kV)) := by
  generalize e : kD k = z at h
  cases h with
  | @tup a xs ds hp hx =>
    have e' : PyData.tuple (k.map keyD) = .tuple ds := e
    injection e' with e'
    subst e'
    rw [keys_at hx] at hp
    exact ⟨_, rfl, hp.key (keyV_ks nk)⟩
  | _ => cases e
theorem key_dq {b : Addr} (h : G b = some (.tup (k.map kV))) (nk : k ≠ []) : Dq G (.ref b) (kD k) := .tup (.ofKey h (keyV_ks nk)) (at_keys k)
def kn (G : Hp) (q : Addr) (xs : List V) : Hp := fun b => if b = q then some (.tup xs) else G b
theorem kn_at {q : Addr} {xs : List V} : kn G q xs q = some (.tup xs) := by unfold kn; rw [if_pos rfl]
theorem kn_ex {q : Addr} {xs : List V} (w : Ex G H) (h : H q = some (.tup xs)) : Ex G (kn G q xs) ∧ Ex (kn G q xs) H := by
  refine (⟨fun b o e => ?_, fun b o e => ?_⟩)
  · unfold kn
    by_cases z : b = q
    · have := w _ _ e
      rw [z, h] at this
      rw [if_pos z]; exact this
    · rw [if_neg z]; exact e
  · unfold kn at e
    by_cases z : b = q
    · rw [if_pos z] at e; rw [z]; cases e; exact h
    · rw [if_neg z] at e; exact w _ _ e
theorem Stp.know {G0 H0 : Hp} {q : Addr} {xs : List V} (s : Stp G0 H0 G H) (h : H q = some (.tup xs)) : Stp G0 H0 (kn G q xs) H := by
  obtain ⟨e1, e2⟩ := kn_ex s.w h
  refine ⟨s.g.trans e1, s.h, e2, fun b h1 h2 h3 => ?_⟩
  unfold kn
  by_cases z : b = q
  · exfalso
    cases e : H0 b with
    | none => exact h2 e
    | some o =>
      have := s.h _ _ e
      rw [z, h] at this
      cases this
      exact h3 xs e
  · rw [if_neg z]; exact s.n b h1 h2 h3
section
variable {K : PySem.W.Frag} {σ : L2.St} {te td ty : TE} {t : TT}
end
end
end Mv
namespace Mv
open PySem L2 Evl
section
variable {G G' H H' : Hp} {kvs : List (KK × V)} {es : List (KK × D)} {k : KK} {d : D} {v : V} {a : Addr}
structure MD (G H : Hp) (a : Addr) (es : List (KK × D)) : Prop where
  g : G a = none
  at_ : ∃ kvs, H a = some (.dT kvs) ∧ DqP G kvs es
theorem MD.stp (m : MD G H a es) (s : Stp G H G' H') : MD G' H' a es := by
  obtain ⟨kvs, e, q⟩ := m.at_
  exact ⟨s.n a m.g (by rw [e]; intro z; cases z) (by rw [e]; intro _ z; cases z), kvs, s.h _ _ e, q.mono s.g⟩
theorem ex_mut {o : HO} (w : Ex G H) (g : G a = none) : Ex G (upd H a o) := fun b u q => by
  rw [upd_ne (fun z => by rw [z, g] at q; cases q)]
  exact w b u q
theorem MD.other {b : Addr} {o : HO} (m : MD G H a es) (ne : a ≠ b) : MD G (upd H b o) a es := by
  obtain ⟨kvs, e, q⟩ := m.at_
  exact ⟨m.g, kvs, by rw [upd_ne ne]; exact e, q⟩
def less (G : Hp) (a : Addr) : Hp := fun b => if b = a then none else G b
mutual
theorem Dq.less {G : Hp} {a : Addr} {o : Obj} {u : List (List L2.Key × V)} (f : G a = some (.frz o (.dT u))) : ∀ {v : V} {d : D}, Dq G v d → flatD d = true → Dq (less G a) v d
  | _, _, .non, _ => .non
  | _, _, .bl b, _ => .bl b
  | _, _, .int i, _ => .int i
  | _, _, .str x, _ => .str x
  | _, _, .lst (a := c) h k, fl => .lst (by unfold Mv.less; rw [if_neg (fun z => by rw [z, f] at h; cases h)]; exact h) (DqA.less f k (by simpa [flatD] using fl))
  | _, _, .tup (a := c) h k, fl => .tup (h.by fun o' y e => by unfold Mv.less; rw [if_neg (fun z => by rw [z, f] at e; rcases y with rfl | ⟨_, rfl⟩ <;> cases e)]; exact e) (DqA.less f k (by simpa [flatD] using fl))
  | _, _, .emp _ _, fl => by simp [flatD] at fl
  | _, _, .dct _ _ _, fl => by simp [flatD] at fl
theorem DqA.less {G : Hp} {a : Addr} {o : Obj} {u : List (List L2.Key × V)} (f : G a = some (.frz o (.dT u))) : ∀ {vs : List V} {ds : List D}, DqA G vs ds → flatDs ds = true → DqA (less G a) vs ds
  | _, _, .nil, _ => .nil
  | _, _, .cons h k, fl => by
    simp only [flatDs, Bool.and_eq_true] at fl
    exact .cons (Dq.less f h fl.1) (DqA.less f k fl.2)
end
theorem DqP.less {o : Obj} {u : List (List L2.Key × V)} (f : G a = some (.frz o (.dT u))) (fl : ∀ e ∈ es, flatD e.2 = true) (h : DqP G kvs es) : DqP (less G a) kvs es := by
  induction kvs generalizing es with
  | nil => cases h; exact .nil
  | cons x xs ih => cases h with | cons n q t => exact .cons n (q.less f (fl _ (List.mem_cons_self ..))) (ih (fun e he => fl e (List.mem_cons_of_mem _ he)) t)
structure MkD (G0 H0 : Hp) (p : Addr) (es : List (KK × D)) (H : Hp) : Prop where
  at_ : ∃ G kvs, Stp G0 H0 G H ∧ G p = none ∧ DqP G kvs es ∧ H p = some (.dT kvs)
theorem MkD.start {G0 H0 : Hp} {p : Addr} (x : Ex G0 H0) (hp : H0 p = none) : MkD G0 H0 p [] (upd H0 p (.dT [])) :=
  ⟨G0, [], ⟨.refl _, .new hp, x.trans (.new hp), fun _ h _ _ => h⟩, fresh_back x hp, .nil, upd_same⟩
theorem MkD.turn {G0 H0 H1 : Hp} {p : Addr} {σ2 : L2.St} {b : Bool} {t : TT} {tk tv : TE} (h0 : H0 p = none) (s : Stp G0 H0 G H1) (gp : G p = none) (hvs : DqP G kvs es) (hH : H1 p = some (.dT kvs)) (hz : es.length < sizeLine)
    (nk : b = true → k ≠ []) (ht : EvB t σ2 G b) (hk : b = true → EvD tk σ2 G (kD k)) (hv : b = true → EvD tv σ2 G d) {N : Hp → Prop} (go : ∀ H2, MkD G0 H0 p (if b then putD es k d else es) H2 → N H2) :
    t σ2 H1 fun b' H3 => if b' = true then tk σ2 H3 fun y H4 => tv σ2 H4 fun z H5 => ∃ kvs k a, y = .ref a ∧ H5 a = some (.tup (k.map kV)) ∧ H5 p = some (.dT kvs) ∧ kvs.length < sizeLine ∧ N (upd H5 p (.dT (putK kvs k z))) else N H3 := by
  have nt : ∀ {G1 H1 G2 H2 : Hp}, Stp G1 H1 G2 H2 → G1 p = none → H1 p = some (.dT kvs) → G2 p = none := fun s g e => s.n p g (by rw [e]; intro z; cases z) (by rw [e]; intro _ z; cases z)
  refine ht G H1 (.refl G) s.w _ fun G2 H2 s2 => ?_
  have h2 := s2.h _ _ hH
  have g2 := nt s2 gp hH
  cases b with
  | false => exact iteF (go _ ⟨G2, kvs, s.trans s2, g2, hvs.mono s2.g, h2⟩)
  | true =>
    refine iteT (hk rfl G2 H2 s2.g s2.w _ fun y G3 H3 s3 hy => hv rfl G3 H3 (s2.g.trans s3.g) s3.w _ fun z G4 H4 s4 hz4 => ?_)
    have h3 := s3.h _ _ h2
    have g4 := nt s4 (nt s3 g2 h2) h3
    obtain ⟨c, rfl, hc⟩ := hy.key (nk rfl)
    refine ⟨kvs, k, c, rfl, s4.h _ _ (s3.w _ _ hc), s4.h _ _ h3, by rw [hvs.len]; exact hz, go _ ⟨G4, putK kvs k z, ?_, g4, (hvs.mono ((s2.g.trans s3.g).trans s4.g)).put (nk rfl) hz4, upd_same⟩⟩
    have s5 := ((s.trans s2).trans s3).trans s4
    exact ⟨s5.g, s5.h.mut h0, ex_mut s5.w g4, s5.n⟩
def madeD {α : Type} (p : α → Bool) (f : α → KK) (g : α → D) (l : List α) : List (KK × D) := (l.filter p).foldl (fun es x => putD es (f x) (g x)) []
end
def EvM (te : TE) (σ : L2.St) (G : Hp) (es : List (KK × D)) : Prop := ∀ G1 H1, Ex G G1 → Ex G1 H1 → ∀ Q : VK, (∀ p kvs G2 H2, Stp G1 H1 G2 H2 → H1 p = none → G2 p = none → H2 p = some (.dT kvs) → DqP G2 kvs es → Q (.ref p) H2) → te σ H1 Q
section
variable {K : PySem.W.Frag} {σ : L2.St} {G H : Hp} {te td tk tv tl : TE} {t : TT} {ta : TA} {es es2 : List (KK × D)} {a : Addr}
theorem EvM.mono {G' : Hp} (x : Ex G G') (h : EvM te σ G es) : EvM te σ G' es := fun G1 H1 a b Q q => h G1 H1 (x.trans a) b Q q
theorem EvM.is (h : EvM te σ G es) (e : es = es2) : EvM te σ G es2 := e ▸ h
theorem d_fix (h : EvM te σ G es) : EvD (tFix te) σ G (dctD es) := fun G1 H1 x w Q q => h G1 H1 x w _ fun p kvs G2 H2 s h0 g2 h2 hp => ⟨p, .dT kvs, rfl, h2, True.intro, fun o => by
  refine q _ (upd G2 p (.frz o (.dT kvs))) _ ⟨s.g.trans (.new g2), fun b u e => ?_, fun b u e => ?_, fun b h1 h3 h4 => ?_⟩ (.dct upd_same (hp.mono (.new g2)) rfl)
  · rw [upd_ne (fun z => by rw [z, h0] at e; cases e)]
    exact s.h _ _ e
  · by_cases z : b = p
    · rw [z, upd_same] at e ⊢; exact e
    · rw [upd_ne z] at e ⊢; exact s.w _ _ e
  · rw [upd_ne (fun z => h3 (by rw [z]; exact h0))]
    exact s.n b h1 h3 h4⟩
variable {ty : TE} {k : KK} {d : D} {i : Nat} {tz : TS} {D' : Ends}
end
end Mv
namespace Mv
open PySem PySem.Spec PyProof.Rows L2 Evl
section
variable {σ : L2.St} {G : Hp} {td : TE} {es : List (KK × D)}
end
end Mv
namespace Mv
open PySem L2 Evl
section
variable {K : PySem.W.Frag} {G G' H H' : Hp} {a b : Addr} {ds : List D} {d z : D} {es es2 : List (KK × D)} {k : KK} {σ : L2.St} {te tv ty : TE} {tz : TS} {D' : Ends} {i j : Nat}
structure ML (G H : Hp) (a : Addr) (ds : List D) : Prop where
  g : G a = none
  at_ : ∃ us, H a = some (.lst us) ∧ DqA G us ds
theorem ML.stp (m : ML G H a ds) (s : Stp G H G' H') : ML G' H' a ds := by
  obtain ⟨us, e, q⟩ := m.at_
  exact ⟨s.n a m.g (by rw [e]; intro z; cases z) (by rw [e]; intro _ z; cases z), us, s.h _ _ e, q.mono s.g⟩
theorem ML.other {o : HO} (m : ML G H a ds) (ne : a ≠ b) : ML G (upd H b o) a ds := by
  obtain ⟨us, e, q⟩ := m.at_
  exact ⟨m.g, us, by rw [upd_ne ne]; exact e, q⟩
theorem ML.ne (m : ML G H a ds) (h : MD G H b es) : a ≠ b := fun z => by
  obtain ⟨us, e, _⟩ := m.at_
  obtain ⟨kvs, e2, _⟩ := h.at_
  rw [z, e2] at e; cases e
theorem Stp.mutd {G0 H0 : Hp} {o : HO} (s : Stp G0 H0 G H) (h0 : H0 a = none) (g : G a = none) : Stp G0 H0 G (upd H a o) := ⟨s.g, s.h.mut h0, ex_mut s.w g, s.n⟩
theorem ML.know {G0 H0 : Hp} (m : ML G H a ds) (s : Stp G0 H0 G H) (h0 : H0 a = none) : ∃ us, Stp G0 H0 (upd G a (.lst us)) H ∧ Ex G (upd G a (.lst us)) ∧ Dq (upd G a (.lst us)) (.ref a) (.list ds) ∧ Ex (upd G a (.lst us)) H ∧ ∀ {b es}, b ≠ a → MD G H b es → MD (upd G a (.lst us)) H b es := by
  obtain ⟨us, e, q⟩ := m.at_
  have e1 : Ex G (upd G a (.lst us)) := .new m.g
  have w1 : Ex (upd G a (.lst us)) H := fun b u z => by
    by_cases hb : b = a
    · rw [hb, upd_same] at z; rw [hb, ← z]; exact e
    · rw [upd_ne hb] at z; exact s.w _ _ z
  refine ⟨us, ⟨s.g.trans e1, s.h, w1, fun b h1 h2 h3 => ?_⟩, e1, .lst upd_same (q.mono e1), w1, fun ne m => ?_⟩
  · rw [upd_ne (fun z => h2 (by rw [z]; exact h0))]
    exact s.n b h1 h2 h3
  · obtain ⟨kvs, z, r⟩ := m.at_
    exact ⟨by rw [upd_ne ne]; exact m.g, kvs, z, r.mono e1⟩
end
section
variable {K : PySem.W.Frag} {σ : L2.St} {G H : Hp} {te : TE} {D' : Ends} {tu tz : TS}
end
end Mv
namespace Mv
open PySem PySem.Spec PyProof.Rows L2 Evl
section
variable {X : Cx}
end
section
variable {K : PySem.W.Frag} {G : Hp} {σ : L2.St} {td : TE} {es : List (KK × D)}
end
end Mv
namespace Mv
open PySem L2 Evl
inductive Ce where
  | un
  | d (z : D)
  | ml (ds : List D)
  | md (es : List (KK × D))
  | fx (v : V)
abbrev En := List Ce
inductive Ou where
  | val (d : D)
  | exc (x : Str)
abbrev Re := Option Ou
inductive Oa where
  | vals (ds : List D)
  | exc (x : Str)
abbrev Ra := Option Oa
def isMut : Ce → Bool
  | .ml _ => true
  | .md _ => true
  | _ => false
def CellOk (G H : Hp) (o : Option (Option V)) : Ce → Prop
  | .un => True
  | .d z => ∃ v, o = some (some v) ∧ Dq G v z
  | .ml ds => ∃ p, o = some (some (.ref p)) ∧ ML G H p ds
  | .md es => ∃ p, o = some (some (.ref p)) ∧ MD G H p es
  | .fx v => o = some (some v)
structure Rel (G H : Hp) (σ : L2.St) (Γ : En) : Prop where
  w : Ex G H
  len : σ.length = Γ.length
  c : ∀ (i : Nat) (c : Ce), Γ[i]? = some c → CellOk G H (σ[i]?) c
  sep : ∀ (i j : Nat) (p : Addr) (ci cj : Ce), Γ[i]? = some ci → Γ[j]? = some cj → isMut ci = true → isMut cj = true → σ[i]? = some (some (.ref p)) → σ[j]? = some (some (.ref p)) → i = j
section
variable {G H G' H' G1 H1 G2 H2 : Hp} {σ : L2.St} {Γ : En} {o : Option (Option V)}
theorem CellOk.stp {c : Ce} (h : CellOk G H o c) (s : Stp G H G' H') : CellOk G' H' o c := by
  cases c with
  | un => trivial
  | d z => obtain ⟨v, e, q⟩ := h; exact ⟨v, e, q.mono s.g⟩
  | ml ds => obtain ⟨p, e, q⟩ := h; exact ⟨p, e, q.stp s⟩
  | md es => obtain ⟨p, e, q⟩ := h; exact ⟨p, e, q.stp s⟩
  | fx v => exact h
theorem Rel.stp (h : Rel G H σ Γ) (s : Stp G H G' H') : Rel G' H' σ Γ := ⟨s.w, h.len, fun i c e => (h.c i c e).stp s, h.sep⟩
theorem Rel.dq (h : Rel G H σ Γ) {i : Nat} {z : D} (e : Γ[i]? = some (.d z)) : ∃ v, σ[i]? = some (some v) ∧ Dq G v z := h.c i _ e
variable (E : XK) (ad : Str → Addr)
def tmOf (x : Str) : Option Int := if x = ("TooMany(8)" : Str) then some 8 else if x = ("TooMany(10)" : Str) then some 10 else if x = ("TooMany(12)" : Str) then some 12 else if x = ("TooMany(6)" : Str) then some 6 else if x = ("TooMany(7)" : Str) then some 7 else if x = ("TooMany(300)" : Str) then some 300 else if x = ("TooMany(13)" : Str) then some 13 else if x = ("TooMany(16)" : Str) then some 16 else if x = ("TooMany(9)" : Str) then some 9 else none
def XE (x : Str) (H : Hp) : Prop := match tmOf x with
  | some m => ∀ d, H d = none → E (.ref (ad "TooMany")) (some d) (upd H d (.xd [("most", .int m)]))
  | none => E (.ref (ad x)) none H
def PoE (G H : Hp) (Q : VK) : Ou → Prop
  | .val d => ∀ v G2 H2, Stp G H G2 H2 → Dq G2 v d → Q v H2
  | .exc x => ∀ G2 H2, Stp G H G2 H2 → XE E ad x H2
def PoB (G H : Hp) (Q : Bool → Hp → Prop) : Ou → Prop
  | .val (.bool b) => ∀ G2 H2, Stp G H G2 H2 → Q b H2
  | .val _ => False
  | .exc x => ∀ G2 H2, Stp G H G2 H2 → XE E ad x H2
def PoA (G H : Hp) (Q : List V → Hp → Prop) : Oa → Prop
  | .vals ds => ∀ vs G2 H2, Stp G H G2 H2 → DqA G2 vs ds → Q vs H2
  | .exc x => ∀ G2 H2, Stp G H G2 H2 → XE E ad x H2
def PoM (G H : Hp) (Q : VK) : Ou → Prop
  | .val (.list ds) => ∀ p G2 H2, Stp G H G2 H2 → H p = none → ML G2 H2 p ds → Q (.ref p) H2
  | .val _ => False
  | .exc x => ∀ G2 H2, Stp G H G2 H2 → XE E ad x H2
def Se (te : TE) (f : En → Re) : Prop := ∀ σ Γ G H, Rel G H σ Γ → ∀ r, f Γ = some r → ∀ Q : VK, PoE E ad G H Q r → te σ H Q
def Sb (tt : TT) (f : En → Re) : Prop := ∀ σ Γ G H, Rel G H σ Γ → ∀ r, f Γ = some r → ∀ Q : Bool → Hp → Prop, PoB E ad G H Q r → tt σ H Q
def Sa (ta : TA) (f : En → Ra) : Prop := ∀ σ Γ G H, Rel G H σ Γ → ∀ r, f Γ = some r → ∀ Q : List V → Hp → Prop, PoA E ad G H Q r → ta σ H Q
def Sm (te : TE) (f : En → Re) : Prop := ∀ σ Γ G H, Rel G H σ Γ → ∀ r, f Γ = some r → ∀ Q : VK, PoM E ad G H Q r → te σ H Q
variable {E ad}
theorem XE.plain {x : Str} {H : Hp} (h : XE E ad x H) (q : tmOf x = none := by decide) : E (.ref (ad x)) none H := by unfold XE at h; rw [q] at h; exact h
theorem XE.most {x : Str} {m : Int} {H : Hp} (h : XE E ad x H) (q : tmOf x = some m) : ∀ d, H d = none → E (.ref (ad "TooMany")) (some d) (upd H d (.xd [("most", .int m)])) := by unfold XE at h; rw [q] at h; exact h
theorem XE.mkP {x : Str} {H : Hp} (q : tmOf x = none) (h : E (.ref (ad x)) none H) : XE E ad x H := by unfold XE; rw [q]; exact h
theorem PoE.stp {Q : VK} {r : Ou} (h : PoE E ad G H Q r) (s : Stp G H G' H') : PoE E ad G' H' Q r := by
  cases r with
  | val d => exact fun v G2 H2 s2 q => h v G2 H2 (s.trans s2) q
  | exc x => exact fun G2 H2 s2 => h G2 H2 (s.trans s2)
theorem PoB.stp {Q : Bool → Hp → Prop} {r : Ou} (h : PoB E ad G H Q r) (s : Stp G H G' H') : PoB E ad G' H' Q r := by
  cases r with
  | val d =>
    cases d with
    | bool b => exact fun G2 H2 s2 => h G2 H2 (s.trans s2)
    | _ => exact h
  | exc x => exact fun G2 H2 s2 => h G2 H2 (s.trans s2)
theorem PoA.stp {Q : List V → Hp → Prop} {r : Oa} (h : PoA E ad G H Q r) (s : Stp G H G' H') : PoA E ad G' H' Q r := by
  cases r with
  | vals d => exact fun v G2 H2 s2 q => h v G2 H2 (s.trans s2) q
  | exc x => exact fun G2 H2 s2 => h G2 H2 (s.trans s2)
theorem h_old {p : Addr} (s : Stp G H G' H') (h : H' p = none) : H p = none := by
  cases e : H p with
  | none => rfl
  | some o => rw [s.h _ _ e] at h; cases h
theorem PoM.stp {Q : VK} {r : Ou} (h : PoM E ad G H Q r) (s : Stp G H G' H') : PoM E ad G' H' Q r := by
  cases r with
  | val d =>
    cases d with
    | list ds => exact fun p G2 H2 s2 hp q => h p G2 H2 (s.trans s2) (h_old s hp) q
    | _ => exact h
  | exc x => exact fun G2 H2 s2 => h G2 H2 (s.trans s2)
def bnd (a : Re) (k : D → Re) : Re := match a with
  | some (.val d) => k d
  | some (.exc x) => some (.exc x)
  | none => none
def bndA (a : Ra) (k : List D → Re) : Re := match a with
  | some (.vals d) => k d
  | some (.exc x) => some (.exc x)
  | none => none
def ret (o : Option D) : Re := match o with
  | some z => some (.val z)
  | none => none
theorem bnd_some {a : Re} {k : D → Re} {r : Ou} (h : bnd a k = some r) : (∃ d, a = some (.val d) ∧ k d = some r) ∨ ∃ x, a = some (.exc x) ∧ r = .exc x := by
  cases a with
  | none => cases h
  | some o =>
    cases o with
    | val d => exact .inl ⟨d, rfl, h⟩
    | exc x => cases h; exact .inr ⟨x, rfl, rfl⟩
theorem bndA_some {a : Ra} {k : List D → Re} {r : Ou} (h : bndA a k = some r) : (∃ d, a = some (.vals d) ∧ k d = some r) ∨ ∃ x, a = some (.exc x) ∧ r = .exc x := by
  cases a with
  | none => cases h
  | some o =>
    cases o with
    | vals d => exact .inl ⟨d, rfl, h⟩
    | exc x => cases h; exact .inr ⟨x, rfl, rfl⟩
theorem ret_some {o : Option D} {r : Ou} (h : ret o = some r) : ∃ z, o = some z ∧ r = .val z := by
  cases o with
  | none => cases h
  | some z => cases h; exact ⟨z, rfl, rfl⟩
def fVar (i : Nat) (Γ : En) : Re := match Γ[i]? with
  | some (.d z) => some (.val z)
  | _ => none
def fC (z : D) (_ : En) : Re := some (.val z)
def fOp (o : D → D → Option D) (fa fb : En → Re) (Γ : En) : Re := bnd (fa Γ) fun x => bnd (fb Γ) fun y => ret (o x y)
def fUn (o : D → Option D) (fa : En → Re) (Γ : En) : Re := bnd (fa Γ) fun x => ret (o x)
def OpS (r : R2) (o : D → D → Option D) : Prop := ∀ x y z, o x y = some z → ∀ G, OpD r G x y z
def UnS (r : V → Hp → VK → Prop) (o : D → Option D) : Prop := ∀ x z, o x = some z → ∀ G, UnD r G x z
def CaS (r : List V → Hp → VK → Prop) (o : List D → Option D) : Prop := ∀ ds z, o ds = some z → ∀ G, CaD r G ds z
variable {ta tb tc te : TE} {fa fb fc fe : En → Re} {tt tu : TT} {ft fu : En → Re} {tas : TA} {fas : En → Ra} {r r' : R2}
theorem u_var {i : Nat} : Se E ad (tVar i) (fVar i) := fun σ Γ G H R r e Q q => by
  unfold fVar at e
  cases h : Γ[i]? with
  | none => rw [h] at e; cases e
  | some c =>
    rw [h] at e
    cases c with
    | d z =>
      cases e
      obtain ⟨v, e1, q1⟩ := R.dq h
      exact ⟨v, e1, q v G H (.refl R.w) q1⟩
    | _ => cases e
theorem u_c {v : V} {z : D} (h : ∀ G, Dq G v z) : Se E ad (tC v) (fC z) := fun σ Γ G H R r e Q q => by
  cases e
  exact q v G H (.refl R.w) (h G)
theorem u_op {o : D → D → Option D} (ho : OpS r o) (ha : Se E ad ta fa) (hb : Se E ad tb fb) : Se E ad (tOp r ta tb) (fOp o fa fb) := fun σ Γ G H R r1 e Q q => by
  rcases bnd_some e with ⟨x, e1, e2⟩ | ⟨x, e1, rfl⟩
  · refine ha σ Γ G H R _ e1 _ fun v G2 H2 s2 q2 => ?_
    rcases bnd_some e2 with ⟨y, e3, e4⟩ | ⟨y, e3, rfl⟩
    · refine hb σ Γ G2 H2 (R.stp s2) _ e3 _ fun v3 G3 H3 s3 q3 => ?_
      obtain ⟨z, e5, rfl⟩ := ret_some e4
      exact ho x y z e5 G v v3 G3 H3 (s2.g.trans s3.g) s3.w (q2.mono s3.g) q3 Q ((q.stp s2).stp s3)
    · exact hb σ Γ G2 H2 (R.stp s2) _ e3 _ (q.stp s2)
  · exact ha σ Γ G H R _ e1 _ q
theorem u_un {r : V → Hp → VK → Prop} {o : D → Option D} (ho : UnS r o) (ha : Se E ad ta fa) : Se E ad (tUn r ta) (fUn o fa) := fun σ Γ G H R r1 e Q q => by
  rcases bnd_some e with ⟨x, e1, e2⟩ | ⟨x, e1, rfl⟩
  · refine ha σ Γ G H R _ e1 _ fun v G2 H2 s2 q2 => ?_
    obtain ⟨z, e5, rfl⟩ := ret_some e2
    exact ho x z e5 G v G2 H2 s2.g s2.w q2 Q (q.stp s2)
  · exact ha σ Γ G H R _ e1 _ q
def bo (r : Re) (k : Bool → Re) : Re := bnd r fun
  | .bool b => k b
  | _ => none
theorem bo_some {a : Re} {k : Bool → Re} {r : Ou} (h : bo a k = some r) : (∃ b, a = some (.val (.bool b)) ∧ k b = some r) ∨ ∃ x, a = some (.exc x) ∧ r = .exc x := by
  rcases bnd_some h with ⟨d, e, k⟩ | h
  · cases d with
    | bool b => exact .inl ⟨b, e, k⟩
    | _ => cases k
  · exact .inr h
def rB (b : Bool) : Re := some (.val (.bool b))
def fT (fe : En → Re) (Γ : En) : Re := bo (fe Γ) rB
def fAnd (fa fb : En → Re) (Γ : En) : Re := bo (fa Γ) fun b => if b = true then bo (fb Γ) rB else rB false
def fOr (fa fb : En → Re) (Γ : En) : Re := bo (fa Γ) fun b => if b = true then rB true else bo (fb Γ) rB
def fNot (fa : En → Re) (Γ : En) : Re := bo (fa Γ) fun b => rB (!b)
def fIf (ft fa fb : En → Re) (Γ : En) : Re := bo (ft Γ) fun b => if b = true then fa Γ else fb Γ
theorem rB_inj {b : Bool} {r : Ou} (h : rB b = some r) : r = .val (.bool b) := (Option.some.inj h).symm
theorem u_test (h : Se E ad te fe) : Sb E ad (tTest te) (fT fe) := fun σ Γ G H R r e Q q => by
  rcases bo_some e with ⟨b, e1, e2⟩ | ⟨x, e1, rfl⟩
  · rw [rB_inj e2] at q
    refine h σ Γ G H R _ e1 _ fun v G2 H2 s2 q2 => ?_
    cases q2
    exact ⟨b, rfl, q G2 H2 s2⟩
  · exact h σ Γ G H R _ e1 _ q
theorem u_tB (h : Se E ad te fe) : Sb E ad (tB te) (fT fe) := fun σ Γ G H R r e Q q => by
  rcases bo_some e with ⟨b, e1, e2⟩ | ⟨x, e1, rfl⟩
  · rw [rB_inj e2] at q
    refine h σ Γ G H R _ e1 _ fun v G2 H2 s2 q2 => ?_
    cases q2
    exact ⟨b, rfl, q G2 H2 s2⟩
  · exact h σ Γ G H R _ e1 _ q
theorem u_yes : Sb E ad tYes (fC (.bool true)) := fun σ Γ G H R r e Q q => by
  cases e
  exact q G H (.refl R.w)
theorem PoB.re {Q : Bool → Hp → Prop} {fe : Re} {r : Ou} (e : bo fe rB = some r) (q : PoB E ad G H Q r) : ∃ r', fe = some r' ∧ PoB E ad G H Q r' := by
  rcases bo_some e with ⟨b, e1, e2⟩ | ⟨x, e1, rfl⟩
  · rw [rB_inj e2] at q
    exact ⟨_, e1, q⟩
  · exact ⟨_, e1, q⟩
theorem u_tOr (ha : Sb E ad tt ft) (hb : Sb E ad tu fu) : Sb E ad (tOr tt tu) (fOr ft fu) := fun σ Γ G H R r e Q q => by
  rcases bo_some e with ⟨b, e1, e2⟩ | ⟨x, e1, rfl⟩
  · refine ha σ Γ G H R _ e1 _ fun G2 H2 s2 => ?_
    cases b with
    | true =>
      rw [if_pos rfl] at e2 ⊢
      rw [rB_inj e2] at q
      exact q G2 H2 s2
    | false =>
      rw [if_neg (by decide)] at e2 ⊢
      obtain ⟨r', e3, q3⟩ := PoB.re e2 q
      exact hb σ Γ G2 H2 (R.stp s2) _ e3 _ (q3.stp s2)
  · exact ha σ Γ G H R _ e1 _ q
theorem u_tNot (ha : Sb E ad tt ft) : Sb E ad (tNot tt) (fNot ft) := fun σ Γ G H R r e Q q => by
  rcases bo_some e with ⟨b, e1, e2⟩ | ⟨x, e1, rfl⟩
  · rw [rB_inj e2] at q
    exact ha σ Γ G H R _ e1 _ q
  · exact ha σ Γ G H R _ e1 _ q
theorem u_and (ha : Se E ad ta fa) (hb : Se E ad tb fb) : Se E ad (tAndV ta tb) (fAnd fa fb) := fun σ Γ G H R r e Q q => by
  rcases bo_some e with ⟨b, e1, e2⟩ | ⟨x, e1, rfl⟩
  · refine ha σ Γ G H R _ e1 _ fun v G2 H2 s2 q2 => ?_
    cases q2
    refine ⟨b, rfl, ?_⟩
    cases b with
    | true =>
      rw [if_pos rfl] at e2 ⊢
      rcases bo_some e2 with ⟨c, e3, e4⟩ | ⟨x, e3, rfl⟩
      · rw [rB_inj e4] at q
        exact hb σ Γ G2 H2 (R.stp s2) _ e3 _ (q.stp s2)
      · exact hb σ Γ G2 H2 (R.stp s2) _ e3 _ (q.stp s2)
    | false =>
      rw [if_neg (by decide)] at e2 ⊢
      rw [rB_inj e2] at q
      exact q _ G2 H2 s2 (.bl _)
  · exact ha σ Γ G H R _ e1 _ q
theorem u_not (ha : Se E ad ta fa) : Se E ad (tNotV ta) (fNot fa) := fun σ Γ G H R r e Q q => by
  rcases bo_some e with ⟨b, e1, e2⟩ | ⟨x, e1, rfl⟩
  · rw [rB_inj e2] at q
    refine ha σ Γ G H R _ e1 _ fun v G2 H2 s2 q2 => ?_
    cases q2
    exact ⟨b, rfl, q _ G2 H2 s2 (.bl _)⟩
  · exact ha σ Γ G H R _ e1 _ q
theorem u_if (ht : Sb E ad tt ft) (ha : Se E ad ta fa) (hb : Se E ad tb fb) : Se E ad (tIf tt ta tb) (fIf ft fa fb) := fun σ Γ G H R r e Q q => by
  rcases bo_some e with ⟨b, e1, e2⟩ | ⟨x, e1, rfl⟩
  · refine ht σ Γ G H R _ e1 _ fun G2 H2 s2 => ?_
    cases b with
    | true =>
      rw [if_pos rfl] at e2 ⊢
      exact ha σ Γ G2 H2 (R.stp s2) _ e2 _ (q.stp s2)
    | false =>
      rw [if_neg (by decide)] at e2 ⊢
      exact hb σ Γ G2 H2 (R.stp s2) _ e2 _ (q.stp s2)
  · exact ht σ Γ G H R _ e1 _ q
def fChain (o o' : D → D → Option D) (fa fb fc : En → Re) (Γ : En) : Re := bnd (fa Γ) fun x => bnd (fb Γ) fun y => bo (ret (o x y)) fun b => if b = true then bnd (fc Γ) fun z => bo (ret (o' y z)) rB else rB false
theorem u_chain {o o' : D → D → Option D} (ho : OpS r o) (ho' : OpS r' o') (ha : Se E ad ta fa) (hb : Se E ad tb fb) (hc : Se E ad tc fc) : Se E ad (tChain r r' ta tb tc) (fChain o o' fa fb fc) := fun σ Γ G H R r1 e Q q => by
  rcases bnd_some e with ⟨x, e1, e2⟩ | ⟨x, e1, rfl⟩
  · refine ha σ Γ G H R _ e1 _ fun v G2 H2 s2 q2 => ?_
    rcases bnd_some e2 with ⟨y, e3, e4⟩ | ⟨y, e3, rfl⟩
    · refine hb σ Γ G2 H2 (R.stp s2) _ e3 _ fun v3 G3 H3 s3 q3 => ?_
      rcases bo_some e4 with ⟨b, e5, e6⟩ | ⟨_, e5, _⟩
      · obtain ⟨_, e7, e8⟩ := ret_some e5
        cases e8
        refine ho x y _ e7 G v v3 G3 H3 (s2.g.trans s3.g) s3.w (q2.mono s3.g) q3 _ fun v4 G4 H4 s4 q4 => ?_
        cases q4
        refine ⟨b, rfl, ?_⟩
        have s24 := (s2.trans s3).trans s4
        cases b with
        | true =>
          rw [if_pos rfl] at e6 ⊢
          rcases bnd_some e6 with ⟨z, e9, e10⟩ | ⟨z, e9, rfl⟩
          · refine hc σ Γ G4 H4 (R.stp s24) _ e9 _ fun v5 G5 H5 s5 q5 => ?_
            rcases bo_some e10 with ⟨c, e11, e12⟩ | ⟨_, e11, _⟩
            · obtain ⟨_, e13, e14⟩ := ret_some e11
              cases e14
              rw [rB_inj e12] at q
              exact ho' y z _ e13 G v3 v5 G5 H5 (s24.trans s5).g s5.w (q3.mono (s4.trans s5).g) q5 Q ((q.stp s24).stp s5)
            · obtain ⟨_, _, e14⟩ := ret_some e11
              cases e14
          · exact hc σ Γ G4 H4 (R.stp s24) _ e9 _ (q.stp s24)
        | false =>
          rw [if_neg (by decide)] at e6 ⊢
          rw [rB_inj e6] at q
          exact q _ G4 H4 s24 (.bl _)
      · obtain ⟨_, _, e8⟩ := ret_some e5
        cases e8
    · exact hb σ Γ G2 H2 (R.stp s2) _ e3 _ (q.stp s2)
  · exact ha σ Γ G H R _ e1 _ q
def fNil (_ : En) : Ra := some (.vals [])
def fCons (fa : En → Re) (fr : En → Ra) (Γ : En) : Ra := match fa Γ with
  | some (.val d) => match fr Γ with
    | some (.vals ds) => some (.vals (d :: ds))
    | some (.exc x) => some (.exc x)
    | none => none
  | some (.exc x) => some (.exc x)
  | none => none
theorem u_nil : Sa E ad tNil fNil := fun σ Γ G H R r e Q q => by
  cases e
  exact q [] G H (.refl R.w) .nil
theorem u_cons {tr : TA} {fr : En → Ra} (ha : Se E ad ta fa) (hr : Sa E ad tr fr) : Sa E ad (tCons ta tr) (fCons fa fr) := fun σ Γ G H R r e Q q => by
  unfold fCons at e
  cases h : fa Γ with
  | none => rw [h] at e; cases e
  | some o =>
    rw [h] at e
    cases o with
    | exc x =>
      cases e
      exact ha σ Γ G H R _ h _ q
    | val d =>
      refine ha σ Γ G H R _ h _ fun v G2 H2 s2 q2 => ?_
      cases h2 : fr Γ with
      | none => rw [h2] at e; cases e
      | some o =>
        rw [h2] at e
        cases o with
        | exc x =>
          cases e
          exact hr σ Γ G2 H2 (R.stp s2) _ h2 _ (q.stp s2)
        | vals ds =>
          cases e
          exact hr σ Γ G2 H2 (R.stp s2) _ h2 _ fun vs G3 H3 s3 q3 => q (v :: vs) G3 H3 (s2.trans s3) (.cons (q2.mono s3.g) q3)
def small (n : Nat) : Bool := Nat.ble n 1000000
theorem small_le {n : Nat} (h : small n = true) : n ≤ 1000000 := Nat.le_of_ble_eq_true h
theorem small_line {n : Nat} (h : small n = true) : n ≤ sizeLine := by rw [sizeLine_eq]; have := small_le h; omega
def lim (ds : List D) (z : D) : Re := if small ds.length = true then some (.val z) else none
theorem lim_some {ds : List D} {z : D} {r : Ou} (h : lim ds z = some r) : small ds.length = true ∧ r = .val z := by
  unfold lim at h
  by_cases q : small ds.length = true
  · rw [if_pos q] at h; cases h; exact ⟨q, rfl⟩
  · rw [if_neg q] at h; cases h
def fTup (fas : En → Ra) (Γ : En) : Re := bndA (fas Γ) fun ds => lim ds (.tuple ds)
def fLst (fas : En → Ra) (Γ : En) : Re := bndA (fas Γ) fun ds => lim ds (.list ds)
theorem u_tup (h : Sa E ad tas fas) : Se E ad (tTup tas) (fTup fas) := fun σ Γ G H R r e Q q => by
  rcases bndA_some e with ⟨ds, e1, e2⟩ | ⟨x, e1, rfl⟩
  · obtain ⟨l, rfl⟩ := lim_some e2
    refine h σ Γ G H R _ e1 _ fun vs G2 H2 s2 q2 => ⟨by rw [q2.len]; exact small_line l, fun p o hp od => ?_⟩
    have s3 := Stp.new (o := tupO o vs) s2.w hp
    exact q _ _ _ (s2.trans s3) (.tup (.new od) (q2.mono s3.g))
  · exact h σ Γ G H R _ e1 _ q
theorem m_lst (h : Sa E ad tas fas) : Sm E ad (tLst tas) (fLst fas) := fun σ Γ G H R r e Q q => by
  rcases bndA_some e with ⟨ds, e1, e2⟩ | ⟨x, e1, rfl⟩
  · obtain ⟨l, rfl⟩ := lim_some e2
    refine h σ Γ G H R _ e1 _ fun vs G2 H2 s2 q2 => ⟨by rw [q2.len]; exact small_line l, fun p hp => ?_⟩
    exact q p G2 _ (s2.trans (Stp.old s2.w (.new hp))) (h_old s2 hp) ⟨fresh_back s2.w hp, vs, upd_same, q2⟩
  · exact h σ Γ G H R _ e1 _ q
theorem Sm.se (h : Sm E ad te fe) (hl : ∀ Γ d, fe Γ = some (.val d) → ∃ ds, d = .list ds) : Se E ad te fe := fun σ Γ G H R r e Q q => by
  cases r with
  | exc x => exact h σ Γ G H R _ e Q q
  | val d =>
    obtain ⟨ds, rfl⟩ := hl Γ d e
    refine h σ Γ G H R _ e Q fun p G2 H2 s2 hp m => ?_
    obtain ⟨us, s3, x3, k, _⟩ := m.know s2 hp
    exact q _ _ _ s3 k
theorem lst_lst (Γ : En) (d : D) (h : fLst fas Γ = some (.val d)) : ∃ ds, d = .list ds := by
  rcases bndA_some h with ⟨ds, e1, e2⟩ | ⟨x, e1, e⟩
  · obtain ⟨_, e⟩ := lim_some e2
    cases e
    exact ⟨ds, rfl⟩
  · cases e
theorem u_lst (h : Sa E ad tas fas) : Se E ad (tLst tas) (fLst fas) := (m_lst h).se lst_lst
def fCb (o : List D → Option D) (fas : En → Ra) (Γ : En) : Re := bndA (fas Γ) fun ds => ret (o ds)
theorem u_cb {rc : List V → Hp → VK → Prop} {o : List D → Option D} (ho : CaS rc o) (h : Sa E ad tas fas) : Se E ad (tCB rc tas) (fCb o fas) := fun σ Γ G H R r e Q q => by
  rcases bndA_some e with ⟨ds, e1, e2⟩ | ⟨x, e1, rfl⟩
  · obtain ⟨z, e3, rfl⟩ := ret_some e2
    exact h σ Γ G H R _ e1 _ fun vs G2 H2 s2 q2 => ho ds z e3 G vs G2 H2 s2.g s2.w q2 Q (q.stp s2)
  · exact h σ Γ G H R _ e1 _ q
def SpF (ad : Str → Addr) (g : List D → Re) : Sp := fun vs H Q E => ∃ G ds r, Ex G H ∧ DqA G vs ds ∧ g ds = some r ∧ PoE E ad G H Q r
def fCall (g : List D → Re) (fas : En → Ra) (Γ : En) : Re := bndA (fas Γ) g
theorem u_call {g : List D → Re} (h : Sa E ad tas fas) : Se E ad (tCall (SpF ad g) [] E tas) (fCall g fas) := fun σ Γ G H R r e Q q => by
  rcases bndA_some e with ⟨ds, e1, e2⟩ | ⟨x, e1, rfl⟩
  · refine h σ Γ G H R _ e1 _ fun vs G2 H2 s2 q2 => ?_
    rw [List.append_nil]
    exact ⟨G2, ds, r, s2.w, q2, e2, q.stp s2⟩
  · exact h σ Γ G H R _ e1 _ q
end
end Mv
namespace Mv
open PySem PySem.Spec PyProof.Rows L2 Evl
theorem meets_enum1 {v : Value} {o : Obj} {Hp0 : Heap → Prop} (B : Begins v o Hp0) : Meets (Builtin.«enumerate.__new__» ⟨[.type "enumerate", v], []⟩)
    (fun _ R s => Hp0 s.heap ∧ R (.ok (.ret (.ref (s.heap.push o).objs.size))) { s with heap := (s.heap.push o).push { cls := .type "enumerate", data := .fields #[.none, .bool false, .ref s.heap.objs.size, rawInt 0, .none, .none] } }) :=
  .of_wp fun prog w A R s ⟨first, rest⟩ => by
    obtain ⟨hp, gens, drawn, tok, osw⟩ := s
    have isSub := sub_enumerate
    have walk1 : ∀ {A' : Around} {E : Value → Shared → Prop} {Q : Value → Shared → Prop}, Q (.ref hp.objs.size) ⟨hp.push o, gens, drawn, tok, osw⟩ → wpAny (model prog w) A' (pyIter v) Q E ⟨hp, gens, drawn, tok, osw⟩ := fun q => B.iter prog w _ _ ⟨hp, gens, drawn, tok, osw⟩ _ first q
    wp_walk using walk1
    refine wpAny_stack_any fun under => wpAny_pure ?_
    split
    · rename_i c _ _ _ _ _
      cases (c == Value.type "enumerate") <;> (wp_walk using walk1; exact ⟨_, rfl, rest⟩)
    · wp_walk using walk1
      exact ⟨_, rfl, rest⟩
theorem enum_begins1 {prog : Program} {w : World} {A : Around} {E : Value → Shared → Prop} {s : Shared} {v : Value} {o : Obj} {Hp0 : Heap → Prop} {Q : Value → Shared → Prop} (B : Begins v o Hp0) (h1 : Hp0 s.heap)
    (h : ∀ g, IsEnum g (s.heap.objs.size + 1) s.heap.objs.size 0 .none → g.get? s.heap.objs.size = some o → (∀ b u, s.heap.get? b = some u → g.get? b = some u) → Q (.ref (s.heap.objs.size + 1)) { s with heap := g }) :
    wpAny (model prog w) A (call (.type "enumerate") [v]) Q E s := by
  refine callType_new F.called_enumerate (by decide) (F.typeCall_enumerate_1 _) (F.newCall_enumerate_1 _) (fun obj => F.args_object_init_2 obj _) F.entry_enumerate_new (meets_enum1 B) ⟨h1, ?_⟩
  have grow : (s.heap.push o).objs.size = s.heap.objs.size + 1 := Heap.size_push ..
  have made_ : IsEnum ((s.heap.push o).push { cls := .type "enumerate", data := .fields #[.none, .bool false, .ref s.heap.objs.size, rawInt 0, .none, .none] }) (s.heap.objs.size + 1) s.heap.objs.size 0 .none := by
    have z := Heap.get?_push_size (s.heap.push o) (o := { cls := .type "enumerate", data := .fields #[.none, .bool false, .ref s.heap.objs.size, rawInt 0, .none, .none] }) rfl
    rw [grow] at z
    exact z
  show _ ∧ _
  rw [grow]
  exact ⟨⟨_, made_, rfl⟩, h _ made_ (Heap.get?_push_of_some _ (Heap.get?_push_size _ B.free)) fun b u x => Heap.get?_push_of_some _ (Heap.get?_push_of_some _ x)⟩
def ItE (K : PySem.W.Frag) (k : Bool) (a : Addr) : It :=
  ⟨fun i H => ∃ (xs : List V) (x : V), SqK K k H a xs ∧ xs[i]? = some x,
    fun i H v H' => ∃ T x o, v = .ref T ∧ H T = none ∧ o.dict = none ∧ H' = upd H T (tupO o [.int (i : Nat), x]) ∧ ∀ xs, SqK K k H a xs → xs[i]? = some x,
    fun i H => ∃ xs : List V, SqK K k H a xs ∧ i = xs.length⟩
theorem turn_enumk {P : Program} {w : World} {K : PySem.W.Frag} {elts : List Expr} {kk : Nat} {tpos : Pos} {k : Bool} {a e it : Addr} (ne1 : a ≠ it) (ne2 : e ≠ it) (ne3 : e ≠ a) :
    Turn P w K (.Tuple elts kk tpos) (ItE K k a) [e, it] e (fun i h => (∃ old, IsEnum h e it ((i : Nat) : Int) old) ∧ ItrK k h it a i) where
  mem := by simp
  obj := fun i h st b hb => by
    obtain ⟨⟨old, atE⟩, atIt⟩ := st
    rcases (by simpa using hb : b = e ∨ b = it) with z | z
    · rw [z]; exact ⟨_, atE, fun v q => nomatch q⟩
    · rw [z]; exact atIt.ob
  keep := fun i h h' ⟨⟨old, atE⟩, atIt⟩ k => ⟨⟨old, k e (by simp) _ atE⟩, atIt.at fun o q => k it (by simp) o q⟩
  item := by
    intro X e1 e2 e3 hc i pq s σ H E I hf stz hg
    subst e1 e2 e3
    obtain ⟨⟨old, atE⟩, atIt⟩ := stz
    obtain ⟨xs, x, sx, hx⟩ := hg
    obtain ⟨its, rv, p, _⟩ := seqK I sx
    obtain ⟨u, hu, ru⟩ := (rv.get hx)
    have quiet : X.A.in1.handled = none := I.ok.hd hc
    have ltE : e < s.heap.objs.size := Heap.lt_size atE
    have ltI : it < s.heap.objs.size := by obtain ⟨_, q, _⟩ := atIt.ob; exact Heap.lt_size q
    refine wpAny_pyNext_enum_itemD (drawsK k quiet it a ne1 its.toArray) atE ⟨atIt, p⟩ (by have := (List.getElem?_eq_some_iff.mp hu).1; simpa using this) ne2 (by simp [ne2, ne3]) fun y g tk hy out st1 hT sz keep => ?_
    have ey : y = u := by
      have z : its[i]? = some y := by simpa using hy
      rw [hu] at z
      exact (Option.some.inj z).symm
    subst ey
    refine ⟨_, rfl, wpAny_letOwnedTupleGo_enum (s := { s with heap := g, toks := tk + 1 }) out fun g2 atE2 sb => ?_⟩
    have hT2 : g2.get? s.heap.objs.size = some { cls := .type "tuple", data := .seq #[.int i tk, y] } := (sb.2 _ (Nat.ne_of_gt ltE)).trans hT
    have pair : ObjOk X.prog X.w (upd H s.heap.objs.size (tupO { cls := .type "tuple", data := .seq #[.int i tk, y] } [.int (i : Nat), x])) g2 s.heap.objs.size (tupO { cls := .type "tuple", data := .seq #[.int i tk, y] } [.int (i : Nat), x]) := okO (by show 2 ≤ sizeLine; decide) (.cons ⟨_, rfl⟩ (.cons ru .nil)) (its := [.int i tk, y]) ⟨_, hT2, rfl, _, rfl⟩ hT2
    have J : Inv X pq σ (upd H s.heap.objs.size (tupO { cls := .type "tuple", data := .seq #[.int i tk, y] } [.int (i : Nat), x])) { s with heap := g2, toks := tk + 1 } :=
      I.turnedNew (t' := tk + 1) (ch := [e, it]) (fun b ob hb q => (sb.2 b (fun z => hb (by simp [z]))).trans (keep b ob (fun z => hb (by simp [z])) (fun z => hb (by simp [z])) q)) hf (Nat.le_refl _) pair
    refine ⟨.ref s.heap.objs.size, _, J, rfl, ⟨_, x, _, rfl, I.hok.fresh (Nat.le_refl _), rfl, rfl, fun ys hy => by rw [seqK_inj I hy sx]; exact hx⟩, ⟨⟨y, ?_⟩, st1.1.at fun o q => (sb.2 it (Ne.symm ne2)).trans q⟩, fun b hb => ?_⟩
    · have z : ((i + 1 : Nat) : Int) = (i : Int) + 1 := by omega
      rw [z]
      exact atE2
    · have lt : b < s.heap.objs.size := by
        rcases (by simpa using hb : b = e ∨ b = it) with z | z
        · rw [z]; exact ltE
        · rw [z]; exact ltI
      rw [upd_ne (Nat.ne_of_lt lt)]
      exact (hf b hb).1
  done := by
    intro X e1 e2 e3 hc i pq s σ H E I hf stz hg
    subst e1 e2 e3
    obtain ⟨⟨old, atE⟩, atIt⟩ := stz
    obtain ⟨xs, sx, rfl⟩ := hg
    obtain ⟨its, rv, p, _⟩ := seqK I sx
    have quiet : X.A.in1.handled = none := I.ok.hd hc
    obtain ⟨f0, f1, f2, f3, f4, f5⟩ := (hf it (by simp))
    have size_ : its.toArray.size = xs.length := by rw [List.size_toArray]; exact rv.length.symm
    exact wpAny_pyNext_enum_endD (drawsK k quiet it a ne1 its.toArray) atE (by rw [size_]; exact ⟨atIt, p⟩) fun g eb => ⟨rfl, I.turned (t' := s.toks) (fun b o hb q => eb b o hb q) f0 f1 f3 f4 f5⟩
  self := fun A i s Q E st h => let ⟨⟨_, atE⟩, _⟩ := st; wpAny_pyIter_enum atE h
def iEnumK (K : PySem.W.Frag) (k : Bool) (ta : TA) : TI := fun σ H Rq => ta σ H fun vs H1 => ∃ a xs, vs = [.ref a] ∧ SqK K k H1 a xs ∧ Rq (ItE K k a) H1
theorem pi_enumk (k : Bool) {X : Cx} {e : Expr} {ta : TA} {p pos tpos : Pos} {elts : List Expr} {kk : Nat} (hg : Gl X "enumerate") (hm : X.mg "enumerate" = none) (ha : PA X [e] ta) (one : starEach [e] X.env = [(false, eval e X.env)] := by rfl) :
    PI X (.Tuple elts kk tpos) (.Call (.Name "enumerate" p) [e] [] pos) (iEnumK X.K k ta) := by
  refine ⟨fun pq s σ H Rq I h => Call_ (ld_blt I hg hm boot_enumerate (PyProof.Rows.callWith_type1 (thn (ha.run pos pq s σ H _ I h) fun us sA ⟨vs, H1, IA, r1, a, xs, ex, sx, q⟩ => ?_) one rfl))⟩
  subst ex
  cases r1 with
  | cons r rr =>
    cases rr
    cases r
    obtain ⟨its, rv, p', _⟩ := seqK IA sx
    have la := p'.lt
    refine enum_begins1 (beginsK k a its.toArray) p' fun g made_ new_ keep => wpAny_pyIter_enum made_ ?_
    have IB : Inv X pq σ H1 { sA with heap := g } := IA.kept (t' := sA.toks) keep
    refine ⟨sA.heap.objs.size + 1, [sA.heap.objs.size + 1, sA.heap.objs.size], _, _, H1, rfl, IB, turn_enumk (Nat.ne_of_lt la) (Nat.succ_ne_self _) (Nat.ne_of_gt (Nat.lt_succ_of_lt la)), ⟨⟨.none, made_⟩, itrK_new new_⟩, fun b hb => ?_, q⟩
    have above : sA.heap.objs.size ≤ b := by
      rcases (by simpa using hb : b = sA.heap.objs.size + 1 ∨ b = sA.heap.objs.size) with z | z
      · rw [z]; exact (Nat.le_add_right _ _)
      · rw [z]; exact Nat.le_refl _
    exact IA.fpOk above (IA.hok.fresh above)
section
variable {K : PySem.W.Frag} {σ : L2.St} {G G' H H' : Hp} {ta tb te tx : TE} {t u : TT} {d e z : D} {ds es : List D} {D' : Ends} {tu tz : TS}
end
end Mv
namespace Mv
open PySem PySem.Spec PyProof.Rows L2 Evl
section
variable {prog : Program} {w : World} {A : Around} {E : Value → Shared → Prop} {s : Shared} {z TI TO i1 i2 T : Addr} {fp1 fp2 : List Addr} {n1 n2 i : Nat} {P1 P2 : Nat → Value → Prop} {St1 St2 : Nat → Heap → Prop} {f : Bool} {oT : Obj}
theorem zipH_item {Q : Value → Shared → Prop} (S : ZipSep2 z TI TO i1 i2 fp1 fp2) (D1 : Draws prog w A i1 fp1 n1 P1 St1) (D2 : Draws prog w A i2 fp2 n2 P2 St2)
    (hz : IsZipHeld s.heap z TI TO T f) (hT : s.heap.get? T = some oT) (hTI : IsTupOf2 s.heap TI (.ref i1) (.ref i2)) (st1 : St1 i s.heap) (st2 : St2 i s.heap) (hlt1 : i < n1) (hlt2 : i < n2)
    (hQ : ∀ x1 x2 h' tk, P1 i x1 → P2 i x2 → IsZipHeld h' z TI TO T true → St1 (i + 1) h' → St2 (i + 1) h' → IsTupOf2 h' s.heap.objs.size x1 x2 → h'.objs.size = s.heap.objs.size + 1 →
      (∀ c o, c ≠ z → c ≠ i1 → c ≠ i2 → s.heap.get? c = some o → h'.get? c = some o) → Q (.ref s.heap.objs.size) { s with heap := h', toks := tk }) :
    wpAny (model prog w) A (Builtin.«zip.__next__» ⟨[.ref z], []⟩) (fun fin s' => ∃ v, fin = .done (.ret v) ∧ Q v s') E s := by
  obtain ⟨hp, g, d, tk0, os⟩ := (s)
  show (wpAny _ _ (field (.ref z) 2 >>= _) _ _ _)
  refine (wpAny_bind (wpAny_field hz rfl (x := .bool false) rfl ?_))
  show (wpAny _ _ (field (.ref z) 3 >>= _) _ _ _)
  refine (wpAny_bind (wpAny_field hz rfl (x := .ref TI) rfl ?_))
  refine (wpAny_bind (wpAny_seqItems hTI rfl ?_))
  show (wpAny _ _ (Builtin.SmallTypes.ownedTupleIsFree (.ref z) >>= _) _ _ _)
  refine wpAny_bind (wpAny_tupleHeld_zip hz hT fun g0 hz0 hs0 => ?_)
  have hs0 : Heap.SameBut z hp g0 := hs0
  (simp only [Bool.false_eq_true, if_false])
  refine wpAny_bind ?_
  rw [← Array.forIn_toList]
  (simp only [List.forIn_cons, List.forIn_nil])
  refine (wpAny_bind (wpAny_bind (wpAny_holding ?_)))
  show (wpAny _ _ (Builtin.SmallTypes.nextOf (.ref i1) >>= _) _ _ ⟨g0, g, d, tk0, os⟩)
  refine (wpAny_bind (D1.item i _ _ _ hlt1 (D1.over st1 hs0 S.zf1) fun x1 p1 tk1 hx1 sn1 hp1 => wpAny_pure ?_))
  have hp1 : Heap.SameBut i1 g0 p1 := hp1
  refine wpAny_pure ?_
  refine (wpAny_bind (wpAny_bind (wpAny_holding ?_)))
  show wpAny _ _ (Builtin.SmallTypes.nextOf (.ref i2) >>= _) _ _ ⟨p1, g, d, tk1, os⟩
  refine wpAny_bind (D2.item i _ _ _ hlt2 (D2.over (D2.over st2 hs0 S.zf2) hp1 S.sep1_2) fun x2 p2 tk2 hx2 sn2 hp2 => wpAny_pure ?_)
  replace hp2 : Heap.SameBut i2 p1 p2 := hp2
  refine (wpAny_pure (wpAny_pure ?_))
  show wpAny _ _ (newTuple [x1, x2] >>= _) _ _ ⟨p2, g, d, tk2, os⟩
  refine (wpAny_bind (wpAny_newTuple ?_))
  have hsz : p2.objs.size = hp.objs.size := by rw [hp2.1, hp1.1, hs0.1]
  have hz3 : IsZipHeld p2 z TI TO T true := hp2.extBut _ _ S.zi2 (hp1.extBut _ _ S.zi1 hz0)
  have hk : ∀ c o, c ≠ z → c ≠ i1 → c ≠ i2 → hp.get? c = some o → p2.get? c = some o := fun c o c1 c2 c3 e => hp2.extBut _ _ c3 (hp1.extBut _ _ c2 (hs0.extBut _ _ c1 e))
  refine (wpAny_pure ⟨_, rfl, ?_⟩)
  show Q (.ref p2.objs.size) _
  have ht : IsTupOf2 (p2.push { cls := .type "tuple", data := .seq #[x1, x2] }) p2.objs.size x1 x2 := Heap.get?_push_size _ rfl
  have hz4 : (p2.push { cls := .type "tuple", data := .seq #[x1, x2] }).objs.size = p2.objs.size + 1 := Heap.size_push ..
  rw [hsz] at ht hz4 ⊢
  have up : ∀ {b : Addr} {u : Obj}, p2.get? b = some u → (p2.push { cls := .type "tuple", data := .seq #[x1, x2] }).get? b = some u := fun e => Heap.get?_push_of_some _ e
  exact hQ x1 x2 _ tk2 hx1 hx2 (up hz3) (D1.frame _ _ _ (D1.over sn1 hp2 S.sep2_1) fun _ _ _ e => up e) (D2.frame _ _ _ sn2 fun _ _ _ e => up e) ht hz4 fun c o c1 c2 c3 e => up (hk c o c1 c2 c3 e)
theorem zipH_end {Q : Fin → Shared → Prop} (S : ZipSep2 z TI TO i1 i2 fp1 fp2) (D1 : Draws prog w A i1 fp1 n1 P1 St1) (D2 : Draws prog w A i2 fp2 n2 P2 St2)
    (hz : IsZipHeld s.heap z TI TO T f) (hT : s.heap.get? T = some oT) (hTI : IsTupOf2 s.heap TI (.ref i1) (.ref i2)) (st1 : St1 n1 s.heap)
    (hE : ∀ h' e, (∀ c o, c ≠ z → c ≠ i1 → c ≠ i2 → s.heap.get? c = some o → h'.get? c = some o) → (∃ o, h'.get? e = some o ∧ o.cls = .type "StopIteration") → E (.ref e) { s with heap := h' }) :
    wpAny (model prog w) A (Builtin.«zip.__next__» ⟨[.ref z], []⟩) Q E s := by
  obtain ⟨hp, g, d, tk0, os⟩ := (s)
  show (wpAny _ _ (field (.ref z) 2 >>= _) _ _ _)
  refine (wpAny_bind (wpAny_field hz rfl (x := .bool false) rfl ?_))
  show (wpAny _ _ (field (.ref z) 3 >>= _) _ _ _)
  refine (wpAny_bind (wpAny_field hz rfl (x := .ref TI) rfl ?_))
  refine (wpAny_bind (wpAny_seqItems hTI rfl ?_))
  show (wpAny _ _ (Builtin.SmallTypes.ownedTupleIsFree (.ref z) >>= _) _ _ _)
  refine wpAny_bind (wpAny_tupleHeld_zip hz hT fun g0 hz0 hs0 => ?_)
  have hs0 : Heap.SameBut z hp g0 := hs0
  (simp only [Bool.false_eq_true, if_false])
  refine wpAny_bind ?_
  rw [← Array.forIn_toList]
  (simp only [List.forIn_cons, List.forIn_nil])
  refine (wpAny_bind (wpAny_bind (wpAny_holding ?_)))
  show (wpAny _ _ (Builtin.SmallTypes.nextOf (.ref i1) >>= _) _ _ ⟨g0, g, d, tk0, os⟩)
  refine wpAny_bind (D1.done ⟨g0, g, d, tk0, os⟩ _ _ (D1.over st1 hs0 S.zf1) fun q e hq he => ?_)
  have hq : Heap.ExtBut i1 g0 q := hq
  exact hE q e (fun c o c1 c2 _ x => hq _ _ c2 (hs0.extBut _ _ c1 x)) he
end
section
variable {prog : Program} {w : World} {A : Around} {E : Value → Shared → Prop} {s : Shared} {z TI TO i1 i2 T : Addr} {fp1 fp2 : List Addr} {n1 n2 i : Nat} {P1 P2 : Nat → Value → Prop} {St1 St2 : Nat → Heap → Prop} {f : Bool} {oT : Obj}
theorem nextH_item {Q : Option Value → Shared → Prop} (S : ZipSep2 z TI TO i1 i2 fp1 fp2) (D1 : Draws prog w A.in1 i1 fp1 n1 P1 St1) (D2 : Draws prog w A.in1 i2 fp2 n2 P2 St2)
    (hz : IsZipHeld s.heap z TI TO T f) (hT : s.heap.get? T = some oT) (hTI : IsTupOf2 s.heap TI (.ref i1) (.ref i2)) (st1 : St1 i s.heap) (st2 : St2 i s.heap) (hlt1 : i < n1) (hlt2 : i < n2)
    (hQ : ∀ x1 x2 h' tk, P1 i x1 → P2 i x2 → IsZipHeld h' z TI TO T true → St1 (i + 1) h' → St2 (i + 1) h' → IsTupOf2 h' s.heap.objs.size x1 x2 → h'.objs.size = s.heap.objs.size + 1 →
      (∀ c o, c ≠ z → c ≠ i1 → c ≠ i2 → s.heap.get? c = some o → h'.get? c = some o) → Q (some (.ref s.heap.objs.size)) { s with heap := h', toks := tk }) :
    wpAny (model prog w) A (pyNext (.ref z)) Q E s := by
  have ty : s.TypeIs (.ref z) "zip" := ⟨_, hz, rfl⟩
  unfold pyNext
  exact wpAny_bind (wpAny_attempt (wpAny_callSpecial?_slot (name := Str.ofString "__next__") ty F.slot_zip_next (wpAny_call_entry F.slot_zip_next ty F.entry_zip_next (zipH_item S D1 D2 hz hT hTI st1 st2 hlt1 hlt2 fun x1 x2 h' tk a1 a2 a3 a4 a5 a6 a7 a8 => wpAny_pure (hQ x1 x2 h' tk a1 a2 a3 a4 a5 a6 a7 a8)) (F.args_zip_next_1 _))))
theorem nextH_end {Q : Option Value → Shared → Prop} (S : ZipSep2 z TI TO i1 i2 fp1 fp2) (D1 : Draws prog w A.in1 i1 fp1 n1 P1 St1) (D2 : Draws prog w A.in1 i2 fp2 n2 P2 St2)
    (hz : IsZipHeld s.heap z TI TO T f) (hT : s.heap.get? T = some oT) (hTI : IsTupOf2 s.heap TI (.ref i1) (.ref i2)) (st1 : St1 n1 s.heap)
    (hQ : ∀ h', (∀ c o, c ≠ z → c ≠ i1 → c ≠ i2 → s.heap.get? c = some o → h'.get? c = some o) → Q none { s with heap := h' }) : wpAny (model prog w) A (pyNext (.ref z)) Q E s := by
  have ty : s.TypeIs (.ref z) "zip" := ⟨_, hz, rfl⟩
  unfold pyNext
  refine wpAny_bind (wpAny_attempt (wpAny_callSpecial?_slot (name := Str.ofString "__next__") ty F.slot_zip_next (wpAny_call_entry F.slot_zip_next ty F.entry_zip_next (zipH_end S D1 D2 hz hT hTI st1 fun h' e hk he => ?_) (F.args_zip_next_1 _))))
  obtain ⟨o, ho, hc⟩ := he
  refine (wpAny_bind (wpAny_isInstance (T := "StopIteration") (b := true) ⟨o, ho, hc⟩ isSubtype_stop ?_))
  exact wpAny_pure (hQ _ hk)
end
def ZS (k1 k2 : Bool) (z TI TO i1 i2 a b : Addr) (i : Nat) (H : Hp) (h : Heap) : Prop :=
  IsTupOf2 h TI (.ref i1) (.ref i2) ∧ ItrK k1 h i1 a i ∧ ItrK k2 h i2 b i ∧ (∃ o, h.get? TO = some o) ∧ ((IsZip h z TI TO .none ∧ ∃ x y, IsTupOf2 h TO x y) ∨ ∃ T f u v, IsZipHeld h z TI TO T f ∧ Rd H T (.tup [u, v]))
section
variable {X : Cx} {pins : List (Addr × Obj)} {σ : L2.St} {H : Hp} {s : Shared} {A : Around} {E : Value → Shared → Prop} {z TI TO i1 i2 a b : Addr} {k1 k2 : Bool} {xs ys : List V} {i : Nat}
theorem ZS.keep {h h' : Heap} (st : ZS k1 k2 z TI TO i1 i2 a b i H h) (k : ∀ c ∈ [z, TI, TO, i1, i2], ∀ o, h.get? c = some o → h'.get? c = some o) : ZS k1 k2 z TI TO i1 i2 a b i H h' := by
  obtain ⟨t, h1, h2, ⟨oO, eO⟩, q⟩ := st
  refine ⟨k TI (by simp) _ t, h1.at fun o q => k i1 (by simp) o q, h2.at fun o q => k i2 (by simp) o q, ⟨oO, k TO (by simp) _ eO⟩, ?_⟩
  rcases q with ⟨hz, x, y, hTO⟩ | ⟨T, f, u, v, hz, hT⟩
  · exact .inl ⟨k z (by simp) _ hz, x, y, k TO (by simp) _ hTO⟩
  · exact .inr ⟨T, f, u, v, k z (by simp) _ hz, hT⟩
end
end Mv
namespace Mv
open PySem PySem.Spec PyProof.Rows L2 Evl
theorem SqK.old {K : PySem.W.Frag} {k : Bool} {H H' : Hp} {a : Addr} {xs : List V} (h : SqK K k H a xs) (e : Ex H H') : SqK K k H' a xs := by
  cases k with
  | true => exact (show SqL K H a xs from h).elim (fun h => .inl (h.elim (fun h => .inl (e _ _ h)) fun ⟨o, h⟩ => .inr ⟨o, e _ _ h⟩)) fun h => .inr h
  | false => exact (show SqT K H a xs from h).elim (fun h => .inl (h.elim (fun h => .inl (e _ _ h)) fun ⟨o, h⟩ => .inr ⟨o, e _ _ h⟩)) fun h => .inr h
section
variable {X : Cx} {pins : List (Addr × Obj)} {σ : L2.St} {A : Around} {z TI TO i1 i2 a b : Addr} {k1 k2 : Bool} {xs ys : List V}
end
end Mv
namespace Mv
open PySem PySem.Spec PyProof.Rows L2 Evl
section
variable {X : Cx} {pins : List (Addr × Obj)} {σ : L2.St} {A : Around} {E : Value → Shared → Prop} {H : Hp} {s : Shared} {z TI TO i1 i2 a b : Addr} {k1 k2 : Bool} {xs ys : List V}
end
end Mv
namespace Mv
open PySem PySem.Spec PyProof.Rows L2 Evl
section
variable {K : PySem.W.Frag} {σ : L2.St} {G : Hp} {ta : TA} {k1 k2 : Bool} {as bs : List D}
end
end Mv
namespace Mv
open PySem L2 Evl
def noT (G : Hp) : Hp := fun b => match G b with
  | some (.tbl _) => none
  | x => x
theorem noT_at {G : Hp} {b : Addr} {o : HO} (h : G b = some o) (n : ∀ ps, o ≠ .tbl ps) : noT G b = some o := by
  unfold noT
  rw [h]
  cases o with
  | tbl ps => exact (n ps rfl).elim
  | _ => rfl
theorem of_noT {G : Hp} {b : Addr} {o : HO} (h : noT G b = some o) : G b = some o ∧ ∀ ps, o ≠ .tbl ps := by
  unfold noT at h
  cases e : G b with
  | none => rw [e] at h; cases h
  | some u =>
    rw [e] at h
    cases u with
    | tbl ps => cases h
    | _ => cases h; exact ⟨rfl, fun _ z => by cases z⟩
theorem noT_none {G : Hp} {b : Addr} (h : G b = none) : noT G b = none := by unfold noT; rw [h]
mutual
theorem Dq.noT {G : Hp} : ∀ {v : V} {d : D}, Dq G v d → Dq (noT G) v d
  | _, _, .non => .non
  | _, _, .bl b => .bl b
  | _, _, .int i => .int i
  | _, _, .str x => .str x
  | _, _, .lst h k => .lst (noT_at h fun _ z => by cases z) (DqA.noT k)
  | _, _, .tup h k => .tup (h.by fun o z e => noT_at e fun _ q => by rcases z with rfl | ⟨_, rfl⟩ <;> cases q) (DqA.noT k)
  | _, _, .emp h r => .emp (noT_at h fun _ z => by cases z) r
  | _, _, .dct h k r => .dct (noT_at h fun _ z => by cases z) (DqP.noT k) r
theorem DqA.noT {G : Hp} : ∀ {vs : List V} {ds : List D}, DqA G vs ds → DqA (noT G) vs ds
  | _, _, .nil => .nil
  | _, _, .cons h k => .cons (Dq.noT h) (DqA.noT k)
theorem DqP.noT {G : Hp} : ∀ {kvs : List (List L2.Key × V)} {es : List (List L2.Key × D)}, DqP G kvs es → DqP (noT G) kvs es
  | _, _, .nil => .nil
  | _, _, .cons n h k => .cons n (Dq.noT h) (DqP.noT k)
end
theorem noT_ex {G : Hp} : Ex (noT G) G := fun b o e => (of_noT e).1
theorem noT_w {G H : Hp} (w : Ex G H) : Ex (noT G) H := fun b o e => w b o (of_noT e).1
theorem wipe_at {σ : L2.St} {k : Nat} : ∀ vs : List Nat, (wipe σ vs)[k]? = if k ∈ vs then (if k < σ.length then some none else none) else σ[k]?
  | [] => by rw [if_neg (List.not_mem_nil)]; rfl
  | v :: vs => by
    have ih := wipe_at (σ := σ) (k := k) vs
    unfold wipe
    by_cases hv : v = k
    · subst hv
      rw [if_pos (List.mem_cons_self ..)]
      by_cases hl : v < σ.length
      · rw [if_pos hl, List.getElem?_set_self (by rw [wipe_length]; exact hl)]
      · rw [if_neg hl]
        exact List.getElem?_eq_none_iff.mpr (by rw [List.length_set, wipe_length]; omega)
    · rw [List.getElem?_set_ne hv, ih]
      by_cases hk : k ∈ vs
      · rw [if_pos hk, if_pos (List.mem_cons_of_mem _ hk)]
      · rw [if_neg hk, if_neg (fun z => by rcases List.mem_cons.mp z with e | e; exact hv e.symm; exact hk e)]
theorem wipe_off {σ σ' : L2.St} {vs js : List Nat} (hl : σ'.length = σ.length) (h : ∀ k, k ∉ js → σ'[k]? = σ[k]?) (s : ∀ j ∈ js, j ∈ vs) : wipe σ' vs = wipe σ vs := by
  refine List.ext_getElem? fun k => ?_
  rw [wipe_at, wipe_at, hl]
  by_cases hk : k ∈ vs
  · rw [if_pos hk, if_pos hk]
  · rw [if_neg hk, if_neg hk]
    exact h k fun z => hk (s k z)
theorem wipe_two {σ : L2.St} {vs : List Nat} : wipe (wipe σ vs) vs = wipe σ vs := by
  refine List.ext_getElem? fun k => ?_
  rw [wipe_at, wipe_at, wipe_length]
  by_cases hk : k ∈ vs
  · rw [if_pos hk, if_pos hk]
  · rw [if_neg hk, if_neg hk]
def wipeC (Γ : En) : List Nat → En
  | [] => Γ
  | v :: vs => (wipeC Γ vs).set v .un
theorem wipeC_length (Γ : En) : ∀ vs : List Nat, (wipeC Γ vs).length = Γ.length
  | [] => rfl
  | v :: vs => by unfold wipeC; rw [List.length_set, wipeC_length Γ vs]
theorem wipeC_off {Γ : En} {k : Nat} : ∀ {vs : List Nat}, k ∉ vs → (wipeC Γ vs)[k]? = Γ[k]?
  | [], _ => rfl
  | v :: vs, h => by
    unfold wipeC
    rw [List.getElem?_set_ne (fun z => h (by rw [z]; exact List.mem_cons_self ..))]
    exact wipeC_off fun z => h (List.mem_cons_of_mem _ z)
theorem wipeC_at {Γ : En} {k : Nat} {c : Ce} : ∀ {vs : List Nat}, (wipeC Γ vs)[k]? = some c → c = .un ∨ (k ∉ vs ∧ Γ[k]? = some c)
  | [], h => .inr ⟨List.not_mem_nil, h⟩
  | v :: vs, h => by
    unfold wipeC at h
    by_cases hv : v = k
    · subst hv
      by_cases hl : v < (wipeC Γ vs).length
      · rw [List.getElem?_set_self hl] at h
        exact .inl (Option.some.inj h).symm
      · rw [List.getElem?_eq_none_iff.mpr (by rw [List.length_set]; omega)] at h
        cases h
    · rw [List.getElem?_set_ne hv] at h
      rcases wipeC_at h with e | ⟨h1, h2⟩
      · exact .inl e
      · exact .inr ⟨fun z => by rcases List.mem_cons.mp z with e | e; exact hv e.symm; exact h1 e, h2⟩
section
variable {G H G' H' G1 H1 G2 H2 : Hp} {σ : L2.St} {Γ Γ' : En}
theorem Rel.wipe (h : Rel G H σ Γ) (vs : List Nat) : Rel G H (wipe σ vs) (wipeC Γ vs) := by
  refine ⟨h.w, by rw [wipe_length, wipeC_length]; exact h.len, fun i c e => ?_, fun i j p ci cj e1 e2 m1 m2 s1 s2 => ?_⟩
  · rcases wipeC_at e with rfl | ⟨h1, h2⟩
    · trivial
    · rw [wipe_at, if_neg h1]
      exact h.c i c h2
  · rcases wipeC_at e1 with rfl | ⟨h1, h2⟩
    · cases m1
    rcases wipeC_at e2 with rfl | ⟨h3, h4⟩
    · cases m2
    rw [wipe_at, if_neg h1] at s1
    rw [wipe_at, if_neg h3] at s2
    exact h.sep i j p ci cj h2 h4 m1 m2 s1 s2
theorem set_at {α : Type} {l : List α} {j k : Nat} {a c : α} (h : (l.set j a)[k]? = some c) : (k = j ∧ j < l.length ∧ c = a) ∨ (k ≠ j ∧ l[k]? = some c) := by
  by_cases hj : j = k
  · subst hj
    by_cases hl : j < l.length
    · rw [List.getElem?_set_self hl] at h
      exact .inl ⟨rfl, hl, (Option.some.inj h).symm⟩
    · rw [List.getElem?_eq_none_iff.mpr (by rw [List.length_set]; omega)] at h
      cases h
  · rw [List.getElem?_set_ne hj] at h
    exact .inr ⟨fun z => hj z.symm, h⟩
theorem Rel.set (h : Rel G H σ Γ) {j : Nat} {v : V} {a : D} (q : Dq G v a) : Rel G H (σ.set j (some v)) (Γ.set j (.d a)) := by
  refine ⟨h.w, by rw [List.length_set, List.length_set]; exact h.len, fun i c e => ?_, fun i k p ci ck e1 e2 m1 m2 s1 s2 => ?_⟩
  · rcases set_at e with ⟨rfl, hl, rfl⟩ | ⟨ne, e⟩
    · rw [List.getElem?_set_self (by rw [h.len]; exact hl)]
      exact ⟨v, rfl, q⟩
    · rw [List.getElem?_set_ne (fun z => ne z.symm)]
      exact h.c i c e
  · rcases set_at e1 with ⟨rfl, hl, rfl⟩ | ⟨ne, e1⟩
    · cases m1
    rcases set_at e2 with ⟨rfl, hl, rfl⟩ | ⟨ne2, e2⟩
    · cases m2
    rw [List.getElem?_set_ne (fun z => ne z.symm)] at s1
    rw [List.getElem?_set_ne (fun z => ne2 z.symm)] at s2
    exact h.sep i k p ci ck e1 e2 m1 m2 s1 s2
end
abbrev Fs := D → En → Option En
def Sg (g : TG) (st : Fs) (js : List Nat) : Prop := ∀ σ Γ G H, Rel G H σ Γ → ∀ v a Γ', Dq G v a → st a Γ = some Γ' → ∀ R : L2.St → Hp → Prop, (∀ σ', (∀ G2 H2, Ex G G2 → Rel G2 H2 σ Γ → Rel G2 H2 σ' Γ') → σ'.length = σ.length → (∀ k : Nat, k ∉ js → σ'[k]? = σ[k]?) → (∀ (i : Nat) (c : Ce), Γ'[i]? = some c → isMut c = true → Γ[i]? = some c ∧ σ'[i]? = σ[i]?) → (∀ k : Nat, k ∉ js → Γ'[k]? = Γ[k]?) → R σ' H) → g v σ H R
def Sgs (g : TGs) (st : List D → En → Option En) (js : List Nat) : Prop := ∀ σ Γ G H, Rel G H σ Γ → ∀ vs as Γ', DqA G vs as → st as Γ = some Γ' → ∀ R : L2.St → Hp → Prop, (∀ σ', (∀ G2 H2, Ex G G2 → Rel G2 H2 σ Γ → Rel G2 H2 σ' Γ') → σ'.length = σ.length → (∀ k : Nat, k ∉ js → σ'[k]? = σ[k]?) → (∀ (i : Nat) (c : Ce), Γ'[i]? = some c → isMut c = true → Γ[i]? = some c ∧ σ'[i]? = σ[i]?) → (∀ k : Nat, k ∉ js → Γ'[k]? = Γ[k]?) → R σ' H) → g vs σ H R
def sName (j : Nat) : Fs := fun a Γ => some (Γ.set j (.d a))
def sNil : List D → En → Option En
  | [], Γ => some Γ
  | _ :: _, _ => none
def sCons (s : Fs) (r : List D → En → Option En) : List D → En → Option En
  | a :: as, Γ => match s a Γ with
    | some Γ1 => r as Γ1
    | none => none
  | [], _ => none
def sTup (n : Nat) (r : List D → En → Option En) : Fs := fun a Γ => match a with
  | .tuple as => if Nat.beq as.length n = true then r as Γ else none
  | _ => none
theorem g_name {j : Nat} : Sg (gName j) (sName j) [j] := fun σ Γ G H R v a Γ' q e Rr k => by
  cases e
  exact k _ (fun G2 H2 x R2 => R2.set (q.mono x)) (by rw [List.length_set]) (fun i hi => List.getElem?_set_ne (fun z => hi (by rw [z]; exact List.mem_singleton.mpr rfl))) (fun i c ec m => by
    rcases set_at ec with ⟨rfl, hl, rfl⟩ | ⟨ne, ec⟩
    · cases m
    · exact ⟨ec, List.getElem?_set_ne (fun z => ne z.symm)⟩) fun i hi => List.getElem?_set_ne (fun z => hi (by rw [z]; exact List.mem_singleton.mpr rfl))
theorem g_nil : Sgs gNil sNil [] := fun σ Γ G H R vs as Γ' q e Rr k => by
  cases q with
  | nil => cases e; exact ⟨rfl, k σ (fun _ _ _ R2 => R2) rfl (fun _ _ => rfl) (fun _ _ ec _ => ⟨ec, rfl⟩) fun _ _ => rfl⟩
  | cons _ _ => cases e
theorem g_cons {g : TG} {gs : TGs} {s : Fs} {r : List D → En → Option En} {js ks : List Nat} (h : Sg g s js) (hs : Sgs gs r ks) : Sgs (gCons g gs) (sCons s r) (js ++ ks) := fun σ Γ G H R vs as Γ' q e Rr k => by
  cases q with
  | nil => cases e
  | @cons v vs d ds q1 q2 =>
    have e' : (match s d Γ with | some Γ1 => r ds Γ1 | none => none) = some Γ' := e
    cases h1 : s d Γ with
    | none => rw [h1] at e'; cases e'
    | some Γ1 =>
      rw [h1] at e'
      refine ⟨v, vs, rfl, h σ Γ G H R v d Γ1 q1 h1 _ fun σ1 R1 l1 o1 m1 f1 => ?_⟩
      refine hs σ1 Γ1 G H (R1 G H (.refl G) R) vs ds Γ' q2 e' _ fun σ2 R2 l2 o2 m2 f2 => k σ2 (fun G2 H2 x R3 => R2 G2 H2 x (R1 G2 H2 x R3)) (l2.trans l1) (fun i hi => by rw [o2 i (fun z => hi (List.mem_append_right _ z)), o1 i (fun z => hi (List.mem_append_left _ z))]) (fun i c ec mc => by
        obtain ⟨e1, e2⟩ := m2 i c ec mc
        obtain ⟨e3, e4⟩ := m1 i c e1 mc
        exact ⟨e3, e2.trans e4⟩) fun i hi => by rw [f2 i (fun z => hi (List.mem_append_right _ z)), f1 i (fun z => hi (List.mem_append_left _ z))]
theorem g_tup {K : PySem.W.Frag} {n : Nat} {gs : TGs} {r : List D → En → Option En} {js : List Nat} (hs : Sgs gs r js) : Sg (gTup K n gs) (sTup n r) js := fun σ Γ G H R v a Γ' q e Rr k => by
  cases q with
  | @tup p xs ds hp hxs =>
    have e' : (if Nat.beq ds.length n = true then r ds Γ else none) = some Γ' := e
    by_cases hn : Nat.beq ds.length n = true
    · rw [if_pos hn] at e'
      exact ⟨p, xs, rfl, TupA.sq (TupA.mono hp R.w), by rw [hxs.len]; exact Nat.eq_of_beq_eq_true hn, hs σ Γ G H R xs ds Γ' hxs e' Rr k⟩
    · rw [if_neg hn] at e'; cases e'
  | _ => cases e
def Wlk (J : It) (G : Hp) (as : List D) : Prop := ∀ i H, Ex G H → (∀ a, as[i]? = some a → J.go i H ∧ ∀ v H2, J.yld i H v H2 → ∀ G1, Ex G G1 → Ex G1 H → ∃ G2, Stp G1 H G2 H2 ∧ Dq G2 v a) ∧ (i = as.length → J.stop i H)
theorem Wlk.mono {J : It} {G G' : Hp} {as : List D} (h : Wlk J G as) (x : Ex G G') : Wlk J G' as := fun i H e => ⟨fun a ha => ⟨((h i H (x.trans e)).1 a ha).1, fun v H2 y G1 e1 e2 => ((h i H (x.trans e)).1 a ha).2 v H2 y G1 (x.trans e1) e2⟩, (h i H (x.trans e)).2⟩
section
variable (E : XK) (ad : Str → Addr)
def PoI (G H : Hp) (Q : It → Hp → Prop) : Oa → Prop
  | .vals as => ∀ J G2 H2, Stp G H G2 H2 → Wlk J (noT G2) as → Q J H2
  | .exc x => ∀ G2 H2, Stp G H G2 H2 → XE E ad x H2
def Si (wi : TI) (f : En → Ra) : Prop := ∀ σ Γ G H, Rel G H σ Γ → ∀ r, f Γ = some r → ∀ Q : It → Hp → Prop, PoI E ad G H Q r → wi σ H Q
end
def iL (fe : En → Re) (Γ : En) : Ra := match fe Γ with
  | some (.val (.list as)) => some (.vals as)
  | some (.exc x) => some (.exc x)
  | _ => none
def iT (fe : En → Re) (Γ : En) : Ra := match fe Γ with
  | some (.val (.tuple as)) => some (.vals as)
  | some (.exc x) => some (.exc x)
  | _ => none
def upFrom (lo : Int) : Nat → List D
  | 0 => []
  | n + 1 => .int lo :: upFrom (lo + 1) n
def iR1 (fas : En → Ra) (Γ : En) : Ra := match fas Γ with
  | some (.vals [.int j]) => if small j.toNat = true ∧ -1000000 ≤ j then some (.vals (upFrom 0 j.toNat)) else none
  | some (.exc x) => some (.exc x)
  | _ => none
def sqOf : Bool → D → Option (List D)
  | true, .list as => some as
  | false, .tuple as => some as
  | _, _ => none
def zipT : List D → List D → List D
  | a :: as, b :: bs => .tuple [a, b] :: zipT as bs
  | _, _ => []
def zipT3 : List D → List D → List D → List D
  | a :: as, b :: bs, c :: cs => .tuple [a, b, c] :: zipT3 as bs cs
  | _, _, _ => []
def enumT : Int → List D → List D
  | _, [] => []
  | i, a :: as => .tuple [.int i, a] :: enumT (i + 1) as
def iZ2 (k1 k2 : Bool) (fas : En → Ra) (Γ : En) : Ra := match fas Γ with
  | some (.vals [x, y]) => match sqOf k1 x, sqOf k2 y with
    | some as, some bs => some (.vals (zipT as bs))
    | _, _ => none
  | some (.exc x) => some (.exc x)
  | _ => none
def iZ3 (k1 k2 k3 : Bool) (fas : En → Ra) (Γ : En) : Ra := match fas Γ with
  | some (.vals [x, y, z]) => match sqOf k1 x, sqOf k2 y, sqOf k3 z with
    | some as, some bs, some cs => some (.vals (zipT3 as bs cs))
    | _, _, _ => none
  | some (.exc x) => some (.exc x)
  | _ => none
def iEn (k : Bool) (fas : En → Ra) (Γ : En) : Ra := match fas Γ with
  | some (.vals [x]) => match sqOf k x with
    | some as => some (.vals (enumT 0 as))
    | none => none
  | some (.exc x) => some (.exc x)
  | _ => none
theorem upFrom_at {lo : Int} {n i : Nat} {a : D} (h : (upFrom lo n)[i]? = some a) : i < n ∧ a = .int (lo + i) := by
  induction n generalizing lo i with
  | zero => simp [upFrom] at h
  | succ n ih =>
    cases i with
    | zero => simp [upFrom] at h; exact ⟨by omega, by rw [← h]; simp⟩
    | succ i =>
      unfold upFrom at h
      rw [List.getElem?_cons_succ] at h
      obtain ⟨h1, h2⟩ := ih h
      exact ⟨by omega, by rw [h2]; congr 1; omega⟩
theorem upFrom_len (lo : Int) (n : Nat) : (upFrom lo n).length = n := by
  induction n generalizing lo with
  | zero => rfl
  | succ n ih => unfold upFrom; rw [List.length_cons, ih]
theorem zipT_at {as bs : List D} {i : Nat} {a : D} (h : (zipT as bs)[i]? = some a) : ∃ x y, as[i]? = some x ∧ bs[i]? = some y ∧ a = .tuple [x, y] := by
  induction as generalizing bs i with
  | nil => simp [zipT] at h
  | cons x as ih =>
    cases bs with
    | nil => simp [zipT] at h
    | cons y bs =>
      cases i with
      | zero => simp [zipT] at h; exact ⟨x, y, rfl, rfl, h.symm⟩
      | succ i => exact ih (by simpa [zipT] using h)
theorem zipT_len (as bs : List D) : (zipT as bs).length = min as.length bs.length := by
  induction as generalizing bs with
  | nil => simp [zipT]
  | cons x as ih =>
    cases bs with
    | nil => simp [zipT]
    | cons y bs => unfold zipT; rw [List.length_cons, ih, List.length_cons, List.length_cons]; omega
theorem zipT3_at {as bs cs : List D} {i : Nat} {a : D} (h : (zipT3 as bs cs)[i]? = some a) : ∃ x y z, as[i]? = some x ∧ bs[i]? = some y ∧ cs[i]? = some z ∧ a = .tuple [x, y, z] := by
  induction as generalizing bs cs i with
  | nil => simp [zipT3] at h
  | cons x as ih =>
    cases bs with
    | nil => simp [zipT3] at h
    | cons y bs =>
      cases cs with
      | nil => simp [zipT3] at h
      | cons z cs =>
        cases i with
        | zero => simp [zipT3] at h; exact ⟨x, y, z, rfl, rfl, rfl, h.symm⟩
        | succ i => exact ih (by simpa [zipT3] using h)
theorem zipT3_len (as bs cs : List D) : (zipT3 as bs cs).length = min as.length (min bs.length cs.length) := by
  induction as generalizing bs cs with
  | nil => simp [zipT3]
  | cons x as ih =>
    cases bs with
    | nil => simp [zipT3]
    | cons y bs =>
      cases cs with
      | nil => simp [zipT3]
      | cons z cs => unfold zipT3; rw [List.length_cons, ih, List.length_cons, List.length_cons, List.length_cons]; omega
theorem enumT_at {lo : Int} {as : List D} {i : Nat} {a : D} (h : (enumT lo as)[i]? = some a) : ∃ x, as[i]? = some x ∧ a = .tuple [.int (lo + i), x] := by
  induction as generalizing lo i with
  | nil => simp [enumT] at h
  | cons x as ih =>
    cases i with
    | zero => simp [enumT] at h; exact ⟨x, rfl, by rw [← h]; simp⟩
    | succ i =>
      unfold enumT at h
      rw [List.getElem?_cons_succ] at h
      obtain ⟨y, h1, h2⟩ := ih h
      exact ⟨y, by simpa using h1, by rw [h2]; congr 3; omega⟩
theorem enumT_len (lo : Int) (as : List D) : (enumT lo as).length = as.length := by
  induction as generalizing lo with
  | nil => rfl
  | cons x as ih => unfold enumT; rw [List.length_cons, ih, List.length_cons]
section
variable {E : XK} {ad : Str → Addr} {K : PySem.W.Frag} {te : TE} {fe : En → Re} {tas : TA} {fas : En → Ra}
theorem i_list (h : Se E ad te fe) : Si E ad (iList K te) (iL fe) := fun σ Γ G H R r e Q q => by
  unfold iL at e
  split at e
  · rename_i as e1
    cases e
    refine h σ Γ G H R _ e1 _ fun v G2 H2 s2 q0 => ?_
    have q2 := q0.noT
    cases q2 with
    | @lst a xs _ ha hxs =>
      refine ⟨a, rfl, ⟨xs, SqL.of (noT_w s2.w _ _ ha)⟩, q _ G2 H2 s2 fun i H3 x3 => ⟨fun a' ha' => ?_, fun e => ⟨xs, SqL.of (x3 _ _ ha), by rw [hxs.len, e]; exact Nat.le_refl _⟩⟩⟩
      obtain ⟨v, hv, hd⟩ := hxs.getD ha'
      refine ⟨⟨xs, v, SqL.of (x3 _ _ ha), hv⟩, ?_⟩
      rintro v2 H4 ⟨rfl, hy⟩ G1 e1 e2
      have := hy xs (SqL.of (x3 _ _ ha))
      rw [hv] at this
      cases this
      exact ⟨G1, .refl e2, hd.mono e1⟩
  · rename_i x e1
    cases e
    exact h σ Γ G H R _ e1 _ q
  · cases e
theorem i_tup (h : Se E ad te fe) : Si E ad (iTup K te) (iT fe) := fun σ Γ G H R r e Q q => by
  unfold iT at e
  split at e
  · rename_i as e1
    cases e
    refine h σ Γ G H R _ e1 _ fun v G2 H2 s2 q0 => ?_
    have q2 := q0.noT
    cases q2 with
    | @tup a xs _ ha hxs =>
      refine ⟨a, rfl, ⟨xs, TupA.sq (TupA.mono ha (noT_w s2.w))⟩, q _ G2 H2 s2 fun i H3 x3 => ⟨fun a' ha' => ?_, fun e => ⟨xs, TupA.sq (TupA.mono ha x3), by rw [hxs.len, e]; exact Nat.le_refl _⟩⟩⟩
      obtain ⟨v, hv, hd⟩ := hxs.getD ha'
      refine ⟨⟨xs, v, TupA.sq (TupA.mono ha x3), hv⟩, ?_⟩
      rintro v2 H4 ⟨rfl, hy⟩ G1 e1 e2
      have := hy xs (TupA.sq (TupA.mono ha x3))
      rw [hv] at this
      cases this
      exact ⟨G1, .refl e2, hd.mono e1⟩
  · rename_i x e1
    cases e
    exact h σ Γ G H R _ e1 _ q
  · cases e
theorem wlk_rng {G : Hp} (lo : Int) (n : Nat) : Wlk (Itr lo n) G (upFrom lo n) := fun i H x => ⟨fun a ha => by
  obtain ⟨h1, rfl⟩ := upFrom_at ha
  refine ⟨h1, ?_⟩
  rintro v H2 ⟨rfl, rfl⟩ G1 e1 e2
  exact ⟨G1, .refl e2, .int _⟩, fun e => by rw [upFrom_len] at e; rw [e]; exact Nat.le_refl _⟩
theorem i_rng1 (h : Sa E ad tas fas) : Si E ad (iRng1 tas) (iR1 fas) := fun σ Γ G H R r e Q q => by
  unfold iR1 at e
  split at e
  · rename_i j e1
    by_cases hj : small j.toNat = true ∧ -1000000 ≤ j
    · rw [if_pos hj] at e
      cases e
      have := small_le hj.1
      refine h σ Γ G H R _ e1 _ fun vs G2 H2 s2 q0 => ?_
      have q2 := q0.noT
      cases q2 with
      | cons q3 q4 =>
        cases q4
        cases q3
        exact ⟨j, rfl, by omega, by omega, q _ G2 H2 s2 (wlk_rng 0 _)⟩
    · rw [if_neg hj] at e; cases e
  · rename_i x e1
    cases e
    exact h σ Γ G H R _ e1 _ q
  · cases e
theorem sq_of {k : Bool} {x : D} {as : List D} (h : sqOf k x = some as) : x = sq k as := by
  cases k <;> cases x <;> first | (cases h; rfl) | cases h
theorem i_zip2 {k1 k2 : Bool} (h : Sa E ad tas fas) : Si E ad (iZip2 K k1 k2 tas) (iZ2 k1 k2 fas) := fun σ Γ G H R r e Q q => by
  unfold iZ2 at e
  split at e
  · rename_i x y e1
    split at e
    · rename_i as bs h1 h2
      cases e
      have ex := sq_of h1
      have ey := sq_of h2
      subst ex ey
      refine h σ Γ G H R _ e1 _ fun vs G2 H2 s2 q0 => ?_
      have q2 := q0.noT
      cases q2 with
      | cons q3 q4 =>
        cases q4 with
        | cons q5 q4 =>
          cases q4
          obtain ⟨a, xs, rfl, hxs, qa⟩ := sq_at (K := K) q3
          obtain ⟨b, ys, rfl, hys, qb⟩ := sq_at (K := K) q5
          refine ⟨a, b, xs, ys, rfl, qa _ (noT_w s2.w), qb _ (noT_w s2.w), q _ G2 H2 s2 fun i H3 x3 => ⟨fun a' ha' => ?_, fun e => ?_⟩⟩
          · obtain ⟨dx, dy, hx, hy, rfl⟩ := zipT_at ha'
            obtain ⟨vx, hvx, hdx⟩ := hxs.getD hx
            obtain ⟨vy, hvy, hdy⟩ := hys.getD hy
            refine ⟨⟨xs, ys, vx, vy, qa _ x3, qb _ x3, hvx, hvy⟩, ?_⟩
            rintro v2 H4 ⟨T, x', y', o', rfl, hT, hO, rfl, f1, f2⟩ G1 e1 e2
            have z1 := f1 xs (qa _ x3)
            have z2 := f2 ys (qb _ x3)
            rw [hvx] at z1
            rw [hvy] at z2
            cases z1
            cases z2
            have s3 := Stp.new (o := tupO o' [vx, vy]) e2 hT
            exact ⟨_, s3, .tup (.new hO) (.cons (hdx.mono (e1.trans s3.g)) (.cons (hdy.mono (e1.trans s3.g)) .nil))⟩
          · rw [zipT_len] at e
            have l1 := hxs.len
            have l2 := hys.len
            exact ⟨xs, ys, qa _ x3, qb _ x3, by omega, by omega, by omega⟩
    · cases e
  · rename_i x e1
    cases e
    exact h σ Γ G H R _ e1 _ q
  · cases e
theorem i_zip3 {k1 k2 k3 : Bool} (h : Sa E ad tas fas) : Si E ad (iZip3 K k1 k2 k3 tas) (iZ3 k1 k2 k3 fas) := fun σ Γ G H R r e Q q => by
  unfold iZ3 at e
  split at e
  · rename_i x y z e1
    split at e
    · rename_i as bs cs h1 h2 h3
      cases e
      have ex := sq_of h1
      have ey := sq_of h2
      have ez := sq_of h3
      subst ex ey ez
      refine h σ Γ G H R _ e1 _ fun vs G2 H2 s2 q0 => ?_
      have q2 := q0.noT
      cases q2 with
      | cons q3 q4 =>
        cases q4 with
        | cons q5 q4 =>
          cases q4 with
          | cons q6 q4 =>
            cases q4
            obtain ⟨a, xs, rfl, hxs, qa⟩ := sq_at (K := K) q3
            obtain ⟨b, ys, rfl, hys, qb⟩ := sq_at (K := K) q5
            obtain ⟨c, zs, rfl, hzs, qc⟩ := sq_at (K := K) q6
            refine ⟨a, b, c, xs, ys, zs, rfl, qa _ (noT_w s2.w), qb _ (noT_w s2.w), qc _ (noT_w s2.w), q _ G2 H2 s2 fun i H3 x3 => ⟨fun a' ha' => ?_, fun e => ?_⟩⟩
            · obtain ⟨dx, dy, dz, hx, hy, hz, rfl⟩ := zipT3_at ha'
              obtain ⟨vx, hvx, hdx⟩ := hxs.getD hx
              obtain ⟨vy, hvy, hdy⟩ := hys.getD hy
              obtain ⟨vz, hvz, hdz⟩ := hzs.getD hz
              refine ⟨⟨xs, ys, zs, vx, vy, vz, qa _ x3, qb _ x3, qc _ x3, hvx, hvy, hvz⟩, ?_⟩
              rintro v2 H4 ⟨T, x', y', z', o', rfl, hT, hO, rfl, f1, f2, f3⟩ G1 e1 e2
              have z1 := f1 xs (qa _ x3)
              have z2 := f2 ys (qb _ x3)
              have z3 := f3 zs (qc _ x3)
              rw [hvx] at z1
              rw [hvy] at z2
              rw [hvz] at z3
              cases z1
              cases z2
              cases z3
              have s3 := Stp.new (o := tupO o' [vx, vy, vz]) e2 hT
              exact ⟨_, s3, .tup (.new hO) (.cons (hdx.mono (e1.trans s3.g)) (.cons (hdy.mono (e1.trans s3.g)) (.cons (hdz.mono (e1.trans s3.g)) .nil)))⟩
            · rw [zipT3_len] at e
              have l1 := hxs.len
              have l2 := hys.len
              have l3 := hzs.len
              exact ⟨xs, ys, zs, qa _ x3, qb _ x3, qc _ x3, by omega, by omega, by omega, by omega⟩
    · cases e
  · rename_i x e1
    cases e
    exact h σ Γ G H R _ e1 _ q
  · cases e
theorem i_enum {k : Bool} (h : Sa E ad tas fas) : Si E ad (iEnumK K k tas) (iEn k fas) := fun σ Γ G H R r e Q q => by
  unfold iEn at e
  split at e
  · rename_i x e1
    split at e
    · rename_i as h1
      cases e
      have ex := sq_of h1
      subst ex
      refine h σ Γ G H R _ e1 _ fun vs G2 H2 s2 q0 => ?_
      have q2 := q0.noT
      cases q2 with
      | cons q3 q4 =>
        cases q4
        obtain ⟨a, xs, rfl, hxs, qa⟩ := sq_at (K := K) q3
        refine ⟨a, xs, rfl, qa _ (noT_w s2.w), q _ G2 H2 s2 fun i H3 x3 => ⟨fun a' ha' => ?_, fun e => ?_⟩⟩
        · obtain ⟨dx, hx, rfl⟩ := enumT_at ha'
          obtain ⟨vx, hvx, hdx⟩ := hxs.getD hx
          refine ⟨⟨xs, vx, qa _ x3, hvx⟩, ?_⟩
          rintro v2 H4 ⟨T, x', o', rfl, hT, hO, rfl, f1⟩ G1 e1 e2
          have z1 := f1 xs (qa _ x3)
          rw [hvx] at z1
          cases z1
          have s3 := Stp.new (o := tupO o' [.int (i : Nat), vx]) e2 hT
          rw [Int.zero_add]
          exact ⟨_, s3, .tup (.new hO) (.cons (.int _) (.cons (hdx.mono (e1.trans s3.g)) .nil))⟩
        · rw [enumT_len] at e
          exact ⟨xs, qa _ x3, by rw [hxs.len]; exact e⟩
    · cases e
  · rename_i x e1
    cases e
    exact h σ Γ G H R _ e1 _ q
  · cases e
end
def lcGo (st : Fs) (ft fe : En → Re) (Γ : En) : List D → Option (List D)
  | [] => some []
  | a :: as => match st a Γ with
    | none => none
    | some Γ1 => match ft Γ1 with
      | some (.val (.bool b)) => if b = true then (match fe Γ1 with
        | some (.val d) => match lcGo st ft fe Γ as with
          | some ds => some (d :: ds)
          | none => none
        | _ => none) else lcGo st ft fe Γ as
      | _ => none
def fLc (src : En → Ra) (st : Fs) (ft fe : En → Re) (vs : List Nat) (Γ : En) : Re := match src Γ with
  | some (.vals as) => if small as.length = true then (match lcGo st ft fe (wipeC Γ vs) as with
    | some ds => some (.val (.list ds))
    | none => none) else none
  | some (.exc x) => some (.exc x)
  | none => none
theorem drop_at {α : Type} {l : List α} {i : Nat} {a : α} {r : List α} (h : l.drop i = a :: r) : l[i]? = some a ∧ l.drop (i + 1) = r := by
  have h1 : (l.drop i)[0]? = some a := by rw [h]; rfl
  rw [List.getElem?_drop] at h1
  refine ⟨by simpa using h1, ?_⟩
  rw [← List.tail_drop, h]; rfl
section
variable {E : XK} {ad : Str → Addr} {K : PySem.W.Frag} {te : TE} {tt : TT} {fe ft : En → Re} {wi : TI} {src : En → Ra} {g : TG} {st : Fs} {js vs : List Nat}
theorem m_lc (hs : Si E ad wi src) (hg : Sg g st js) (ht : Sb E ad tt ft) (he : Se E ad te fe) (hj : ∀ j ∈ js, j ∈ vs) : Sm E ad (tLc wi g tt te vs) (fLc src st ft fe vs) := fun σ Γ G H R r e Q q => by
  unfold fLc at e
  split at e
  · rename_i as e1
    by_cases hsm : small as.length = true
    · rw [if_pos hsm] at e
      have sml := small_le hsm
      split at e
      · rename_i ds e2
        cases e
        refine hs σ Γ G H R _ e1 _ fun J G2 H2 s2 wl0 Dl hD => ?_
        have wl := wl0.mono noT_ex
        have gD : G2 Dl = none := fresh_back s2.w hD
        refine ⟨fun i m H3 => m = as.length - i ∧ i ≤ as.length ∧ ∃ acc rest, lcGo st ft fe (wipeC Γ vs) (as.drop i) = some rest ∧ ds = acc ++ rest ∧ acc.length ≤ i ∧ Mk2 G2 H2 Dl acc H3, ⟨as.length, rfl, Nat.zero_le _, [], ds, e2, rfl, Nat.le_refl _, Mk2.start s2.w hD⟩, ?_⟩
        rintro i m H3 ⟨rfl, hi, acc, rest, er, rfl, la, mk⟩
        obtain ⟨G3, vs3, s3, g3, hvs3, hH3⟩ := mk
        have x23 : Ex G2 H3 := s3.g.trans s3.w
        cases hd : as.drop i with
        | nil =>
          have ei : i = as.length := by
            have := congrArg List.length hd
            rw [List.length_drop, List.length_nil] at this
            omega
          rw [hd] at er
          cases er
          refine .inl ⟨(wl i H3 x23).2 ei, ?_⟩
          rw [List.append_nil] at q
          refine q Dl G3 H3 (s2.trans s3) (h_old s2 hD) ⟨g3, vs3, hH3, hvs3⟩
        | cons a as2 =>
          obtain ⟨ha, hd2⟩ := drop_at hd
          have hlt : i < as.length := (List.getElem?_eq_some_iff.mp ha).1
          obtain ⟨hgo, hy⟩ := (wl i H3 x23).1 a ha
          refine .inr ⟨hgo, fun H' => ∃ acc2 rest2, lcGo st ft fe (wipeC Γ vs) (as.drop (i + 1)) = some rest2 ∧ acc ++ rest = acc2 ++ rest2 ∧ acc2.length ≤ i + 1 ∧ Mk2 G2 H2 Dl acc2 H', fun H' hN => ⟨as.length - (i + 1), by omega, rfl, hlt, hN⟩, ?_⟩
          intro v H4 hyl
          obtain ⟨G4, s4, qv⟩ := hy v H4 hyl G3 s3.g s3.w
          rw [hd] at er
          unfold lcGo at er
          cases hst : st a (wipeC Γ vs) with
          | none => rw [hst] at er; cases er
          | some Γ1 =>
            rw [hst] at er
            dsimp only at er
            have R4 : Rel G4 H4 (wipe σ vs) (wipeC Γ vs) := ((R.stp s2).stp (s3.trans s4)).wipe vs
            refine hg _ _ _ _ R4 v a Γ1 qv hst _ fun σ2 RR l5 o5 _ _ => ⟨?_, ?_⟩
            · rw [wipe_off l5 o5 hj, wipe_two]
            · split at er
              · rename_i b eb
                have R5 := RR G4 H4 (.refl _) R4
                refine ht σ2 Γ1 G4 H4 R5 _ eb _ fun G5 H5 s5 => ?_
                have s35 := s4.trans s5
                have g5 : G5 Dl = none := s35.n Dl g3 (by rw [hH3]; intro z; cases z) (by rw [hH3]; intro xs z; cases z)
                have h5 : H5 Dl = some (.lst vs3) := s35.h _ _ hH3
                cases b with
                | false =>
                  rw [if_neg (by decide)] at er ⊢
                  exact ⟨acc, rest, by rw [hd2]; exact er, rfl, by omega, G5, vs3, s3.trans s35, g5, hvs3.mono s35.g, h5⟩
                | true =>
                  rw [if_pos rfl] at er ⊢
                  split at er
                  · rename_i d ed
                    split at er
                    · rename_i ds2 eds
                      cases er
                      refine he σ2 Γ1 G5 H5 (R5.stp s5) _ ed _ fun y G6 H6 s6 q6 => ?_
                      have h6 : H6 Dl = some (.lst vs3) := s6.h _ _ h5
                      have g6 : G6 Dl = none := s6.n Dl g5 (by rw [h5]; intro z; cases z) (by rw [h5]; intro xs z; cases z)
                      have s36 := s35.trans s6
                      refine ⟨vs3, h6, by rw [hvs3.len, sizeLine_eq]; omega, acc ++ [d], ds2, by rw [hd2]; exact eds, by simp, by rw [List.length_append]; simp; omega, G6, vs3 ++ [y], (s3.trans s36).mutd hD g6, g6, (hvs3.mono s36.g).snoc q6, upd_same⟩
                    · cases er
                  · cases er
              · cases er
      · cases e
    · rw [if_neg hsm] at e; cases e
  · rename_i x e1
    cases e
    exact hs σ Γ G H R _ e1 _ q
  · cases e
theorem lst_lc (Γ : En) (d : D) (h : fLc src st ft fe vs Γ = some (.val d)) : ∃ ds, d = .list ds := by
  unfold fLc at h
  split at h
  · split at h
    · split at h
      · cases h; exact ⟨_, rfl⟩
      · cases h
    · cases h
  · cases h
  · cases h
theorem u_lc (hs : Si E ad wi src) (hg : Sg g st js) (ht : Sb E ad tt ft) (he : Se E ad te fe) (hj : ∀ j ∈ js, j ∈ vs) : Se E ad (tLc wi g tt te vs) (fLc src st ft fe vs) := (m_lc hs hg ht he hj).se lst_lc
variable {wi1 : TI} {src1 : En → Ra} {g1 : TG} {st1 : Fs} {js1 vs1 : List Nat} {tt1 : TT} {ft1 : En → Re}
def lc2Go (st : Fs) (ft : En → Re) (src1 : En → Ra) (st1 : Fs) (ft1 fe : En → Re) (vs1 : List Nat) (Γ : En) : List D → Option (List D)
  | [] => some []
  | a :: as => match st a Γ with
    | none => none
    | some Γ1 => match ft Γ1 with
      | some (.val (.bool b)) => if b = true then (match src1 Γ1 with
        | some (.vals bs) => if small bs.length = true then (match lcGo st1 ft1 fe (wipeC Γ1 vs1) bs with
          | some ds => match lc2Go st ft src1 st1 ft1 fe vs1 Γ as with
            | some ds2 => some (ds ++ ds2)
            | none => none
          | none => none) else none
        | _ => none) else lc2Go st ft src1 st1 ft1 fe vs1 Γ as
      | _ => none
def fLc2 (src : En → Ra) (st : Fs) (ft : En → Re) (src1 : En → Ra) (st1 : Fs) (ft1 fe : En → Re) (vs vs1 : List Nat) (Γ : En) : Re := match src Γ with
  | some (.vals as) => match lc2Go st ft src1 st1 ft1 fe vs1 (wipeC Γ vs) as with
    | some ds => if small ds.length = true then some (.val (.list ds)) else none
    | none => none
  | some (.exc x) => some (.exc x)
  | none => none
theorem m_lc2 (hs : Si E ad wi src) (hg : Sg g st js) (ht : Sb E ad tt ft) (hs1 : Si E ad wi1 src1) (hg1 : Sg g1 st1 js1) (ht1 : Sb E ad tt1 ft1) (he : Se E ad te fe) (hj : ∀ j ∈ js, j ∈ vs) (hj1 : ∀ j ∈ js1, j ∈ vs1) :
    Sm E ad (tLc2 wi g tt wi1 g1 tt1 te vs vs1) (fLc2 src st ft src1 st1 ft1 fe vs vs1) := fun σ Γ G H R r e Q q => by
  unfold fLc2 at e
  split at e
  · rename_i as e1
    split at e
    · rename_i ds e2
      by_cases hsm : small ds.length = true
      · rw [if_pos hsm] at e
        have sml := small_le hsm
        cases e
        refine hs σ Γ G H R _ e1 _ fun J G2 H2 s2 wl0 Dl hD => ?_
        have wl := wl0.mono noT_ex
        have gD : G2 Dl = none := fresh_back s2.w hD
        refine ⟨fun i m H3 => m = as.length - i ∧ i ≤ as.length ∧ ∃ acc rest, lc2Go st ft src1 st1 ft1 fe vs1 (wipeC Γ vs) (as.drop i) = some rest ∧ ds = acc ++ rest ∧ Mk2 G2 H2 Dl acc H3, ⟨as.length, rfl, Nat.zero_le _, [], ds, e2, rfl, Mk2.start s2.w hD⟩, ?_⟩
        rintro i m H3 ⟨rfl, hi, acc, rest, er, rfl, mk⟩
        obtain ⟨G3, vs3, s3, g3, hvs3, hH3⟩ := mk
        have x23 : Ex G2 H3 := s3.g.trans s3.w
        cases hd : as.drop i with
        | nil =>
          have ei : i = as.length := by
            have := congrArg List.length hd
            rw [List.length_drop, List.length_nil] at this
            omega
          rw [hd] at er
          cases er
          refine .inl ⟨(wl i H3 x23).2 ei, ?_⟩
          rw [List.append_nil] at q
          refine q Dl G3 H3 (s2.trans s3) (h_old s2 hD) ⟨g3, vs3, hH3, hvs3⟩
        | cons a as2 =>
          obtain ⟨ha, hd2⟩ := drop_at hd
          have hlt : i < as.length := (List.getElem?_eq_some_iff.mp ha).1
          obtain ⟨hgo, hy⟩ := (wl i H3 x23).1 a ha
          refine .inr ⟨hgo, fun H' => ∃ acc2 rest2, lc2Go st ft src1 st1 ft1 fe vs1 (wipeC Γ vs) (as.drop (i + 1)) = some rest2 ∧ acc ++ rest = acc2 ++ rest2 ∧ Mk2 G2 H2 Dl acc2 H', fun H' hN => ⟨as.length - (i + 1), by omega, rfl, hlt, hN⟩, ?_⟩
          intro v H4 hyl
          obtain ⟨G4, s4, qv⟩ := hy v H4 hyl G3 s3.g s3.w
          rw [hd] at er
          unfold lc2Go at er
          cases hst : st a (wipeC Γ vs) with
          | none => rw [hst] at er; cases er
          | some Γ1 =>
            rw [hst] at er
            dsimp only at er
            have R4 : Rel G4 H4 (wipe σ vs) (wipeC Γ vs) := ((R.stp s2).stp (s3.trans s4)).wipe vs
            refine hg _ _ _ _ R4 v a Γ1 qv hst _ fun σ2 RR l5 o5 _ _ => ⟨?_, ?_⟩
            · rw [wipe_off l5 o5 hj, wipe_two]
            · split at er
              · rename_i b eb
                have R5 := RR G4 H4 (.refl _) R4
                refine ht σ2 Γ1 G4 H4 R5 _ eb _ fun G5 H5 s5 => ?_
                have s35 := s4.trans s5
                have g5 : G5 Dl = none := s35.n Dl g3 (by rw [hH3]; intro z; cases z) (by rw [hH3]; intro xs z; cases z)
                have h5 : H5 Dl = some (.lst vs3) := s35.h _ _ hH3
                cases b with
                | false =>
                  rw [if_neg (by decide)] at er ⊢
                  exact ⟨acc, rest, by rw [hd2]; exact er, rfl, G5, vs3, s3.trans s35, g5, hvs3.mono s35.g, h5⟩
                | true =>
                  rw [if_pos rfl] at er ⊢
                  split at er
                  · rename_i bs ebs
                    by_cases hbm : small bs.length = true
                    · rw [if_pos hbm] at er
                      split at er
                      · rename_i ds1 eds1
                        split at er
                        · rename_i ds2 eds2
                          cases er
                          refine hs1 σ2 Γ1 G5 H5 (R5.stp s5) _ ebs _ fun J1 G6 H6 s6 wl10 => ?_
                          have wl1 := wl10.mono noT_ex
                          have h6 : H6 Dl = some (.lst vs3) := s6.h _ _ h5
                          have g6 : G6 Dl = none := s6.n Dl g5 (by rw [h5]; intro z; cases z) (by rw [h5]; intro xs z; cases z)
                          have s36 := s35.trans s6
                          refine ⟨fun j k H7 => k = bs.length - j ∧ j ≤ bs.length ∧ ∃ acc1 rest1, lcGo st1 ft1 fe (wipeC Γ1 vs1) (bs.drop j) = some rest1 ∧ ds1 = acc1 ++ rest1 ∧ ∃ G7 vs7, Ex G6 G7 ∧ Stp G2 H2 G7 H7 ∧ G7 Dl = none ∧ DqA G7 vs7 (acc ++ acc1) ∧ H7 Dl = some (.lst vs7), ⟨bs.length, rfl, Nat.zero_le _, [], ds1, eds1, rfl, G6, vs3, .refl _, s3.trans s36, g6, by rw [List.append_nil]; exact hvs3.mono s36.g, h6⟩, ?_⟩
                          rintro j k H7 ⟨rfl, hjl, acc1, rest1, er1, rfl, G7, vs7, x67, s27, g7, hv7, hH7⟩
                          have x6H : Ex G6 H7 := x67.trans s27.w
                          cases hdb : bs.drop j with
                          | nil =>
                            have ej : j = bs.length := by
                              have := congrArg List.length hdb
                              rw [List.length_drop, List.length_nil] at this
                              omega
                            rw [hdb] at er1
                            cases er1
                            refine .inl ⟨(wl1 j H7 x6H).2 ej, acc ++ acc1, ds2, by rw [hd2]; exact eds2, by simp, G7, vs7, s27, g7, hv7, hH7⟩
                          | cons b bs2 =>
                            obtain ⟨hb, hdb2⟩ := drop_at hdb
                            have hblt : j < bs.length := (List.getElem?_eq_some_iff.mp hb).1
                            obtain ⟨hgo1, hy1⟩ := (wl1 j H7 x6H).1 b hb
                            refine .inr ⟨hgo1, fun H' => ∃ acc1' rest1', lcGo st1 ft1 fe (wipeC Γ1 vs1) (bs.drop (j + 1)) = some rest1' ∧ acc1 ++ rest1 = acc1' ++ rest1' ∧ ∃ G7 vs7, Ex G6 G7 ∧ Stp G2 H2 G7 H' ∧ G7 Dl = none ∧ DqA G7 vs7 (acc ++ acc1') ∧ H' Dl = some (.lst vs7), fun H' hN => ⟨bs.length - (j + 1), by omega, rfl, hblt, hN⟩, ?_⟩
                            intro v8 H8 hyl1
                            obtain ⟨G8, s8, qv8⟩ := hy1 v8 H8 hyl1 G7 x67 s27.w
                            have keep : ∀ {G9 H9 : Hp}, Stp G7 H7 G9 H9 → G9 Dl = none ∧ H9 Dl = some (.lst vs7) := fun {G9 H9} s9 => ⟨s9.n Dl g7 (by rw [hH7]; intro z; cases z) (by rw [hH7]; intro xs z; cases z), s9.h _ _ hH7⟩
                            rw [hdb] at er1
                            unfold lcGo at er1
                            cases hst1 : st1 b (wipeC Γ1 vs1) with
                            | none => rw [hst1] at er1; cases er1
                            | some Γ2 =>
                              rw [hst1] at er1
                              dsimp only at er1
                              have R8 : Rel G8 H8 (wipe σ2 vs1) (wipeC Γ1 vs1) := (RR G8 H8 ((s5.g.trans s6.g).trans (x67.trans s8.g)) (((R.stp s2).stp (s27.trans s8)).wipe vs)).wipe vs1
                              refine hg1 _ _ _ _ R8 v8 b Γ2 qv8 hst1 _ fun σ3 RR1 l9 o9 _ _ => ⟨?_, ?_⟩
                              · rw [wipe_off l9 o9 hj1, wipe_two]
                              · split at er1
                                · rename_i b1 eb1
                                  have R9 := RR1 G8 H8 (.refl _) R8
                                  refine ht1 σ3 Γ2 G8 H8 R9 _ eb1 _ fun G9 H9 s9 => ?_
                                  have s79 := s8.trans s9
                                  obtain ⟨g9, h9⟩ := keep s79
                                  cases b1 with
                                  | false =>
                                    rw [if_neg (by decide)] at er1 ⊢
                                    exact ⟨acc1, rest1, by rw [hdb2]; exact er1, rfl, G9, vs7, x67.trans s79.g, s27.trans s79, g9, hv7.mono s79.g, h9⟩
                                  | true =>
                                    rw [if_pos rfl] at er1 ⊢
                                    split at er1
                                    · rename_i d ed
                                      split at er1
                                      · rename_i ds3 eds3
                                        cases er1
                                        refine he σ3 Γ2 G9 H9 (R9.stp s9) _ ed _ fun y Ga Ha sa qa => ?_
                                        have s7a := s79.trans sa
                                        obtain ⟨ga, ha⟩ := keep s7a
                                        have ln : (acc ++ acc1).length ≤ 1000000 - 1 := by
                                          simp only [List.length_append, List.length_cons] at sml ⊢
                                          omega
                                        refine ⟨vs7, ha, by rw [hv7.len, sizeLine_eq]; omega, acc1 ++ [d], ds3, by rw [hdb2]; exact eds3, by simp, Ga, vs7 ++ [y], x67.trans s7a.g, (s27.trans s7a).mutd hD ga, ga, ?_, upd_same⟩
                                        rw [← List.append_assoc]
                                        exact (hv7.mono s7a.g).snoc qa
                                      · cases er1
                                    · cases er1
                                · cases er1
                        · cases er
                      · cases er
                    · rw [if_neg hbm] at er; cases er
                  · cases er
              · cases er
      · rw [if_neg hsm] at e; cases e
    · cases e
  · rename_i x e1
    cases e
    exact hs σ Γ G H R _ e1 _ q
  · cases e
theorem lst_lc2 (Γ : En) (d : D) (h : fLc2 src st ft src1 st1 ft1 fe vs vs1 Γ = some (.val d)) : ∃ ds, d = .list ds := by
  unfold fLc2 at h
  split at h
  · split at h
    · split at h
      · cases h; exact ⟨_, rfl⟩
      · cases h
    · cases h
  · cases h
  · cases h
theorem u_lc2 (hs : Si E ad wi src) (hg : Sg g st js) (ht : Sb E ad tt ft) (hs1 : Si E ad wi1 src1) (hg1 : Sg g1 st1 js1) (ht1 : Sb E ad tt1 ft1) (he : Se E ad te fe) (hj : ∀ j ∈ js, j ∈ vs) (hj1 : ∀ j ∈ js1, j ∈ vs1) :
    Se E ad (tLc2 wi g tt wi1 g1 tt1 te vs vs1) (fLc2 src st ft src1 st1 ft1 fe vs vs1) := (m_lc2 hs hg ht hs1 hg1 ht1 he hj hj1).se lst_lc2
end
end Mv
namespace Mv
open PySem L2 Evl
def lkC : Ce → Ce
  | .ml ds => .d (.list ds)
  | c => c
def lockG (k : Nat → Bool) : Nat → En → En
  | _, [] => []
  | i, c :: cs => (if k i = true then lkC c else c) :: lockG k (i + 1) cs
def lockL (k : Nat → Bool) (Γ : En) : En := lockG k 0 Γ
theorem lockG_at {k : Nat → Bool} : ∀ {Γ : En} {j i : Nat} {c : Ce}, (lockG k j Γ)[i]? = some c → ∃ c0, Γ[i]? = some c0 ∧ c = (if k (j + i) = true then lkC c0 else c0)
  | [], j, i, c, h => by simp [lockG] at h
  | x :: Γ, j, 0, c, h => by
    simp only [lockG, List.getElem?_cons_zero, Option.some.injEq] at h
    exact ⟨x, rfl, h.symm⟩
  | x :: Γ, j, i + 1, c, h => by
    simp only [lockG, List.getElem?_cons_succ] at h
    obtain ⟨c0, h1, h2⟩ := lockG_at (Γ := Γ) (j := j + 1) h
    exact ⟨c0, h1, by rw [h2]; congr 3 <;> omega⟩
theorem lockG_len {k : Nat → Bool} : ∀ {Γ : En} {j : Nat}, (lockG k j Γ).length = Γ.length
  | [], _ => rfl
  | _ :: Γ, j => by simp [lockG, lockG_len (Γ := Γ)]
mutual
def noL : D → Bool
  | .list _ => false
  | .dict _ => false
  | .tuple xs => noLs xs
  | _ => true
def noLs : List D → Bool
  | [] => true
  | x :: xs => noL x && noLs xs
end
mutual
theorem Dq.cut {G G' : Hp} (h : ∀ b o, G b = some o → (∀ us, o ≠ .lst us) → G' b = some o) : ∀ {v : V} {d : D}, Dq G v d → noL d = true → Dq G' v d
  | _, _, .non, _ => .non
  | _, _, .bl b, _ => .bl b
  | _, _, .int i, _ => .int i
  | _, _, .str s, _ => .str s
  | _, _, .lst _ _, f => by simp [noL] at f
  | _, _, .tup e k, f => .tup (e.by fun o z e => h _ _ e fun _ q => by rcases z with rfl | ⟨_, rfl⟩ <;> cases q) (DqA.cut h k (by simpa [noL] using f))
  | _, _, .emp _ _, f => by simp [noL] at f
  | _, _, .dct _ _ _, f => by simp [noL] at f
theorem DqA.cut {G G' : Hp} (h : ∀ b o, G b = some o → (∀ us, o ≠ .lst us) → G' b = some o) : ∀ {vs : List V} {ds : List D}, DqA G vs ds → noLs ds = true → DqA G' vs ds
  | _, _, .nil, _ => .nil
  | _, _, .cons q k, f => by
    simp only [noLs, Bool.and_eq_true] at f
    exact .cons (Dq.cut h q f.1) (DqA.cut h k f.2)
end
structure Lkd (G H G' : Hp) (Γ : En) (σ : L2.St) : Prop where
  x : Ex G G'
  b : ∀ b : Addr, G' b = G b ∨ (G b = none ∧ (∃ us : List V, H b = some (.lst us) ∧ G' b = some (.lst us)) ∧ ∃ (i : Nat) (ds : List D), Γ[i]? = some (Ce.ml ds) ∧ σ[i]? = some (some (V.ref b)))
section
variable {G H G' H' G1 H1 G2 H2 : Hp} {σ : L2.St} {Γ Γ' : En} {k : Nat → Bool}
open Classical in
theorem Rel.lock (h : Rel G H σ Γ) (k : Nat → Bool) : ∃ G', Lkd G H G' Γ σ ∧ Rel G' H σ (lockL k Γ) := by
  let P : Addr → Prop := fun b => ∃ (i : Nat) (ds : List D), k i = true ∧ Γ[i]? = some (Ce.ml ds) ∧ σ[i]? = some (some (V.ref b))
  let G' : Hp := fun b => if P b then H b else G b
  have gP : ∀ b, P b → G b = none ∧ ∃ us, H b = some (.lst us) := by
    rintro b ⟨i, ds, _, e1, e2⟩
    obtain ⟨p, e3, m⟩ := h.c i _ e1
    rw [e2] at e3
    cases e3
    obtain ⟨us, e4, _⟩ := m.at_
    exact ⟨m.g, us, e4⟩
  have x : Ex G G' := fun b o e => by
    show (if P b then H b else G b) = some o
    by_cases p : P b
    · rw [(gP b p).1] at e; cases e
    · rw [if_neg p]; exact e
  have w : Ex G' H := fun b o e => by
    have e' : (if P b then H b else G b) = some o := e
    by_cases p : P b
    · rw [if_pos p] at e'; exact e'
    · rw [if_neg p] at e'; exact h.w b o e'
  have keepM : ∀ i (c : Ce) p, Γ[i]? = some c → isMut c = true → σ[i]? = some (some (.ref p)) → ((∃ ds, c = .ml ds) → k i = false) → ¬ P p := by
    rintro i c p e1 m e2 hk ⟨j, ds, kj, e3, e4⟩
    have := h.sep i j p c _ e1 e3 m rfl e2 e4
    subst this
    rw [e1] at e3
    cases e3
    rw [hk ⟨ds, rfl⟩] at kj
    cases kj
  refine ⟨G', ⟨x, fun b => ?_⟩, w, by show σ.length = (lockG k 0 Γ).length; rw [lockG_len]; exact h.len, fun i c e => ?_, fun i j p ci cj e1 e2 m1 m2 s1 s2 => ?_⟩
  · show (if P b then H b else G b) = G b ∨ _
    by_cases p : P b
    · have p' := p
      obtain ⟨i, ds, _, e1, e2⟩ := p'
      obtain ⟨g, us, eh⟩ := gP b p
      refine .inr ⟨g, ⟨us, eh, ?_⟩, i, ds, e1, e2⟩
      show (if P b then H b else G b) = _
      rw [if_pos p]; exact eh
    · exact .inl (if_neg p)
  · obtain ⟨c0, e0, rfl⟩ := lockG_at e
    rw [Nat.zero_add] at e ⊢
    have hc := h.c i c0 e0
    cases c0 with
    | un => by_cases hk : k i = true <;> simp only [hk, lkC, if_true, if_false] <;> trivial
    | d z =>
      have : (if k i = true then lkC (.d z) else Ce.d z) = .d z := by split <;> rfl
      rw [this]
      obtain ⟨v, e1, q⟩ := hc
      exact ⟨v, e1, q.mono x⟩
    | ml ds =>
      obtain ⟨p, e1, m⟩ := hc
      obtain ⟨us, e2, q⟩ := m.at_
      by_cases hk : k i = true
      · rw [if_pos hk]
        refine ⟨.ref p, e1, .lst ?_ (q.mono x)⟩
        show (if P p then H p else G p) = _
        rw [if_pos ⟨i, ds, hk, e0, e1⟩]; exact e2
      · rw [if_neg hk]
        have np := keepM i _ p e0 rfl e1 (fun _ => by simpa using hk)
        exact ⟨p, e1, by show (if P p then H p else G p) = none; rw [if_neg np]; exact m.g, us, e2, q.mono x⟩
    | fx v =>
      have : (if k i = true then lkC (.fx v) else Ce.fx v) = .fx v := by split <;> rfl
      rw [this]
      exact hc
    | md es =>
      have : (if k i = true then lkC (.md es) else Ce.md es) = .md es := by split <;> rfl
      rw [this]
      obtain ⟨p, e1, m⟩ := hc
      obtain ⟨us, e2, q⟩ := m.at_
      have np := keepM i _ p e0 rfl e1 (fun ⟨_, z⟩ => nomatch z)
      exact ⟨p, e1, by show (if P p then H p else G p) = none; rw [if_neg np]; exact m.g, us, e2, q.mono x⟩
  · obtain ⟨c1, f1, rfl⟩ := lockG_at e1
    obtain ⟨c2, f2, rfl⟩ := lockG_at e2
    have mm : ∀ {c : Ce} {b : Prop} [Decidable b], isMut (if b then lkC c else c) = true → isMut c = true := by
      intro c b _ hm
      split at hm
      · cases c <;> first | rfl | cases hm
      · exact hm
    exact h.sep i j p c1 c2 f1 f2 (mm m1) (mm m2) s1 s2
noncomputable def unlk (G G' G2 : Hp) : Hp := fun b => by
  classical exact if G' b = G b then G2 b else none
theorem Lkd.back (l : Lkd G H G' Γ σ) (s : Stp G' H G2 H2) : Stp G H (unlk G G' G2) H2 ∧ (∀ b o, G2 b = some o → (∀ us, o ≠ .lst us) → unlk G G' G2 b = some o) ∧ (∀ b, H b = none → unlk G G' G2 b = G2 b) := by
  classical
  have un : ∀ b, unlk G G' G2 b = if G' b = G b then G2 b else none := fun b => by unfold unlk; split <;> rename_i h <;> simp [h]
  refine ⟨⟨fun b o e => ?_, s.h, fun b o e => ?_, fun b h1 h2 h3 => ?_⟩, fun b o e ne => ?_, fun b e => ?_⟩
  · rcases l.b b with q | ⟨q, _⟩
    · rw [un, if_pos q]; exact s.g _ _ (l.x _ _ e)
    · rw [q] at e; cases e
  · rw [un] at e
    by_cases q : G' b = G b
    · rw [if_pos q] at e; exact s.w _ _ e
    · rw [if_neg q] at e; cases e
  · rw [un]
    by_cases q : G' b = G b
    · rw [if_pos q]; exact s.n b (q.trans h1) h2 h3
    · rw [if_neg q]
  · rw [un]
    by_cases q : G' b = G b
    · rw [if_pos q]; exact e
    · rcases l.b b with q2 | ⟨_, ⟨us, _, q2⟩, _⟩
      · exact (q q2).elim
      · rw [s.g _ _ q2] at e; cases e; exact (ne us rfl).elim
  · rw [un]
    by_cases q : G' b = G b
    · rw [if_pos q]
    · rcases l.b b with q2 | ⟨_, ⟨us, q2, _⟩, _⟩
      · exact (q q2).elim
      · rw [e] at q2; cases q2
variable {E : XK} {ad : Str → Addr} {te : TE} {tt : TT} {fe ft : En → Re}
def fLk (fe : En → Re) (Γ : En) : Re := match fe (lockL (fun _ => true) Γ) with
  | some (.val d) => if noL d = true then some (.val d) else none
  | r => r
def fLkB (fe : En → Re) (Γ : En) : Re := fe (lockL (fun _ => true) Γ)
def fLkM (fe : En → Re) (Γ : En) : Re := match fe (lockL (fun _ => true) Γ) with
  | some (.val (.list ds)) => if noLs ds = true then some (.val (.list ds)) else none
  | some (.exc x) => some (.exc x)
  | _ => none
theorem u_lkB (h : Sb E ad tt ft) : Sb E ad tt (fLkB ft) := fun σ Γ G H R r e Q q => by
  obtain ⟨G', l, R'⟩ := R.lock (fun _ => true)
  refine h σ _ G' H R' r e Q ?_
  cases r with
  | val d =>
    cases d with
    | bool b => exact fun G2 H2 s2 => q _ H2 (l.back s2).1
    | _ => exact q
  | exc x => exact fun G2 H2 s2 => q _ H2 (l.back s2).1
theorem m_lk (h : Sm E ad te fe) : Sm E ad te (fLkM fe) := fun σ Γ G H R r e Q q => by
  obtain ⟨G', l, R'⟩ := R.lock (fun _ => true)
  unfold fLkM at e
  split at e
  · rename_i ds e1
    by_cases hd : noLs ds = true
    · rw [if_pos hd] at e
      cases e
      refine h σ _ G' H R' _ e1 _ fun p G2 H2 s2 hp m => ?_
      obtain ⟨s3, c3, n3⟩ := l.back s2
      obtain ⟨us, e4, q4⟩ := m.at_
      exact q p _ H2 s3 hp ⟨by rw [n3 p hp]; exact m.g, us, e4, q4.cut c3 hd⟩
    · rw [if_neg hd] at e; cases e
  · rename_i x e1
    cases e
    exact h σ _ G' H R' _ e1 _ fun G2 H2 s2 => q _ H2 (l.back s2).1
  · cases e
inductive Fl where
  | nx (Γ : En)
  | rt (d : D)
  | ex (x : Str)
  | bk (Γ : En)
  | ct (Γ : En)
abbrev Rf := Option Fl
structure RelS (G0 H0 G H : Hp) (σ : L2.St) (Γ : En) : Prop where
  r : Rel G H σ Γ
  s : Stp G0 H0 G H
  n : ∀ (i : Nat) (c : Ce) (p : Addr), Γ[i]? = some c → isMut c = true → σ[i]? = some (some (.ref p)) → H0 p = none
variable {G0 H0 : Hp}
theorem RelS.stp (h : RelS G0 H0 G H σ Γ) (s : Stp G H G' H') : RelS G0 H0 G' H' σ Γ := ⟨h.r.stp s, h.s.trans s, h.n⟩
variable (E ad)
def PoS (G0 H0 G : Hp) (D' : Ends) : Fl → Prop
  | .nx Γ => ∀ σ G2 H2, RelS G0 H0 G2 H2 σ Γ → Ex G G2 → D'.nx σ H2
  | .rt d => ∀ v G2 H2, Stp G0 H0 G2 H2 → Dq G2 v d → D'.rt v H2
  | .ex x => ∀ G2 H2, Stp G0 H0 G2 H2 → XE E ad x H2
  | .bk Γ => ∀ σ G2 H2, RelS G0 H0 G2 H2 σ Γ → Ex G G2 → D'.bk σ H2
  | .ct Γ => ∀ σ G2 H2, RelS G0 H0 G2 H2 σ Γ → Ex G G2 → D'.ct σ H2
def Ss (ts : TS) (fs : En → Rf) : Prop := ∀ G0 H0 σ Γ G H, RelS G0 H0 G H σ Γ → ∀ r, fs Γ = some r → ∀ D', PoS E ad G0 H0 G D' r → ts D' σ H
variable {E ad}
theorem PoS.mono {D' : Ends} {r : Fl} (h : PoS E ad G0 H0 G D' r) (x : Ex G G') : PoS E ad G0 H0 G' D' r := by
  cases r with
  | nx Γ => exact fun σ G2 H2 R e => h σ G2 H2 R (x.trans e)
  | rt d => exact h
  | ex x => exact h
  | bk Γ => exact fun σ G2 H2 R e => h σ G2 H2 R (x.trans e)
  | ct Γ => exact fun σ G2 H2 R e => h σ G2 H2 R (x.trans e)
variable {ts tu : TS} {fs fu : En → Rf} {g : TG} {st : Fs} {js : List Nat} {ta tb : TE} {fa fb : En → Re}
def fSeq (fs fu : En → Rf) (Γ : En) : Rf := match fs Γ with
  | some (.nx Γ1) => fu Γ1
  | r => r
def fNext (Γ : En) : Rf := some (.nx Γ)
def fAsg (fe : En → Re) (st : Fs) (Γ : En) : Rf := match fe Γ with
  | some (.val d) => match st d Γ with
    | some Γ1 => some (.nx Γ1)
    | none => none
  | some (.exc x) => some (.ex x)
  | none => none
def fAsgM (fe : En → Re) (i : Nat) (Γ : En) : Rf := match fe Γ with
  | some (.val (.list ds)) => some (.nx (Γ.set i (.ml ds)))
  | some (.exc x) => some (.ex x)
  | _ => none
def fRet (fe : En → Re) (Γ : En) : Rf := match fe (lockL (fun _ => true) Γ) with
  | some (.val d) => some (.rt d)
  | some (.exc x) => some (.ex x)
  | none => none
def fRetN (_ : En) : Rf := some (.rt .none)
def fDrop (fe : En → Re) (Γ : En) : Rf := match fe (lockL (fun _ => true) Γ) with
  | some (.val _) => some (.nx Γ)
  | some (.exc x) => some (.ex x)
  | none => none
def fIfS (ft : En → Re) (fs fu : En → Rf) (Γ : En) : Rf := match ft Γ with
  | some (.val (.bool b)) => if b = true then fs Γ else fu Γ
  | some (.exc x) => some (.ex x)
  | _ => none
def fRaise (x : Str) (_ : En) : Rf := some (.ex x)
def fFrz (k : Nat → Bool) (fs : En → Rf) (Γ : En) : Rf := fs (lockL k Γ)
theorem u_next : Ss E ad tNext fNext := fun G0 H0 σ Γ G H R r e D' q => by
  cases e
  exact q σ G H R (.refl G)
theorem u_seq (hs : Ss E ad ts fs) (hu : Ss E ad tu fu) : Ss E ad (tSeq ts tu) (fSeq fs fu) := fun G0 H0 σ Γ G H R r e D' q => by
  unfold fSeq at e
  split at e
  · rename_i Γ1 e1
    exact hs G0 H0 σ Γ G H R _ e1 { D' with nx := tu D' } fun σ2 G2 H2 R2 x => hu G0 H0 σ2 Γ1 G2 H2 R2 _ e _ (q.mono x)
  · rename_i ne
    refine hs G0 H0 σ Γ G H R _ e { D' with nx := tu D' } ?_
    cases r with
    | nx Γ1 => exact (ne Γ1 e).elim
    | _ => exact q
theorem u_asg (he : Se E ad te fe) (hg : Sg g st js) : Ss E ad (tAsg te g) (fAsg fe st) := fun G0 H0 σ Γ G H R r e D' q => by
  unfold fAsg at e
  split at e
  · rename_i d e1
    split at e
    · rename_i Γ1 e2
      cases e
      refine he σ Γ G H R.r _ e1 _ fun v G2 H2 s2 q2 => ?_
      have R2 := R.stp s2
      refine hg σ Γ G2 H2 R2.r v d Γ1 q2 e2 _ fun σ3 R3 l3 o3 m3 _ => q σ3 G2 H2 ⟨R3 G2 H2 (.refl _) R2.r, R2.s, fun i c p ec mc ep => ?_⟩ s2.g
      obtain ⟨h1, h2⟩ := m3 i c ec mc
      exact R2.n i c p h1 mc (h2 ▸ ep)
    · cases e
  · rename_i x e1
    cases e
    exact he σ Γ G H R.r _ e1 _ fun G2 H2 s2 => q G2 H2 (R.s.trans s2)
  · cases e
theorem RelS.setM {p : Addr} {ds : List D} {j : Nat} (R : RelS G0 H0 G H σ Γ) (s : Stp G H G' H') (hp : H p = none) (m : ML G' H' p ds) : RelS G0 H0 G' H' (σ.set j (some (.ref p))) (Γ.set j (.ml ds)) := by
  have R2 := R.stp s
  have apart : ∀ {i : Nat} {c : Ce}, Γ[i]? = some c → isMut c = true → σ[i]? ≠ some (some (.ref p)) := fun {i c} e mc z => by
    have := R.r.c i c e
    cases c with
    | ml d =>
      obtain ⟨p2, e2, m2⟩ := this
      rw [z] at e2; cases e2
      obtain ⟨us, e3, _⟩ := m2.at_
      rw [hp] at e3; cases e3
    | md d =>
      obtain ⟨p2, e2, m2⟩ := this
      rw [z] at e2; cases e2
      obtain ⟨us, e3, _⟩ := m2.at_
      rw [hp] at e3; cases e3
    | _ => cases mc
  refine ⟨⟨R2.r.w, by rw [List.length_set, List.length_set]; exact R2.r.len, fun i c e => ?_, fun i k q ci ck e1 e2 m1 m2 s1 s2 => ?_⟩, R2.s, fun i c q e mc eq => ?_⟩
  · rcases set_at e with ⟨rfl, hl, rfl⟩ | ⟨ne, e⟩
    · exact ⟨p, List.getElem?_set_self (by rw [R2.r.len]; exact hl), m⟩
    · rw [List.getElem?_set_ne (fun z => ne z.symm)]
      exact R2.r.c i c e
  · rcases set_at e1 with ⟨rfl, hl, rfl⟩ | ⟨ne, f1⟩
    · rcases set_at e2 with ⟨rfl, _, rfl⟩ | ⟨ne2, f2⟩
      · rfl
      · rw [List.getElem?_set_self (by rw [R2.r.len]; exact hl)] at s1
        cases s1
        rw [List.getElem?_set_ne (fun z => ne2 z.symm)] at s2
        exact (apart f2 m2 s2).elim
    · rw [List.getElem?_set_ne (fun z => ne z.symm)] at s1
      rcases set_at e2 with ⟨rfl, hl, rfl⟩ | ⟨ne2, f2⟩
      · rw [List.getElem?_set_self (by rw [R2.r.len]; exact hl)] at s2
        cases s2
        exact (apart f1 m1 s1).elim
      · rw [List.getElem?_set_ne (fun z => ne2 z.symm)] at s2
        exact R2.r.sep i k q ci ck f1 f2 m1 m2 s1 s2
  · rcases set_at e with ⟨rfl, hl, rfl⟩ | ⟨ne, e⟩
    · rw [List.getElem?_set_self (by rw [R2.r.len]; exact hl)] at eq
      cases eq
      exact h_old R.s hp
    · rw [List.getElem?_set_ne (fun z => ne z.symm)] at eq
      exact R2.n i c q e mc eq
theorem u_asgM {i : Nat} (he : Sm E ad te fe) : Ss E ad (tAsg te (gName i)) (fAsgM fe i) := fun G0 H0 σ Γ G H R r e D' q => by
  unfold fAsgM at e
  split at e
  · rename_i ds e1
    cases e
    exact he σ Γ G H R.r _ e1 (fun v H2 => D'.nx (σ.set i (some v)) H2) fun p G2 H2 s2 hp m => q _ G2 H2 (R.setM s2 hp m) s2.g
  · rename_i x e1
    cases e
    exact he σ Γ G H R.r _ e1 _ fun G2 H2 s2 => q G2 H2 (R.s.trans s2)
  · cases e
theorem RelS.lock (R : RelS G0 H0 G H σ Γ) (k : Nat → Bool) : ∃ G', Ex G G' ∧ RelS G0 H0 G' H σ (lockL k Γ) := by
  obtain ⟨G', l, R'⟩ := R.r.lock k
  refine ⟨G', l.x, R', ⟨R.s.g.trans l.x, R.s.h, R'.w, fun b h1 h2 h3 => ?_⟩, fun i c p e m ep => ?_⟩
  · rcases l.b b with q | ⟨_, _, i, ds, e1, e2⟩
    · rw [q]; exact R.s.n b h1 h2 h3
    · exact (h2 (R.n i _ b e1 rfl e2)).elim
  · obtain ⟨c0, e0, rfl⟩ := lockG_at e
    have mm : isMut c0 = true := by
      split at m
      · cases c0 <;> first | rfl | cases m
      · exact m
    exact R.n i c0 p e0 mm ep
theorem u_ret (he : Se E ad te fe) : Ss E ad (tRet te) (fRet fe) := fun G0 H0 σ Γ G H R r e D' q => by
  obtain ⟨G', x, R'⟩ := R.lock (fun _ => true)
  unfold fRet at e
  split at e
  · rename_i d e1
    cases e
    exact he σ _ G' H R'.r _ e1 _ fun v G2 H2 s2 q2 => q v G2 H2 (R'.s.trans s2) q2
  · rename_i x e1
    cases e
    exact he σ _ G' H R'.r _ e1 _ fun G2 H2 s2 => q G2 H2 (R'.s.trans s2)
  · cases e
theorem u_drop (he : Se E ad te fe) : Ss E ad (tDrop te) (fDrop fe) := fun G0 H0 σ Γ G H R r e D' q => by
  obtain ⟨G', l, R'⟩ := R.r.lock (fun _ => true)
  unfold fDrop at e
  split at e
  · rename_i d e1
    cases e
    refine he σ _ G' H R' _ e1 _ fun v G2 H2 s2 q2 => ?_
    have s3 := (l.back s2).1
    exact q σ _ H2 (R.stp s3) s3.g
  · rename_i x e1
    cases e
    exact he σ _ G' H R' _ e1 _ fun G2 H2 s2 => q _ H2 (R.s.trans (l.back s2).1)
  · cases e
theorem u_ifS (ht : Sb E ad tt ft) (hs : Ss E ad ts fs) (hu : Ss E ad tu fu) : Ss E ad (tIfS tt ts tu) (fIfS ft fs fu) := fun G0 H0 σ Γ G H R r e D' q => by
  unfold fIfS at e
  split at e
  · rename_i b e1
    refine ht σ Γ G H R.r _ e1 _ fun G2 H2 s2 => ?_
    cases b with
    | true =>
      rw [if_pos rfl] at e ⊢
      exact hs G0 H0 σ Γ G2 H2 (R.stp s2) _ e _ (q.mono s2.g)
    | false =>
      rw [if_neg (by decide)] at e ⊢
      exact hu G0 H0 σ Γ G2 H2 (R.stp s2) _ e _ (q.mono s2.g)
  · rename_i x e1
    cases e
    exact ht σ Γ G H R.r _ e1 _ fun G2 H2 s2 => q G2 H2 (R.s.trans s2)
  · cases e
theorem u_raise {x : Str} (hx : tmOf x = none := by decide) : Ss E ad (fun _ _ H => E (.ref (ad x)) none H) (fRaise x) := fun G0 H0 σ Γ G H R r e D' q => by
  cases e
  exact (q G H R.s).plain hx
theorem u_frz (k : Nat → Bool) (h : Ss E ad ts fs) : Ss E ad ts (fFrz k fs) := fun G0 H0 σ Γ G H R r e D' q => by
  obtain ⟨G', x, R'⟩ := R.lock k
  exact h G0 H0 σ _ G' H R' r e D' (q.mono x)
def cellOf (m : Bool) (d : D) : Option Ce := if m = true then (match d with
  | .list ds => some (.ml ds)
  | _ => none) else some (.d d)
def fPar (m1 m2 : Bool) (i j : Nat) (fa fb : En → Re) (Γ : En) : Rf := match fa Γ with
  | some (.val x) => match cellOf m1 x with
    | some c1 => match fb Γ with
      | some (.val y) => match cellOf m2 y with
        | some c2 => some (.nx ((Γ.set i c1).set j c2))
        | none => none
      | some (.exc x) => some (.ex x)
      | none => none
    | none => none
  | some (.exc x) => some (.ex x)
  | none => none
def Sx (E : XK) (ad : Str → Addr) (m : Bool) (te : TE) (f : En → Re) : Prop := if m = true then Sm E ad te f else Se E ad te f
theorem RelS.setD {v : V} {d : D} {j : Nat} (R : RelS G0 H0 G H σ Γ) (q : Dq G v d) : RelS G0 H0 G H (σ.set j (some v)) (Γ.set j (.d d)) := ⟨R.r.set q, R.s, fun i c p e mc ep => by
  rcases set_at e with ⟨rfl, hl, rfl⟩ | ⟨ne, e⟩
  · cases mc
  · rw [List.getElem?_set_ne (fun z => ne z.symm)] at ep
    exact R.n i c p e mc ep⟩
theorem par_snd {m2 : Bool} {i j : Nat} {c1 : Ce} {v : V} {D' : Ends} {r : Fl} (h2 : Sx E ad m2 tb fb) (R2 : Rel G H σ Γ) (R3 : RelS G0 H0 G H (σ.set i (some v)) (Γ.set i c1))
    (e : (match fb Γ with
      | some (.val y) => match cellOf m2 y with
        | some c2 => some (Fl.nx ((Γ.set i c1).set j c2))
        | none => none
      | some (.exc x) => some (.ex x)
      | none => none) = some r) (q : PoS E ad G0 H0 G D' r) : tCons tb tNil σ H fun vs H3 => ∃ v' w, v :: vs = [v', w] ∧ D'.nx ((σ.set i (some v')).set j (some w)) H3 := by
  split at e
  · rename_i y e2
    split at e
    · rename_i c2 k2
      cases e
      cases m2 with
      | false =>
        have h2' : Se E ad tb fb := h2
        cases k2
        exact h2' σ Γ G H R2 _ e2 _ fun u G3 H3 s3 q3 => ⟨v, u, rfl, q _ G3 H3 ((R3.stp s3).setD q3) s3.g⟩
      | true =>
        have h2' : Sm E ad tb fb := h2
        cases y with
        | list ds =>
          cases k2
          exact h2' σ Γ G H R2 _ e2 (fun u H3 => tNil σ H3 fun us H3 => ∃ v' w, v :: u :: us = [v', w] ∧ D'.nx ((σ.set i (some v')).set j (some w)) H3) fun p2 G3 H3 s3 hp2 m2 => ⟨v, .ref p2, rfl, q _ G3 H3 (R3.setM s3 hp2 m2) s3.g⟩
        | _ => cases k2
    · cases e
  · rename_i x e2
    cases e
    cases m2 with
    | false => exact (show Se E ad tb fb from h2) σ Γ G H R2 _ e2 _ fun G3 H3 s3 => q G3 H3 (R3.s.trans s3)
    | true => exact (show Sm E ad tb fb from h2) σ Γ G H R2 _ e2 _ fun G3 H3 s3 => q G3 H3 (R3.s.trans s3)
  · cases e
theorem u_par {m1 m2 : Bool} {i j : Nat} (h1 : Sx E ad m1 ta fa) (h2 : Sx E ad m2 tb fb) : Ss E ad (tPar i j (tCons ta (tCons tb tNil))) (fPar m1 m2 i j fa fb) := fun G0 H0 σ Γ G H R r e D' q => by
  unfold fPar at e
  split at e
  · rename_i x e1
    split at e
    · rename_i c1 k1
      cases m1 with
      | false =>
        have h1' : Se E ad ta fa := h1
        cases k1
        exact h1' σ Γ G H R.r _ e1 _ fun v G2 H2 s2 q2 => par_snd h2 (R.r.stp s2) ((R.stp s2).setD q2) e (q.mono s2.g)
      | true =>
        have h1' : Sm E ad ta fa := h1
        cases x with
        | list ds1 =>
          cases k1
          exact h1' σ Γ G H R.r _ e1 (fun v H2 => tCons tb tNil σ H2 fun vs H3 => ∃ v' w, v :: vs = [v', w] ∧ D'.nx ((σ.set i (some v')).set j (some w)) H3) fun p G2 H2 s2 hp m => par_snd h2 (R.r.stp s2) (R.setM s2 hp m) e (q.mono s2.g)
        | _ => cases k1
    · cases e
  · rename_i x e1
    cases e
    cases m1 with
    | false => exact (show Se E ad ta fa from h1) σ Γ G H R.r _ e1 _ fun G3 H3 s3 => q G3 H3 (R.s.trans s3)
    | true => exact (show Sm E ad ta fa from h1) σ Γ G H R.r _ e1 _ fun G3 H3 s3 => q G3 H3 (R.s.trans s3)
  · cases e
def forGo (st : Fs) (body : En → Rf) : List D → En → Rf
  | [], Γ => some (.nx Γ)
  | a :: as, Γ => match st a Γ with
    | none => none
    | some Γ1 => match body Γ1 with
      | some (.nx Γ2) => forGo st body as Γ2
      | some (.ct Γ2) => forGo st body as Γ2
      | some (.bk Γ2) => some (.nx Γ2)
      | r => r
def fFor (src : En → Ra) (st : Fs) (body : En → Rf) (Γ : En) : Rf := match src Γ with
  | some (.vals as) => forGo st body as Γ
  | some (.exc x) => some (.ex x)
  | none => none
theorem u_for {wi : TI} {src : En → Ra} (hs : Si E ad wi src) (hg : Sg g st js) (hb : Ss E ad ts fs) : Ss E ad (tFor wi g ts) (fFor src st fs) := fun G0 H0 σ Γ G H R r e D' q => by
  unfold fFor at e
  split at e
  · rename_i as e1
    refine hs σ Γ G H R.r _ e1 _ fun J G1 H1 s1 wl0 => ?_
    have wl := wl0.mono noT_ex
    refine ⟨fun i m σ' H' => m = as.length - i ∧ i ≤ as.length ∧ ∃ Γi Gi, RelS G0 H0 Gi H' σ' Γi ∧ Ex G1 Gi ∧ forGo st fs (as.drop i) Γi = some r, ⟨as.length, rfl, Nat.zero_le _, Γ, G1, R.stp s1, .refl _, e⟩, ?_⟩
    rintro i m σ' H' ⟨rfl, hi, Γi, Gi, Ri, xi, ei⟩
    have qi := q.mono (s1.g.trans xi)
    cases hd : as.drop i with
    | nil =>
      have el : i = as.length := by
        have := congrArg List.length hd
        rw [List.length_drop, List.length_nil] at this
        omega
      rw [hd] at ei
      cases ei
      exact .inl ⟨(wl i H' (xi.trans Ri.r.w)).2 el, qi σ' Gi H' Ri (.refl _)⟩
    | cons a as2 =>
      obtain ⟨ha, hd2⟩ := drop_at hd
      have hlt : i < as.length := (List.getElem?_eq_some_iff.mp ha).1
      obtain ⟨hgo, hy⟩ := (wl i H' (xi.trans Ri.r.w)).1 a ha
      refine .inr ⟨hgo, fun σ2 H2 => ∃ Γ2 G2, RelS G0 H0 G2 H2 σ2 Γ2 ∧ Ex G1 G2 ∧ forGo st fs (as.drop (i + 1)) Γ2 = some r, fun σ2 H2 hN => ⟨as.length - (i + 1), by omega, rfl, hlt, hN⟩, ?_⟩
      intro v H2 hyl
      obtain ⟨G2, s2, qv⟩ := hy v H2 hyl Gi xi Ri.r.w
      have R2 := Ri.stp s2
      have q2 := qi.mono s2.g
      rw [hd] at ei
      unfold forGo at ei
      cases hst : st a Γi with
      | none => rw [hst] at ei; cases ei
      | some Γ1 =>
        rw [hst] at ei
        dsimp only at ei
        refine hg σ' Γi G2 H2 R2.r v a Γ1 qv hst _ fun σ3 R3 l3 o3 m3 _ => ?_
        have RS3 : RelS G0 H0 G2 H2 σ3 Γ1 := ⟨R3 G2 H2 (.refl _) R2.r, R2.s, fun i c p ec mc ep => by
          obtain ⟨h1, h2⟩ := m3 i c ec mc
          exact R2.n i c p h1 mc (h2 ▸ ep)⟩
        split at ei
        · rename_i Γ2 eb
          exact hb G0 H0 σ3 Γ1 G2 H2 RS3 _ eb _ fun σ4 G4 H4 R4 x4 => ⟨Γ2, G4, R4, (xi.trans s2.g).trans x4, by rw [hd2]; exact ei⟩
        · rename_i Γ2 eb
          exact hb G0 H0 σ3 Γ1 G2 H2 RS3 _ eb _ fun σ4 G4 H4 R4 x4 => ⟨Γ2, G4, R4, (xi.trans s2.g).trans x4, by rw [hd2]; exact ei⟩
        · rename_i Γ2 eb
          cases ei
          exact hb G0 H0 σ3 Γ1 G2 H2 RS3 _ eb _ q2
        · rename_i n1 n2 n3
          refine hb G0 H0 σ3 Γ1 G2 H2 RS3 _ ei _ ?_
          cases r with
          | nx Γ2 => exact (n1 Γ2 ei).elim
          | ct Γ2 => exact (n2 Γ2 ei).elim
          | bk Γ2 => exact (n3 Γ2 ei).elim
          | _ => exact q2
  · rename_i x e1
    cases e
    exact hs σ Γ G H R.r _ e1 _ fun G2 H2 s2 => q G2 H2 (R.s.trans s2)
  · cases e
def fApp (i : Nat) (fe : En → Re) (Γ : En) : Rf := match Γ[i]? with
  | some (.ml ds) => match fe Γ with
    | some (.val d) => if small ds.length = true then some (.nx (Γ.set i (.ml (ds ++ [d])))) else none
    | some (.exc x) => some (.ex x)
    | none => none
  | _ => none
theorem RelS.mut {p : Addr} {ds ds2 : List D} {o : HO} {i : Nat} (R : RelS G0 H0 G H σ Γ) (e : Γ[i]? = some (.ml ds)) (ep : σ[i]? = some (some (.ref p))) (m : ML G (upd H p o) p ds2) : RelS G0 H0 G (upd H p o) σ (Γ.set i (.ml ds2)) := by
  have h0 := R.n i _ p e rfl ep
  have others : ∀ {k : Nat} {c : Ce} {q : Addr}, k ≠ i → Γ[k]? = some c → isMut c = true → σ[k]? = some (some (.ref q)) → q ≠ p := fun {k c q} ne ek mk eq z => ne (R.r.sep k i p c _ ek e mk rfl (z ▸ eq) ep)
  have s2 : Stp G0 H0 G (upd H p o) := R.s.mutd h0 m.g
  refine ⟨⟨s2.w, by rw [List.length_set]; exact R.r.len, fun k c ec => ?_, fun k l q ck cl e1 e2 m1 m2 s1 s2 => ?_⟩, s2, fun k c q ec mc eq => ?_⟩
  · rcases set_at ec with ⟨rfl, hl, rfl⟩ | ⟨ne, ec⟩
    · exact ⟨p, ep, m⟩
    · have hc := R.r.c k c ec
      cases c with
      | un => trivial
      | fx v => exact hc
      | d z => exact hc
      | ml es =>
        obtain ⟨q, eq, mq⟩ := hc
        exact ⟨q, eq, mq.other (others ne ec rfl eq)⟩
      | md es =>
        obtain ⟨q, eq, mq⟩ := hc
        exact ⟨q, eq, mq.other (others ne ec rfl eq)⟩
  · have inj : ∀ {k : Nat} {c : Ce}, (Γ.set i (.ml ds2))[k]? = some c → isMut c = true → ∃ c0, Γ[k]? = some c0 ∧ isMut c0 = true := fun {k c} ek mk => by
      rcases set_at ek with ⟨rfl, hl, rfl⟩ | ⟨ne, ek⟩
      · exact ⟨_, e, rfl⟩
      · exact ⟨c, ek, mk⟩
    obtain ⟨c1, f1, n1⟩ := inj e1 m1
    obtain ⟨c2, f2, n2⟩ := inj e2 m2
    exact R.r.sep k l q c1 c2 f1 f2 n1 n2 s1 s2
  · rcases set_at ec with ⟨rfl, hl, rfl⟩ | ⟨ne, ec⟩
    · exact R.n k _ q e rfl eq
    · exact R.n k c q ec mc eq
theorem u_app {K : PySem.W.Frag} {i : Nat} (he : Se E ad te fe) : Ss E ad (tDrop (tBM K "list" rAppend (tVar i) (tCons te tNil))) (fApp i fe) := fun G0 H0 σ Γ G H R r e D' q => by
  unfold fApp at e
  split at e
  · rename_i ds e1
    obtain ⟨p, ep, m⟩ := R.r.c i _ e1
    obtain ⟨us, eu, qu⟩ := m.at_
    split at e
    · rename_i d e2
      by_cases hs : small ds.length = true
      · rw [if_pos hs] at e
        cases e
        have sml := small_le hs
        refine ⟨.ref p, ep, .inl ⟨rfl, us, SqL.of eu⟩, he σ Γ G H R.r _ e2 _ fun v G2 H2 s2 q2 => ?_⟩
        have m2 := m.stp s2
        obtain ⟨us2, e3, q3⟩ := m2.at_
        refine ⟨p, us2, v, rfl, rfl, e3, by rw [q3.len, sizeLine_eq]; omega, ?_⟩
        exact q σ G2 _ ((R.stp s2).mut e1 ep ⟨m2.g, _, upd_same, q3.snoc q2⟩) s2.g
      · rw [if_neg hs] at e; cases e
    · rename_i x e2
      cases e
      exact ⟨.ref p, ep, .inl ⟨rfl, us, SqL.of eu⟩, he σ Γ G H R.r _ e2 _ fun G2 H2 s2 => q G2 H2 (R.s.trans s2)⟩
    · cases e
  · cases e
def bodyD (fs : En → Rf) (n : Nat) (ds : List D) : Re := match fs ((ds.map Ce.d) ++ List.replicate n .un) with
  | some (.nx _) => some (.val .none)
  | some (.rt d) => some (.val d)
  | some (.ex x) => some (.exc x)
  | _ => none
theorem rel_start {vs : List V} {ds : List D} (w : Ex G H) (h : DqA G vs ds) {n : Nat} : RelS G H G H ((vs.map some) ++ List.replicate n none) ((ds.map Ce.d) ++ List.replicate n .un) := by
  have nm : ∀ {i : Nat} {c : Ce}, ((ds.map Ce.d) ++ List.replicate n .un)[i]? = some c → isMut c = false ∧ CellOk G H (((vs.map some) ++ List.replicate n none)[i]?) c := fun {i c} e => by
    by_cases hi : i < ds.length
    · rw [List.getElem?_append_left (by rw [List.length_map]; exact hi), List.getElem?_map] at e
      obtain ⟨d, hd, rfl⟩ := Option.map_eq_some_iff.mp e
      obtain ⟨v, hv, q⟩ := h.getD hd
      refine ⟨rfl, v, ?_, q⟩
      rw [List.getElem?_append_left (by rw [List.length_map, h.len]; exact hi), List.getElem?_map, hv]; rfl
    · rw [List.getElem?_append_right (by rw [List.length_map]; omega), List.getElem?_replicate] at e
      split at e
      · cases e; exact ⟨rfl, trivial⟩
      · cases e
  refine ⟨⟨w, by simp [h.len], fun i c e => (nm e).2, fun i j p ci cj e1 _ m1 _ _ _ => ?_⟩, .refl w, fun i c p e m _ => ?_⟩
  · rw [(nm e1).1] at m1; cases m1
  · rw [(nm e).1] at m; cases m
theorem body_ok {vs : List V} {ds : List D} {r : Ou} {n : Nat} {Q : VK} (hs : Ss E ad ts fs) (w : Ex G H) (h : DqA G vs ds) (e : bodyD fs n ds = some r) (q : PoE E ad G H Q r) :
    ts { nx := fun _ H' => Q .non H', rt := Q } ((vs.map some) ++ List.replicate n none) H := by
  unfold bodyD at e
  split at e
  · rename_i Γ e1
    cases e
    exact hs G H _ _ G H (rel_start w h) _ e1 _ fun σ2 G2 H2 R x => q .non G2 H2 R.s .non
  · rename_i d e1
    cases e
    exact hs G H _ _ G H (rel_start w h) _ e1 _ q
  · rename_i x e1
    cases e
    exact hs G H _ _ G H (rel_start w h) _ e1 _ q
  · cases e
end
end Mv
namespace Mv
open PySem L2 Evl
def dI (ns : List Int) : D := .tuple (ns.map .int)
def dL (pl : List (List Int)) : D := .list (pl.map dI)
def prod (ns : List Int) : Int := ns.foldl (· * ·) 1
def grow (found : List (List Int)) (size : Int) : List (List Int) := found.flatMap fun b => (List.range size.toNat).map fun (i : Nat) => b ++ [(i : Int)]
def placesOf (n : List Int) : List (List Int) := n.foldl grow [[]]
def zeros (n : List Int) : List Int := List.replicate n.length 0
def addP : List Int → List Int → List Int → List Int
  | s :: n, x :: a, y :: b => ((x + y) % s) :: addP n a b
  | _, _, _ => []
def addUp (n : List Int) (several : List (List Int)) : List Int := several.foldl (fun a b => addP n a b) (zeros n)
structure OkD (n : List Int) : Prop where
  lo : 1 ≤ n.length
  hi : n.length ≤ 4
  sz : ∀ s ∈ n, 2 ≤ s ∧ s ≤ 24
  pr : prod n ≤ 24
theorem addP_len : ∀ {n a b : List Int}, a.length = n.length → b.length = n.length → (addP n a b).length = n.length
  | [], [], [], _, _ => rfl
  | s :: n, x :: a, y :: b, h1, h2 => by
    show (addP n a b).length + 1 = n.length + 1
    rw [addP_len (by simpa using h1) (by simpa using h2)]
  | s :: n, [], _, h, _ => by simp at h
  | s :: n, x :: a, [], _, h => by simp at h
  | [], x :: a, _, h, _ => by simp at h
  | [], [], y :: b, _, h => by simp at h
theorem zeros_len (n : List Int) : (zeros n).length = n.length := by unfold zeros; rw [List.length_replicate]
theorem addUp_len {n : List Int} : ∀ {l : List (List Int)}, (∀ p ∈ l, p.length = n.length) → (addUp n l).length = n.length := by
  have : ∀ (l : List (List Int)) (a : List Int), a.length = n.length → (∀ p ∈ l, p.length = n.length) → (l.foldl (fun a b => addP n a b) a).length = n.length := by
    intro l
    induction l with
    | nil => intro a h _; exact h
    | cons p l ih => intro a h hp; exact ih _ (addP_len h (hp p (List.mem_cons_self ..))) fun q hq => hp q (List.mem_cons_of_mem _ hq)
  intro l h
  exact this l _ (zeros_len n) h
theorem grow_len (found : List (List Int)) (size : Int) : (grow found size).length = found.length * size.toNat := by
  unfold grow
  induction found with
  | nil => simp
  | cons b l ih => rw [List.flatMap_cons, List.length_append, ih, List.length_map, List.length_range, List.length_cons, Nat.succ_mul, Nat.add_comm]
theorem places_len_take {n : List Int} (h : ∀ s ∈ n, 2 ≤ s) : ∀ i : Nat, ((placesOf (n.take i)).length : Int) = prod (n.take i) := by
  have key : ∀ (l : List Int), (∀ s ∈ l, 2 ≤ s) → ∀ (f : List (List Int)) (k : Int), (f.length : Int) = k → ((l.foldl grow f).length : Int) = l.foldl (· * ·) k := by
    intro l
    induction l with
    | nil => intro _ f k e; exact e
    | cons s l ih =>
      intro hs f k e
      refine ih (fun q hq => hs q (List.mem_cons_of_mem _ hq)) _ _ ?_
      rw [grow_len, Int.natCast_mul, e, Int.toNat_of_nonneg (by have := hs s (List.mem_cons_self ..); omega)]
  intro i
  exact key (n.take i) (fun s hs => h s (List.mem_of_mem_take hs)) [[]] 1 rfl
theorem prod_mono : ∀ {l : List Int}, (∀ s ∈ l, 2 ≤ s) → ∀ k : Int, 0 ≤ k → k ≤ l.foldl (· * ·) k
  | [], _, k, _ => Int.le_refl k
  | s :: l, h, k, hk => by
    have h2 := h s (List.mem_cons_self ..)
    have e : k ≤ k * s := by
      have := Int.mul_le_mul_of_nonneg_left (show (1 : Int) ≤ s by omega) hk
      omega
    exact Int.le_trans e (prod_mono (fun q hq => h q (List.mem_cons_of_mem _ hq)) _ (Int.le_trans hk e))
theorem prod_take {n : List Int} (h : ∀ s ∈ n, 2 ≤ s) (i : Nat) : prod (n.take i) ≤ prod n ∧ 1 ≤ prod (n.take i) := by
  have e : prod n = (n.drop i).foldl (· * ·) (prod (n.take i)) := by
    unfold prod
    rw [← List.foldl_append, List.take_append_drop]
  have p1 : 1 ≤ prod (n.take i) := prod_mono (fun s hs => h s (List.mem_of_mem_take hs)) 1 (by decide)
  refine ⟨?_, p1⟩
  rw [e]
  exact prod_mono (fun s hs => h s (List.mem_of_mem_drop hs)) _ (by omega)
theorem OkD.pl {n : List Int} (h : OkD n) (i : Nat) : (placesOf (n.take i)).length ≤ 24 := by
  have h1 := places_len_take (fun s hs => (h.sz s hs).1) i
  have h2 := (prod_take (fun s hs => (h.sz s hs).1) i).1
  have h3 := h.pr
  omega
def R_add (ds : List D) (z : D) : Prop := ∃ n a b : List Int, ds = [dI n, dI a, dI b] ∧ a.length = n.length ∧ b.length = n.length ∧ n.length ≤ 1000 ∧ (∀ s ∈ n, 0 < s) ∧ z = dI (addP n a b)
def tyD : D → String
  | .none => "NoneType"
  | .bool _ => "bool"
  | .int _ => "int"
  | .str _ => "str"
  | .list _ => "list"
  | .tuple _ => "tuple"
  | .dict _ => "dict"
theorem tyO {K : PySem.W.Frag} {H : Hp} {a : Addr} {xs : List V} (h : TupA H a xs) : TyY K H (.ref a) (.type "tuple") := by
  obtain ⟨o, _, h⟩ := h
  rcases tupO_cases o xs with q | q
  · rw [q] at h; exact .x (.base (.tup h))
  · rw [q] at h; exact .x (.fTuple h)
theorem tyX_of {K : PySem.W.Frag} {G H : Hp} (e : Ex G H) {v : V} {d : D} (h : Dq G v d) : TyY K H v (.type (tyD d)) := by
  cases h with
  | non => exact .x (.base .non)
  | bl b => exact .x (.base (.bl b))
  | int i => exact .x (.base (.int i))
  | str x => exact .x (.base (.str x))
  | lst h _ => exact .x (.base (.lst (e _ _ h)))
  | tup h _ => exact tyO (h.mono e)
  | emp h _ => exact .x (.base (.dK (e _ _ h)))
  | dct h _ _ => exact .d (e _ _ h)
theorem kit_tab : (["NoneType", "bool", "int", "str", "list", "tuple", "dict"].all fun a => ["bool", "int", "list", "tuple", "dict"].all fun b => kitB a b == some (a == b || (a == "bool" && b == "int"))) = true := by decide +kernel
theorem kit_of_D (d : D) {c : String} (hc : c ∈ ["bool", "int", "list", "tuple", "dict"]) : kitB (tyD d) c = some (tyD d == c || (tyD d == "bool" && c == "int")) := by
  have h := List.all_eq_true.mp kit_tab (tyD d) (by cases d <;> simp [tyD])
  have h2 := List.all_eq_true.mp h c hc
  exact eq_of_beq h2
def isD (d : D) (c : String) : Bool := tyD d == c || (tyD d == "bool" && c == "int")
section
variable {K : PySem.W.Frag} {σ : L2.St} {G G' H H' : Hp} {ta tb te tx : TE} {t u : TT} {d e z : D} {ds es : List D}
def isNum : D → Bool
  | .int _ => true
  | _ => false
def btw (lo hi : Int) : D → Bool
  | .int i => decide (lo ≤ i) && decide (i ≤ hi)
  | _ => false
end
theorem eqvI : ∀ (a b : List Int), PyData.eqvAll (a.map PyData.int) (b.map PyData.int) = decide (a = b)
  | [], [] => rfl
  | [], y :: b => by simp [PyData.eqvAll]
  | x :: a, [] => by simp [PyData.eqvAll]
  | x :: a, y :: b => by
    rw [List.map_cons, List.map_cons, PyData.eqvAll, PyData.eqv, eqvI a b]
    by_cases h : x = y <;> simp [h]
theorem flat_dI (a : List Int) : flatD (dI a) = true := by
  show flatDs (a.map PyData.int) = true
  induction a with
  | nil => rfl
  | cons x a ih => rw [List.map_cons, flatDs, ih]; rfl
theorem canLay_ints : ∀ a : List Int, PyData.canLayAll0 (a.map PyData.int) = true
  | [] => by simp [PyData.canLayAll0]
  | x :: a => by simp [PyData.canLayAll0, PyData.canLay0, canLay_ints a]
theorem depth_ints : ∀ a : List Int, PyData.depthAll (a.map PyData.int) ≤ 1
  | [] => by simp [PyData.depthAll]
  | x :: a => by
    have := depth_ints a
    (simp only [List.map_cons, PyData.depthAll, PyData.depth])
    omega
theorem eqv_dI (a b : List Int) : PyData.eqv (dI a) (dI b) = decide (a = b) := by
  unfold dI
  rw [PyData.eqv]
  exact eqvI a b
section
variable {K : PySem.W.Frag} {σ : L2.St} {G G' H H' : Hp} {ta tb te tx : TE} {t u : TT} {d e z : D} {ds es : List D} {D' : Ends} {tu tz : TS}
end
structure ExcC (K : PySem.W.Frag) (mg : Str → Option Value) (x : Str) (C : Addr) : Prop where
  ex : PySem.W.excIn K C [.type "ValueError", .type "Exception", .type "BaseException", .type "object"] "ValueError.__new__" = true
  g : mg x = some (.ref C)
  k : PySem.W.keepIn K (.ref C) = true
  b : PySem.W.subIn K (.ref C) (.type "BaseException") = some true
  t : PySem.W.typeIn K (.ref C) = some (.type "type")
def stK (l c : Addr) (left turn : Int) : List (Key × V) := [(Sum.inr ("large" : Str), .ref l), (Sum.inr ("cells" : Str), .ref c), (Sum.inr ("left" : Str), .int left), (Sum.inr ("turn" : Str), .int turn)]
theorem ne1 : ¬ ((Sum.inr ("large" : Str) : Key) = Sum.inr ("cells" : Str)) := fun h => absurd (Sum.inr.inj h) (by decide +kernel)
theorem ne2 : ¬ ((Sum.inr ("large" : Str) : Key) = Sum.inr ("left" : Str)) := fun h => absurd (Sum.inr.inj h) (by decide +kernel)
theorem ne3 : ¬ ((Sum.inr ("large" : Str) : Key) = Sum.inr ("turn" : Str)) := fun h => absurd (Sum.inr.inj h) (by decide +kernel)
theorem ne4 : ¬ ((Sum.inr ("cells" : Str) : Key) = Sum.inr ("left" : Str)) := fun h => absurd (Sum.inr.inj h) (by decide +kernel)
theorem ne5 : ¬ ((Sum.inr ("cells" : Str) : Key) = Sum.inr ("turn" : Str)) := fun h => absurd (Sum.inr.inj h) (by decide +kernel)
theorem ne6 : ¬ ((Sum.inr ("left" : Str) : Key) = Sum.inr ("turn" : Str)) := fun h => absurd (Sum.inr.inj h) (by decide +kernel)
section
variable (l c : Addr) (left turn x : Int)
theorem v_large : valV (stK l c left turn) (Sum.inr ("large" : Str)) = some (.ref l) := valV_pos rfl
theorem v_cells : valV (stK l c left turn) (Sum.inr ("cells" : Str)) = some (.ref c) := by unfold stK; rw [valV_neg ne1, valV_pos rfl]
theorem v_left : valV (stK l c left turn) (Sum.inr ("left" : Str)) = some (.int left) := by unfold stK; rw [valV_neg ne2, valV_neg ne4, valV_pos rfl]
theorem v_turn : valV (stK l c left turn) (Sum.inr ("turn" : Str)) = some (.int turn) := by unfold stK; rw [valV_neg ne3, valV_neg ne5, valV_neg ne6, valV_pos rfl]
theorem p_left : putK (stK l c left turn) (Sum.inr ("left" : Str)) (.int x) = stK l c x turn := by
  have e : ((stK l c left turn).any fun kv => decide (kv.1 = Sum.inr ("left" : Str))) = true := by rw [valV_any, v_left]; rfl
  unfold putK
  rw [if_pos e]
  unfold stK
  simp only [List.map_cons, List.map_nil]
  rw [if_neg ne2, if_neg ne4, if_true, if_neg (fun h => ne6 h.symm)]
theorem p_turn : putK (stK l c left turn) (Sum.inr ("turn" : Str)) (.int x) = stK l c left x := by
  have e : ((stK l c left turn).any fun kv => decide (kv.1 = Sum.inr ("turn" : Str))) = true := by rw [valV_any, v_turn]; rfl
  unfold putK
  rw [if_pos e]
  unfold stK
  simp only [List.map_cons, List.map_nil]
  rw [if_neg ne3, if_neg ne5, if_neg ne6, if_true]
end
structure StAt (H : Hp) (s l c : Addr) (T : Int) : Prop where
  ex : ∃ (lg cs : List Int) (left turn : Int), H s = some (.dK (stK l c left turn)) ∧ H l = some (.lst (lg.map V.int)) ∧ H c = some (.lst (cs.map V.int)) ∧ (∀ x ∈ lg, 0 ≤ x) ∧ (∀ x ∈ cs, 0 ≤ x) ∧ 0 ≤ left ∧ 0 ≤ turn ∧ turn ≤ T
  lc : l ≠ c
structure Wd (G H : Hp) (s l c : Addr) (T : Int) : Prop where
  w : Ex G H
  st : StAt H s l c T
  gs : G s = none
  gl : G l = none
  gc : G c = none
theorem StAt.mono {H H' : Hp} {s l c : Addr} {T : Int} (x : StAt H s l c T) (e : Ex H H') : StAt H' s l c T := by
  obtain ⟨⟨lg, cs, left, turn, h1, h2, h3, h⟩, q⟩ := x
  exact ⟨⟨lg, cs, left, turn, e _ _ h1, e _ _ h2, e _ _ h3, h⟩, q⟩
theorem StAt.ge {H : Hp} {s l c : Addr} {T T' : Int} (x : StAt H s l c T) (e : T ≤ T') : StAt H s l c T' := by
  obtain ⟨⟨lg, cs, left, turn, h1, h2, h3, h4, h5, h6, h7, h8⟩, q⟩ := x
  exact ⟨⟨lg, cs, left, turn, h1, h2, h3, h4, h5, h6, h7, by omega⟩, q⟩
theorem StAt.at {H : Hp} {s l c : Addr} {T : Int} (x : StAt H s l c T) : (∃ o, H s = some o ∧ ∀ xs, o ≠ .tup xs) ∧ (∃ o, H l = some o ∧ ∀ xs, o ≠ .tup xs) ∧ ∃ o, H c = some o ∧ ∀ xs, o ≠ .tup xs := by
  obtain ⟨⟨lg, cs, left, turn, h1, h2, h3, h⟩, q⟩ := x
  exact ⟨⟨_, h1, fun _ z => nomatch z⟩, ⟨_, h2, fun _ z => nomatch z⟩, ⟨_, h3, fun _ z => nomatch z⟩⟩
theorem StAt.apart {H : Hp} {s l c : Addr} {T : Int} (x : StAt H s l c T) : s ≠ l ∧ s ≠ c := by
  obtain ⟨⟨lg, cs, left, turn, h1, h2, h3, h⟩, q⟩ := x
  exact ⟨ne_of h1 h2 (by intro z; cases z), ne_of h1 h3 (by intro z; cases z)⟩
theorem Wd.stp {G H G' H' : Hp} {s l c : Addr} {T : Int} (x : Wd G H s l c T) (p : Stp G H G' H') : Wd G' H' s l c T := by
  obtain ⟨⟨o1, e1, m1⟩, ⟨o2, e2, m2⟩, o3, e3, m3⟩ := x.st.at
  have gone : ∀ {b : Addr} {o : HO}, G b = none → H b = some o → (∀ xs, o ≠ .tup xs) → G' b = none := fun {b o} q e m => p.n b q (by rw [e]; intro z; cases z) fun xs z => m xs (Option.some.inj (e.symm.trans z))
  exact ⟨p.w, x.st.mono p.h, gone x.gs e1 m1, gone x.gl e2 m2, gone x.gc e3 m3⟩
structure StS (S : List Addr) (G H G' H' : Hp) : Prop where
  g : Ex G G'
  h : ∀ b o, b ∉ S → H b = some o → H' b = some o
  k : ∀ b, b ∈ S → H b ≠ none → H' b ≠ none ∧ ((∀ xs, H b ≠ some (.tup xs)) → ∀ xs, H' b ≠ some (.tup xs))
  w : Ex G' H'
  n : ∀ b, G b = none → H b ≠ none → (∀ xs, H b ≠ some (.tup xs)) → G' b = none
theorem kept_some {H H' : Hp} (h : Ex H H') {b : Addr} (q : H b ≠ none) : H' b ≠ none := by
  cases e : H b with
  | none => exact (q e).elim
  | some o => rw [h b o e]; exact fun z => nomatch z
theorem kept_mut {H H' : Hp} (h : Ex H H') {b : Addr} (q : H b ≠ none) (m : ∀ xs, H b ≠ some (.tup xs)) : H' b ≠ none ∧ ∀ xs, H' b ≠ some (.tup xs) := by
  cases e : H b with
  | none => exact (q e).elim
  | some o => rw [h b o e]; exact ⟨(fun z => nomatch z), fun xs z => m xs (e.trans z)⟩
theorem Stp.toS {S : List Addr} {G H G' H' : Hp} (p : Stp G H G' H') : StS S G H G' H' := ⟨p.g, fun b o _ q => p.h b o q, fun b _ q => ⟨kept_some p.h q, fun m => (kept_mut p.h q m).2⟩, p.w, p.n⟩
theorem StS.keep {S : List Addr} {G H G' H' : Hp} (a : StS S G H G' H') {c : Addr} (q : H c ≠ none) (m : ∀ xs, H c ≠ some (.tup xs)) : H' c ≠ none ∧ ∀ xs, H' c ≠ some (.tup xs) := by
  by_cases hc : c ∈ S
  · exact ⟨(a.k c hc q).1, (a.k c hc q).2 m⟩
  · cases e : H c with
    | none => exact (q e).elim
    | some o => rw [a.h c o hc e]; exact ⟨(fun z => nomatch z), fun xs z => m xs (e.trans z)⟩
theorem StS.trans {S : List Addr} {G H G1 H1 G2 H2 : Hp} (a : StS S G H G1 H1) (b : StS S G1 H1 G2 H2) : StS S G H G2 H2 :=
  ⟨a.g.trans b.g, fun c o hc q => b.h c o hc (a.h c o hc q), fun c hc q => ⟨(b.k c hc (a.k c hc q).1).1, fun m => (b.k c hc (a.k c hc q).1).2 ((a.k c hc q).2 m)⟩, b.w, fun c h1 h2 m => b.n c (a.n c h1 h2 m) (a.keep h2 m).1 (a.keep h2 m).2⟩
theorem StS.refl {S : List Addr} {G H : Hp} (e : Ex G H) : StS S G H G H := (Stp.refl e).toS
theorem q_whileW {c : TT} {tb tz : TS} {D' : Ends} {σ : L2.St} {H : Hp} (W : Nat → L2.St → Hp → Prop) (Nd : L2.St → Hp → Prop) (h0 : ∃ m, W m σ H)
    (hs : ∀ R : L2.St → Hp → Prop, (∀ σ' H', Nd σ' H' → R σ' H') → ∀ m σ H, W m σ H → c σ H fun b H1 => if b = true then ∃ N : L2.St → Hp → Prop, (∀ σ' H', N σ' H' → ∃ m', m' < m ∧ W m' σ' H') ∧ tb { D' with nx := N, ct := N, bk := R } σ H1 else R σ H1)
    (hd : ∀ σ' H', Nd σ' H' → tz D' σ' H') : tSeq (tWhile c tb) tz D' σ H := ⟨W, h0, fun m σ H hw => hs (tz D') hd m σ H hw⟩
theorem q_asgW {te : TE} {tz : TS} {D' : Ends} {i : Nat} {σ : L2.St} {H : Hp} (Pv : V → Hp → Prop) (h : ∀ Q : VK, (∀ v H', Pv v H' → Q v H') → te σ H Q) (k : ∀ v H', Pv v H' → tz D' (σ.set i (some v)) H') : tSeq (tAsg te (gName i)) tz D' σ H := h _ k
def SpDraw : Sp := fun vs H Q _ => ∃ (G : Hp) (s l c : Addr) (T n : Int), vs = [.ref s, .int n] ∧ Wd G H s l c T ∧ 0 < n ∧ n < 1073741824 ∧ T < 1000000000000 ∧
  ∀ r H', 0 ≤ r → r < n → Wd G H' s l c (T + 1) → StS [s, l, c] G H G H' → Q (.int r) H'
theorem st_get {i : Nat} {key : Str} {σ : L2.St} {H : Hp} {s : Addr} {kvs : List (Key × V)} {v : V} {Q : VK} (hσ : σ[i]? = some (some (.ref s))) (hd : H s = some (.dK kvs)) (hv : valV kvs (Sum.inr key) = some v) (q : Q v H) :
    tDGet (tVar i) (tC (.str key)) σ H Q := ⟨.ref s, hσ, s, v, rfl, by have := DGet.k (k := Sum.inr key) hd; rw [hv] at this; exact this, q⟩
theorem dp_ints {K : PySem.W.Frag} {H : Hp} {a : Addr} {ns : List Int} (h : H a = some (.lst (ns.map V.int))) : Dp K H (.ref a) (.list (ns.map PyData.int)) := by
  refine .lst (SqL.of h) ?_
  clear h
  induction ns with
  | nil => exact .nil
  | cons x ns ih => exact .cons (.int x) ih
theorem shaped_lI (a : List Int) : SeqAt.shaped (.list (a.map PyData.int)) = true := by
  unfold SeqAt.shaped
  rw [PyData.canLay0, canLay_ints, PyData.depth]
  have := depth_ints a
  simp
  omega
theorem eqv_nil (a : List Int) : PyData.eqv (.list (a.map PyData.int)) (.list []) = a.isEmpty := by
  rw [PyData.eqv]
  cases a <;> simp [PyData.eqvAll]
theorem ne_nil {K : PySem.W.Frag} {H : Hp} {a : Addr} {ns : List Int} {σ : L2.St} {Q : VK} (h : H a = some (.lst (ns.map V.int))) (q : ∀ p, H p = none → Q (.bl (!ns.isEmpty)) (upd H p (.lst []))) :
    tLst tNil σ H fun y H2 => rNeD K (.ref a) y H2 Q := ⟨Nat.zero_le _, fun p hp => ⟨.list (ns.map PyData.int), .list [], dp_ints (by rw [upd_ne (ne_of_none h hp)]; exact h), .lst (SqL.of upd_same) .nil, shaped_lI ns, by decide +kernel, by
  rw [eqv_nil]; exact q p hp⟩⟩
section
variable {K : PySem.W.Frag} {σ : L2.St} {G G' H H' : Hp} {ta tb te tx : TE} {t u : TT} {d e z : D} {ds es : List D} {D' : Ends} {tu tz : TS}
end
def stepF (line : List (List Int)) : List (List Int) := line.flatMap fun t => ((List.range 23).filter fun (i : Nat) => decide (prod t * (2 + (i : Int)) < 25)).map fun (i : Nat) => t ++ [2 + (i : Int)]
def linF : Nat → List (List Int)
  | 0 => [[]]
  | n + 1 => stepF (linF n)
def fndF : Nat → List (List Int)
  | 0 => []
  | n + 1 => fndF n ++ linF (n + 1)
def fewD : List (List Int) := fndF 4
def okB (n : List Int) : Bool := decide (1 ≤ n.length) && decide (n.length ≤ 4) && n.all (fun s => decide (2 ≤ s) && decide (s ≤ 24)) && decide (prod n ≤ 24)
theorem okB_ok {n : List Int} (h : okB n = true) : OkD n := by
  simp only [okB, Bool.and_eq_true, decide_eq_true_eq, List.all_eq_true] at h
  exact ⟨h.1.1.1, h.1.1.2, h.1.2, h.2⟩
theorem few_ok : fewD.all okB = true := by decide +kernel
theorem lay_sub {as : List D} (h : PyData.canLayAll0 as = true) : ∀ {bs : List D}, (∀ b ∈ bs, b ∈ as) → PyData.canLayAll0 bs = true
  | [], _ => rfl
  | b :: bs, k => by
    rw [PyData.canLayAll0, PyData.canLay0_of_mem as b h (k b (List.mem_cons_self ..)), lay_sub h fun x hx => k x (List.mem_cons_of_mem _ hx)]; rfl
theorem deep_sub {as : List D} : ∀ {bs : List D}, (∀ b ∈ bs, b ∈ as) → PyData.depthAll bs ≤ PyData.depthAll as
  | [], _ => by rw [PyData.depthAll]; omega
  | b :: bs, k => by
    rw [PyData.depthAll]
    have h1 := PyData.depth_le_depthAll as b (k b (List.mem_cons_self ..))
    have h2 := deep_sub (as := as) (bs := bs) fun x hx => k x (List.mem_cons_of_mem _ hx)
    omega
theorem shaped_sub {as bs : List D} (h : SeqAt.shaped (.list as) = true) (k : ∀ b ∈ bs, b ∈ as) : SeqAt.shaped (.list bs) = true := by
  unfold SeqAt.shaped at h ⊢
  rw [Bool.and_eq_true, decide_eq_true_eq, PyData.canLay0, PyData.depth] at h
  rw [Bool.and_eq_true, decide_eq_true_eq, PyData.canLay0, PyData.depth]
  exact ⟨lay_sub h.1 k, Nat.le_trans (Nat.add_le_add_right (deep_sub k) 1) h.2⟩
theorem flat_sub {as : List D} (h : flatDs as = true) : ∀ {bs : List D}, (∀ b ∈ bs, b ∈ as) → flatDs bs = true := by
  have all : ∀ {as : List D}, flatDs as = true → ∀ x ∈ as, flatD x = true := by
    intro as
    induction as with
    | nil => intro _ x hx; cases hx
    | cons a as ih =>
      intro h x hx
      rw [flatDs, Bool.and_eq_true] at h
      rcases List.mem_cons.mp hx with e | e
      · rw [e]; exact h.1
      · exact ih h.2 x e
  intro bs
  induction bs with
  | nil => intro _; rfl
  | cons b bs ih =>
    intro k
    rw [flatDs, Bool.and_eq_true]
    exact ⟨all h b (k b (List.mem_cons_self ..)), ih fun x hx => k x (List.mem_cons_of_mem _ hx)⟩
theorem eqv_nilD (a : List D) : PyData.eqv (.list a) (.list []) = a.isEmpty := by
  rw [PyData.eqv]
  cases a <;> simp [PyData.eqvAll]
theorem opd_U {G : Hp} (n : Int) : UnD (rU fun i => .int (-i)) G (.int n) (.int (-n)) := fun x G1 H1 a b hx Q q => by
  cases hx
  exact ⟨n, rfl, q _ G1 H1 (.refl b) (.int _)⟩
theorem ne_nilD {K : PySem.W.Frag} {G H : Hp} {a : Addr} {xs : List V} {ds : List D} {σ : L2.St} {Q : VK} (h : H a = some (.lst xs)) (w : Ex G H) (hx : DqA G xs ds) (fl : flatDs ds = true) (sh : SeqAt.shaped (.list ds) = true) (q : ∀ p, H p = none → Q (.bl (!ds.isEmpty)) (upd H p (.lst []))) :
    tLst tNil σ H fun y H2 => rNeD K (.ref a) y H2 Q := ⟨Nat.zero_le _, fun p hp => ⟨.list ds, .list [], .lst (SqL.of (by rw [upd_ne (ne_of_none h hp)]; exact h)) (dpAll_of (w.trans (.new hp)) hx fl), .lst (SqL.of upd_same) .nil, sh, by decide +kernel, by
  rw [eqv_nilD]; exact q p hp⟩⟩
theorem StS.mut {S : List Addr} {G H G' H' : Hp} {p : Addr} {o : HO} (a : StS S G H G' H') (hp : H p = none) (gp : G' p = none) : StS S G H G' (upd H' p o) := by
  have np : ∀ {b : Addr} {u : HO}, H b = some u → b ≠ p := fun e z => by rw [z, hp] at e; cases e
  refine ⟨a.g, fun b u hb q => by rw [upd_ne (np q)]; exact a.h b u hb q, fun b hb q => ?_, fun b u q => ?_, a.n⟩
  · by_cases e : b = p
    · exact (q (e ▸ hp)).elim
    · rw [upd_ne e]; exact a.k b hb q
  · have e : b ≠ p := fun z => by rw [z, gp] at q; cases q
    rw [upd_ne e]; exact a.w b u q
theorem Wd.mut {G H : Hp} {s l c p : Addr} {T : Int} {o : HO} (a : Wd G H s l c T) (gp : G p = none) (e1 : p ≠ s) (e2 : p ≠ l) (e3 : p ≠ c) : Wd G (upd H p o) s l c T := by
  obtain ⟨⟨⟨lg, cs, left, turn, h1, h2, h3, h⟩, q⟩, _⟩ := id (And.intro a.st trivial)
  refine ⟨fun b u q => ?_, ⟨⟨lg, cs, left, turn, by rw [upd_ne e1.symm]; exact h1, by rw [upd_ne e2.symm]; exact h2, by rw [upd_ne e3.symm]; exact h3, h⟩, q⟩, a.gs, a.gl, a.gc⟩
  have e : b ≠ p := fun z => by rw [z, gp] at q; cases q
  rw [upd_ne e]; exact a.w b u q
theorem erase_perm {α : Type} : ∀ {l : List α} {j : Nat} {d : α}, l[j]? = some d → (d :: l.eraseIdx j).Perm l
  | x :: l, 0, d, h => by
    cases Option.some.inj h
    exact .refl _
  | x :: l, j + 1, d, h => (List.Perm.swap x d _).trans ((erase_perm (l := l) (j := j) h).cons x)
  | [], _, _, h => by simp at h
inductive InP : List Int → List Int → Prop
  | nil : InP [] []
  | cons {x s : Int} {p n : List Int} : 0 ≤ x → x < s → InP p n → InP (x :: p) (s :: n)
theorem InP.snoc {p n : List Int} {x s : Int} (h : InP p n) (h1 : 0 ≤ x) (h2 : x < s) : InP (p ++ [x]) (n ++ [s]) := by
  induction h with
  | nil => exact .cons h1 h2 .nil
  | cons a b _ ih => exact .cons a b ih
theorem InP.len {p n : List Int} (h : InP p n) : p.length = n.length := by
  induction h with
  | nil => rfl
  | cons _ _ _ ih => rw [List.length_cons, List.length_cons, ih]
theorem InP.grown {p n : List Int} (h : InP p n) : ∀ {found : List (List Int)} {b : List Int}, b ∈ found → b ++ p ∈ n.foldl grow found := by
  induction h with
  | nil => intro found b hb; rw [List.append_nil]; exact hb
  | @cons x s p n h1 h2 _ ih =>
    intro found b hb
    have : b ++ [x] ∈ grow found s := by
      unfold grow
      refine List.mem_flatMap.mpr ⟨b, hb, List.mem_map.mpr ⟨x.toNat, List.mem_range.mpr (by omega), ?_⟩⟩
      rw [Int.toNat_of_nonneg h1]
    have := ih this
    rw [List.append_assoc] at this
    exact this
theorem InP.mem {p n : List Int} (h : InP p n) : p ∈ placesOf n := h.grown (List.mem_singleton.mpr rfl)
def mulP : List Int → List Int → Int → List Int
  | s :: n, x :: a, k => ((x * k) % s) :: mulP n a k
  | _, _, _ => []
def isTup (d : D) (m : Int) : Bool := match d with
  | .tuple xs => decide ((xs.length : Int) = m)
  | _ => false
def isPlace (n : List Int) (d : D) : Bool := match d with
  | .tuple xs => decide (xs.length = n.length) && (xs.zip n).all fun q => btw 0 (q.2 - 1) q.1
  | _ => false
theorem few_turn : (fewD.all fun n => (placesOf n).all fun p => ((List.range 24).find? fun (i : Nat) => decide (mulP n p ((i : Int) + 1) = zeros n)).isSome && isPlace n (dI p)) = true := by decide +kernel
section
variable {K : PySem.W.Frag} {σ : L2.St} {G G' H H' : Hp} {te : TE} {D' : Ends} {tz : TS} {ds : List D}
end
def cutD (ds : List D) (lo hi : Option Int) : List D := (ds.drop (HT.sIx ds.length 0 lo)).take (HT.sIx ds.length ds.length hi - HT.sIx ds.length 0 lo)
section
variable {K : PySem.W.Frag} {σ : L2.St} {G G' H H' : Hp} {te : TE} {tl th : TO} {ds : List D}
end
theorem cut_lo {ds : List D} (i : Nat) (h : i ≤ ds.length) : cutD ds none (some (i : Int)) = ds.take i := by
  unfold cutD
  rw [HT.sIx_none, HT.sIx_nat, Nat.min_eq_left h, Nat.sub_zero, List.drop_zero]
theorem cut_hi {ds : List D} (i : Nat) (h : i ≤ ds.length) : cutD ds (some (i : Int)) none = ds.drop i := by
  unfold cutD
  rw [HT.sIx_none, HT.sIx_nat, Nat.min_eq_left h, List.take_of_length_le (by rw [List.length_drop]; exact Nat.le_refl _)]
theorem cut_last {ds : List D} (h : 1 ≤ ds.length) : (cutD ds none (some (-1))).length = ds.length - 1 := by
  unfold cutD
  rw [HT.sIx_none]
  have e : HT.sIx ds.length ds.length (some (-1)) = ds.length - 1 := by
    unfold HT.sIx
    simp only []
    rw [if_pos (by decide)]
    omega
  rw [e, Nat.sub_zero, List.drop_zero, List.length_take]
  omega
theorem noPlace_len {n : List Int} {ds : List D} (h : ds.length ≠ n.length) : isPlace n (.tuple ds) = false := by
  show (decide (ds.length = n.length) && _) = false
  rw [decide_eq_false h]; rfl
theorem noPlace_at {n : List Int} {ds : List D} {i : Nat} {d : D} {s : Int} (h1 : ds[i]? = some d) (h2 : n[i]? = some s) (h3 : btw 0 (s - 1) d = false) : isPlace n (.tuple ds) = false := by
  show (decide (ds.length = n.length) && (ds.zip n).all fun q => btw 0 (q.2 - 1) q.1) = false
  have h4 : (ds.zip n)[i]? = some (d, s) := List.getElem?_zip_eq_some.mpr ⟨h1, h2⟩
  have h5 : ((ds.zip n).all fun q => btw 0 (q.2 - 1) q.1) = false := by
    rw [List.all_eq_false]
    exact ⟨(d, s), List.mem_of_getElem? h4, by rw [h3]; exact Bool.false_ne_true⟩
  rw [h5, Bool.and_false]
theorem put_at {ds : List D} {i : Nat} {d : D} (h : i < ds.length) : (ds.take i ++ [d] ++ ds.drop (i + 1))[i]? = some d := by
  rw [List.append_assoc, List.getElem?_append_right (by rw [List.length_take]; omega), List.length_take]
  have e : i - min i ds.length = 0 := by omega
  rw [e]; rfl
def menuD : List (List Int) := [[2], [3], [4], [2, 2], [5], [6], [2, 3], [7], [8], [2, 4], [2, 2, 2], [9], [3, 3], [10], [11], [12]] ++ [[2, 6], [3, 4], [13], [14], [15], [3, 5], [16], [4, 4], [2, 8], [2, 2, 4], [2, 2, 2, 2], [17], [18], [3, 6]] ++ [[19], [20], [2, 10], [21], [22], [23], [24], [2, 12], [4, 6], [2, 2, 6], [2, 2, 2, 3]]
theorem menu_few : (menuD.all fun n => fewD.contains n) = true := by decide +kernel
section
variable {K : PySem.W.Frag} {σ : L2.St} {G G' H H' : Hp} {ta te : TE} {tr : TA} {ds : List D} {d : D}
end
theorem flat_lI (a : List Int) : flatD (.list (a.map PyData.int)) = true := by
  have h := flat_dI a
  unfold dI at h
  simpa [flatD] using h
section
variable {P : Program} {w : World} {mg : Str → Option Value} {base : Heap} {K : PySem.W.Frag}
end
def takeP : List Int → List Int → List Int → List Int
  | s :: n, x :: a, y :: b => ((x - y) % s) :: takeP n a b
  | _, _, _ => []
def isPlaces (n : List Int) (d : D) : Bool := match d with
  | .list xs => xs.all (isPlace n)
  | .tuple xs => xs.all (isPlace n)
  | _ => false
abbrev Rows := List (List Int)
def rowD : D → List Int
  | .tuple xs => xs.map fun d => match d with | .int i => i | _ => 0
  | _ => []
def dT (P : Rows) : D := .tuple (P.map dI)
def ins {α : Type} (lt : α → α → Bool) (p : α) : List α → List α
  | [] => [p]
  | q :: l => if lt q p then q :: ins lt p l else p :: q :: l
def isort {α : Type} (lt : α → α → Bool) : List α → List α
  | [] => []
  | p :: l => ins lt p (isort lt l)
def strict {α : Type} (lt : α → α → Bool) : List α → Bool
  | [] => true
  | p :: l => l.all (lt p) && strict lt l
def sortR (P : Rows) : Rows := isort HT.lexLt P
theorem place_zip : ∀ {n : List Int} {xs : List D}, xs.length = n.length → ((xs.zip n).all fun q => btw 0 (q.2 - 1) q.1) = true → ∃ p, xs = p.map PyData.int ∧ InP p n
  | [], [], _, _ => ⟨[], rfl, .nil⟩
  | s :: n, x :: xs, hl, h => by
    rw [List.zip_cons_cons, List.all_cons, Bool.and_eq_true] at h
    obtain ⟨p, rfl, hp⟩ := place_zip (by simpa using hl) h.2
    cases x with
    | int i =>
      have hb : (decide (0 ≤ i) && decide (i ≤ s - 1)) = true := h.1
      simp only [Bool.and_eq_true, decide_eq_true_eq] at hb
      exact ⟨i :: p, rfl, .cons hb.1 (by omega) hp⟩
    | _ => exact absurd h.1 (by intro z; cases z)
  | s :: n, [], hl, _ => by simp at hl
  | [], x :: xs, hl, _ => by simp at hl
theorem place_inv {n : List Int} {d : D} (h : isPlace n d = true) : ∃ p, d = dI p ∧ InP p n := by
  cases d with
  | tuple xs =>
    have h : (decide (xs.length = n.length) && (xs.zip n).all fun q => btw 0 (q.2 - 1) q.1) = true := h
    simp only [Bool.and_eq_true, decide_eq_true_eq] at h
    obtain ⟨p, rfl, hp⟩ := place_zip h.1 h.2
    exact ⟨p, rfl, hp⟩
  | _ => exact absurd h (by intro z; cases z)
theorem rowD_dI (p : List Int) : rowD (dI p) = p := by
  show (p.map PyData.int).map _ = p
  rw [List.map_map]
  exact (List.map_congr_left fun _ _ => rfl).trans (List.map_id p)
theorem rowsD_dI (P : Rows) : (P.map dI).map rowD = P := by
  rw [List.map_map]
  exact (List.map_congr_left fun p _ => rowD_dI p).trans (List.map_id P)
theorem inP_place {n p : List Int} (h : InP p n) : isPlace n (dI p) = true := by
  have key : ∀ {p n : List Int}, InP p n → (((p.map PyData.int).zip n).all fun q => btw 0 (q.2 - 1) q.1) = true := fun h => by
    induction h with
    | nil => rfl
    | @cons x s p n h1 h2 _ ih =>
      rw [List.map_cons, List.zip_cons_cons, List.all_cons, ih, Bool.and_true]
      show (decide (0 ≤ x) && decide (x ≤ s - 1)) = true
      (simp only [Bool.and_eq_true, decide_eq_true_eq])
      omega
  show (decide ((p.map PyData.int).length = n.length) && _) = true
  rw [key h, Bool.and_true]
  simpa using h.len
theorem lex_is : ∀ a b : List Int, HT.lexLt a b = PySem.W.dataLt (dI a) (dI b) := by
  have key : ∀ a b : List Int, HT.lexLt a b = decide (a < b) := by
    intro a
    induction a with
    | nil => intro b; cases b <;> simp [HT.lexLt]
    | cons x a ih =>
      intro b
      cases b with
      | nil => simp [HT.lexLt]
      | cons y b =>
        rw [HT.lexLt, ih]
        by_cases e : x = y
        · subst e; simp [List.cons_lt_cons_iff]
        · rw [if_neg e]; simp [List.cons_lt_cons_iff, e]
  intro a b
  rw [key]
  exact (PySem.W.dataLt_ints a b).symm
theorem lex_eq : ∀ {a b : List Int}, HT.lexLt a b = false → HT.lexLt b a = false → a = b
  | [], [], _, _ => rfl
  | [], _ :: _, h, _ => by simp [HT.lexLt] at h
  | _ :: _, [], _, h => by simp [HT.lexLt] at h
  | x :: a, y :: b, h1, h2 => by
    rw [HT.lexLt] at h1 h2
    by_cases e : x = y
    · subst e
      rw [if_pos rfl] at h1 h2
      rw [lex_eq h1 h2]
    · rw [if_neg e] at h1
      rw [if_neg (Ne.symm e)] at h2
      simp only [decide_eq_false_iff_not] at h1 h2
      omega
theorem ord_total : PySem.W.TotalLe ordD := by
  unfold ordD PySem.W.dataLe
  exact PySem.W.sortLe_total _ _ _
theorem ord_is (a b : D) : ordD a b = !PySem.W.dataLt b a := rfl
theorem sort_is {ds m : List D} (hp : ds.Perm m) (hs : m.Pairwise fun a b => ordD a b = true) (anti : ∀ a b, a ∈ m → b ∈ m → ordD a b = true → ordD b a = true → a = b) : sortD ds = m :=
  List.Perm.eq_of_pairwise (le := fun a b => ordD a b = true) (fun a b ha hb h1 h2 => anti a b ((List.mem_mergeSort.mp ha) |> hp.mem_iff.mp) hb h1 h2) (PySem.W.sort_pairwise ord_total ds) hs ((List.mergeSort_perm ds ordD).trans hp)
section
variable {α : Type} {lt : α → α → Bool}
theorem ins_perm (p : α) : ∀ l : List α, (ins lt p l).Perm (p :: l)
  | [] => .refl _
  | q :: l => by
    unfold ins
    by_cases h : lt q p = true
    · rw [if_pos h]; exact ((ins_perm p l).cons q).trans (.swap p q l)
    · rw [if_neg h]
theorem isort_perm : ∀ l : List α, (isort lt l).Perm l
  | [] => .refl _
  | p :: l => (ins_perm p _).trans ((isort_perm l).cons p)
theorem ins_pair (T : PySem.W.TotalLe fun a b => !lt b a) (p : α) : ∀ {l : List α}, l.Pairwise (fun a b => (!lt b a) = true) → (ins lt p l).Pairwise fun a b => (!lt b a) = true
  | [], _ => List.pairwise_singleton _ _
  | q :: l, h => by
    have hq := List.pairwise_cons.mp h
    unfold ins
    by_cases hl : lt q p = true
    · rw [if_pos hl]
      refine List.pairwise_cons.mpr ⟨fun x hx => ?_, ins_pair T p hq.2⟩
      rcases List.mem_cons.mp ((ins_perm p l).mem_iff.mp hx) with rfl | hx
      · rcases T.total q x with h1 | h1
        · exact h1
        · simp [hl] at h1
      · exact hq.1 x hx
    · rw [if_neg hl]
      have hp : (!lt q p) = true := by simpa using hl
      refine List.pairwise_cons.mpr ⟨fun x hx => ?_, h⟩
      rcases (List.mem_cons.mp hx) with rfl | hx
      · exact hp
      · exact T.trans p q x hp (hq.1 x hx)
theorem isort_pair (T : PySem.W.TotalLe fun a b => !lt b a) : ∀ l : List α, (isort lt l).Pairwise fun a b => (!lt b a) = true
  | [] => .nil
  | p :: l => ins_pair T p (isort_pair T l)
end
theorem comap_total {α : Type} (f : α → D) : PySem.W.TotalLe fun a b : α => !PySem.W.dataLt (f b) (f a) := by
  have := ord_total
  exact ⟨fun a b c h1 h2 => this.trans (f a) (f b) (f c) h1 h2, fun a b => this.total (f a) (f b)⟩
theorem rows_total : PySem.W.TotalLe fun a b : List Int => !HT.lexLt b a := by
  have := comap_total dI
  refine ⟨fun a b c h1 h2 => ?_, fun a b => ?_⟩
  · rw [lex_is] at h1 h2 ⊢; exact this.trans a b c h1 h2
  · rw [lex_is, lex_is]; exact this.total a b
theorem flat_rows : ∀ P : Rows, flatDs (P.map dI) = true
  | [] => rfl
  | p :: P => by rw [List.map_cons, flatDs, flat_dI, flat_rows P]; rfl
theorem lay_dI (p : List Int) : PyData.canLay0 (dI p) = true := by unfold dI; rw [PyData.canLay0]; exact canLay_ints p
theorem lay_rows : ∀ P : Rows, PyData.canLayAll0 (P.map dI) = true
  | [] => by simp [PyData.canLayAll0]
  | p :: P => by rw [List.map_cons, PyData.canLayAll0, lay_dI, lay_rows P]; rfl
theorem dep_dI (p : List Int) : PyData.depth (dI p) ≤ 2 := by
  unfold dI; rw [PyData.depth]; have := depth_ints p; omega
theorem dep_rows : ∀ P : Rows, PyData.depthAll (P.map dI) ≤ 2
  | [] => by simp [PyData.depthAll]
  | p :: P => by rw [List.map_cons, PyData.depthAll]; have := dep_dI p; have := dep_rows P; omega
theorem shaped_rowsL (P : Rows) : SeqAt.shaped (.list (P.map dI)) = true := by
  unfold SeqAt.shaped; rw [PyData.canLay0, lay_rows, PyData.depth]; have := dep_rows P; simp; omega
theorem eqv_rows : ∀ P Q : Rows, PyData.eqvAll (P.map dI) (Q.map dI) = decide (P = Q)
  | [], [] => by simp [PyData.eqvAll]
  | [], q :: Q => by simp [PyData.eqvAll]
  | p :: P, [] => by simp [PyData.eqvAll]
  | p :: P, q :: Q => by
    rw [List.map_cons, List.map_cons, PyData.eqvAll, eqv_dI, eqv_rows P Q]
    by_cases h : p = q <;> simp [h]
theorem alike_dI (p q : List Int) : PySem.W.alike (dI p) (dI q) = true := by unfold dI; rw [PySem.W.alike]; exact PySem.W.alike_ints p q
section
variable {K : PySem.W.Frag} {σ : L2.St} {G : Hp} {t : TT} {te : TE}
end
theorem room65 {k : Nat} {A : Around} (r : Room k A) : A.units + 64 + 1 < cLine := by have := r.un; omega
theorem few_inP {n p : List Int} (hn : n ∈ fewD) (hp : p ∈ placesOf n) : InP p n := by
  have h := List.all_eq_true.mp (List.all_eq_true.mp few_turn n hn) p hp
  simp only [Bool.and_eq_true] at h
  obtain ⟨q, e, hq⟩ := place_inv h.2
  have : p = q := by rw [← rowD_dI p, e, rowD_dI]
  rw [this]; exact hq
theorem few_prod : (fewD.all fun n => decide (prod n = ((placesOf n).length : Int))) = true := by decide +kernel
theorem few_strict : (fewD.all fun n => strict HT.lexLt (placesOf n)) = true := by decide +kernel
theorem strict_nodup {α : Type} {lt : α → α → Bool} (ir : ∀ a, lt a a = false) : ∀ {l : List α}, strict lt l = true → l.Nodup
  | [], _ => .nil
  | x :: l, h => by
    simp only [strict, Bool.and_eq_true, List.all_eq_true] at h
    refine List.nodup_cons.mpr ⟨fun hx => ?_, strict_nodup ir h.2⟩
    have := h.1 x hx
    rw [ir x] at this; cases this
theorem lex_irr : ∀ a : List Int, HT.lexLt a a = false
  | [] => rfl
  | x :: a => by rw [HT.lexLt, if_pos rfl]; exact lex_irr a
theorem few_nodup {n : List Int} (hn : n ∈ fewD) : (placesOf n).Nodup := strict_nodup lex_irr (List.all_eq_true.mp few_strict n hn)
theorem addP_in : ∀ {n a b : List Int}, a.length = n.length → b.length = n.length → (∀ s ∈ n, 0 < s) → InP (addP n a b) n
  | [], [], [], _, _, _ => .nil
  | s :: n, x :: a, y :: b, h1, h2, h => .cons (Int.emod_nonneg _ (by have := h s (.head _); omega)) (Int.emod_lt_of_pos _ (h s (.head _))) (addP_in (by simpa using h1) (by simpa using h2) fun s hs => h s (.tail _ hs))
  | s :: n, [], _, h, _, _ => by simp at h
  | s :: n, _ :: _, [], _, h, _ => by simp at h
  | [], _ :: _, _, h, _, _ => by simp at h
  | [], [], _ :: _, _, h, _ => by simp at h
theorem takeP_in : ∀ {n a b : List Int}, a.length = n.length → b.length = n.length → (∀ s ∈ n, 0 < s) → InP (takeP n a b) n
  | [], [], [], _, _, _ => .nil
  | s :: n, x :: a, y :: b, h1, h2, h => .cons (Int.emod_nonneg _ (by have := h s (.head _); omega)) (Int.emod_lt_of_pos _ (h s (.head _))) (takeP_in (by simpa using h1) (by simpa using h2) fun s hs => h s (.tail _ hs))
  | s :: n, [], _, h, _, _ => by simp at h
  | s :: n, _ :: _, [], _, h, _ => by simp at h
  | [], _ :: _, _, h, _, _ => by simp at h
  | [], [], _ :: _, _, h, _ => by simp at h
theorem zeros_in : ∀ {n : List Int}, (∀ s ∈ n, 0 < s) → InP (zeros n) n
  | [], _ => .nil
  | s :: n, h => .cons (Int.le_refl _) (h s (.head _)) (zeros_in (n := n) fun s hs => h s (.tail _ hs))
def reachF (n : List Int) (M : Rows) : Rows := ((placesOf n).zip M).map fun q => addP n q.1 q.2
def isMoves (n : List Int) (d : D) : Bool := isTup d (prod n) && isPlaces n d
def isDealt (n : List Int) (d : D) : Bool := isMoves n d && match d with
  | .tuple xs => decide (reachF n (xs.map rowD)).Nodup
  | _ => false
structure MovesOk (n : List Int) (M : Rows) : Prop where
  inp : ∀ p ∈ M, InP p n
  len : M.length = (placesOf n).length
theorem prod_len {n : List Int} (hn : n ∈ fewD) : prod n = ((placesOf n).length : Int) := by
  have := List.all_eq_true.mp few_prod n hn
  simpa using this
theorem moves_of {n : List Int} (hn : n ∈ fewD) {M : Rows} (o : MovesOk n M) : isMoves n (dT M) = true := by
  unfold isMoves
  rw [Bool.and_eq_true]
  refine ⟨?_, ?_⟩
  · show decide (((M.map dI).length : Int) = prod n) = true
    rw [decide_eq_true_eq, prod_len hn, List.length_map, o.len]
  · show (M.map dI).all (isPlace n) = true
    refine List.all_eq_true.mpr fun d hd => ?_
    obtain ⟨p, hp, rfl⟩ := List.mem_map.mp hd
    exact inP_place (o.inp p hp)
theorem dealt_T {n : List Int} (hn : n ∈ fewD) {M : Rows} (o : MovesOk n M) : isDealt n (dT M) = decide (reachF n M).Nodup := by
  show (isMoves n (dT M) && decide (reachF n ((M.map dI).map rowD)).Nodup) = _
  rw [moves_of hn o, Bool.true_and, rowsD_dI]
end Mv
namespace Mv
open PySem L2 Evl
section
variable {K : PySem.W.Frag} {P : Program} {w : World}
def oI (f : Int → Int → D) (x y : D) : Option D := match x, y with
  | .int i, .int j => some (f i j)
  | _, _ => none
def oIc (c : Int → Int → Bool) (f : Int → Int → D) (x y : D) : Option D := match x, y with
  | .int i, .int j => if c i j = true then some (f i j) else none
  | _, _ => none
theorem oI_some {f : Int → Int → D} {x y z : D} (h : oI f x y = some z) : ∃ i j, x = .int i ∧ y = .int j ∧ z = f i j := by
  unfold oI at h
  split at h
  · cases h; exact ⟨_, _, rfl, rfl, rfl⟩
  · cases h
theorem oIc_some {c : Int → Int → Bool} {f : Int → Int → D} {x y z : D} (h : oIc c f x y = some z) : ∃ i j, x = .int i ∧ y = .int j ∧ c i j = true ∧ z = f i j := by
  unfold oIc at h
  split at h
  · split at h
    · rename_i hc; cases h; exact ⟨_, _, rfl, rfl, hc, rfl⟩
    · cases h
  · cases h
theorem os_I0 {g : Int → Int → V} {f : Int → Int → D} (h : ∀ i j G, Dq G (g i j) (f i j)) : OpS (rI0 g) (oI f) := fun x y z e G => by
  obtain ⟨i, j, rfl, rfl, rfl⟩ := oI_some e
  exact opd_I0 (h i j)
theorem os_Ic {C : Int → Int → Prop} {c : Int → Int → Bool} {g : Int → Int → V} {f : Int → Int → D} (hc : ∀ i j, c i j = true → C i j) (h : ∀ i j G, Dq G (g i j) (f i j)) : OpS (rI C g) (oIc c f) := fun x y z e G => by
  obtain ⟨i, j, rfl, rfl, k, rfl⟩ := oIc_some e
  exact opd_I (hc i j k) (h i j)
def oAdd := oI fun i j => .int (i + j)
def oSub := oI fun i j => .int (i - j)
def oLt := oI fun i j => .bool (decide (i < j))
def oLe := oI fun i j => .bool (decide (i ≤ j))
def cMod (_ j : Int) : Bool := decide (0 < j)
def cMul (i j : Int) : Bool := (decide (-18446744073709551616 < i) && decide (i < 18446744073709551616)) || (decide (-18446744073709551616 < j) && decide (j < 18446744073709551616))
def oMod := oIc cMod fun i j => .int (i % j)
def oMul := oIc cMul fun i j => .int (i * j)
theorem os_add : OpS (rI0 fun i j => .int (i + j)) oAdd := os_I0 fun _ _ _ => .int _
theorem os_sub : OpS (rI0 fun i j => .int (i - j)) oSub := os_I0 fun _ _ _ => .int _
theorem os_lt : OpS (rI0 fun i j => .bl (decide (i < j))) oLt := os_I0 fun _ _ _ => .bl _
theorem os_le : OpS (rI0 fun i j => .bl (decide (i ≤ j))) oLe := os_I0 fun _ _ _ => .bl _
theorem os_mod : OpS (rI (fun _ j => 0 < j) fun i j => .int (i % j)) oMod := os_Ic (fun _ _ h => of_decide_eq_true h) fun _ _ _ => .int _
theorem os_mul : OpS (rI CMul fun i j => .int (i * j)) oMul := os_Ic (fun i j h => by
  have h2 : ((-18446744073709551616 < i ∧ i < 18446744073709551616) ∨ (-18446744073709551616 < j ∧ j < 18446744073709551616)) := by simpa [cMul] using h
  exact h2) fun _ _ _ => .int _
def oNeg (x : D) : Option D := match x with
  | .int i => some (.int (-i))
  | _ => none
theorem us_neg : UnS (rU fun i => .int (-i)) oNeg := fun x z e G => by
  unfold oNeg at e
  split at e
  · cases e; exact opd_U _
  · cases e
def oEqA (x y : D) : Option D := match x, y with
  | .int i, .int j => some (.bool (decide (i = j)))
  | .bool i, .bool j => some (.bool ((i == j)))
  | .str i, .str j => some (.bool (decide (i = j)))
  | .none, .none => some (.bool true)
  | .none, .int _ => some (.bool false)
  | .int _, .none => some (.bool false)
  | .none, .bool _ => some (.bool false)
  | .bool _, .none => some (.bool false)
  | .none, .str _ => some (.bool false)
  | .str _, .none => some (.bool false)
  | .int _, .str _ => some (.bool false)
  | .str _, .int _ => some (.bool false)
  | .bool _, .str _ => some (.bool false)
  | .str _, .bool _ => some (.bool false)
  | _, _ => none
def oNeA (x y : D) : Option D := match x, y with
  | .int i, .int j => some (.bool (!decide (i = j)))
  | .bool i, .bool j => some (.bool (!(i == j)))
  | .str i, .str j => some (.bool (!decide (i = j)))
  | .none, .none => some (.bool false)
  | .none, .int _ => some (.bool true)
  | .int _, .none => some (.bool true)
  | .none, .bool _ => some (.bool true)
  | .bool _, .none => some (.bool true)
  | .none, .str _ => some (.bool true)
  | .str _, .none => some (.bool true)
  | .int _, .str _ => some (.bool true)
  | .str _, .int _ => some (.bool true)
  | .bool _, .str _ => some (.bool true)
  | .str _, .bool _ => some (.bool true)
  | _, _ => none
theorem dec_str {i j : Str} : decide (V.str i = V.str j) = decide (i = j) := by
  rw [Bool.eq_iff_iff]
  simp
theorem os_eqA : OpS rEq oEqA := fun x y z e G => by
  unfold oEqA at e
  split at e
  · cases e
    intro x y G1 H1 a b hx hy Q q
    cases hx; cases hy
    refine ⟨rfl, ?_⟩
    rename_i i j
    rw [show decide (V.int i = V.int j) = decide (i = j) from by simp]
    exact q _ G1 H1 (.refl b) (.bl _)
  · cases e
    intro x y G1 H1 a b hx hy Q q
    cases hx; cases hy
    refine ⟨rfl, ?_⟩
    rw [dec_bl]
    exact q _ G1 H1 (.refl b) (.bl _)
  · cases e
    intro x y G1 H1 a b hx hy Q q
    cases hx; cases hy
    refine ⟨rfl, ?_⟩
    rw [dec_str]
    exact q _ G1 H1 (.refl b) (.bl _)
  · cases e
    intro x y G1 H1 a b hx hy Q q
    cases hx; cases hy
    refine ⟨rfl, ?_⟩
    rw [decide_eq_true rfl]
    exact q _ G1 H1 (.refl b) (.bl _)
  · cases e
    intro x y G1 H1 a b hx hy Q q
    cases hx; cases hy
    refine ⟨rfl, ?_⟩
    rw [decide_eq_false (fun z => by cases z)]
    exact q _ G1 H1 (.refl b) (.bl _)
  · cases e
    intro x y G1 H1 a b hx hy Q q
    cases hx; cases hy
    refine ⟨rfl, ?_⟩
    rw [decide_eq_false (fun z => by cases z)]
    exact q _ G1 H1 (.refl b) (.bl _)
  · cases e
    intro x y G1 H1 a b hx hy Q q
    cases hx; cases hy
    refine ⟨rfl, ?_⟩
    rw [decide_eq_false (fun z => by cases z)]
    exact q _ G1 H1 (.refl b) (.bl _)
  · cases e
    intro x y G1 H1 a b hx hy Q q
    cases hx; cases hy
    refine ⟨rfl, ?_⟩
    rw [decide_eq_false (fun z => by cases z)]
    exact q _ G1 H1 (.refl b) (.bl _)
  · cases e
    intro x y G1 H1 a b hx hy Q q
    cases hx; cases hy
    refine ⟨rfl, ?_⟩
    rw [decide_eq_false (fun z => by cases z)]
    exact q _ G1 H1 (.refl b) (.bl _)
  · cases e
    intro x y G1 H1 a b hx hy Q q
    cases hx; cases hy
    refine ⟨rfl, ?_⟩
    rw [decide_eq_false (fun z => by cases z)]
    exact q _ G1 H1 (.refl b) (.bl _)
  · cases e
    intro x y G1 H1 a b hx hy Q q
    cases hx; cases hy
    refine ⟨rfl, ?_⟩
    rw [decide_eq_false (fun z => by cases z)]
    exact q _ G1 H1 (.refl b) (.bl _)
  · cases e
    intro x y G1 H1 a b hx hy Q q
    cases hx; cases hy
    refine ⟨rfl, ?_⟩
    rw [decide_eq_false (fun z => by cases z)]
    exact q _ G1 H1 (.refl b) (.bl _)
  · cases e
    intro x y G1 H1 a b hx hy Q q
    cases hx; cases hy
    refine ⟨rfl, ?_⟩
    rw [decide_eq_false (fun z => by cases z)]
    exact q _ G1 H1 (.refl b) (.bl _)
  · cases e
    intro x y G1 H1 a b hx hy Q q
    cases hx; cases hy
    refine ⟨rfl, ?_⟩
    rw [decide_eq_false (fun z => by cases z)]
    exact q _ G1 H1 (.refl b) (.bl _)
  · cases e
theorem os_neA : OpS rNe oNeA := fun x y z e G => by
  unfold oNeA at e
  split at e
  · cases e
    intro x y G1 H1 a b hx hy Q q
    cases hx; cases hy
    refine ⟨rfl, ?_⟩
    rename_i i j
    rw [show decide (V.int i = V.int j) = decide (i = j) from by simp]
    exact q _ G1 H1 (.refl b) (.bl _)
  · cases e
    intro x y G1 H1 a b hx hy Q q
    cases hx; cases hy
    refine ⟨rfl, ?_⟩
    rw [dec_bl]
    exact q _ G1 H1 (.refl b) (.bl _)
  · cases e
    intro x y G1 H1 a b hx hy Q q
    cases hx; cases hy
    refine ⟨rfl, ?_⟩
    rw [dec_str]
    exact q _ G1 H1 (.refl b) (.bl _)
  · cases e
    intro x y G1 H1 a b hx hy Q q
    cases hx; cases hy
    refine ⟨rfl, ?_⟩
    rw [decide_eq_true rfl]
    exact q _ G1 H1 (.refl b) (.bl _)
  · cases e
    intro x y G1 H1 a b hx hy Q q
    cases hx; cases hy
    refine ⟨rfl, ?_⟩
    rw [decide_eq_false (fun z => by cases z)]
    exact q _ G1 H1 (.refl b) (.bl _)
  · cases e
    intro x y G1 H1 a b hx hy Q q
    cases hx; cases hy
    refine ⟨rfl, ?_⟩
    rw [decide_eq_false (fun z => by cases z)]
    exact q _ G1 H1 (.refl b) (.bl _)
  · cases e
    intro x y G1 H1 a b hx hy Q q
    cases hx; cases hy
    refine ⟨rfl, ?_⟩
    rw [decide_eq_false (fun z => by cases z)]
    exact q _ G1 H1 (.refl b) (.bl _)
  · cases e
    intro x y G1 H1 a b hx hy Q q
    cases hx; cases hy
    refine ⟨rfl, ?_⟩
    rw [decide_eq_false (fun z => by cases z)]
    exact q _ G1 H1 (.refl b) (.bl _)
  · cases e
    intro x y G1 H1 a b hx hy Q q
    cases hx; cases hy
    refine ⟨rfl, ?_⟩
    rw [decide_eq_false (fun z => by cases z)]
    exact q _ G1 H1 (.refl b) (.bl _)
  · cases e
    intro x y G1 H1 a b hx hy Q q
    cases hx; cases hy
    refine ⟨rfl, ?_⟩
    rw [decide_eq_false (fun z => by cases z)]
    exact q _ G1 H1 (.refl b) (.bl _)
  · cases e
    intro x y G1 H1 a b hx hy Q q
    cases hx; cases hy
    refine ⟨rfl, ?_⟩
    rw [decide_eq_false (fun z => by cases z)]
    exact q _ G1 H1 (.refl b) (.bl _)
  · cases e
    intro x y G1 H1 a b hx hy Q q
    cases hx; cases hy
    refine ⟨rfl, ?_⟩
    rw [decide_eq_false (fun z => by cases z)]
    exact q _ G1 H1 (.refl b) (.bl _)
  · cases e
    intro x y G1 H1 a b hx hy Q q
    cases hx; cases hy
    refine ⟨rfl, ?_⟩
    rw [decide_eq_false (fun z => by cases z)]
    exact q _ G1 H1 (.refl b) (.bl _)
  · cases e
    intro x y G1 H1 a b hx hy Q q
    cases hx; cases hy
    refine ⟨rfl, ?_⟩
    rw [decide_eq_false (fun z => by cases z)]
    exact q _ G1 H1 (.refl b) (.bl _)
  · cases e
def oCatT (x y : D) : Option D := match x, y with
  | .tuple as, .tuple bs => if small (as.length + bs.length) = true then some (.tuple (as ++ bs)) else none
  | _, _ => none
def oCat (x y : D) : Option D := match x, y with
  | .list as, .list bs => if small (as.length + bs.length) = true then some (.list (as ++ bs)) else none
  | _, _ => none
theorem os_catT : OpS (rCatA K) oCatT := fun x y z e G => by
  unfold oCatT at e
  split at e
  · split at e
    · rename_i h; cases e; exact opd_catT (small_line h)
    · cases e
  · cases e
theorem os_cat : OpS rCat oCat := fun x y z e G => by
  unfold oCat at e
  split at e
  · split at e
    · rename_i h; cases e; exact opd_cat (small_line h)
    · cases e
  · cases e
def oRepT (x y : D) : Option D := match x, y with
  | .tuple as, .int k => if (!as.isEmpty && decide (1 ≤ k) && decide (k ≤ 1000) && Nat.ble as.length 1000) = true then some (.tuple (List.replicate k.toNat as).flatten) else none
  | _, _ => none
theorem os_repT : OpS (rRepA K) oRepT := fun x y z e G => by
  unfold oRepT at e
  split at e
  · rename_i as k
    split at e
    · rename_i h
      simp only [Bool.and_eq_true, decide_eq_true_eq, Bool.not_eq_true', Nat.ble_eq] at h
      cases e
      have ek : ((k.toNat : Nat) : Int) = k := Int.toNat_of_nonneg (by omega)
      have := opd_rep (K := K) (G := G) (as := as) (k := k.toNat) (fun z => by rw [z] at h; simp at h) (by omega) (by omega) h.2
      rw [ek] at this
      exact this
    · cases e
  · cases e
def fine (d : D) : Bool := flatD d && SeqAt.shaped d
def oEq (x y : D) : Option D := if (fine x && fine y) = true then some (.bool (PyData.eqv x y)) else none
def oNe (x y : D) : Option D := if (fine x && fine y) = true then some (.bool (!PyData.eqv x y)) else none
theorem fine_both {x y : D} (h : (fine x && fine y) = true) : (flatD x = true ∧ SeqAt.shaped x = true) ∧ flatD y = true ∧ SeqAt.shaped y = true := by
  simpa [fine] using h
theorem os_eq : OpS (rEqD K) oEq := fun x y z e G => by
  unfold oEq at e
  split at e
  · rename_i h
    obtain ⟨⟨a, b⟩, c, d⟩ := fine_both h
    cases e; exact opd_eq a c b d
  · cases e
theorem os_ne : OpS (rNeD K) oNe := fun x y z e G => by
  unfold oNe at e
  split at e
  · rename_i h
    obtain ⟨⟨a, b⟩, c, d⟩ := fine_both h
    cases e; exact opd_ne a c b d
  · cases e
def oIn (neg : Bool) (x y : D) : Option D := if (fine x && fine y) = true then (match y with
  | .list ds => some (.bool (if neg then !ds.any fun z => PyData.eqv z x else ds.any fun z => PyData.eqv z x))
  | .tuple ds => some (.bool (if neg then !ds.any fun z => PyData.eqv z x else ds.any fun z => PyData.eqv z x))
  | _ => none) else none
theorem os_in {neg : Bool} : OpS (rInA K neg) (oIn neg) := fun x y z e G => by
  unfold oIn at e
  split at e
  · rename_i h
    obtain ⟨⟨a, b⟩, c, d⟩ := fine_both h
    split at e
    · cases e; exact opd_inL a c b d
    · cases e; exact opd_inT a c b d
    · cases e
  · cases e
def intsOf : List D → Option (List Int)
  | [] => some []
  | .int i :: ds => match intsOf ds with
    | some is => some (i :: is)
    | none => none
  | _ :: _ => none
theorem ints_of : ∀ {ds : List D} {is : List Int}, intsOf ds = some is → ds = is.map PyData.int
  | [], is, h => by cases h; rfl
  | .int i :: ds, is, h => by
    unfold intsOf at h
    cases e : intsOf ds with
    | none => rw [e] at h; cases h
    | some js => rw [e] at h; cases h; rw [List.map_cons, ← ints_of e]
  | .none :: _, _, h => by cases h
  | .bool _ :: _, _, h => by cases h
  | .str _ :: _, _, h => by cases h
  | .list _ :: _, _, h => by cases h
  | .tuple _ :: _, _, h => by cases h
  | .dict _ :: _, _, h => by cases h
theorem of_ints : ∀ is : List Int, intsOf (is.map PyData.int) = some is
  | [] => rfl
  | i :: is => by rw [List.map_cons, intsOf, of_ints is]
def ixD (as : List D) (i : Int) : Option D := if 0 ≤ i then as[i.toNat]? else if -(as.length : Int) ≤ i then as[(i + as.length).toNat]? else none
theorem ix_at {G : Hp} {xs : List V} {as : List D} {i : Int} {z : D} (h : DqA G xs as) (e : ixD as i = some z) : ∃ v, atI xs i = some v ∧ Dq G v z := by
  unfold ixD at e
  unfold atI ixN
  by_cases h0 : 0 ≤ i
  · rw [if_pos h0] at e
    obtain ⟨v, hv, q⟩ := h.getD e
    have hl := (List.getElem?_eq_some_iff.mp hv).1
    rw [if_pos h0, if_pos (by omega)]
    exact ⟨v, hv, q⟩
  · rw [if_neg h0] at e
    by_cases h1 : -(as.length : Int) ≤ i
    · rw [if_pos h1] at e
      obtain ⟨v, hv, q⟩ := h.getD e
      rw [if_neg h0, if_pos (by rw [h.len]; exact h1), h.len]
      exact ⟨v, hv, q⟩
    · rw [if_neg h1] at e; cases e
def oIxT (x y : D) : Option D := match x, y with
  | .tuple as, .int i => ixD as i
  | _, _ => none
def oIxL (x y : D) : Option D := match x, y with
  | .list as, .int i => ixD as i
  | _, _ => none
theorem os_ixT : OpS (rIxT K) oIxT := fun x y z e G => by
  unfold oIxT at e
  split at e
  · intro x y G1 H1 a b hx hy Q q
    cases hx with
    | @tup p xs _ hp hxs =>
      cases hy
      obtain ⟨v, hv, hd⟩ := ix_at hxs e
      exact ⟨p, xs, _, v, rfl, rfl, TupA.sq (TupA.mono hp b), hv, q v G1 H1 (.refl b) hd⟩
  · cases e
theorem os_ixL : OpS (rIxL K) oIxL := fun x y z e G => by
  unfold oIxL at e
  split at e
  · intro x y G1 H1 a b hx hy Q q
    cases hx with
    | @lst p xs _ hp hxs =>
      cases hy
      obtain ⟨v, hv, hd⟩ := ix_at hxs e
      exact ⟨p, xs, _, v, rfl, rfl, SqL.of (b _ _ hp), hv, q v G1 H1 (.refl b) hd⟩
  · cases e
variable {E : XK} {ad : Str → Addr} {te : TE} {fe fl fh : En → Re} {tl th : TO}
def Sp2 (to : TO) (f : En → Option (Option Int)) : Prop := ∀ σ Γ G H, Rel G H σ Γ → ∀ o, f Γ = some o → ∀ Q : Option Int → Hp → Prop, (∀ G2 H2, Stp G H G2 H2 → Q o H2) → to σ H Q
def pNone (_ : En) : Option (Option Int) := some none
theorem p_none : Sp2 tNoPart pNone := fun σ Γ G H R r e Q q => by
  cases e
  exact q G H (.refl R.w)
def pSome (fe : En → Re) (Γ : En) : Option (Option Int) := match fe Γ with
  | some (.val (.int i)) => some (some i)
  | _ => none
theorem p_some (h : Se E ad te fe) : Sp2 (tPart te) (pSome fe) := fun σ Γ G H R r e Q q => by
  unfold pSome at e
  split at e
  · rename_i i e1
    cases e
    refine h σ Γ G H R _ e1 _ fun v G2 H2 s2 q2 => ?_
    cases q2
    exact ⟨i, rfl, q G2 H2 s2⟩
  · cases e
def fSl (k : Bool) (fe : En → Re) (fl fh : En → Option (Option Int)) (Γ : En) : Re := match fe Γ with
  | some (.val z) => match sqOf k z, fl Γ, fh Γ with
    | some ds, some l, some h => some (.val (sq k (cutD ds l h)))
    | _, _, _ => none
  | some (.exc x) => some (.exc x)
  | none => none
def rSlK (K : PySem.W.Frag) : Bool → V → Option Int → Option Int → Hp → VK → Prop
  | true => rSlL K
  | false => rSlA K
theorem slice_end {k : Bool} {G H : Hp} {v : V} {ds : List D} {lo hi : Option Int} {Q : VK} (w : Ex G H) (q : Dq G v (sq k ds)) (h : ∀ v G2 H2, Stp G H G2 H2 → Dq G2 v (sq k (cutD ds lo hi)) → Q v H2) : rSlK K k v lo hi H Q := by
  cases k with
  | true =>
    cases q with
    | @lst a xs _ ha hxs =>
      have e := hxs.len
      refine ⟨a, xs, rfl, SqL.of (w _ _ ha), fun p hp => ?_⟩
      have s5 := Stp.new (o := .lst (cutV xs lo hi)) w hp
      have key : DqA G (cutV xs lo hi) (cutD ds lo hi) := by
        unfold cutV cutD
        rw [e]
        exact (hxs.drop _).take _
      exact h _ _ _ s5 (.lst upd_same (key.mono s5.g))
  | false =>
    cases q with
    | @tup a xs _ ha hxs =>
      have e := hxs.len
      refine ⟨a, xs, rfl, TupA.sq (TupA.mono ha w), fun ⟨c1, c2⟩ => ?_, fun _ p o hp od => ?_⟩
      · have z : cutD ds lo hi = ds := by
          unfold cutD
          rw [← e, c1, c2, Nat.sub_zero, List.drop_zero, e, List.take_length]
        rw [z] at h
        exact h _ G H (.refl w) (.tup ha hxs)
      · have s5 := Stp.new (o := tupO o (cutV xs lo hi)) w hp
        have key : DqA G (cutV xs lo hi) (cutD ds lo hi) := by
          unfold cutV cutD
          rw [e]
          exact (hxs.drop _).take _
        exact h _ _ _ s5 (.tup (.new od) (key.mono s5.g))
theorem u_sl {k : Bool} {fl fh : En → Option (Option Int)} (he : Se E ad te fe) (hl : Sp2 tl fl) (hh : Sp2 th fh) : Se E ad (tSl (rSlK K k) te tl th) (fSl k fe fl fh) := fun σ Γ G H R r e Q q => by
  unfold fSl at e
  split at e
  · rename_i z e1
    split at e
    · rename_i ds l h e2 e3 e4
      have ez := sq_of e2
      subst ez
      cases e
      refine he σ Γ G H R _ e1 _ fun v G2 H2 s2 q2 => ?_
      refine hl σ Γ G2 H2 (R.stp s2) _ e3 _ fun G3 H3 s3 => ?_
      refine hh σ Γ G3 H3 ((R.stp s2).stp s3) _ e4 _ fun G4 H4 s4 => ?_
      exact slice_end s4.w (q2.mono (s3.g.trans s4.g)) fun v5 G5 H5 s5 q5 => q v5 G5 H5 (((s2.trans s3).trans s4).trans s5) q5
    · cases e
  · rename_i x e1
    cases e
    exact he σ Γ G H R _ e1 _ q
  · cases e
variable {ta tb : TE} {fa fb : En → Re} {tas : TA} {fas : En → Ra}
theorem m_cat (ha : Se E ad ta fa) (hb : Se E ad tb fb) : Sm E ad (tOp rCat ta tb) (fOp oCat fa fb) := fun σ Γ G H R r1 e Q q => by
  rcases bnd_some e with ⟨x, e1, e2⟩ | ⟨x, e1, rfl⟩
  · refine ha σ Γ G H R _ e1 _ fun v G2 H2 s2 q2 => ?_
    rcases bnd_some e2 with ⟨y, e3, e4⟩ | ⟨y, e3, rfl⟩
    · refine hb σ Γ G2 H2 (R.stp s2) _ e3 _ fun v3 G3 H3 s3 q3 => ?_
      obtain ⟨z, e5, rfl⟩ := ret_some e4
      unfold oCat at e5
      split at e5
      · split at e5
        · rename_i h
          cases e5
          cases q2 with
          | @lst p xs _ hp hxs =>
            cases q3 with
            | @lst p2 ys _ hp2 hys =>
              have hxs3 := hxs.mono s3.g
              refine ⟨p, p2, xs, ys, rfl, rfl, s3.w _ _ (s3.g _ _ hp), s3.w _ _ hp2, by rw [hxs.len, hys.len]; exact small_line h, fun l hl => ?_⟩
              exact q l G3 _ ((s2.trans s3).trans (.old s3.w (.new hl))) (h_old (s2.trans s3) hl) ⟨fresh_back s3.w hl, _, upd_same, hxs3.app hys⟩
        · cases e5
      · cases e5
    · exact hb σ Γ G2 H2 (R.stp s2) _ e3 _ (q.stp s2)
  · exact ha σ Γ G H R _ e1 _ q
def CaM (r : List V → Hp → VK → Prop) (o : List D → Option D) : Prop := ∀ ds z, o ds = some z → ∀ G1 H1 vs, Ex G1 H1 → DqA G1 vs ds → ∀ Q : VK, PoM (fun _ _ _ => False) (fun _ => 0) G1 H1 Q (.val z) → r vs H1 Q
theorem m_cb {rc : List V → Hp → VK → Prop} {o : List D → Option D} (ho : CaM rc o) (h : Sa E ad tas fas) : Sm E ad (tCB rc tas) (fCb o fas) := fun σ Γ G H R r e Q q => by
  rcases bndA_some e with ⟨ds, e1, e2⟩ | ⟨x, e1, rfl⟩
  · obtain ⟨z, e3, rfl⟩ := ret_some e2
    refine h σ Γ G H R _ e1 _ fun vs G2 H2 s2 q2 => ho ds z e3 G2 H2 vs s2.w q2 Q ?_
    cases z with
    | list zs => exact fun p G3 H3 s3 hp m => q p G3 H3 (s2.trans s3) (h_old s2 hp) m
    | _ => exact q
  · exact h σ Γ G H R _ e1 _ q
theorem CaM.ca {r : List V → Hp → VK → Prop} {o : List D → Option D} (h : CaM r o) (hl : ∀ ds z, o ds = some z → ∃ zs, z = .list zs) : CaS r o := fun ds z e G vs G1 H1 x w q Q qq => by
  obtain ⟨zs, rfl⟩ := hl ds z e
  refine h ds _ e G1 H1 vs w q Q fun p G2 H2 s2 hp m => ?_
  obtain ⟨us, s3, x3, k, _⟩ := m.know s2 hp
  exact qq _ _ _ s3 k
def oLen (ds : List D) : Option D := match ds with
  | [.list as] => some (.int as.length)
  | [.tuple as] => some (.int as.length)
  | _ => none
theorem cs_len : CaS (rLenA K) oLen := fun ds z e G => by
  unfold oLen at e
  split at e
  · cases e; exact cad_lenL
  · cases e; exact cad_lenT
  · cases e
def boolsOf : List D → Option (List Bool)
  | [] => some []
  | .bool i :: ds => match boolsOf ds with
    | some is => some (i :: is)
    | none => none
  | _ :: _ => none
theorem bools_of : ∀ {ds : List D} {is : List Bool}, boolsOf ds = some is → ds = is.map PyData.bool
  | [], is, h => by cases h; rfl
  | .bool i :: ds, is, h => by
    unfold boolsOf at h
    cases e : boolsOf ds with
    | none => rw [e] at h; cases h
    | some js => rw [e] at h; cases h; rw [List.map_cons, ← bools_of e]
  | .none :: _, _, h => by cases h
  | .int _ :: _, _, h => by cases h
  | .str _ :: _, _, h => by cases h
  | .list _ :: _, _, h => by cases h
  | .tuple _ :: _, _, h => by cases h
  | .dict _ :: _, _, h => by cases h
theorem of_bools : ∀ is : List Bool, boolsOf (is.map PyData.bool) = some is
  | [] => rfl
  | i :: is => by rw [List.map_cons, boolsOf, of_bools is]
def oAll (ds : List D) : Option D := match ds with
  | [.list as] => match boolsOf as with
    | some bs => some (.bool (bs.all id))
    | none => none
  | _ => none
def oSum (ds : List D) : Option D := match ds with
  | [.list as] => match intsOf as with
    | some bs => some (.int bs.sum)
    | none => none
  | _ => none
theorem cs_all : CaS (rAll K) oAll := fun ds z e G => by
  unfold oAll at e
  split at e
  · split at e
    · rename_i h
      cases e
      rw [bools_of h]
      exact cad_all
    · cases e
  · cases e
theorem cs_sum : CaS (rSum K) oSum := fun ds z e G => by
  unfold oSum at e
  split at e
  · split at e
    · rename_i h
      cases e
      rw [ints_of h]
      intro vs G1 H1 x w h Q q
      cases h with
      | cons h k =>
        cases k
        cases h with
        | @lst p xs _ hp hx =>
          have e := hx.ints
          subst e
          exact ⟨p, _, rfl, SqL.of (w _ _ hp), q _ G1 H1 (.refl w) (.int _)⟩
    · cases e
  · cases e
def oTuple (ds : List D) : Option D := match ds with
  | [.list as] => some (.tuple as)
  | [.tuple as] => some (.tuple as)
  | _ => none
theorem cs_tuple : CaS (rTupOf K) oTuple := fun ds z e G => by
  unfold oTuple at e
  split at e
  · cases e; exact cad_tuple
  · cases e
    intro vs G1 H1 x w h Q q
    cases h with
    | cons h k =>
      cases k
      cases h with
      | @tup p xs _ hp hx => exact ⟨_, _, rfl, .inr ⟨TupA.sq (TupA.mono hp w), q _ G1 H1 (.refl w) (.tup hp hx)⟩⟩
  · cases e
def oList (ds : List D) : Option D := match ds with
  | [.list as] => some (.list as)
  | [.tuple as] => some (.list as)
  | _ => none
theorem cm_list : CaM (rListOf K) oList := fun ds z e G1 H1 vs w q Q qq => by
  unfold oList at e
  split at e
  · cases e
    cases q with
    | cons h k =>
      cases k
      cases h with
      | @lst p xs _ hp hx => exact ⟨_, _, rfl, .inl (SqL.of (w _ _ hp)), fun l hl => qq l G1 _ (.old w (.new hl)) hl ⟨fresh_back w hl, xs, upd_same, hx⟩⟩
  · cases e
    cases q with
    | cons h k =>
      cases k
      cases h with
      | @tup p xs _ hp hx => exact ⟨_, _, rfl, .inr (TupA.sq (TupA.mono hp w)), fun l hl => qq l G1 _ (.old w (.new hl)) hl ⟨fresh_back w hl, xs, upd_same, hx⟩⟩
  · cases e
theorem lst_list (ds : List D) (z : D) (e : oList ds = some z) : ∃ zs, z = .list zs := by
  unfold oList at e
  split at e
  · cases e; exact ⟨_, rfl⟩
  · cases e; exact ⟨_, rfl⟩
  · cases e
theorem cs_list : CaS (rListOf K) oList := cm_list.ca lst_list
def oInt (ds : List D) : Option D := match ds with
  | [.int i] => some (.int i)
  | _ => none
theorem cs_int : CaS (fun xs H Q => (∃ i, xs = [.int i] ∧ Q (.int i) H) ∨ ∃ k, xs = [.bl k] ∧ Q (.int (if k then 1 else 0)) H) oInt := fun ds z e G => by
  unfold oInt at e
  split at e
  · cases e; exact cad_int1
  · cases e
def oMin2 (ds : List D) : Option D := match ds with
  | [.int i, .int j] => some (.int (if j < i then j else i))
  | _ => none
theorem cs_min2 : CaS (fun xs H Q => ∃ i j, xs = [.int i, .int j] ∧ Q (.int (if j < i then j else i)) H) oMin2 := fun ds z e G => by
  unfold oMin2 at e
  split at e
  · cases e; exact cad_min2
  · cases e
def insD (a : D) : List D → List D
  | [] => [a]
  | b :: l => if ordD a b = true then a :: b :: l else b :: insD a l
def isortD : List D → List D
  | [] => []
  | a :: l => insD a (isortD l)
theorem ins_mid (a : D) (l2 : List D) (h2 : ∀ b ∈ l2, ordD a b = true) : ∀ l1 : List D, (∀ b ∈ l1, (!ordD a b) = true) → insD a (l1 ++ l2) = l1 ++ a :: l2
  | [], _ => by
    cases l2 with
    | nil => rfl
    | cons b l => show (if ordD a b = true then _ else _) = _; rw [if_pos (h2 b (List.mem_cons_self ..))]; rfl
  | b :: l1, h1 => by
    have hb := h1 b (List.mem_cons_self ..)
    show (if ordD a b = true then _ else _) = _
    rw [if_neg (by simpa using hb)]
    exact congrArg (b :: ·) (ins_mid a l2 h2 l1 (fun c hc => h1 c (List.mem_cons_of_mem _ hc)))
theorem isortD_eq : ∀ ds : List D, sortD ds = isortD ds
  | [] => by unfold sortD isortD; exact List.mergeSort_nil
  | a :: l => by
    have tr : ∀ a b c : D, ordD a b = true → ordD b c = true → ordD a c = true := fun a b c => ord_total.trans a b c
    have to : ∀ a b : D, (ordD a b || ordD b a) = true := fun a b => by
      rcases ord_total.total a b with h | h
      · rw [h]; rfl
      · rw [h, Bool.or_true]
    obtain ⟨l1, l2, e1, e2, h1⟩ := List.mergeSort_cons (le := ordD) tr to a l
    have so := List.pairwise_mergeSort (le := ordD) tr to (a :: l)
    show (a :: l).mergeSort ordD = insD a (isortD l)
    rw [← isortD_eq l]
    show _ = insD a (l.mergeSort ordD)
    rw [e2, e1]
    refine (ins_mid a l2 (fun b hb => ?_) l1 h1).symm
    rw [e1] at so
    have := (List.pairwise_append.mp so).2.1
    exact (List.pairwise_cons.mp this).1 b hb
def isTupC : D → Bool
  | .tuple (_ :: _) => true
  | _ => false
def noTupN : D → Bool
  | .tuple _ => false
  | .none => false
  | _ => true
def sortable (ds : List D) : Bool := flatDs ds && (ds.all fun d => ds.all fun e => PySem.W.alike d e) && (ds.all isTupC || ds.all noTupN) && ds.all fun d => Nat.ble d.depth 60
theorem sortable_ok {ds : List D} (h : sortable ds = true) : SortOk ds := by
  simp only [sortable, Bool.and_eq_true, Bool.or_eq_true, List.all_eq_true] at h
  obtain ⟨⟨⟨h1, h2⟩, h3⟩, h4⟩ := (h)
  refine ⟨h1, fun d hd d' hd' => h2 d hd d' hd', ?_, fun d hd => Nat.le_of_ble_eq_true (h4 d hd)⟩
  rcases h3 with h | h
  · refine .inl fun d hd => ?_
    have := h d hd
    unfold isTupC at this
    split at this
    · exact ⟨_, _, rfl⟩
    · cases this
  · refine .inr fun d hd => ?_
    have := h d hd
    unfold noTupN at this
    constructor
    · rintro rfl; simp at this
    · rintro xs rfl; simp at this
def oSorted (ds : List D) : Option D := match ds with
  | [.list as] => if sortable as = true then some (.list (isortD as)) else none
  | [.tuple as] => if sortable as = true then some (.list (isortD as)) else none
  | _ => none
theorem cs_sorted : CaS (rSortD K) oSorted := fun ds z e G => by
  unfold oSorted at e
  split at e
  · split at e
    · rename_i h; cases e; rw [← isortD_eq]; exact cad_sortL (sortable_ok h)
    · cases e
  · split at e
    · rename_i h; cases e; rw [← isortD_eq]; exact cad_sortT (sortable_ok h)
    · cases e
  · cases e
def fIsi (c : String) (fe : En → Re) (Γ : En) : Re := match fe Γ with
  | some (.val d) => some (.val (.bool (isD d c)))
  | some (.exc x) => some (.exc x)
  | none => none
theorem u_isi {c : String} (hc : c ∈ ["bool", "int", "list", "tuple", "dict"]) (h : Se E ad te fe) : Se E ad (tCB (rIsiY K) (tCons te (tCons (tC (.ty c)) tNil))) (fIsi c fe) := fun σ Γ G H R r e Q q => by
  unfold fIsi at e
  split at e
  · rename_i d e1
    cases e
    exact h σ Γ G H R _ e1 _ fun v G2 H2 s2 hv => ⟨v, .ty c, .type (tyD d), .type c, isD d c, rfl, .ty c, tyX_of s2.w hv, kit_ty (kit_of_D d hc), q _ G2 H2 s2 (.bl _)⟩
  · rename_i x e1
    cases e
    exact h σ Γ G H R _ e1 _ q
  · cases e
end
end Mv
namespace Mv
open PySem L2 Evl
def guardN (k : Nat) (g : List D → Re) (ds : List D) : Re := if Nat.beq ds.length k = true then g ds else none
theorem guard_len {k : Nat} {g : List D → Re} {ds : List D} {r : Ou} (h : guardN k g ds = some r) : ds.length = k := by
  unfold guardN at h
  split at h
  · rename_i q; exact Nat.eq_of_beq_eq_true q
  · cases h
theorem guard_get {k : Nat} {g : List D → Re} {ds : List D} {r : Ou} (h : guardN k g ds = some r) : g ds = some r := by
  unfold guardN at h
  split at h
  · exact h
  · cases h
def isLstAt (i : Nat) (ds : List D) : Bool := match ds[i]? with
  | some (.list _) => true
  | _ => false
section
variable {E : XK} {ad : Str → Addr} {K : PySem.W.Frag} {G H : Hp} {ts : TS} {fs : En → Rf} {te : TE} {fe : En → Re} {tas : TA} {fas : En → Ra} {P : Program} {w : World}
theorem body_start {N : List Str} {k : Nat} {vs : List V} {ds : List D} {r : Ou} {n : Nat} {Q : VK} (hN : N.length = k + n) (hl : vs.length = k) (hs : Ss E ad ts fs) (w : Ex G H) (h : DqA G vs ds) (e : bodyD fs n ds = some r) (q : PoE E ad G H Q r) :
    ts { nx := fun _ H' => Q .non H', rt := Q } (L2.start N vs) H := by
  unfold L2.start
  have : N.length - vs.length = n := by omega
  rw [this]
  exact body_ok hs w h e q
def noEx (r : Re) : Re := match r with
  | some (.val d) => some (.val d)
  | _ => none
def fCall0 (g : List D → Re) (fas : En → Ra) (Γ : En) : Re := bndA (fas Γ) fun ds => noEx (g ds)
theorem u_call0 {E' : XK} {g : List D → Re} (h : Sa E ad tas fas) : Se E ad (tCall (SpF ad g) [] E' tas) (fCall0 g fas) := fun σ Γ G H R r e Q q => by
  rcases bndA_some e with ⟨ds, e1, e2⟩ | ⟨x, e1, rfl⟩
  · refine h σ Γ G H R _ e1 _ fun vs G2 H2 s2 q2 => ?_
    rw [List.append_nil]
    unfold noEx at e2
    split at e2
    · rename_i d e3
      cases e2
      exact ⟨G2, ds, _, s2.w, q2, e3, q.stp s2⟩
    · cases e2
  · exact h σ Γ G H R _ e1 _ q
def isLT : D → Bool
  | .list _ => true
  | .tuple _ => true
  | _ => false
def fIsiLT (fe : En → Re) (Γ : En) : Re := match fe Γ with
  | some (.val d) => some (.val (.bool (isLT d)))
  | some (.exc x) => some (.exc x)
  | none => none
theorem u_isiLT (h : Se E ad te fe) : Se E ad (tCB (rIsiTY K) (tCons te (tCons (tTup (tCons (tC (.ty "list")) (tCons (tC (.ty "tuple")) tNil))) tNil))) (fIsiLT fe) := fun σ Γ G H R r e Q q => by
  unfold fIsiLT at e
  split at e
  · rename_i d e1
    cases e
    refine h σ Γ G H R _ e1 _ fun v G2 H2 s hv => ⟨by show 2 ≤ sizeLine; decide, fun p o hp od => ?_⟩
    have s2 := Stp.new (o := tupO o [.ty "list", .ty "tuple"]) s.w hp
    have e1 := kit_ty (K := K) (kit_of_D d (c := "list") (by decide))
    have e : PySem.W.kitAny K (.type (tyD d)) [.type "list", .type "tuple"] = some (isLT d) := by
      unfold PySem.W.kitAny
      rw [e1]
      cases d <;> first | rfl | (simp only [tyD]; unfold PySem.W.kitAny; rw [kit_ty (by decide +kernel)] <;> rfl)
    exact ⟨v, p, _, .type (tyD d), _, isLT d, rfl, sqO upd_same, .cons (.ty _) (.cons (.ty _) .nil), tyX_of s2.w (hv.mono s2.g), e, q _ _ _ (s.trans s2) (.bl _)⟩
  · rename_i x e1
    cases e
    exact h σ Γ G H R _ e1 _ q
  · cases e
end
end Mv
namespace Mv
open PySem PySem.Spec PyProof.Rows L2 Evl
section
variable {P : Program} {w : World}
variable {A : Around} {E : Value → Shared → Prop} {s : Shared}
end
section
variable {X : Cx}
end
section
variable {K : PySem.W.Frag} {P : Program} {w : World} {σ : L2.St} {G : Hp} {te : TE}
variable {E : XK} {ad : Str → Addr} {fe : En → Re}
end
end Mv
namespace Mv
open PySem L2 Evl
theorem add_take : ∀ {n a b : List Int}, InP a n → InP b n → addP n a (takeP n b a) = b
  | _, _, _, .nil, .nil => rfl
  | s :: n, x :: a, y :: b, .cons _ _ ha, .cons h1 h2 hb => by
    show ((x + (y - x) % s) % s) :: addP n a (takeP n b a) = _
    rw [add_take ha hb, Int.add_emod_emod]
    have e : x + (y - x) = y := by omega
    rw [e, Int.emod_eq_of_lt h1 h2]
theorem add_take_add : ∀ {n a b e : List Int}, InP a n → InP b n → addP n a (addP n (takeP n b a) e) = addP n b e
  | _, _, _, _, .nil, .nil => rfl
  | s :: n, x :: a, y :: b, [], _, _ => rfl
  | s :: n, x :: a, y :: b, z :: e, .cons _ _ ha, .cons h1 h2 hb => by
    show ((x + ((y - x) % s + z) % s) % s) :: addP n a (addP n (takeP n b a) e) = ((y + z) % s) :: addP n b e
    have q1 : x + ((y - x) % s + z) = (y - x) % s + (x + z) := by omega
    rw [add_take_add ha hb, Int.add_emod_emod, q1, Int.emod_add_emod]
    have q : y - x + (x + z) = y + z := by omega
    rw [q]
theorem add_swap : ∀ (n z x y : List Int), addP n (addP n z x) y = addP n (addP n z y) x
  | [], _, _, _ => rfl
  | s :: n, [], [], [] => rfl
  | s :: n, [], [], _ :: _ => rfl
  | s :: n, [], _ :: _, [] => rfl
  | s :: n, [], _ :: _, _ :: _ => rfl
  | s :: n, _ :: _, [], [] => rfl
  | s :: n, _ :: _, [], _ :: _ => rfl
  | s :: n, _ :: _, _ :: _, [] => rfl
  | s :: n, u :: z, a :: x, b :: y => by
    show (((u + a) % s + b) % s) :: addP n (addP n z x) y = (((u + b) % s + a) % s) :: addP n (addP n z y) x
    rw [add_swap n z x y, Int.emod_add_emod, Int.emod_add_emod]
    have q : u + a + b = u + b + a := by omega
    rw [q]
theorem addUp_perm {n : List Int} {L M : Rows} (h : L.Perm M) : addUp n L = addUp n M := by
  unfold addUp
  exact h.foldl_eq' (fun x _ y _ z => add_swap n z x y) _
theorem take_both : ∀ (n u v b p : List Int), addP n (takeP n u v) (takeP n b p) = takeP n (addP n u b) (addP n v p)
  | [], _, _, _, _ => rfl
  | s :: n, [], _, _, _ => rfl
  | s :: n, _ :: _, [], b, p => by cases b <;> cases p <;> rfl
  | s :: n, _ :: _, _ :: _, [], _ => rfl
  | s :: n, _ :: _, _ :: _, _ :: _, [] => rfl
  | s :: n, u :: us, v :: vs, b :: bs, p :: ps => by
    show (((u - v) % s + (b - p) % s) % s) :: addP n (takeP n us vs) (takeP n bs ps) = (((u + b) % s - (v + p) % s) % s) :: takeP n (addP n us bs) (addP n vs ps)
    rw [take_both n us vs bs ps, Int.emod_add_emod, Int.add_emod_emod, Int.emod_sub_emod, Int.sub_emod_emod]
    have q : u - v + (b - p) = u + b - (v + p) := by omega
    rw [q]
theorem take_self : ∀ {n z : List Int}, z.length = n.length → takeP n z z = zeros n
  | [], [], _ => rfl
  | s :: n, x :: z, h => by
    show ((x - x) % s) :: takeP n z z = 0 :: zeros n
    rw [take_self (n := n) (z := z) (by simpa using h), Int.sub_self, Int.zero_emod]
  | [], _ :: _, h => by simp at h
  | _ :: _, [], h => by simp at h
def ledBy (n : List Int) (P B : Rows) : Rows := (P.zip B).map fun q => takeP n q.2 q.1
theorem sum_led (n : List Int) : ∀ (P B : Rows) (u v : List Int), P.length = B.length → (ledBy n P B).foldl (fun a b => addP n a b) (takeP n u v) = takeP n (B.foldl (fun a b => addP n a b) u) (P.foldl (fun a b => addP n a b) v)
  | [], [], _, _, _ => rfl
  | p :: P, b :: B, u, v, h => by
    show (ledBy n P B).foldl _ (addP n (takeP n u v) (takeP n b p)) = _
    rw [take_both]
    exact sum_led n P B _ _ (by simpa using h)
  | [], _ :: _, _, _, h => by simp at h
  | _ :: _, [], _, _, h => by simp at h
theorem reach_led (n : List Int) : ∀ (P B : Rows), P.length = B.length → (∀ p ∈ P, InP p n) → (∀ p ∈ B, InP p n) → ((P.zip (ledBy n P B)).map fun q => addP n q.1 q.2) = B
  | [], [], _, _, _ => rfl
  | p :: P, b :: B, h, hP, hB => by
    show addP n p (takeP n b p) :: ((P.zip (ledBy n P B)).map fun q => addP n q.1 q.2) = b :: B
    rw [add_take (hP p (.head _)) (hB b (.head _)), reach_led n P B (by simpa using h) (fun q hq => hP q (.tail _ hq)) fun q hq => hB q (.tail _ hq)]
  | [], _ :: _, h, _, _ => by simp at h
  | _ :: _, [], h, _, _ => by simp at h
def DealOk (n : List Int) (M : Rows) : Prop := ∃ B : Rows, B.Perm (placesOf n) ∧ M = ledBy n (placesOf n) B
section
variable {n : List Int}
theorem perm_in (hn : n ∈ fewD) {B : Rows} (h : B.Perm (placesOf n)) : ∀ p ∈ B, InP p n := fun p hp => few_inP hn (h.mem_iff.mp hp)
theorem DealOk.ok (hn : n ∈ fewD) {M : Rows} (d : DealOk n M) : MovesOk n M := by
  obtain ⟨B, hB, rfl⟩ := d
  have okd := okB_ok (List.all_eq_true.mp few_ok n hn)
  refine ⟨fun p hp => ?_, by unfold ledBy; rw [List.length_map, List.length_zip, hB.length_eq, Nat.min_self]⟩
  obtain ⟨q, hq, rfl⟩ := (List.mem_map.mp hp)
  obtain ⟨h1, h2⟩ := List.of_mem_zip (a := q.1) (b := q.2) hq
  exact takeP_in (perm_in hn hB _ h2).len (few_inP hn h1).len fun s hs => by have := okd.sz s hs; omega
theorem DealOk.reach (hn : n ∈ fewD) {B : Rows} (hB : B.Perm (placesOf n)) : reachF n (ledBy n (placesOf n) B) = B :=
  reach_led n _ _ hB.length_eq.symm (fun _ h => few_inP hn h) (perm_in hn hB)
theorem DealOk.sum (hn : n ∈ fewD) {M : Rows} (d : DealOk n M) : addUp n (sortR M) = zeros n := by
  have pm : (sortR M).Perm M := isort_perm M
  rw [addUp_perm pm]
  obtain ⟨B, hB, rfl⟩ := d
  have h := sum_led n (placesOf n) B (zeros n) (zeros n) hB.length_eq.symm
  rw [take_self (zeros_len n)] at h
  have e : addUp n B = addUp n (placesOf n) := addUp_perm hB
  unfold addUp at e ⊢
  rw [h, e]
  exact take_self (addUp_len (n := n) (l := placesOf n) fun p hp => (few_inP hn hp).len)
theorem few_two : (fewD.all fun n => decide (2 ≤ (placesOf n).length)) = true := by decide +kernel
theorem few_step : (fewD.all fun n => (placesOf n).all fun p => decide (addP n p ((placesOf n).getD 1 []) ≠ p)) = true := by decide +kernel
theorem set_dup {B : Rows} {i : Nat} (hi : i < B.length) {x : List Int} (hx : x ∈ B) (hne : x ≠ B[i]) : ¬ (B.set i x).Nodup := fun hd => by
  obtain ⟨j, hj, e⟩ := List.getElem_of_mem hx
  have hij : i ≠ j := fun z => by subst z; exact hne e.symm
  have h := List.pairwise_iff_getElem.mp hd
  have hi2 : i < (B.set i x).length := by simpa using hi
  have hj2 : j < (B.set i x).length := by simpa using hj
  have a1 : (B.set i x)[i] = x := List.getElem_set_self hi2
  have a2 : (B.set i x)[j] = x := by rw [List.getElem_set_ne hij]; exact e
  rcases Nat.lt_or_gt_of_ne hij with q | q
  · exact h i j hi2 hj2 q (a1.trans a2.symm)
  · exact h j i hj2 hi2 q (a2.trans a1.symm)
theorem reach_set {M : Rows} {i : Nat} {y : List Int} (hi : i < (placesOf n).length) : reachF n (M.set i y) = (reachF n M).set i (addP n ((placesOf n)[i]) y) := by
  apply List.ext_getElem
  · simp [reachF]
  · intro k h1 h2
    simp only [reachF, List.getElem_map, List.getElem_zip, List.getElem_set]
    by_cases e : i = k
    · subst e; simp
    · simp [e]
theorem DealOk.bent (hn : n ∈ fewD) {M : Rows} (d : DealOk n M) {i : Nat} (hi : i < M.length) : isDealt n (dT (M.set i (addP n M[i] ((placesOf n).getD 1 [])))) = false := by
  have o := d.ok hn
  have okd := okB_ok (List.all_eq_true.mp few_ok n hn)
  have pos : ∀ s ∈ n, 0 < s := fun s hs => by have := okd.sz s hs; omega
  obtain ⟨x, hx⟩ : ∃ x, x = addP n M[i] ((placesOf n).getD 1 []) := ⟨_, rfl⟩
  have h1 : (placesOf n).getD 1 [] ∈ placesOf n := by
    have h := List.all_eq_true.mp few_two n hn
    have two : 2 ≤ (placesOf n).length := by simpa using h
    rw [List.getD_eq_getElem?_getD, List.getElem?_eq_getElem (by omega)]
    exact List.getElem_mem _
  have inx : InP x n := by rw [hx]; exact addP_in (o.inp _ (List.getElem_mem hi)).len (few_inP hn h1).len pos
  have o2 : MovesOk n (M.set i x) := ⟨fun p hp => by
    rcases List.mem_or_eq_of_mem_set hp with h | h
    · exact o.inp p h
    · rw [h]; exact inx, by rw [List.length_set]; exact o.len⟩
  rw [← hx, dealt_T hn o2]
  refine decide_eq_false ?_
  have pl := o.len
  rw [reach_set (by omega)]
  obtain ⟨B, hB, rfl⟩ := d
  rw [DealOk.reach hn hB]
  have hl := hB.length_eq
  have hiB : i < B.length := by omega
  have eM : (ledBy n (placesOf n) B)[i] = takeP n B[i] (placesOf n)[i] := by simp [ledBy]
  have ex : addP n (placesOf n)[i] x = addP n B[i] ((placesOf n).getD 1 []) := by
    rw [hx, eM]
    exact add_take_add (few_inP hn (List.getElem_mem _)) (perm_in hn hB _ (List.getElem_mem _))
  rw [ex]
  have hBi : B[i] ∈ placesOf n := hB.mem_iff.mp (List.getElem_mem hiB)
  refine set_dup hiB (hB.mem_iff.mpr ?_) ?_
  · exact (addP_in (few_inP hn hBi).len (few_inP hn h1).len pos).mem
  · have h := List.all_eq_true.mp (List.all_eq_true.mp few_step n hn) _ hBi
    simpa using h
end
end Mv
namespace Mv
open PySem L2 Evl
theorem addP_comm : ∀ (n a b : List Int), addP n a b = addP n b a
  | [], _, _ => rfl
  | s :: n, [], [] => rfl
  | s :: n, [], _ :: _ => rfl
  | s :: n, _ :: _, [] => rfl
  | s :: n, x :: a, y :: b => by
    show (x + y) % s :: addP n a b = (y + x) % s :: addP n b a
    rw [addP_comm n a b, Int.add_comm]
theorem addP_cancel : ∀ {n a x y : List Int}, InP x n → InP y n → a.length = n.length → addP n a x = addP n a y → x = y
  | [], _, _, _, .nil, .nil, _, _ => rfl
  | s :: n, u :: a, x :: xs, y :: ys, .cons x0 x1 hx, .cons y0 y1 hy, hl, e => by
    have e' : (u + x) % s :: addP n a xs = (u + y) % s :: addP n a ys := e
    injection e' with e1 e2
    have h1 := addP_cancel hx hy (by simpa using hl) e2
    have h2 : (x - y) % s = 0 := by
      have : ((u + x) - (u + y)) % s = 0 := by rw [Int.sub_emod, e1, Int.sub_self, Int.zero_emod]
      have q : (u + x) - (u + y) = x - y := by omega
      rwa [q] at this
    have h3 : x = y := by
      obtain ⟨c, hc⟩ := Int.dvd_of_emod_eq_zero h2
      have : c = 0 := by
        rcases Int.lt_trichotomy c 0 with z | z | z
        · have := Int.mul_le_mul_of_nonneg_left (show c ≤ -1 by omega) (show 0 ≤ s by omega)
          omega
        · exact z
        · have := Int.mul_le_mul_of_nonneg_left (show 1 ≤ c by omega) (show 0 ≤ s by omega)
          omega
      rw [this, Int.mul_zero] at hc
      omega
    rw [h3, h1]
abbrev Bg := List (List Int × List Int)
def kI (p : List Int) : KK := p.map Sum.inl
theorem kD_kI (p : List Int) : kD (kI p) = dI p := by
  unfold kD kI dI
  rw [List.map_map]
  rfl
theorem kI_inj {p q : List Int} (h : kI p = kI q) : p = q := by
  have := congrArg kD h
  rw [kD_kI, kD_kI] at this
  have t : PyData.tuple (p.map PyData.int) = .tuple (q.map .int) := this
  injection t with t
  have same : ∀ {a b : List Int}, a.map PyData.int = b.map PyData.int → a = b := fun {a} => by
    induction a with
    | nil => intro b z; cases b with
      | nil => rfl
      | cons y b => simp at z
    | cons x a ih => intro b z; cases b with
      | nil => simp at z
      | cons y b =>
        rw [List.map_cons, List.map_cons] at z
        injection z with z1 z2
        injection z1 with z1
        rw [z1, ih z2]
  exact same t
def enc (B : Bg) : List (KK × D) := B.map fun q => (kI q.1, dI q.2)
def endB (n : List Int) (q : List Int × List Int) : List Int := addP n q.1 q.2
def atEnd (n : List Int) (B : Bg) (e : List Int) : Option (List Int × List Int) := B.find? fun q => decide (endB n q = e)
section
variable {n K : List Int} {S : Rows} {H : Bg} {t w m : List Int} {q : List Int × List Int}
structure BgOk (n : List Int) (H : Bg) : Prop where
  keys : (H.map (·.1)).Nodup
  inH : ∀ q ∈ H, InP q.1 n ∧ InP q.2 n
  ends : (H.map (endB n)).Nodup
structure Ps (n K : List Int) (S : Rows) (H : Bg) (t w m : List Int) : Prop where
  b : BgOk n H
  it : InP t n
  iw : InP w n
  im : InP m n
  ft : t ∉ H.map (·.1)
  fw : w ∉ H.map (·.1)
  seq : (S ++ [t, w]).Nodup
  inS : ∀ p ∈ S, InP p n
  chain : ∀ (i : Nat) (p mv : List Int), S[i]? = some p → (p, mv) ∈ H → ∃ r, (S ++ [t])[i + 1]? = some r ∧ addP n (addP n p mv) r = K
  key : addP n (addP n t m) w = K
theorem addP_inP {n a b : List Int} (h1 : InP a n) (h2 : InP b n) : InP (addP n a b) n := by
  have pos : ∀ {p n : List Int}, InP p n → ∀ s ∈ n, 0 < s := fun h => by
    induction h with
    | nil => intro s hs; cases hs
    | cons a b _ ih =>
      intro s hs
      rcases List.mem_cons.mp hs with e | e
      · rw [e]; omega
      · exact ih s e
  exact addP_in h1.len h2.len (pos h1)
theorem at_mem {B : Bg} {e : List Int} (h : atEnd n B e = some q) : q ∈ B ∧ endB n q = e :=
  ⟨List.mem_of_find?_eq_some h, by
    have z := List.find?_some (p := fun q => decide (endB n q = e)) h
    exact of_decide_eq_true z⟩
theorem end_one {B : Bg} (hk : (B.map (endB n)).Nodup) {x y : List Int × List Int} (hx : x ∈ B) (hy : y ∈ B) (e : endB n x = endB n y) : x = y := by
  induction B with
  | nil => cases hx
  | cons b B ih =>
    rw [List.map_cons, List.nodup_cons] at hk
    rcases List.mem_cons.mp hx with ex | ex <;> rcases List.mem_cons.mp hy with ey | ey
    · rw [ex, ey]
    · exact (hk.1 (List.mem_map.mpr ⟨y, ey, by rw [← e, ex]⟩)).elim
    · exact (hk.1 (List.mem_map.mpr ⟨x, ex, by rw [e, ey]⟩)).elim
    · exact ih hk.2 ex ey
theorem mem_key {B : Bg} {x : List Int × List Int} (h : x ∈ B) : x.1 ∈ B.map (·.1) := List.mem_map.mpr ⟨x, h, rfl⟩
theorem drop_snoc {l : List Int} (h : t ≠ l) : ((H ++ [(t, m)]).filter fun x => decide (x.1 ≠ l)) = (H.filter fun x => decide (x.1 ≠ l)) ++ [(t, m)] := by
  rw [List.filter_append, List.filter_cons_of_pos (by simpa using h)]
  rfl
theorem BgOk.filter (b : BgOk n H) (p : List Int × List Int → Bool) : BgOk n (H.filter p) :=
  ⟨b.keys.sublist ((List.filter_sublist (p := p)).map _), fun q hq => b.inH q ((List.mem_filter.mp hq).1), b.ends.sublist ((List.filter_sublist (p := p)).map _)⟩
theorem BgOk.snoc (b : BgOk n H) (hp : InP t n) (hm : InP m n) (ft : t ∉ H.map (·.1)) (fe : addP n t m ∉ H.map (endB n)) : BgOk n (H ++ [(t, m)]) := by
  refine ⟨?_, fun q hq => ?_, ?_⟩
  · (rw [List.map_append, List.nodup_append])
    refine ⟨b.keys, by simp, fun x hx y hy e => ?_⟩
    simp at hy
    rw [e, hy] at hx
    exact ft hx
  · rcases List.mem_append.mp hq with h | h
    · exact b.inH q h
    · simp at h; rw [h]; exact ⟨hp, hm⟩
  · (rw [List.map_append, List.nodup_append])
    refine ⟨b.ends, by simp, fun x hx y hy e => ?_⟩
    simp at hy
    rw [e, hy] at hx
    exact fe hx
theorem Ps.loser (p : Ps n K S H t w m) (h : atEnd n H (addP n t m) = some q) : q.1 ≠ t ∧ q.1 ≠ w ∧ q.1 ∉ S := by
  obtain ⟨hm, he⟩ := at_mem h
  refine ⟨fun z => p.ft (z ▸ mem_key hm), fun z => p.fw (z ▸ mem_key hm), fun z => ?_⟩
  obtain ⟨i, hi⟩ := List.mem_iff_getElem?.mp z
  obtain ⟨r, hr, hk⟩ := p.chain i q.1 q.2 hi hm
  have lt : i + 1 < (S ++ [t]).length := (List.getElem?_eq_some_iff.mp hr).1
  have hr2 : r ∈ S ++ [t] := List.mem_of_getElem? hr
  have ri : InP r n := by
    rcases List.mem_append.mp hr2 with h | h
    · exact p.inS r h
    · simp at h; rw [h]; exact p.it
  have e : r = w := by
    refine addP_cancel ri p.iw (addP_inP p.it p.im).len ?_
    have he' : addP n q.1 q.2 = addP n t m := he
    rw [he'] at hk
    rw [hk, p.key]
  have sq := p.seq
  have e2 : S ++ [t, w] = (S ++ [t]) ++ [w] := by simp
  rw [e2, List.nodup_append] at sq
  exact sq.2.2 r hr2 w (by simp) e
theorem Ps.next (p : Ps n K S H t w m) (h : atEnd n H (addP n t m) = some q) : Ps n K (S ++ [t]) ((H ++ [(t, m)]).filter fun x => decide (x.1 ≠ q.1)) w q.1 q.2 := by
  obtain ⟨hm, he⟩ := at_mem h
  obtain ⟨n1, n2, n3⟩ := p.loser h
  have he' : addP n q.1 q.2 = addP n t m := he
  rw [drop_snoc (Ne.symm n1)]
  have fe : addP n t m ∉ (H.filter fun x => decide (x.1 ≠ q.1)).map (endB n) := fun z => by
    obtain ⟨x, hx, hq⟩ := List.mem_map.mp z
    have h1 := List.mem_filter.mp hx
    have := end_one p.b.ends h1.1 hm (hq.trans he.symm)
    have h2 := of_decide_eq_true h1.2
    exact h2 (by rw [this])
  have ft : t ∉ (H.filter fun x => decide (x.1 ≠ q.1)).map (·.1) := fun z => by
    obtain ⟨x, hx, hq⟩ := List.mem_map.mp z
    exact p.ft (hq ▸ mem_key ((List.mem_filter.mp hx).1))
  have i2 := p.b.inH q hm
  have sq := p.seq
  have e2 : S ++ [t, w] = (S ++ [t]) ++ [w] := by simp
  rw [e2, List.nodup_append] at sq
  refine ⟨(p.b.filter _).snoc p.it p.im ft fe, p.iw, i2.1, i2.2, fun z => ?_, fun z => ?_, ?_, fun x hx => ?_, fun i x mv hi hx => ?_, ?_⟩
  · rw [List.map_append, List.mem_append] at z
    rcases z with z | z
    · obtain ⟨x, hx, hq⟩ := List.mem_map.mp z
      exact p.fw (hq ▸ mem_key ((List.mem_filter.mp hx).1))
    · simp at z
      exact sq.2.2 t (by simp) w (by simp) z.symm
  · rw [List.map_append, List.mem_append] at z
    rcases z with z | z
    · obtain ⟨x, hx, hq⟩ := List.mem_map.mp z
      exact of_decide_eq_true (List.mem_filter.mp hx).2 hq
    · simp at z; exact n1 z
  · have e3 : S ++ [t] ++ [w, q.1] = ((S ++ [t]) ++ [w]) ++ [q.1] := by simp
    rw [e3, List.nodup_append]
    refine ⟨List.nodup_append.mpr sq, by simp, fun x hx y hy e => ?_⟩
    simp at hy
    rw [e, hy] at hx
    simp at hx
    rcases hx with z | z | z
    · exact n3 z
    · exact n1 z
    · exact n2 z
  · rcases List.mem_append.mp hx with h | h
    · exact p.inS x h
    · simp at h; rw [h]; exact p.it
  · by_cases hl : i < S.length
    · rw [List.getElem?_append_left hl] at hi
      have hx2 : (x, mv) ∈ H := by
        rcases List.mem_append.mp hx with h | h
        · exact (List.mem_filter.mp h).1
        · simp at h
          have sq1 := sq.1
          rw [List.nodup_append] at sq1
          exact (sq1.2.2 x (List.mem_of_getElem? hi) t (by simp) h.1).elim
      obtain ⟨r, hr, hk⟩ := p.chain i x mv hi hx2
      exact ⟨r, by rw [List.getElem?_append_left (List.getElem?_eq_some_iff.mp hr).1]; exact hr, hk⟩
    · have hlen : i < (S ++ [t]).length := (List.getElem?_eq_some_iff.mp hi).1
      rw [List.length_append] at hlen
      have ei : i = S.length := by simp at hlen; omega
      subst ei
      rw [List.getElem?_append_right (Nat.le_refl _)] at hi
      simp at hi
      subst hi
      have ex : mv = m := by
        rcases List.mem_append.mp hx with h | h
        · exact (ft (List.mem_map.mpr ⟨_, h, rfl⟩)).elim
        · simp at h; exact h
      refine ⟨w, ?_, by rw [ex]; exact p.key⟩
      rw [List.getElem?_append_right (by simp)]
      simp
  · rw [add_swap, addP_comm n w q.1, add_swap, he']
    exact p.key
theorem Ps.few (hn : n ∈ fewD) (p : Ps n K S H t w m) : S.length + 2 ≤ (placesOf n).length := by
  have : (S ++ [t, w]).length ≤ (placesOf n).length := nodup_len p.seq fun x hx => by
    rcases List.mem_append.mp hx with h | h
    · exact (p.inS x h).mem
    · simp at h
      rcases h with h | h
      · rw [h]; exact p.it.mem
      · rw [h]; exact p.iw.mem
  simpa using this
end
end Mv
namespace Mv
open PySem L2 Evl
theorem madeD_nodup {α : Type} (f : α → KK) (g : α → D) : ∀ (l : List α), (l.map f).Nodup → madeD (fun _ => true) f g l = l.map fun x => (f x, g x) := by
  have key : ∀ (l : List α) (es : List (KK × D)), (l.map f).Nodup → (∀ x ∈ l, ∀ e ∈ es, e.1 ≠ f x) → l.foldl (fun es x => putD es (f x) (g x)) es = es ++ l.map fun x => (f x, g x) := by
    intro l
    induction l with
    | nil => intro es _ _; simp
    | cons x l ih =>
      intro es hd hn
      rw [List.map_cons, List.nodup_cons] at hd
      have e1 : putD es (f x) (g x) = es ++ [(f x, g x)] := by
        unfold putD
        rw [if_neg]
        intro z
        obtain ⟨e, he, hq⟩ := List.any_eq_true.mp z
        exact hn x (List.mem_cons_self ..) e he (of_decide_eq_true hq)
      rw [List.foldl_cons, e1, ih _ hd.2, List.map_cons, List.append_assoc]
      · rfl
      · intro y hy e he
        rcases List.mem_append.mp he with h | h
        · exact hn y (List.mem_cons_of_mem _ hy) e h
        · simp at h; rw [h]; exact fun z => hd.1 (List.mem_map.mpr ⟨y, hy, z.symm⟩)
  intro l h
  unfold madeD
  rw [List.filter_eq_self.mpr (fun _ _ => rfl), key l [] h (fun _ _ _ he => by cases he), List.nil_append]
theorem nodup_kI {L : Rows} (h : L.Nodup) : (L.map kI).Nodup := by
  induction L with
  | nil => exact List.nodup_nil
  | cons x L ih =>
    rw [List.nodup_cons] at h
    (rw [List.map_cons, List.nodup_cons])
    exact ⟨fun z => by obtain ⟨y, hy, e⟩ := List.mem_map.mp z; exact h.1 (kI_inj e ▸ hy), ih h.2⟩
theorem Ps.start {n : List Int} {B : Bg} {t w m : List Int} (b : BgOk n B) (it : InP t n) (iw : InP w n) (im : InP m n) (ft : t ∉ B.map (·.1)) (fw : w ∉ B.map (·.1)) (ne : t ≠ w) : Ps n (addP n (addP n t m) w) [] B t w m :=
  { b := b, it := it, iw := iw, im := im, ft := ft, fw := fw, seq := by simp [ne], inS := fun _ h => (by cases h), chain := fun _ _ _ h => (by simp at h), key := rfl }
end Mv
namespace Mv
open PySem L2 Evl
section
variable {n : List Int} {B : Bg}
end
end Mv
namespace Mv
open PySem L2 Evl
def keyI : D → Option L2.Key
  | .int i => some (.inl i)
  | .str s => some (.inr s)
  | _ => none
def keysI : List D → Option KK
  | [] => some []
  | d :: ds => match keyI d, keysI ds with
    | some k, some ks => some (k :: ks)
    | _, _ => none
def keyOf0 : D → Option KK
  | .tuple ds => keysI ds
  | _ => none
def keyOf : D → Option KK
  | .tuple (d :: ds) => keysI (d :: ds)
  | _ => none
theorem keyI_some {d : D} {k : L2.Key} (h : keyI d = some k) : d = keyD k := by
  cases d with
  | int i => cases h; rfl
  | str s => cases h; rfl
  | _ => cases h
theorem keysI_some : ∀ {ds : List D} {k : KK}, keysI ds = some k → ds = k.map keyD
  | [], k, h => by cases h; rfl
  | d :: ds, k, h => by
    unfold keysI at h
    split at h
    · rename_i k1 ks e1 e2
      cases h
      rw [keyI_some e1, keysI_some e2]; rfl
    · cases h
theorem keyOf0_some {d : D} {k : KK} (h : keyOf0 d = some k) : d = kD k := by
  cases d with
  | tuple ds => rw [keysI_some (show keysI ds = some k from h)]; rfl
  | _ => cases h
theorem keyOf_some {d : D} {k : KK} (h : keyOf d = some k) : d = kD k := by
  cases d with
  | tuple ds =>
    cases ds with
    | nil => cases h
    | cons d ds => rw [keysI_some (show keysI (d :: ds) = some k from h)]; rfl
  | _ => cases h
theorem keyOf_ne {d : D} {k : KK} (h : keyOf d = some k) : k ≠ [] := fun z => by
  have e := keyOf_some h
  subst z
  rw [e] at h
  cases h
def dctGo : List (D × D) → Option (List (KK × D))
  | [] => some []
  | e :: es => match keyOf0 e.1, dctGo es with
    | some k, some r => some ((k, e.2) :: r)
    | _, _ => none
def dctOf : D → Option (List (KK × D))
  | .dict ps => dctGo ps
  | _ => none
theorem dctGo_some : ∀ {ps : List (D × D)} {es : List (KK × D)}, dctGo ps = some es → ps = es.map fun e => (kD e.1, e.2)
  | [], es, h => by cases h; rfl
  | (a, b) :: ps, es, h => by
    unfold dctGo at h
    split at h
    · rename_i k r e1 e2
      cases h
      rw [dctGo_some e2]
      show (a, b) :: _ = (kD k, b) :: _
      rw [← keyOf0_some e1]
    · cases h
theorem dctOf_some {d : D} {es : List (KK × D)} (h : dctOf d = some es) : d = dctD es := by
  cases d with
  | dict ps => rw [dctGo_some (show dctGo ps = some es from h)]
  | _ => cases h
section
variable {E : XK} {ad : Str → Addr} {K : PySem.W.Frag} {G H G' H' : Hp} {te td ty tx ta tb : TE} {fe fd fy fx fa fb : En → Re}
def fDGet (fa fb : En → Re) (Γ : En) : Re := bnd (fa Γ) fun d => bnd (fb Γ) fun y => match dctOf d, keyOf0 y with
  | some es, some k => ret (lkD es k)
  | _, _ => none
theorem u_dget (ha : Se E ad td fd) (hb : Se E ad ty fy) : Se E ad (tDGet td ty) (fDGet fd fy) := fun σ Γ G H R r e Q q => by
  rcases bnd_some e with ⟨x, e1, e2⟩ | ⟨x, e1, rfl⟩
  · refine ha σ Γ G H R _ e1 _ fun v G2 H2 s2 q2 => ?_
    rcases bnd_some e2 with ⟨y, e3, e4⟩ | ⟨y, e3, rfl⟩
    · refine hb σ Γ G2 H2 (R.stp s2) _ e3 _ fun u G3 H3 s3 q3 => ?_
      split at e4
      · rename_i es k k1 k2
        obtain ⟨z, l, rfl⟩ := ret_some e4
        rw [dctOf_some k1] at q2
        rw [keyOf0_some k2] at q3
        obtain ⟨a, o, kvs, rfl, ha', hp⟩ := q2.dict
        obtain ⟨w, hw, hq, nk⟩ := hp.val l
        obtain ⟨b, rfl, hb'⟩ := q3.key nk
        exact ⟨a, w, rfl, .inr ⟨kvs, k, b, .inr ⟨o, s3.h _ _ (s2.w _ _ ha')⟩, rfl, s3.w _ _ hb', hw.symm⟩, q w G3 H3 (s2.trans s3) (hq.mono s3.g)⟩
      · cases e4
    · exact hb σ Γ G2 H2 (R.stp s2) _ e3 _ (q.stp s2)
  · exact ha σ Γ G H R _ e1 _ q
def iKy (fe : En → Re) (Γ : En) : Ra := match fe Γ with
  | some (.val d) => match dctOf d with
    | some es => some (.vals (es.map fun e => kD e.1))
    | none => none
  | some (.exc x) => some (.exc x)
  | none => none
theorem i_keys (h : Se E ad td fd) : Si E ad (iKeys td) (iKy fd) := fun σ Γ G H R r e Q q => by
  unfold iKy at e
  split at e
  · rename_i d e1
    split at e
    · rename_i es e2
      cases e
      refine h σ Γ G H R _ e1 _ fun v G2 H2 s2 q0 => ?_
      rw [dctOf_some e2] at q0
      obtain ⟨a, o, kvs, rfl, ha, hp⟩ := q0.dict
      have n0 := hp.len
      have ha' : noT G2 a = some (.frz o (.dT kvs)) := noT_at ha fun _ z => by cases z
      refine ⟨a, o, rfl, .inr ⟨kvs, s2.w _ _ ha, q _ G2 H2 s2 fun i H3 x3 => ⟨fun a' hx => ?_, fun ei => ⟨x3 _ _ ha', by rw [n0, ei, List.length_map]; exact Nat.le_refl _⟩⟩⟩⟩
      have hlt : i < es.length := by have := (List.getElem?_eq_some_iff.mp hx).1; rwa [List.length_map] at this
      refine ⟨⟨x3 _ _ ha', by rw [n0]; exact hlt⟩, ?_⟩
      rintro v H4 ⟨rfl, k, u, b, hkv, rfl, hb⟩ G1 g1 g2
      obtain ⟨dv, hdv, _, nk⟩ := hp.get hkv
      rw [List.getElem?_map, hdv] at hx
      cases hx
      exact ⟨_, (Stp.refl g2).know hb, key_dq kn_at nk⟩
    · cases e
  · rename_i x e1
    cases e
    exact h σ Γ G H R _ e1 _ q
  · cases e
theorem u_emp : Se E ad tDNewK (fC (.dict [(.none, .none)])) := fun σ Γ G H R r e Q q => by
  cases e
  intro p hp
  have s := Stp.new (o := .dK []) R.w hp
  exact q _ _ _ s (.emp upd_same rfl)
def PoD (E : XK) (ad : Str → Addr) (G H : Hp) (Q : VK) : Ou → Prop
  | .val (.dict ps) => ∀ es, dctOf (.dict ps) = some es → ∀ p G2 H2, Stp G H G2 H2 → H p = none → MD G2 H2 p es → Q (.ref p) H2
  | .val _ => False
  | .exc x => ∀ G2 H2, Stp G H G2 H2 → XE E ad x H2
def Sd (E : XK) (ad : Str → Addr) (te : TE) (f : En → Re) : Prop := ∀ σ Γ G H, Rel G H σ Γ → ∀ r, f Γ = some r → ∀ Q : VK, PoD E ad G H Q r → te σ H Q
theorem keysI_map : ∀ k : KK, keysI (k.map keyD) = some k
  | [] => rfl
  | .inl i :: k => by show (match keyI (.int i), keysI (k.map keyD) with | some k, some ks => some (k :: ks) | _, _ => none) = _; rw [keysI_map k]; rfl
  | .inr i :: k => by show (match keyI (.str i), keysI (k.map keyD) with | some k, some ks => some (k :: ks) | _, _ => none) = _; rw [keysI_map k]; rfl
theorem dctGo_map : ∀ es : List (KK × D), dctGo (es.map fun e => (kD e.1, e.2)) = some es
  | [] => rfl
  | e :: es => by
    show (match keyOf0 (kD e.1), dctGo (es.map fun e => (kD e.1, e.2)) with | some k, some r => some ((k, e.2) :: r) | _, _ => none) = _
    rw [dctGo_map es, show keyOf0 (kD e.1) = some e.1 from keysI_map e.1]
theorem dctOf_dctD (es : List (KK × D)) : dctOf (dctD es) = some es := dctGo_map es
def dcGo (st : Fs) (ft fk fv : En → Re) (Γ : En) : List D → List (KK × D) → Option (List (KK × D))
  | [], acc => some acc
  | a :: as, acc => match st a Γ with
    | none => none
    | some Γ1 => match ft Γ1 with
      | some (.val (.bool b)) => if b = true then (match fk Γ1 with
        | some (.val y) => match keyOf y with
          | some k => match fv Γ1 with
            | some (.val z) => dcGo st ft fk fv Γ as (putD acc k z)
            | _ => none
          | none => none
        | _ => none) else dcGo st ft fk fv Γ as acc
      | _ => none
def fDc (src : En → Ra) (st : Fs) (ft fk fv : En → Re) (vs : List Nat) (Γ : En) : Re := match src Γ with
  | some (.vals as) => if small as.length = true then (match dcGo st ft fk fv (wipeC Γ vs) as [] with
    | some es => some (.val (dctD es))
    | none => none) else none
  | some (.exc x) => some (.exc x)
  | none => none
variable {wi : TI} {src : En → Ra} {g : TG} {st : Fs} {js vs : List Nat} {tt : TT} {ft : En → Re} {tk tv : TE} {fk fv : En → Re}
theorem md_dc (hs : Si E ad wi src) (hg : Sg g st js) (ht : Sb E ad tt ft) (hk : Se E ad tk fk) (hv : Se E ad tv fv) (hj : ∀ j ∈ js, j ∈ vs) : Sd E ad (tDcT wi g tt tk tv vs) (fDc src st ft fk fv vs) := fun σ Γ G H R r e Q q => by
  unfold fDc at e
  split at e
  · rename_i as e1
    by_cases hsm : small as.length = true
    · rw [if_pos hsm] at e
      have sml := small_le hsm
      split at e
      · rename_i es e2
        cases e
        refine hs σ Γ G H R _ e1 _ fun J G2 H2 s2 wl0 Dl hD => ?_
        have wl := wl0.mono noT_ex
        have gD : G2 Dl = none := fresh_back s2.w hD
        refine ⟨fun i m H3 => m = as.length - i ∧ i ≤ as.length ∧ ∃ acc, dcGo st ft fk fv (wipeC Γ vs) (as.drop i) acc = some es ∧ acc.length ≤ i ∧ MkD G2 H2 Dl acc H3, ⟨as.length, rfl, Nat.zero_le _, [], e2, Nat.le_refl _, MkD.start s2.w hD⟩, ?_⟩
        rintro i m H3 ⟨rfl, hi, acc, er, la, mk⟩
        obtain ⟨G3, kvs3, s3, g3, hvs3, hH3⟩ := mk
        have x23 : Ex G2 H3 := s3.g.trans s3.w
        cases hd : as.drop i with
        | nil =>
          have ei : i = as.length := by
            have := congrArg List.length hd
            rw [List.length_drop, List.length_nil] at this
            omega
          rw [hd] at er
          cases er
          exact .inl ⟨(wl i H3 x23).2 ei, q _ (dctOf_dctD _) Dl G3 H3 (s2.trans s3) (h_old s2 hD) ⟨g3, kvs3, hH3, hvs3⟩⟩
        | cons a as2 =>
          obtain ⟨ha, hd2⟩ := drop_at hd
          have hlt : i < as.length := (List.getElem?_eq_some_iff.mp ha).1
          obtain ⟨hgo, hy⟩ := (wl i H3 x23).1 a ha
          refine .inr ⟨hgo, fun H' => ∃ acc2, dcGo st ft fk fv (wipeC Γ vs) (as.drop (i + 1)) acc2 = some es ∧ acc2.length ≤ i + 1 ∧ MkD G2 H2 Dl acc2 H', fun H' hN => ⟨as.length - (i + 1), by omega, rfl, hlt, hN⟩, ?_⟩
          intro v H4 hyl
          obtain ⟨G4, s4, qv⟩ := hy v H4 hyl G3 s3.g s3.w
          rw [hd] at er
          unfold dcGo at er
          cases hst : st a (wipeC Γ vs) with
          | none => rw [hst] at er; cases er
          | some Γ1 =>
            rw [hst] at er
            dsimp only at er
            have R4 : Rel G4 H4 (wipe σ vs) (wipeC Γ vs) := ((R.stp s2).stp (s3.trans s4)).wipe vs
            refine hg _ _ _ _ R4 v a Γ1 qv hst _ fun σ2 RR l5 o5 _ _ => ⟨?_, ?_⟩
            · rw [wipe_off l5 o5 hj, wipe_two]
            · split at er
              · rename_i b eb
                have R5 := RR G4 H4 (.refl _) R4
                refine ht σ2 Γ1 G4 H4 R5 _ eb _ fun G5 H5 s5 => ?_
                have s35 := s4.trans s5
                have g5 : G5 Dl = none := s35.n Dl g3 (by rw [hH3]; intro z; cases z) (by rw [hH3]; intro xs z; cases z)
                have h5 : H5 Dl = some (.dT kvs3) := s35.h _ _ hH3
                cases b with
                | false =>
                  rw [if_neg (by decide)] at er ⊢
                  exact ⟨acc, by rw [hd2]; exact er, by omega, G5, kvs3, s3.trans s35, g5, hvs3.mono s35.g, h5⟩
                | true =>
                  rw [if_pos rfl] at er ⊢
                  split at er
                  · rename_i y ey
                    split at er
                    · rename_i k ek
                      split at er
                      · rename_i z ez
                        refine hk σ2 Γ1 G5 H5 (R5.stp s5) _ ey _ fun u G6 H6 s6 q6 => ?_
                        have h6 : H6 Dl = some (.dT kvs3) := s6.h _ _ h5
                        have g6 : G6 Dl = none := s6.n Dl g5 (by rw [h5]; intro z; cases z) (by rw [h5]; intro xs z; cases z)
                        refine hv σ2 Γ1 G6 H6 ((R5.stp s5).stp s6) _ ez _ fun w G7 H7 s7 q7 => ?_
                        have h7 : H7 Dl = some (.dT kvs3) := s7.h _ _ h6
                        have g7 : G7 Dl = none := s7.n Dl g6 (by rw [h6]; intro z; cases z) (by rw [h6]; intro xs z; cases z)
                        have s37 := (s35.trans s6).trans s7
                        rw [keyOf_some ek] at q6
                        obtain ⟨c, rfl, hc⟩ := q6.key (keyOf_ne ek)
                        have lp := putD_len acc k z
                        exact ⟨kvs3, k, c, rfl, s7.h _ _ (s6.w _ _ hc), h7, by rw [hvs3.len, sizeLine_eq]; omega, putD acc k z, by rw [hd2]; exact er, by omega, G7, putK kvs3 k w, (s3.trans s37).mutd hD g7, g7, (hvs3.mono s37.g).put (keyOf_ne ek) q7, upd_same⟩
                      · cases er
                    · cases er
                  · cases er
              · cases er
      · cases e
    · rw [if_neg hsm] at e; cases e
  · rename_i x e1
    cases e
    exact hs σ Γ G H R _ e1 _ q
  · cases e
theorem u_fix (h : Sd E ad te fe) (hd : ∀ Γ d, fe Γ = some (.val d) → ∃ es, d = dctD es) : Se E ad (tFix te) fe := fun σ Γ G H R r e Q q => by
  cases r with
  | val d =>
    obtain ⟨es, rfl⟩ := hd Γ d e
    refine h σ Γ G H R _ e _ fun es2 e2 p G2 H2 s h0 m => ?_
    rw [dctOf_dctD] at e2
    cases e2
    obtain ⟨kvs, h2, hp⟩ := m.at_
    refine ⟨p, .dT kvs, rfl, h2, True.intro, fun o => ?_⟩
    refine q _ (upd G2 p (.frz o (.dT kvs))) _ ⟨s.g.trans (.new m.g), fun b u e => ?_, fun b u e => ?_, fun b h1 h3 h4 => ?_⟩ (.dct upd_same (hp.mono (.new m.g)) rfl)
    · rw [upd_ne (fun z => by rw [z, h0] at e; cases e)]
      exact s.h _ _ e
    · by_cases z : b = p
      · rw [z, upd_same] at e ⊢; exact e
      · rw [upd_ne z] at e ⊢; exact s.w _ _ e
    · rw [upd_ne (fun z => h3 (by rw [z]; exact h0))]
      exact s.n b h1 h3 h4
  | exc x => exact h σ Γ G H R _ e _ q
theorem dct_dc (Γ : En) (d : D) (h : fDc src st ft fk fv vs Γ = some (.val d)) : ∃ es, d = dctD es := by
  unfold fDc at h
  split at h
  · split at h
    · split at h
      · cases h; exact ⟨_, rfl⟩
      · cases h
    · cases h
  · cases h
  · cases h
theorem u_dc (hs : Si E ad wi src) (hg : Sg g st js) (ht : Sb E ad tt ft) (hk : Se E ad tk fk) (hv : Se E ad tv fv) (hj : ∀ j ∈ js, j ∈ vs) : Se E ad (tFix (tDcT wi g tt tk tv vs)) (fDc src st ft fk fv vs) := u_fix (md_dc hs hg ht hk hv hj) dct_dc
end
end Mv
namespace Mv
open PySem L2 Evl
theorem Cal.imp {P : Program} {w : World} {K : PySem.W.Frag} {mg : Str → Option Value} {base : Heap} {CX : CXT} {k : Nat} {x : Str} {ps : List Str} {sp sp' : Sp} (C : Cal P w K mg base CX k x ps sp) (h : ∀ vs H Q E, sp' vs H Q E → sp vs H Q E) : Cal P w K mg base CX k x ps sp' := by
  obtain ⟨f, fd, F, r⟩ := C.ex
  exact ⟨f, fd, F.imp h, r⟩
end Mv
namespace Mv
open PySem L2 Evl
theorem small_of {n : Nat} (h : n ≤ 1000) : small n = true := by unfold small; simp; omega
theorem zipT3_small {n a b : List Int} (h : n.length ≤ 1000) : small (zipT3 (a.map PyData.int) (b.map .int) (n.map .int)).length = true := by
  rw [zipT3_len]; exact small_of (by simp; omega)
theorem fCb_one {o : List D → Option D} {fe : En → Re} {Γ : En} {d : D} (h : fe Γ = some (.val d)) : fCb o (fCons fe fNil) Γ = ret (o [d]) := by
  unfold fCb fCons
  rw [h]; rfl
theorem fRet_val {fe : En → Re} {Γ : En} {d : D} (h : fe (lockL (fun _ => true) Γ) = some (.val d)) : fRet fe Γ = some (.rt d) := by
  unfold fRet
  rw [h]
theorem bodyD_rt {fs : En → Rf} {n : Nat} {ds : List D} {d : D} (h : fs ((ds.map Ce.d) ++ List.replicate n .un) = some (.rt d)) : bodyD fs n ds = some (.val d) := by
  unfold bodyD
  rw [h]
theorem guard_of {k : Nat} {g : List D → Re} {ds : List D} (h : ds.length = k) : guardN k g ds = g ds := by
  unfold guardN
  rw [if_pos (by rw [h]; exact Nat.beq_refl k)]
theorem fLc_of {src : En → Ra} {st : Fs} {ft fe : En → Re} {vs : List Nat} {Γ : En} {as ds : List D} (h1 : src Γ = some (.vals as)) (h2 : small as.length = true) (h3 : lcGo st ft fe (wipeC Γ vs) as = some ds) : fLc src st ft fe vs Γ = some (.val (.list ds)) := by
  unfold fLc
  rw [h1]
  dsimp only
  rw [if_pos h2, h3]
end Mv
namespace Mv
open PySem L2 Evl LamX
theorem tabs_keep {T : List (Addr × Str)} {H H' : Hp} (t : Tabs T H) (k : ∀ b o, ((∃ ps, o = .tbl ps) ∨ ∃ φ, o = .ext φ) → H b = some o → H' b = some o) : Tabs T H' := fun p hp => by
  obtain ⟨ps, h1, h2, h3⟩ := t p hp
  refine ⟨ps, k _ _ (.inl ⟨ps, rfl⟩) h1, h2, fun pos cv hc => ?_⟩
  obtain ⟨c, e1, e2⟩ := (h3 pos cv hc)
  exact ⟨c, e1, k _ _ (.inr ⟨_, rfl⟩) e2⟩
theorem st_apart {H : Hp} {s l c b : Addr} {T : Int} {o : HO} (x : StAt H s l c T) (h : H b = some o) (n : (∃ ps, o = .tbl ps) ∨ ∃ φ, o = .ext φ) : b ∉ [s, l, c] := by
  obtain ⟨⟨lg, cs, left, turn, h1, h2, h3, _⟩, _⟩ := x
  simp only [List.mem_cons, List.not_mem_nil, or_false, not_or]
  rcases n with ⟨ps, rfl⟩ | ⟨φ, rfl⟩
  · exact ⟨ne_of h h1 (fun z => nomatch z), ne_of h h2 (fun z => nomatch z), ne_of h h3 (fun z => nomatch z)⟩
  · exact ⟨ne_of h h1 (fun z => nomatch z), ne_of h h2 (fun z => nomatch z), ne_of h h3 (fun z => nomatch z)⟩
theorem tabs_sts {T : List (Addr × Str)} {G H G' H' : Hp} {s l c : Addr} {T0 : Int} (t : Tabs T H) (x : StAt H s l c T0) (ss : StS [s, l, c] G H G' H') : Tabs T H' := tabs_keep t fun b o n h => ss.h b o (st_apart x h n) h
structure Cw where
  TL : List (Addr × Str)
  i0 : Nat
  Z : Hp
structure RelW (X : Cw) (s l c : Addr) (T : Int) (G H : Hp) (σ : L2.St) (Γ : En) : Prop where
  r : Rel G H σ Γ
  wd : Wd G H s l c T
  st : Γ[X.i0]? = some (.fx (.ref s))
  ap : ∀ (i : Nat) (c' : Ce) (p : Addr), Γ[i]? = some c' → isMut c' = true → σ[i]? = some (some (.ref p)) → p ∉ [s, l, c]
  nt : ∀ (b : Addr) (ps : Array Value), G b ≠ some (.tbl ps)
  tb : Tabs X.TL H
  z : Ex X.Z G
section
variable {X : Cw} {s l c : Addr} {T T' : Int} {G H G' H' G1 H1 G2 H2 G0 H0 : Hp} {σ : L2.St} {Γ Γ' : En}
theorem sts_noT (nt : ∀ (b : Addr) (ps : Array Value), G b ≠ some (.tbl ps)) (x : StS [s, l, c] G H G2 H2) : StS [s, l, c] G H (noT G2) H2 := by
  refine ⟨fun b o e => noT_at (x.g _ _ e) fun ps z => nt b ps (z ▸ e), x.h, x.k, fun b o e => x.w _ _ (of_noT e).1, fun b h1 h2 h3 => noT_none (x.n b h1 h2 h3)⟩
theorem wd_noT (x : Wd G H s l c T) : Wd (noT G) H s l c T := ⟨fun b o e => x.w _ _ (of_noT e).1, x.st, noT_none x.gs, noT_none x.gl, noT_none x.gc⟩
theorem ml_sts {p : Addr} {ds : List D} (m : ML G H p ds) (hp : p ∉ [s, l, c]) (x : StS [s, l, c] G H G2 H2) : ML G2 H2 p ds := by
  obtain ⟨us, e, q⟩ := m.at_
  exact ⟨x.n p m.g (by rw [e]; intro z; cases z) (by rw [e]; intro _ z; cases z), us, x.h _ _ hp e, q.mono x.g⟩
theorem md_sts {p : Addr} {es : List (KK × D)} (m : MD G H p es) (hp : p ∉ [s, l, c]) (x : StS [s, l, c] G H G2 H2) : MD G2 H2 p es := by
  obtain ⟨us, e, q⟩ := m.at_
  exact ⟨x.n p m.g (by rw [e]; intro z; cases z) (by rw [e]; intro _ z; cases z), us, x.h _ _ hp e, q.mono x.g⟩
theorem RelW.sts (h : RelW X s l c T G H σ Γ) (x : StS [s, l, c] G H G2 H2) (wd : Wd G2 H2 s l c T') : RelW X s l c T' (noT G2) H2 σ Γ := by
  refine ⟨⟨fun b o e => x.w _ _ (of_noT e).1, h.r.len, fun i c' e => ?_, h.r.sep⟩, wd_noT wd, h.st, h.ap, fun b ps e => (of_noT e).2 ps rfl, tabs_sts h.tb h.wd.st x, h.z.trans (sts_noT h.nt x).g⟩
  have hc := h.r.c i c' e
  cases c' with
  | un => trivial
  | fx v => exact hc
  | d z => obtain ⟨v, e1, q⟩ := hc; exact ⟨v, e1, (q.mono x.g).noT⟩
  | ml ds =>
    obtain ⟨p, e1, m⟩ := hc
    have m2 := ml_sts m (h.ap i _ p e rfl e1) x
    obtain ⟨us, e2, q⟩ := m2.at_
    exact ⟨p, e1, noT_none m2.g, us, e2, q.noT⟩
  | md es =>
    obtain ⟨p, e1, m⟩ := hc
    have m2 := md_sts m (h.ap i _ p e rfl e1) x
    obtain ⟨us, e2, q⟩ := m2.at_
    exact ⟨p, e1, noT_none m2.g, us, e2, q.noT⟩
abbrev StN (s l c : Addr) (G H G' H' : Hp) : Prop := StS [s, l, c] G (noT H) G' (noT H')
theorem StN.of (nt : ∀ (b : Addr) (ps : Array Value), G b ≠ some (.tbl ps)) (x : StS [s, l, c] G H G2 H2) (wd : Wd G2 H2 s l c T') : StN s l c G H (noT G2) H2 := by
  refine ⟨fun b o e => noT_at (x.g _ _ e) fun ps z => nt b ps (z ▸ e), fun b o hb e => ?_, fun b hb q => ?_, fun b o e => ?_, fun b h1 h2 h3 => noT_none (x.n b h1 ?_ ?_)⟩
  · obtain ⟨e1, e2⟩ := of_noT e
    exact noT_at (x.h b o hb e1) e2
  · obtain ⟨⟨o1, e1, m1⟩, ⟨o2, e2, m2⟩, o3, e3, m3⟩ := wd.st.at
    obtain ⟨⟨lg, cs, left, turn, f1, f2, f3, _⟩, _⟩ := wd.st
    simp only [List.mem_cons, List.not_mem_nil, or_false] at hb
    rcases hb with z | z | z
    · rw [z, noT_at f1 fun _ z => by cases z]; exact ⟨(fun y => nomatch y), fun _ xs y => nomatch y⟩
    · rw [z, noT_at f2 fun _ z => by cases z]; exact ⟨(fun y => nomatch y), fun _ xs y => nomatch y⟩
    · rw [z, noT_at f3 fun _ z => by cases z]; exact ⟨(fun y => nomatch y), fun _ xs y => nomatch y⟩
  · obtain ⟨e1, e2⟩ := of_noT e
    exact noT_at (x.w _ _ e1) e2
  · intro z; exact h2 (noT_none z)
  · intro xs z; exact h3 xs (noT_at z fun _ z => by cases z)
theorem StN.cut (nt : ∀ (b : Addr) (ps : Array Value), G b ≠ some (.tbl ps)) (x : StN s l c G H G2 H2) : StN s l c G H (noT G2) H2 :=
  ⟨fun b o e => noT_at (x.g _ _ e) fun ps z => nt b ps (z ▸ e), x.h, x.k, fun b o e => x.w _ _ (of_noT e).1, fun b h1 h2 h3 => noT_none (x.n b h1 h2 h3)⟩
theorem ml_stN {p : Addr} {ds : List D} (m : ML G H p ds) (hp : p ∉ [s, l, c]) (x : StN s l c G H G2 H2) : ML G2 H2 p ds := by
  obtain ⟨us, e, q⟩ := m.at_
  have e' : noT H p = some (.lst us) := noT_at e fun _ z => by cases z
  exact ⟨x.n p m.g (by rw [e']; intro z; cases z) (by rw [e']; intro _ z; cases z), us, (of_noT (x.h _ _ hp e')).1, q.mono x.g⟩
theorem md_stN {p : Addr} {es : List (KK × D)} (m : MD G H p es) (hp : p ∉ [s, l, c]) (x : StN s l c G H G2 H2) : MD G2 H2 p es := by
  obtain ⟨us, e, q⟩ := m.at_
  have e' : noT H p = some (.dT us) := noT_at e fun _ z => by cases z
  exact ⟨x.n p m.g (by rw [e']; intro z; cases z) (by rw [e']; intro _ z; cases z), us, (of_noT (x.h _ _ hp e')).1, q.mono x.g⟩
theorem RelW.stN (h : RelW X s l c T G H σ Γ) (x : StN s l c G H G2 H2) (wd : Wd G2 H2 s l c T') (tb : Tabs X.TL H2) : RelW X s l c T' (noT G2) H2 σ Γ := by
  refine ⟨⟨fun b o e => (of_noT (x.w _ _ (of_noT e).1)).1, h.r.len, fun i c' e => ?_, h.r.sep⟩, wd_noT wd, h.st, h.ap, fun b ps e => (of_noT e).2 ps rfl, tb, h.z.trans (StN.cut h.nt x).g⟩
  have hc := h.r.c i c' e
  cases c' with
  | un => trivial
  | fx v => exact hc
  | d z => obtain ⟨v, e1, q⟩ := hc; exact ⟨v, e1, (q.mono x.g).noT⟩
  | ml ds =>
    obtain ⟨p, e1, m⟩ := hc
    have m2 := ml_stN m (h.ap i _ p e rfl e1) x
    obtain ⟨us, e2, q⟩ := m2.at_
    exact ⟨p, e1, noT_none m2.g, us, e2, q.noT⟩
  | md es =>
    obtain ⟨p, e1, m⟩ := hc
    have m2 := md_stN m (h.ap i _ p e rfl e1) x
    obtain ⟨us, e2, q⟩ := m2.at_
    exact ⟨p, e1, noT_none m2.g, us, e2, q.noT⟩
theorem RelW.toN (R : RelW X s l c T G H σ Γ) (p : Stp G H G2 H2) : StN s l c G H (noT G2) H2 := StN.of R.nt p.toS (R.wd.stp p)
theorem RelW.rf (R : RelW X s l c T G H σ Γ) : StN s l c G H G H := .refl fun b o e => noT_at (R.r.w _ _ e) fun ps z => R.nt b ps (z ▸ e)
theorem noT_upd {p : Addr} {o : HO} (n : ∀ ps, o ≠ .tbl ps) : noT (upd H p o) = upd (noT H) p o := by
  funext b
  by_cases z : b = p
  · rw [z, upd_same, noT_at (upd_same (H := H)) n]
  · rw [upd_ne z]
    unfold noT
    rw [upd_ne z]
theorem StN.mutN {p : Addr} {o : HO} (a : StN s l c G H G' H') (hp : noT H p = none) (gp : G' p = none) (n : ∀ ps, o ≠ .tbl ps) : StN s l c G H G' (upd H' p o) := by
  show StS _ _ _ _ (noT (upd H' p o))
  rw [noT_upd n]
  exact StS.mut a hp gp
theorem RelW.sl (h : RelW X s l c T G H σ Γ) : σ[X.i0]? = some (some (.ref s)) := h.r.c X.i0 _ h.st
abbrev WE := En → Int → (D → Int → Prop) → Prop
abbrev WA := En → Int → (List D → Int → Prop) → Prop
abbrev WB := En → Int → (Bool → Int → Prop) → Prop
def Sw (X : Cw) (te : TE) (F : WE) : Prop := ∀ s l c T σ Γ G H, RelW X s l c T G H σ Γ → ∀ post, F Γ T post → ∀ Q : VK, (∀ d T', post d T' → ∀ v G2 H2, RelW X s l c T' G2 H2 σ Γ → StN s l c G H G2 H2 → Dq G2 v d → Q v H2) → te σ H Q
def Swa (X : Cw) (ta : TA) (F : WA) : Prop := ∀ s l c T σ Γ G H, RelW X s l c T G H σ Γ → ∀ post, F Γ T post → ∀ Q : List V → Hp → Prop, (∀ d T', post d T' → ∀ v G2 H2, RelW X s l c T' G2 H2 σ Γ → StN s l c G H G2 H2 → DqA G2 v d → Q v H2) → ta σ H Q
def Swb (X : Cw) (tt : TT) (F : WB) : Prop := ∀ s l c T σ Γ G H, RelW X s l c T G H σ Γ → ∀ post, F Γ T post → ∀ Q : Bool → Hp → Prop, (∀ b T', post b T' → ∀ G2 H2, RelW X s l c T' G2 H2 σ Γ → StN s l c G H G2 H2 → Q b H2) → tt σ H Q
variable {E : XK} {ad : Str → Addr} {te ta tb : TE} {fe : En → Re} {tt tu : TT} {ft : En → Re} {tas tr : TA} {fas : En → Ra} {Fa Fb F : WE} {FA FR : WA} {FT FU : WB}
def pw (f : En → Re) : WE := fun Γ T post => match f Γ with
  | some (.val d) => post d T
  | _ => False
def pwb (f : En → Re) : WB := fun Γ T post => match f Γ with
  | some (.val (.bool b)) => post b T
  | _ => False
def pwa (f : En → Ra) : WA := fun Γ T post => match f Γ with
  | some (.vals ds) => post ds T
  | _ => False
theorem w_pure (h : Se E ad te fe) : Sw X te (pw fe) := fun s l c T σ Γ G H R post hp Q q => by
  unfold pw at hp
  split at hp
  · rename_i d e
    refine h σ Γ G H R.r _ e Q fun v G2 H2 s2 q2 => ?_
    have x := s2.toS (S := [s, l, c])
    exact q d T hp v (noT G2) H2 (R.sts x (R.wd.stp s2)) (R.toN s2) q2.noT
  · exact hp.elim
theorem w_pureb (h : Sb E ad tt ft) : Swb X tt (pwb ft) := fun s l c T σ Γ G H R post hp Q q => by
  unfold pwb at hp
  split at hp
  · rename_i d e
    refine h σ Γ G H R.r _ e Q fun G2 H2 s2 => ?_
    have x := s2.toS (S := [s, l, c])
    exact q d T hp (noT G2) H2 (R.sts x (R.wd.stp s2)) (R.toN s2)
  · exact hp.elim
def wNil : WA := fun _ T post => post [] T
def wCons (Fa : WE) (FR : WA) : WA := fun Γ T post => Fa Γ T fun d T1 => FR Γ T1 fun ds T2 => post (d :: ds) T2
theorem w_nil : Swa X tNil wNil := fun s l c T σ Γ G H R post hp Q q => q [] T hp [] G H R R.rf .nil
theorem w_cons (ha : Sw X ta Fa) (hr : Swa X tr FR) : Swa X (tCons ta tr) (wCons Fa FR) := fun s l c T σ Γ G H R post hp Q q =>
  ha s l c T σ Γ G H R _ hp _ fun d T1 h1 v G2 H2 R2 x2 q2 => hr s l c T1 σ Γ G2 H2 R2 _ h1 _ fun ds T2 h2 vs G3 H3 R3 x3 q3 => q (d :: ds) T2 h2 (v :: vs) G3 H3 R3 (x2.trans x3) (.cons (q2.mono x3.g) q3)
def wOp (o : D → D → Option D) (Fa Fb : WE) : WE := fun Γ T post => Fa Γ T fun x T1 => Fb Γ T1 fun y T2 => match o x y with
  | some z => post z T2
  | none => False
theorem w_op {r : R2} {o : D → D → Option D} (ho : OpS r o) (ha : Sw X ta Fa) (hb : Sw X tb Fb) : Sw X (tOp r ta tb) (wOp o Fa Fb) := fun s l c T σ Γ G H R post hp Q q =>
  ha s l c T σ Γ G H R _ hp _ fun d T1 h1 v G2 H2 R2 x2 q2 => hb s l c T1 σ Γ G2 H2 R2 _ h1 _ fun y T2 h2 u G3 H3 R3 x3 q3 => by
    split at h2
    · rename_i z ez
      refine ho d y z ez G3 v u G3 H3 (.refl _) R3.r.w (q2.mono x3.g) q3 Q fun w G4 H4 s4 q4 => ?_
      have x4 := s4.toS (S := [s, l, c])
      exact q z T2 h2 w (noT G4) H4 (R3.sts x4 (R3.wd.stp s4)) ((x2.trans x3).trans (R3.toN s4)) q4.noT
    · exact h2.elim
def wTup (FA : WA) : WE := fun Γ T post => FA Γ T fun ds T1 => small ds.length = true ∧ post (.tuple ds) T1
def wLst (FA : WA) : WE := fun Γ T post => FA Γ T fun ds T1 => small ds.length = true ∧ post (.list ds) T1
theorem w_tup (h : Swa X tas FA) : Sw X (tTup tas) (wTup FA) := fun s l c T σ Γ G H R post hp Q q =>
  h s l c T σ Γ G H R _ hp _ fun ds T1 ⟨sm, h1⟩ vs G2 H2 R2 x2 q2 => ⟨by rw [q2.len]; exact small_line sm, fun p o hp od => by
    have s3 := Stp.new (o := tupO o vs) R2.r.w hp
    have x3 := s3.toS (S := [s, l, c])
    exact q _ T1 h1 _ (noT _) _ (R2.sts x3 (R2.wd.stp s3)) (x2.trans (R2.toN s3)) (Dq.noT (.tup (.new od) (q2.mono s3.g)))⟩
theorem w_lst (h : Swa X tas FA) : Sw X (tLst tas) (wLst FA) := fun s l c T σ Γ G H R post hp Q q =>
  h s l c T σ Γ G H R _ hp _ fun ds T1 ⟨sm, h1⟩ vs G2 H2 R2 x2 q2 => ⟨by rw [q2.len]; exact small_line sm, fun p hp => by
    have s3 := Stp.new (o := .lst vs) R2.r.w hp
    have x3 := s3.toS (S := [s, l, c])
    exact q _ T1 h1 _ (noT _) _ (R2.sts x3 (R2.wd.stp s3)) (x2.trans (R2.toN s3)) (Dq.noT (.lst upd_same (q2.mono s3.g)))⟩
def wCb (o : List D → Option D) (FA : WA) : WE := fun Γ T post => FA Γ T fun ds T1 => match o ds with
  | some z => post z T1
  | none => False
theorem w_cb {rc : List V → Hp → VK → Prop} {o : List D → Option D} (ho : CaS rc o) (h : Swa X tas FA) : Sw X (tCB rc tas) (wCb o FA) := fun s l c T σ Γ G H R post hp Q q =>
  h s l c T σ Γ G H R _ hp _ fun ds T1 h1 vs G2 H2 R2 x2 q2 => by
    split at h1
    · rename_i z ez
      refine ho ds z ez G2 vs G2 H2 (.refl _) R2.r.w q2 Q fun w G4 H4 s4 q4 => ?_
      have x4 := s4.toS (S := [s, l, c])
      exact q z T1 h1 w (noT G4) H4 (R2.sts x4 (R2.wd.stp s4)) (x2.trans (R2.toN s4)) q4.noT
    · exact h1.elim
def wCall (g : List D → Re) (FA : WA) : WE := fun Γ T post => FA Γ T fun ds T1 => match g ds with
  | some (.val z) => post z T1
  | _ => False
def SpW (TL : List (Addr × Str)) (W : List D → Int → (D → Int → Prop) → Prop) : Sp := fun vs H Q _ => ∃ G s l c T vs' ds post, vs = .ref s :: vs' ∧ DqA G vs' ds ∧ Wd G H s l c T ∧ (∀ (b : Addr) (ps : Array Value), G b ≠ some (.tbl ps)) ∧ Tabs TL H ∧ W ds T post ∧
  ∀ z T', post z T' → ∀ v G' H', Wd G' H' s l c T' → StN s l c G H G' H' → Tabs TL H' → Dq G' v z → Q v H'
def wDraw (W : List D → Int → (D → Int → Prop) → Prop) (FA : WA) : WE := fun Γ T post => FA Γ T fun ds T1 => W ds T1 post
theorem w_draw {E' : XK} {W : List D → Int → (D → Int → Prop) → Prop} (h : Swa X tas FA) : Sw X (tCall (SpW X.TL W) [] E' (tCons (tVar X.i0) tas)) (wDraw W FA) := fun s l c T σ Γ G H R post hp Q q =>
  ⟨.ref s, R.sl, h s l c T σ Γ G H R _ hp _ fun ds T1 h1 vs G2 H2 R2 x2 q2 => by
    show SpW X.TL W ((V.ref s :: vs) ++ []) H2 Q E'
    rw [List.append_nil]
    refine ⟨G2, s, l, c, T1, vs, ds, post, rfl, q2, R2.wd, R2.nt, R2.tb, h1, fun z T' hz v G' H' wd x tb hv => ?_⟩
    exact q z T' hz v (noT G') H' (R2.stN x wd tb) (x2.trans (StN.cut R2.nt x)) hv.noT⟩
def wIf (FT : WB) (Fa Fb : WE) : WE := fun Γ T post => FT Γ T fun b T1 => if b = true then Fa Γ T1 post else Fb Γ T1 post
def wT (Fa : WE) : WB := fun Γ T post => Fa Γ T fun d T1 => match d with
  | .bool b => post b T1
  | _ => False
theorem w_tB (h : Sw X te F) : Swb X (tB te) (wT F) := fun s l c T σ Γ G H R post hp Q q =>
  h s l c T σ Γ G H R _ hp _ fun d T1 h1 v G2 H2 R2 x2 q2 => by
    split at h1
    · cases q2; exact ⟨_, rfl, q _ T1 h1 G2 H2 R2 x2⟩
    · exact h1.elim
def wAnd (FT FU : WB) : WB := fun Γ T post => FT Γ T fun b T1 => if b = true then FU Γ T1 post else post false T1
def wOr (FT FU : WB) : WB := fun Γ T post => FT Γ T fun b T1 => if b = true then post true T1 else FU Γ T1 post
def wNot (FT : WB) : WB := fun Γ T post => FT Γ T fun b T1 => post (!b) T1
theorem w_or (ht : Swb X tt FT) (hu : Swb X tu FU) : Swb X (tOr tt tu) (wOr FT FU) := fun s l c T σ Γ G H R post hp Q q =>
  ht s l c T σ Γ G H R _ hp _ fun b T1 h1 G2 H2 R2 x2 => by
    cases b with
    | true =>
      rw [if_pos rfl] at h1 ⊢
      exact q true T1 h1 G2 H2 R2 x2
    | false =>
      rw [if_neg (by decide)] at h1 ⊢
      exact hu s l c T1 σ Γ G2 H2 R2 _ h1 Q fun d T' h G3 H3 R3 x3 => q d T' h G3 H3 R3 (x2.trans x3)
theorem w_not (ht : Swb X tt FT) : Swb X (tNot tt) (wNot FT) := fun s l c T σ Γ G H R post hp Q q =>
  ht s l c T σ Γ G H R _ hp _ fun b T1 h1 G2 H2 R2 x2 => q _ T1 h1 G2 H2 R2 x2
def wSl (k : Bool) (Fa Fb : WE) : WE := fun Γ T post => Fa Γ T fun z T1 => match sqOf k z with
  | some ds => Fb Γ T1 fun h T2 => match h with
    | .int i => post (sq k (cutD ds none (some i))) T2
    | _ => False
  | none => False
end
end Mv
namespace Mv
open PySem L2 Evl LamX
section
variable {X : Cw} {s l c : Addr} {T T' : Int} {G H G' H' G1 H1 G2 H2 G0 H0 : Hp} {σ σ' : L2.St} {Γ Γ' : En}
theorem RelW.wipe (R : RelW X s l c T G H σ Γ) {vs : List Nat} (hi : X.i0 ∉ vs) : RelW X s l c T G H (wipe σ vs) (wipeC Γ vs) := by
  refine ⟨R.r.wipe vs, R.wd, by rw [wipeC_off hi]; exact R.st, fun i c' p e m ep => ?_, R.nt, R.tb, R.z⟩
  rcases wipeC_at e with rfl | ⟨h1, h2⟩
  · cases m
  · rw [wipe_at, if_neg h1] at ep
    exact R.ap i c' p h2 m ep
theorem RelW.go {js : List Nat} (R : RelW X s l c T G H σ Γ) (r : Rel G H σ' Γ') (o : ∀ k : Nat, k ∉ js → σ'[k]? = σ[k]?) (m : ∀ (i : Nat) (c : Ce), Γ'[i]? = some c → isMut c = true → Γ[i]? = some c ∧ σ'[i]? = σ[i]?) (f : ∀ k : Nat, k ∉ js → Γ'[k]? = Γ[k]?) (hi : X.i0 ∉ js) : RelW X s l c T G H σ' Γ' := by
  refine ⟨r, R.wd, by rw [f X.i0 hi]; exact R.st, fun i c' p e mc ep => ?_, R.nt, R.tb, R.z⟩
  obtain ⟨e1, e2⟩ := m i c' e mc
  exact R.ap i c' p e1 mc (e2 ▸ ep)
theorem RelW.mutN {p : Addr} {o : HO} (R : RelW X s l c T G H σ Γ) (gp : G p = none) (hp : p ∉ [s, l, c]) (no : ∀ (i : Nat) (c' : Ce), Γ[i]? = some c' → isMut c' = true → σ[i]? ≠ some (some (.ref p))) (nt : ∀ o', H p = some o' → ¬ ((∃ ps, o' = .tbl ps) ∨ ∃ φ, o' = .ext φ)) : RelW X s l c T G (upd H p o) σ Γ := by
  have hp' := hp
  simp only [List.mem_cons, List.not_mem_nil, or_false, not_or] at hp'
  refine ⟨⟨ex_mut R.r.w gp, R.r.len, fun i c' e => ?_, R.r.sep⟩, R.wd.mut gp hp'.1 hp'.2.1 hp'.2.2, R.st, R.ap, R.nt, tabs_keep R.tb fun b o' k h => ?_, R.z⟩
  · have hc := R.r.c i c' e
    cases c' with
    | un => trivial
    | fx v => exact hc
    | d z => exact hc
    | ml ds =>
      obtain ⟨q, e1, m⟩ := hc
      exact ⟨q, e1, m.other (fun z => no i _ e rfl (z ▸ e1))⟩
    | md es =>
      obtain ⟨q, e1, m⟩ := hc
      exact ⟨q, e1, m.other (fun z => no i _ e rfl (z ▸ e1))⟩
  · have nb : b ≠ p := fun z => nt o' (by rw [← z]; exact h) k
    rw [upd_ne nb]; exact h
theorem StS.knowL {S : List Addr} {p : Addr} {o : HO} (x : StS S G0 H0 G H) (h0 : H0 p = none) (gp : G p = none) (hp : H p = some o) : StS S G0 H0 (upd G p o) H := by
  refine ⟨x.g.trans (.new gp), x.h, x.k, fun b u e => ?_, fun b h1 h2 h3 => ?_⟩
  · by_cases z : b = p
    · rw [z, upd_same] at e; rw [z, ← e]; exact hp
    · rw [upd_ne z] at e; exact x.w _ _ e
  · rw [upd_ne (fun z => h2 (by rw [z]; exact h0))]
    exact x.n b h1 h2 h3
theorem StN.knowL {p : Addr} {o : HO} (x : StN s l c G0 H0 G H) (h0 : H0 p = none) (gp : G p = none) (hp : H p = some o) (n : ∀ ps, o ≠ .tbl ps) : StN s l c G0 H0 (upd G p o) H := StS.knowL x (noT_none h0) gp (noT_at hp n)
theorem Wd.knowL {p : Addr} {o : HO} (x : Wd G H s l c T) (hp : H p = some o) (n : p ∉ [s, l, c]) : Wd (upd G p o) H s l c T := by
  simp only [List.mem_cons, List.not_mem_nil, or_false, not_or] at n
  refine ⟨fun b u e => ?_, x.st, by rw [upd_ne (Ne.symm n.1)]; exact x.gs, by rw [upd_ne (Ne.symm n.2.1)]; exact x.gl, by rw [upd_ne (Ne.symm n.2.2)]; exact x.gc⟩
  by_cases z : b = p
  · rw [z, upd_same] at e; rw [z, ← e]; exact hp
  · rw [upd_ne z] at e; exact x.w _ _ e
def lcW (st : Fs) (FT : WB) (Fe : WE) (Γ : En) : List D → Int → (List D → Int → Prop) → Prop
  | [], T, post => post [] T
  | a :: as, T, post => match st a Γ with
    | some Γ1 => FT Γ1 T fun b T1 => if b = true then Fe Γ1 T1 fun d T2 => lcW st FT Fe Γ as T2 fun ds T3 => post (d :: ds) T3 else lcW st FT Fe Γ as T1 post
    | none => False
def wLc (src : En → Ra) (st : Fs) (FT : WB) (Fe : WE) (vs : List Nat) : WE := fun Γ T post => match src Γ with
  | some (.vals as) => small as.length = true ∧ lcW st FT Fe (wipeC Γ vs) as T fun ds T' => post (.list ds) T'
  | _ => False
variable {E : XK} {ad : Str → Addr} {te ta tb : TE} {fe : En → Re} {tt tu : TT} {wi : TI} {src : En → Ra} {g : TG} {st : Fs} {js vs : List Nat} {Fa Fb Fe F : WE} {FT FU : WB} {tas : TA} {FA : WA}
theorem w_lc (hs : Si E ad wi src) (hg : Sg g st js) (ht : Swb X tt FT) (he : Sw X te Fe) (hj : ∀ j ∈ js, j ∈ vs) (hi : X.i0 ∉ vs) : Sw X (tLc wi g tt te vs) (wLc src st FT Fe vs) := fun s l c T σ Γ G H R post hp Q q => by
  unfold wLc at hp
  split at hp
  · rename_i as e1
    obtain ⟨hsm, hp⟩ := hp
    have sml := small_le hsm
    refine hs σ Γ G H R.r _ e1 _ fun J G2 H2 s2 wl0 Dl hD => ?_
    have R2 := R.sts (s2.toS (S := [s, l, c])) (R.wd.stp s2)
    have y2 := R.toN s2
    have hiS : Dl ∉ [s, l, c] := by
      obtain ⟨⟨o1, a1, _⟩, ⟨o2, a2, _⟩, o3, a3, _⟩ := R2.wd.st.at
      simp only [List.mem_cons, List.not_mem_nil, or_false, not_or]
      exact ⟨fun z => (by rw [← z, hD] at a1; cases a1), fun z => (by rw [← z, hD] at a2; cases a2), fun z => (by rw [← z, hD] at a3; cases a3)⟩
    have gD : noT G2 Dl = none := fresh_back R2.r.w hD
    have nDl : ∀ (i : Nat) (c' : Ce), Γ[i]? = some c' → isMut c' = true → σ[i]? ≠ some (some (.ref Dl)) := fun i c' e m z => by
      have := R2.r.c i c' e
      cases c' with
      | ml d => obtain ⟨p2, e2, mm⟩ := this; rw [z] at e2; cases e2; obtain ⟨us, e3, _⟩ := mm.at_; rw [hD] at e3; cases e3
      | md d => obtain ⟨p2, e2, mm⟩ := this; rw [z] at e2; cases e2; obtain ⟨us, e3, _⟩ := mm.at_; rw [hD] at e3; cases e3
      | _ => cases m
    have keep : ∀ {G3 H3 G4 H4 : Hp} {vs3 : List V}, StN s l c G3 H3 G4 H4 → G3 Dl = none → H3 Dl = some (.lst vs3) → G4 Dl = none ∧ H4 Dl = some (.lst vs3) := fun {G3 H3 G4 H4 vs3} x g h => by
      have h' : noT H3 Dl = some (.lst vs3) := noT_at h fun _ z => by cases z
      exact ⟨x.n Dl g (by rw [h']; intro z; cases z) (by rw [h']; intro _ z; cases z), (of_noT (x.h _ _ hiS h')).1⟩
    have lst_nt : ∀ {H3 : Hp} {vs3 : List V}, H3 Dl = some (.lst vs3) → ∀ o', H3 Dl = some o' → ¬ ((∃ ps, o' = .tbl ps) ∨ ∃ φ, o' = .ext φ) := fun {H3 vs3} h o' h' z => by
      rw [h] at h'
      cases h'
      rcases z with ⟨_, z⟩ | ⟨_, z⟩ <;> cases z
    refine ⟨fun i m H3 => m = as.length - i ∧ i ≤ as.length ∧ ∃ (acc : List D) (Ti : Int) (Gi : Hp) (vs3 : List V) (po : List D → Int → Prop), lcW st FT Fe (wipeC Γ vs) (as.drop i) Ti po ∧ (∀ ds T', po ds T' → post (.list (acc ++ ds)) T') ∧ acc.length ≤ i ∧ RelW X s l c Ti Gi H3 σ Γ ∧ StN s l c (noT G2) H2 Gi H3 ∧ Gi Dl = none ∧ H3 Dl = some (.lst vs3) ∧ DqA Gi vs3 acc,
      ⟨as.length, rfl, Nat.zero_le _, [], T, noT G2, [], _, hp, fun ds T' h => h, Nat.le_refl _, R2.mutN gD hiS nDl (fun o' h' => by rw [hD] at h'; cases h'), R2.rf.mutN (noT_none hD) gD (fun _ z => by cases z), gD, upd_same, .nil⟩, ?_⟩
    rintro i m H3 ⟨rfl, hil, acc, Ti, Gi, vs3, po, hw, hpo, la, Ri, xi, gi, h3, qi⟩
    have x23 : Ex (noT G2) H3 := xi.g.trans Ri.r.w
    cases hd : as.drop i with
    | nil =>
      have ei : i = as.length := by
        have := congrArg List.length hd
        rw [List.length_drop, List.length_nil] at this
        omega
      rw [hd] at hw
      refine .inl ⟨(wl0 i H3 x23).2 ei, ?_⟩
      have hpost := hpo [] Ti hw
      rw [List.append_nil] at hpost
      have xk := StN.knowL xi hD gi h3 (fun _ z => by cases z)
      have wk := Ri.wd.knowL h3 hiS
      refine q _ Ti hpost _ (noT (upd Gi Dl (.lst vs3))) H3 (R2.stN xk wk Ri.tb) (y2.trans (StN.cut R2.nt xk)) (Dq.noT (.lst upd_same (qi.mono (.new gi))))
    | cons a as2 =>
      obtain ⟨ha, hd2⟩ := drop_at hd
      have hlt : i < as.length := (List.getElem?_eq_some_iff.mp ha).1
      obtain ⟨hgo, hy⟩ := (wl0 i H3 x23).1 a ha
      refine .inr ⟨hgo, fun H' => ∃ (acc2 : List D) (T2 : Int) (Gi2 : Hp) (vs4 : List V) (po2 : List D → Int → Prop), lcW st FT Fe (wipeC Γ vs) (as.drop (i + 1)) T2 po2 ∧ (∀ ds T', po2 ds T' → post (.list (acc2 ++ ds)) T') ∧ acc2.length ≤ i + 1 ∧ RelW X s l c T2 Gi2 H' σ Γ ∧ StN s l c (noT G2) H2 Gi2 H' ∧ Gi2 Dl = none ∧ H' Dl = some (.lst vs4) ∧ DqA Gi2 vs4 acc2, fun H' hN => ⟨as.length - (i + 1), by omega, rfl, hlt, hN⟩, ?_⟩
      intro v H4 hyl
      obtain ⟨G4, s4, qv⟩ := hy v H4 hyl Gi xi.g Ri.r.w
      have R4 := Ri.sts (s4.toS (S := [s, l, c])) (Ri.wd.stp s4)
      have y4 := Ri.toN s4
      obtain ⟨g4, h4⟩ := keep y4 gi h3
      rw [hd] at hw
      unfold lcW at hw
      cases hst : st a (wipeC Γ vs) with
      | none => rw [hst] at hw; exact hw.elim
      | some Γ1 =>
        rw [hst] at hw
        dsimp only at hw
        have Rw := R4.wipe hi
        refine hg _ _ _ _ Rw.r v a Γ1 qv.noT hst _ fun σ2 RR l5 o5 m5 f5 => ⟨?_, ?_⟩
        · rw [wipe_off l5 o5 hj, wipe_two]
        · have R5 := Rw.go (RR _ _ (.refl _) Rw.r) o5 m5 f5 fun z => hi (hj _ z)
          refine ht s l c Ti σ2 Γ1 _ H4 R5 _ hw _ fun b T1 h1 G6 H6 R6 x6 => ?_
          have x46 := y4.trans x6
          obtain ⟨g6, h6⟩ := keep x6 g4 h4
          cases b with
          | false =>
            rw [if_neg (by decide)] at h1 ⊢
            have R6' := R4.stN x6 R6.wd R6.tb
            obtain ⟨g6', _⟩ := keep (StN.cut R4.nt x6) g4 h4
            exact ⟨acc, T1, noT G6, vs3, po, by rw [hd2]; exact h1, hpo, by omega, R6', (xi.trans y4).trans (StN.cut R4.nt x6), g6', h6, ((qi.mono x46.g).noT)⟩
          | true =>
            rw [if_pos rfl] at h1 ⊢
            refine he s l c T1 σ2 Γ1 G6 H6 R6 _ h1 _ fun d T2 h2 y G7 H7 R7 x7 q7 => ?_
            have x67 := x6.trans x7
            obtain ⟨g7, h7⟩ := keep x67 g4 h4
            obtain ⟨g7', _⟩ := keep (StN.cut R4.nt x67) g4 h4
            have R7' := R4.stN x67 R7.wd R7.tb
            refine ⟨vs3, h7, by rw [qi.len, sizeLine_eq]; omega, acc ++ [d], T2, noT G7, vs3 ++ [y], _, by rw [hd2]; exact h2, fun ds T' h => ?_, by rw [List.length_append]; simp; omega, R7'.mutN g7' hiS nDl (lst_nt h7), StN.mutN ((xi.trans y4).trans (StN.cut R4.nt x67)) (noT_none hD) g7' (fun _ z => by cases z), g7', upd_same, (((qi.mono (y4.trans x67).g).noT).snoc q7.noT)⟩
            have := hpo (d :: ds) T' h
            rw [List.append_assoc]
            exact this
  · exact hp.elim
abbrev WS := En → Int → (En → Int → Prop) → (D → Int → Prop) → Prop
structure RelWS (X : Cw) (s l c : Addr) (G0 H0 : Hp) (T : Int) (G H : Hp) (σ : L2.St) (Γ : En) : Prop where
  r : RelW X s l c T G H σ Γ
  x : StN s l c G0 H0 G H
  n : ∀ (i : Nat) (c' : Ce) (p : Addr), Γ[i]? = some c' → isMut c' = true → σ[i]? = some (some (.ref p)) → noT H0 p = none
def Sws (X : Cw) (ts : TS) (F : WS) : Prop := ∀ s l c G0 H0 T σ Γ G H, RelWS X s l c G0 H0 T G H σ Γ → ∀ nx rt, F Γ T nx rt → ∀ D' : Ends,
  (∀ Γ' T', nx Γ' T' → ∀ σ' G2 H2, RelWS X s l c G0 H0 T' G2 H2 σ' Γ' → Ex G G2 → D'.nx σ' H2) → (∀ d T', rt d T' → ∀ v G2 H2, Wd G2 H2 s l c T' → StN s l c G0 H0 G2 H2 → Tabs X.TL H2 → Dq G2 v d → D'.rt v H2) → ts D' σ H
variable {ts tu : TS} {Fs Fu : WS} {fs : En → Rf}
theorem RelWS.sts (R : RelWS X s l c G0 H0 T G H σ Γ) (R2 : RelW X s l c T' G2 H2 σ Γ) (x : StN s l c G H G2 H2) : RelWS X s l c G0 H0 T' G2 H2 σ Γ := ⟨R2, R.x.trans x, R.n⟩
def pws (i0 : Nat) (f : En → Rf) : WS := fun Γ T nx rt => match f Γ with
  | some (.nx Γ') => Γ'[i0]? = Γ[i0]? ∧ nx Γ' T
  | some (.rt d) => rt d T
  | _ => False
open Classical in
noncomputable def oth (σ : L2.St) (Γ : En) (H : Hp) : Hp := fun b => if ∃ (i : Nat) (c' : Ce), Γ[i]? = some c' ∧ isMut c' = true ∧ σ[i]? = some (some (.ref b)) then none else H b
theorem oth_some {b : Addr} {o : HO} (h : oth σ Γ H b = some o) : H b = some o ∧ ¬ ∃ (i : Nat) (c' : Ce), Γ[i]? = some c' ∧ isMut c' = true ∧ σ[i]? = some (some (.ref b)) := by
  unfold oth at h
  split at h
  · cases h
  · rename_i q; exact ⟨h, q⟩
theorem oth_at {b : Addr} (h : ¬ ∃ (i : Nat) (c' : Ce), Γ[i]? = some c' ∧ isMut c' = true ∧ σ[i]? = some (some (.ref b))) : oth σ Γ H b = H b := by
  unfold oth; rw [if_neg h]
theorem w_stmt (h : Ss E ad ts fs) : Sws X ts (pws X.i0 fs) := fun s l c G0 H0 T σ Γ G H R nx rt hp D' hn hr => by
  have own : ∀ {b : Addr}, (∃ (i : Nat) (c' : Ce), Γ[i]? = some c' ∧ isMut c' = true ∧ σ[i]? = some (some (.ref b))) → noT H0 b = none ∧ G b = none ∧ b ∉ [s, l, c] ∧ ∀ o', H b = some o' → ¬ ((∃ ps, o' = .tbl ps) ∨ ∃ φ, o' = .ext φ) := fun {b} ⟨i, c', e, m, ep⟩ => by
    refine ⟨R.n i c' b e m ep, ?_⟩
    have hc := R.r.r.c i c' e
    cases c' with
    | ml d =>
      obtain ⟨p, e1, mm⟩ := hc
      rw [ep] at e1; cases e1
      obtain ⟨us, e2, _⟩ := mm.at_
      exact ⟨mm.g, R.r.ap i _ b e m ep, fun o' h z => by rw [e2] at h; cases h; rcases z with ⟨_, z⟩ | ⟨_, z⟩ <;> cases z⟩
    | md d =>
      obtain ⟨p, e1, mm⟩ := hc
      rw [ep] at e1; cases e1
      obtain ⟨us, e2, _⟩ := mm.at_
      exact ⟨mm.g, R.r.ap i _ b e m ep, fun o' h z => by rw [e2] at h; cases h; rcases z with ⟨_, z⟩ | ⟨_, z⟩ <;> cases z⟩
    | _ => cases m
  have wo : Ex G (oth σ Γ H) := fun b o e => by
    rw [oth_at (fun z => by rw [(own z).2.1] at e; cases e)]
    exact R.r.r.w _ _ e
  have start : RelS G (oth σ Γ H) G H σ Γ := ⟨R.r.r, ⟨.refl G, fun b o e => (oth_some e).1, R.r.r.w, fun b h1 _ _ => h1⟩, fun i c' p e m ep => by unfold oth; rw [if_pos ⟨i, c', e, m, ep⟩]⟩
  have notS : ∀ b, b ∈ [s, l, c] → oth σ Γ H b = H b := fun b hb => oth_at fun z => (own z).2.2.1 hb
  have wdo : Wd G (oth σ Γ H) s l c T := by
    obtain ⟨⟨lg, cs, left, turn, h1, h2, h3, h⟩, q⟩ := R.r.wd.st
    exact ⟨wo, ⟨⟨lg, cs, left, turn, (notS s (by simp)).trans h1, (notS l (by simp)).trans h2, (notS c (by simp)).trans h3, h⟩, q⟩, R.r.wd.gs, R.r.wd.gl, R.r.wd.gc⟩
  have step : ∀ {G2 H2 : Hp}, Stp G (oth σ Γ H) G2 H2 → Wd G2 H2 s l c T ∧ StN s l c G0 H0 (noT G2) H2 ∧ Tabs X.TL H2 := fun {G2 H2} x => by
    have wd2 := wdo.stp x
    refine ⟨wd2, ⟨R.x.g.trans fun b o e => noT_at (x.g _ _ e) fun ps z => R.r.nt b ps (z ▸ e), fun b o hb e => ?_, fun b hb e => ?_, fun b o e => ?_, fun b h1 h2 h3 => ?_⟩, tabs_keep R.r.tb fun b o k e => ?_⟩
    · obtain ⟨e1, e2⟩ := of_noT (R.x.h b o hb e)
      exact noT_at (x.h _ _ ((oth_at fun z => by rw [(own z).1] at e; cases e).trans e1)) e2
    · obtain ⟨⟨lg, cs, left, turn, f1, f2, f3, _⟩, _⟩ := wd2.st
      simp only [List.mem_cons, List.not_mem_nil, or_false] at hb
      rcases hb with z | z | z
      · rw [z, noT_at f1 fun _ z => by cases z]; exact ⟨(fun y => nomatch y), fun _ xs y => nomatch y⟩
      · rw [z, noT_at f2 fun _ z => by cases z]; exact ⟨(fun y => nomatch y), fun _ xs y => nomatch y⟩
      · rw [z, noT_at f3 fun _ z => by cases z]; exact ⟨(fun y => nomatch y), fun _ xs y => nomatch y⟩
    · obtain ⟨e1, e2⟩ := of_noT e
      exact noT_at (x.w _ _ e1) e2
    · have nz : ¬ ∃ (i : Nat) (c' : Ce), Γ[i]? = some c' ∧ isMut c' = true ∧ σ[i]? = some (some (.ref b)) := fun z => h2 (own z).1
      obtain ⟨k1, k2⟩ := R.x.keep h2 h3
      refine noT_none (x.n b (R.x.n b h1 h2 h3) ?_ ?_)
      · rw [oth_at nz]; intro z; exact k1 (noT_none z)
      · rw [oth_at nz]; intro xs z; exact k2 xs (noT_at z fun _ z => by cases z)
    · exact x.h _ _ ((oth_at fun z => (own z).2.2.2 o e k).trans e)
  unfold pws at hp
  split at hp
  · rename_i Γ' e
    obtain ⟨h0, hp⟩ := hp
    refine h G (oth σ Γ H) σ Γ G H start _ e D' fun σ' G2 H2 R2 x2 => ?_
    obtain ⟨wd2, xs2, tb2⟩ := step R2.s
    have R2n : RelS G (oth σ Γ H) (noT G2) H2 σ' Γ' := by
      refine ⟨⟨noT_w R2.r.w, R2.r.len, fun i c' e => ?_, R2.r.sep⟩, ⟨fun b o e => noT_at (R2.s.g _ _ e) fun ps z => R.r.nt b ps (z ▸ e), R2.s.h, noT_w R2.r.w, fun b h1 h2 h3 => noT_none (R2.s.n b h1 h2 h3)⟩, R2.n⟩
      have hc := R2.r.c i c' e
      cases c' with
      | un => trivial
      | fx v => exact hc
      | d z => obtain ⟨v, e1, q⟩ := hc; exact ⟨v, e1, q.noT⟩
      | ml ds => obtain ⟨p, e1, m⟩ := hc; obtain ⟨us, e2, q⟩ := m.at_; exact ⟨p, e1, noT_none m.g, us, e2, q.noT⟩
      | md ds => obtain ⟨p, e1, m⟩ := hc; obtain ⟨us, e2, q⟩ := m.at_; exact ⟨p, e1, noT_none m.g, us, e2, q.noT⟩
    refine hn Γ' T hp σ' (noT G2) H2 ⟨⟨R2n.r, wd_noT wd2, h0.trans R.r.st, fun i c' p e m ep hm => ?_, fun b ps e => (of_noT e).2 ps rfl, tb2, R.r.z.trans fun b o e => noT_at (x2 _ _ e) fun ps z => R.r.nt b ps (z ▸ e)⟩, xs2, fun i c' p e m ep => ?_⟩ fun b o e => noT_at (x2 _ _ e) fun ps z => R.r.nt b ps (z ▸ e)
    · have := R2.n i c' p e m ep
      rw [notS p hm] at this
      obtain ⟨⟨o1, a1, _⟩, ⟨o2, a2, _⟩, o3, a3, _⟩ := R.r.wd.st.at
      simp only [List.mem_cons, List.not_mem_nil, or_false] at hm
      rcases hm with rfl | rfl | rfl
      · rw [this] at a1; cases a1
      · rw [this] at a2; cases a2
      · rw [this] at a3; cases a3
    · have := R2.n i c' p e m ep
      cases e0 : noT H0 p with
      | none => rfl
      | some o =>
        by_cases hm : p ∈ [s, l, c]
        · rw [notS p hm] at this
          obtain ⟨⟨o1, a1, _⟩, ⟨o2, a2, _⟩, o3, a3, _⟩ := R.r.wd.st.at
          simp only [List.mem_cons, List.not_mem_nil, or_false] at hm
          rcases hm with rfl | rfl | rfl
          · rw [this] at a1; cases a1
          · rw [this] at a2; cases a2
          · rw [this] at a3; cases a3
        · have nz : ¬ ∃ (i : Nat) (c' : Ce), Γ[i]? = some c' ∧ isMut c' = true ∧ σ[i]? = some (some (.ref p)) := fun z => by rw [(own z).1] at e0; cases e0
          rw [oth_at nz] at this
          have h4 := (of_noT (R.x.h p o hm e0)).1
          rw [this] at h4
          cases h4
  · rename_i d e
    refine h G (oth σ Γ H) σ Γ G H start _ e D' fun v G2 H2 s2 q2 => ?_
    obtain ⟨wd2, xs2, tb2⟩ := step s2
    exact hr d T hp v (noT G2) H2 (wd_noT wd2) xs2 tb2 q2.noT
  · exact hp.elim
end
end Mv
namespace Mv
open PySem L2 Evl LamX
section
variable {X : Cw} {s l c : Addr} {T T' : Int} {G H G' H' G1 H1 G2 H2 G0 H0 : Hp} {σ σ' : L2.St} {Γ Γ' : En}
variable {E : XK} {ad : Str → Addr} {te ta tb : TE} {fe : En → Re} {tt tu : TT} {wi : TI} {src : En → Ra} {g : TG} {st : Fs} {js vs : List Nat} {Fa Fb Fe F : WE} {FT FU : WB} {tas : TA} {FA : WA} {ts tz : TS} {Fs' Fu : WS} {fs : En → Rf}
def wSeq (F1 F2 : WS) : WS := fun Γ T nx rt => F1 Γ T (fun Γ1 T1 => F2 Γ1 T1 nx rt) rt
theorem w_seq {F1 F2 : WS} (h1 : Sws X ts F1) (h2 : Sws X tz F2) : Sws X (tSeq ts tz) (wSeq F1 F2) := fun s l c G0 H0 T σ Γ G H R nx rt hp D' hn hr =>
  h1 s l c G0 H0 T σ Γ G H R _ rt hp { D' with nx := tz D' } (fun Γ' T' h σ' G2 H2 R2 x => h2 s l c G0 H0 T' σ' Γ' G2 H2 R2 nx rt h D' (fun Γ3 T3 h3 σ3 G3 H3 R3 x3 => hn Γ3 T3 h3 σ3 G3 H3 R3 (x.trans x3)) hr) hr
def wAsg (F : WE) (st : Fs) : WS := fun Γ T nx _ => F Γ T fun d T1 => match st d Γ with
  | some Γ1 => nx Γ1 T1
  | none => False
theorem w_asg (he : Sw X te F) (hg : Sg g st js) (hi : X.i0 ∉ js) : Sws X (tAsg te g) (wAsg F st) := fun s l c G0 H0 T σ Γ G H R nx rt hp D' hn hr =>
  he s l c T σ Γ G H R.r _ hp _ fun d T1 h1 v G2 H2 R2 x2 q2 => by
    split at h1
    · rename_i Γ1 e
      refine hg σ Γ G2 H2 R2.r v d Γ1 q2 e _ fun σ3 RR l3 o3 m3 f3 => ?_
      refine hn Γ1 T1 h1 σ3 G2 H2 ⟨R2.go (RR _ _ (.refl _) R2.r) o3 m3 f3 hi, R.x.trans x2, fun i c' p ec mc ep => ?_⟩ x2.g
      obtain ⟨e1, e2⟩ := m3 i c' ec mc
      exact R.n i c' p e1 mc (e2 ▸ ep)
    · exact h1.elim
def wRet (F : WE) : WS := fun Γ T _ rt => F Γ T rt
theorem w_ret (he : Sw X te F) : Sws X (tRet te) (wRet F) := fun s l c G0 H0 T σ Γ G H R nx rt hp D' hn hr =>
  he s l c T σ Γ G H R.r _ hp _ fun d T1 h1 v G2 H2 R2 x2 q2 => hr d T1 h1 v G2 H2 R2.wd (R.x.trans x2) R2.tb q2
def wDrop (F : WE) : WS := fun Γ T nx _ => F Γ T fun _ T1 => nx Γ T1
def wIfS (FT : WB) (F1 F2 : WS) : WS := fun Γ T nx rt => FT Γ T fun b T1 => if b = true then F1 Γ T1 nx rt else F2 Γ T1 nx rt
theorem w_ifS {F1 F2 : WS} (ht : Swb X tt FT) (h1 : Sws X ts F1) (h2 : Sws X tz F2) : Sws X (tIfS tt ts tz) (wIfS FT F1 F2) := fun s l c G0 H0 T σ Γ G H R nx rt hp D' hn hr =>
  ht s l c T σ Γ G H R.r _ hp _ fun b T1 hb G2 H2 R2 x2 => by
    cases b with
    | true =>
      rw [if_pos rfl] at hb ⊢
      exact h1 s l c G0 H0 T1 σ Γ G2 H2 (R.sts R2 x2) nx rt hb D' (fun Γ3 T3 h3 σ3 G3 H3 R3 x3 => hn Γ3 T3 h3 σ3 G3 H3 R3 (x2.g.trans x3)) hr
    | false =>
      rw [if_neg (by decide)] at hb ⊢
      exact h2 s l c G0 H0 T1 σ Γ G2 H2 (R.sts R2 x2) nx rt hb D' (fun Γ3 T3 h3 σ3 G3 H3 R3 x3 => hn Γ3 T3 h3 σ3 G3 H3 R3 (x2.g.trans x3)) hr
def wNext : WS := fun Γ T nx _ => nx Γ T
theorem w_next : Sws X tNext wNext := fun s l c G0 H0 T σ Γ G H R nx rt hp D' hn hr => hn Γ T hp σ G H R (.refl G)
def wFrz (k : Nat → Bool) (F : WS) : WS := fun Γ T nx rt => F (lockL k Γ) T nx rt
theorem lockL_fx {k : Nat → Bool} {Γ : En} {i : Nat} {v : V} (h : Γ[i]? = some (.fx v)) : (lockL k Γ)[i]? = some (.fx v) := by
  have hl : i < (lockL k Γ).length := by
    show i < (lockG k 0 Γ).length
    rw [lockG_len]; exact (List.getElem?_eq_some_iff.mp h).1
  have e : (lockL k Γ)[i]? = some ((lockL k Γ)[i]) := List.getElem?_eq_getElem hl
  obtain ⟨c0, e1, e2⟩ := lockG_at e
  rw [h] at e1
  cases e1
  rw [e, e2]
  split <;> rfl
theorem w_frz {F1 : WS} (k : Nat → Bool) (h : Sws X ts F1) : Sws X ts (wFrz k F1) := fun s l c G0 H0 T σ Γ G H R nx rt hp D' hn hr => by
  obtain ⟨G', lk, R'⟩ := R.r.r.lock k
  have ownm : ∀ {b : Addr}, G' b ≠ G b → (∃ us : List V, G' b = some (.lst us) ∧ H b = some (.lst us)) ∧ noT H0 b = none ∧ b ∉ [s, l, c] := fun {b} ne => by
    rcases lk.b b with q | ⟨_, ⟨us, e1, e2⟩, i, ds, e3, e4⟩
    · exact (ne q).elim
    · exact ⟨⟨us, e2, e1⟩, R.n i _ b e3 rfl e4, R.r.ap i _ b e3 rfl e4⟩
  have same : ∀ b, b ∈ [s, l, c] → G' b = G b := fun b hb => Classical.byContradiction fun ne => (ownm ne).2.2 hb
  have RW : RelW X s l c T G' H σ (lockL k Γ) := by
    refine ⟨R', ⟨R'.w, R.r.wd.st, (same s (by simp)).trans R.r.wd.gs, (same l (by simp)).trans R.r.wd.gl, (same c (by simp)).trans R.r.wd.gc⟩, lockL_fx R.r.st, fun i c' p e m ep => ?_, fun b ps e => ?_, R.r.tb, R.r.z.trans lk.x⟩
    · obtain ⟨c0, e0, rfl⟩ := lockG_at e
      refine R.r.ap i c0 p e0 ?_ ep
      split at m
      · cases c0 <;> first | rfl | cases m
      · exact m
    · by_cases ne : G' b = G b
      · exact R.r.nt b ps (ne ▸ e)
      · obtain ⟨⟨us, e1, _⟩, _⟩ := ownm ne
        rw [e] at e1; cases e1
  refine h s l c G0 H0 T σ _ G' H ⟨RW, ⟨R.x.g.trans lk.x, R.x.h, R.x.k, fun b o e => noT_at (R'.w _ _ e) (fun ps z => RW.nt b ps (z ▸ e)), fun b h1 h2 h3 => ?_⟩, fun i c' p e m ep => ?_⟩ nx rt hp D' (fun Γ3 T3 h3 σ3 G3 H3 R3 x3 => hn Γ3 T3 h3 σ3 G3 H3 R3 (lk.x.trans x3)) hr
  · by_cases ne : G' b = G b
    · rw [ne]; exact R.x.n b h1 h2 h3
    · exact (h2 (ownm ne).2.1).elim
  · obtain ⟨c0, e0, rfl⟩ := lockG_at e
    refine R.n i c0 p e0 ?_ ep
    split at m
    · cases c0 <;> first | rfl | cases m
    · exact m
def forWGo (st : Fs) (F : WS) : List D → En → Int → (En → Int → Prop) → (D → Int → Prop) → Prop
  | [], Γ, T, nx, _ => nx Γ T
  | a :: as, Γ, T, nx, rt => match st a Γ with
    | some Γ1 => F Γ1 T (fun Γ2 T2 => forWGo st F as Γ2 T2 nx rt) rt
    | none => False
def wFor (FS : WA) (st : Fs) (F : WS) : WS := fun Γ T nx rt => FS Γ T fun as T1 => forWGo st F as Γ T1 nx rt
def Swi (X : Cw) (wi : TI) (F : WA) : Prop := ∀ s l c T σ Γ G H, RelW X s l c T G H σ Γ → ∀ post, F Γ T post → ∀ Q : It → Hp → Prop, (∀ d T', post d T' → ∀ J G2 H2, RelW X s l c T' G2 H2 σ Γ → StN s l c G H G2 H2 → Wlk J G2 d → Q J H2) → wi σ H Q
theorem w_for {FS : WA} {F1 : WS} (hs : Swi X wi FS) (hg : Sg g st js) (hb : Sws X ts F1) (hi : X.i0 ∉ js) : Sws X (tFor wi g ts) (wFor FS st F1) := fun s l c G0 H0 T σ Γ G H R nx rt hp D' hn hr =>
  hs s l c T σ Γ G H R.r _ hp _ fun as T1 h1 J G1 H1 R1 x1 wl => by
    refine ⟨fun i m σ' H' => m = as.length - i ∧ i ≤ as.length ∧ ∃ Γi Ti Gi, RelWS X s l c G0 H0 Ti Gi H' σ' Γi ∧ Ex G1 Gi ∧ forWGo st F1 (as.drop i) Γi Ti nx rt, ⟨as.length, rfl, Nat.zero_le _, Γ, T1, G1, R.sts R1 x1, .refl _, h1⟩, ?_⟩
    rintro i m σ' H' ⟨rfl, hil, Γi, Ti, Gi, Ri, xi, ei⟩
    have xg : Ex G Gi := x1.g.trans xi
    cases hd : as.drop i with
    | nil =>
      have el : i = as.length := by
        have := congrArg List.length hd
        rw [List.length_drop, List.length_nil] at this
        omega
      rw [hd] at ei
      exact .inl ⟨(wl i H' (xi.trans Ri.r.r.w)).2 el, hn Γi Ti ei σ' Gi H' Ri xg⟩
    | cons a as2 =>
      obtain ⟨ha, hd2⟩ := drop_at hd
      have hlt : i < as.length := (List.getElem?_eq_some_iff.mp ha).1
      obtain ⟨hgo, hy⟩ := (wl i H' (xi.trans Ri.r.r.w)).1 a ha
      refine .inr ⟨hgo, fun σ2 H2 => ∃ Γ2 T2 G2, RelWS X s l c G0 H0 T2 G2 H2 σ2 Γ2 ∧ Ex G1 G2 ∧ forWGo st F1 (as.drop (i + 1)) Γ2 T2 nx rt, fun σ2 H2 hN => ⟨as.length - (i + 1), by omega, rfl, hlt, hN⟩, ?_⟩
      intro v H2 hyl
      obtain ⟨G2, s2, qv⟩ := hy v H2 hyl Gi xi Ri.r.r.w
      have R2 := Ri.sts (Ri.r.sts (s2.toS (S := [s, l, c])) (Ri.r.wd.stp s2)) (Ri.r.toN s2)
      have y2 := (Ri.r.toN s2).g
      rw [hd] at ei
      unfold forWGo at ei
      cases hst : st a Γi with
      | none => rw [hst] at ei; exact ei.elim
      | some Γ1 =>
        rw [hst] at ei
        dsimp only at ei
        refine hg σ' Γi (noT G2) H2 R2.r.r v a Γ1 qv.noT hst _ fun σ3 RR l3 o3 m3 f3 => ?_
        have R3 : RelWS X s l c G0 H0 Ti (noT G2) H2 σ3 Γ1 := ⟨R2.r.go (RR _ _ (.refl _) R2.r.r) o3 m3 f3 hi, R2.x, fun i c' p ec mc ep => by
          obtain ⟨e1, e2⟩ := m3 i c' ec mc
          exact R2.n i c' p e1 mc (e2 ▸ ep)⟩
        rw [hd2]
        exact hb s l c G0 H0 Ti σ3 Γ1 (noT G2) H2 R3 _ rt ei { D' with nx := _, ct := _, bk := D'.nx } (fun Γ4 T4 h4 σ4 G4 H4 R4 x4 => ⟨Γ4, T4, G4, R4, (xi.trans y2).trans x4, h4⟩) hr
def wApp (i : Nat) (F : WE) : WS := fun Γ T nx _ => match Γ[i]? with
  | some (.ml ds) => F Γ T fun d T1 => small ds.length = true ∧ nx (Γ.set i (.ml (ds ++ [d]))) T1
  | _ => False
theorem w_app {K : PySem.W.Frag} {i : Nat} (he : Sw X te F) (hi : X.i0 ≠ i) : Sws X (tDrop (tBM K "list" rAppend (tVar i) (tCons te tNil))) (wApp i F) := fun s l c G0 H0 T σ Γ G H R nx rt hp D' hn hr => by
  unfold wApp at hp
  split at hp
  · rename_i ds e1
    obtain ⟨p, ep, m⟩ := R.r.r.c i _ e1
    obtain ⟨us, eu, qu⟩ := m.at_
    refine ⟨.ref p, ep, .inl ⟨rfl, us, SqL.of eu⟩, he s l c T σ Γ G H R.r _ hp _ fun d T1 h1 v G2 H2 R2 x2 q2 => ?_⟩
    obtain ⟨hs, h1⟩ := h1
    have sml := small_le hs
    have pS := R.r.ap i _ p e1 rfl ep
    have m2 := ml_stN m pS x2
    obtain ⟨us2, e3, q3⟩ := m2.at_
    refine ⟨p, us2, v, rfl, rfl, e3, by rw [q3.len, sizeLine_eq]; omega, ?_⟩
    have h0 := R.n i _ p e1 rfl ep
    have R2S := R.sts R2 x2
    have m3 : ML G2 (upd H2 p (.lst (us2 ++ [v]))) p (ds ++ [d]) := ⟨m2.g, _, upd_same, q3.snoc q2⟩
    have others : ∀ {k : Nat} {c' : Ce} {q : Addr}, k ≠ i → Γ[k]? = some c' → isMut c' = true → σ[k]? = some (some (.ref q)) → q ≠ p := fun {k c' q} ne ek mk eq z => ne (R.r.r.sep k i p c' _ ek e1 mk rfl (z ▸ eq) ep)
    refine hn _ T1 h1 σ G2 _ ⟨⟨⟨ex_mut R2.r.w m2.g, by rw [List.length_set]; exact R2.r.len, fun k c' ec => ?_, fun k j q ck cj f1 f2 n1 n2 s1 s2 => ?_⟩, ?_, ?_, fun k c' q ec mc eq => ?_, R2.nt, ?_, R2.z⟩, StN.mutN R2S.x h0 m2.g (fun _ z => by cases z), fun k c' q ec mc eq => ?_⟩ x2.g
    · rcases set_at ec with ⟨rfl, hl, rfl⟩ | ⟨ne, ec⟩
      · exact ⟨p, ep, m3⟩
      · have hc := R2.r.c k c' ec
        cases c' with
        | un => trivial
        | fx v => exact hc
        | d z => exact hc
        | ml es => obtain ⟨q, eq, mq⟩ := hc; exact ⟨q, eq, mq.other (others ne ec rfl eq)⟩
        | md es => obtain ⟨q, eq, mq⟩ := hc; exact ⟨q, eq, mq.other (others ne ec rfl eq)⟩
    · have inj : ∀ {k : Nat} {c' : Ce}, (Γ.set i (.ml (ds ++ [d])))[k]? = some c' → isMut c' = true → ∃ c0, Γ[k]? = some c0 ∧ isMut c0 = true := fun {k c'} ek mk => by
        rcases set_at ek with ⟨rfl, hl, rfl⟩ | ⟨ne, ek⟩
        · exact ⟨_, e1, rfl⟩
        · exact ⟨c', ek, mk⟩
      obtain ⟨c1, g1, k1⟩ := inj f1 n1
      obtain ⟨c2, g2, k2⟩ := inj f2 n2
      exact R.r.r.sep k j q c1 c2 g1 g2 k1 k2 s1 s2
    · simp only [List.mem_cons, List.not_mem_nil, or_false, not_or] at pS
      exact R2.wd.mut m2.g pS.1 pS.2.1 pS.2.2
    · rw [List.getElem?_set_ne (fun z => hi z.symm)]; exact R2.st
    · rcases set_at ec with ⟨rfl, hl, rfl⟩ | ⟨ne, ec⟩
      · exact R.r.ap k _ q e1 rfl eq
      · exact R.r.ap k c' q ec mc eq
    · refine tabs_keep R2.tb fun b o k e => ?_
      have nb : b ≠ p := fun z => by
        rw [z, e3] at e
        cases e
        rcases k with ⟨_, z⟩ | ⟨_, z⟩ <;> cases z
      rw [upd_ne nb]; exact e
    · rcases set_at ec with ⟨rfl, hl, rfl⟩ | ⟨ne, ec⟩
      · exact R.n k _ q e1 rfl eq
      · exact R.n k c' q ec mc eq
  · exact hp.elim
theorem RelWS.setD {v : V} {d : D} {j : Nat} (R : RelWS X s l c G0 H0 T G H σ Γ) (q : Dq G v d) (hj : X.i0 ≠ j) : RelWS X s l c G0 H0 T G H (σ.set j (some v)) (Γ.set j (.d d)) := by
  refine ⟨⟨R.r.r.set q, R.r.wd, by rw [List.getElem?_set_ne (fun z => hj z.symm)]; exact R.r.st, fun i c' p e mc ep => ?_, R.r.nt, R.r.tb, R.r.z⟩, R.x, fun i c' p e mc ep => ?_⟩
  · rcases set_at e with ⟨rfl, hl, rfl⟩ | ⟨ne, e⟩
    · cases mc
    · rw [List.getElem?_set_ne (fun z => ne z.symm)] at ep
      exact R.r.ap i c' p e mc ep
  · rcases set_at e with ⟨rfl, hl, rfl⟩ | ⟨ne, e⟩
    · cases mc
    · rw [List.getElem?_set_ne (fun z => ne z.symm)] at ep
      exact R.n i c' p e mc ep
end
def bodyW (F : WS) (k n : Nat) (ds : List D) (T : Int) (post : D → Int → Prop) : Prop := ds.length = k ∧ ∀ s : Addr, F (Ce.fx (.ref s) :: (ds.map Ce.d ++ List.replicate n .un)) T (fun _ T' => post .none T') post
def X0 (TL : List (Addr × Str)) : Cw := ⟨TL, 0, fun _ => none⟩
theorem startW {TL : List (Addr × Str)} {N : List Str} {k n : Nat} {ts : TS} {F : WS} {G H : Hp} {s l c : Addr} {T : Int} {vs : List V} {ds : List D} {post : D → Int → Prop} {Q : VK} (hN : N.length = 1 + k + n) (hs : Sws (X0 TL) ts F) (h : DqA G vs ds) (wd : Wd G H s l c T) (nt : ∀ (b : Addr) (ps : Array Value), G b ≠ some (.tbl ps)) (tb : Tabs TL H) (hb : bodyW F k n ds T post)
    (q : ∀ z T', post z T' → ∀ v G' H', Wd G' H' s l c T' → StN s l c G H G' H' → Tabs TL H' → Dq G' v z → Q v H') : ts { nx := fun _ H' => Q .non H', rt := Q } (L2.start N (.ref s :: vs)) H := by
  obtain ⟨hk, hF⟩ := hb
  have lv : vs.length = k := h.len.trans hk
  have e : L2.start N (.ref s :: vs) = some (.ref s) :: (vs.map some ++ List.replicate n none) := by
    unfold L2.start
    rw [List.length_cons, show N.length - (vs.length + 1) = n by omega]; rfl
  rw [e]
  have nm : ∀ {i : Nat} {c' : Ce}, (Ce.fx (.ref s) :: (ds.map Ce.d ++ List.replicate n .un))[i]? = some c' → isMut c' = false ∧ CellOk G H ((some (.ref s) :: (vs.map some ++ List.replicate n none))[i]?) c' := fun {i c'} e => by
    cases i with
    | zero => cases e; exact ⟨rfl, rfl⟩
    | succ i =>
      rw [List.getElem?_cons_succ] at e ⊢
      by_cases hi : i < ds.length
      · rw [List.getElem?_append_left (by rw [List.length_map]; exact hi), List.getElem?_map] at e
        obtain ⟨d, hd, rfl⟩ := Option.map_eq_some_iff.mp e
        obtain ⟨v, hv, q⟩ := h.getD hd
        refine ⟨rfl, v, ?_, q⟩
        rw [List.getElem?_append_left (by rw [List.length_map, h.len]; exact hi), List.getElem?_map, hv]; rfl
      · rw [List.getElem?_append_right (by rw [List.length_map]; omega), List.getElem?_replicate] at e
        split at e
        · cases e; exact ⟨rfl, trivial⟩
        · cases e
  have R : RelWS (X0 TL) s l c G H T G H (some (.ref s) :: (vs.map some ++ List.replicate n none)) (Ce.fx (.ref s) :: (ds.map Ce.d ++ List.replicate n .un)) := by
    refine ⟨⟨⟨wd.w, by simp [h.len], fun i c' e => (nm e).2, fun i j p ci cj e1 _ m1 _ _ _ => ?_⟩, wd, rfl, fun i c' p e m _ => ?_, nt, tb, fun b o e => nomatch e⟩, .refl fun b o e => noT_at (wd.w _ _ e) fun ps z => nt b ps (z ▸ e), fun i c' p e m _ => ?_⟩
    · rw [(nm e1).1] at m1; cases m1
    · rw [(nm e).1] at m; cases m
    · rw [(nm e).1] at m; cases m
  exact hs s l c G H T _ _ G H R _ _ (hF s) _ (fun Γ' T' h σ' G2 H2 R2 x => q _ T' h .non G2 H2 R2.r.wd R2.x R2.r.tb .non) fun d T' h v G2 H2 wd2 x2 tb2 q2 => q d T' h v G2 H2 wd2 x2 tb2 q2
end Mv
namespace Mv
open PySem L2 Evl LamX
def SpMixK (K : PySem.W.Frag) : Sp := fun vs H Q _ => ∃ (G : Hp) (s l c : Addr) (T : Int) (v1 : V) (as : List D) (k0 : Bool), vs = [.ref s, v1] ∧ Dq G v1 (sq k0 as) ∧ SeqAt.shaped (.list as) = true ∧ flatDs as = true ∧ as.length < 1000000 ∧ Wd G H s l c T ∧ T + (as.length : Int) < 1000000000000 ∧
  ∀ v bs G' H', (∀ b ∈ bs, b ∈ as) → bs.length = as.length → bs.Perm as → Wd G' H' s l c (T + (as.length : Int)) → StS [s, l, c] G H G' H' → Dq G' v (.list bs) → Q v H'
def SpBegun (K : PySem.W.Frag) : Sp := fun vs H Q _ => ∃ (G : Hp) (a : Addr) (ns : List Int), vs = [.ref a] ∧ Ex G H ∧ SqL K H a (ns.map V.int) ∧ ns.length ≤ 1000 ∧ ∀ s l c H', Wd G H' s l c 0 → Ex H H' → Q (.ref s) H'
def W__law_draw (ds : List D) (T : Int) (post : D → Int → Prop) : Prop := ∃ n : Int, ds = [.int n] ∧ 0 < n ∧ n < 1073741824 ∧ T < 1000000000000 ∧ ∀ r, 0 ≤ r → r < n → post (.int r) (T + 1)
theorem pri_draw {TL : List (Addr × Str)} (vs : List V) (H : Hp) (Q : VK) (E : XK) (h : SpW TL W__law_draw vs H Q E) : SpDraw vs H Q E := by
  obtain ⟨G, s, l, c, T, vs', ds, post, rfl, hv, wd, nt, tb, ⟨n, rfl, n1, n2, hT, hp⟩, k⟩ := h
  cases hv with
  | @cons v0 vs d0 ds hv0 hn =>
    cases hn
    cases hv0
    exact ⟨G, s, l, c, T, n, rfl, wd, n1, n2, hT, fun r H' r0 r1 wd' ss => k _ _ (hp r r0 r1) _ (noT G) H' (wd_noT wd') (StN.of nt ss wd') (tabs_sts tb wd.st ss) (.int _)⟩
def W__law_mixed (ds : List D) (T : Int) (post : D → Int → Prop) : Prop := ∃ (as : List D) (k0 : Bool), ds = [sq k0 as] ∧ SeqAt.shaped (.list as) = true ∧ flatDs as = true ∧ as.length < 1000000 ∧ T + (as.length : Int) < 1000000000000 ∧ ∀ bs, bs.Perm as → post (.list bs) (T + (as.length : Int))
theorem pri_mixed {K : PySem.W.Frag} {TL : List (Addr × Str)} (vs : List V) (H : Hp) (Q : VK) (E : XK) (h : SpW TL W__law_mixed vs H Q E) : SpMixK K vs H Q E := by
  obtain ⟨G, s, l, c, T, vs', ds, post, rfl, hv, wd, nt, tb, ⟨as, k0, rfl, h1, h2, h3, h4, hp⟩, k⟩ := h
  cases hv with
  | @cons v0 vs d0 ds hv0 hn =>
    cases hn
    exact ⟨G, s, l, c, T, v0, as, k0, rfl, hv0, h1, h2, h3, wd, h4, fun v bs G' H' _ _ p wd' ss q => k _ _ (hp bs p) v (noT G') H' (wd_noT wd') (StN.of nt ss wd') (tabs_sts tb wd.st ss) q.noT⟩
end Mv
namespace Mv
open PySem L2 Evl LamX
section
variable {X : Cw} {s l c : Addr} {T T' : Int} {G H G' H' G1 H1 G2 H2 G0 H0 : Hp} {σ : L2.St} {Γ Γ' : En} {K : PySem.W.Frag}
variable {E : XK} {ad : Str → Addr} {te ta tb : TE} {fe : En → Re} {tt tu : TT} {wi : TI} {src : En → Ra} {g : TG} {st : Fs} {js vs : List Nat} {Fa Fb Fe F : WE} {FT FU : WB} {tas : TA} {FA : WA}
def wLcD (FS : WA) (st : Fs) (FT : WB) (Fe : WE) (vs : List Nat) : WE := fun Γ T post => FS Γ T fun as T1 => small as.length = true ∧ lcW st FT Fe (wipeC Γ vs) as T1 fun ds T' => post (.list ds) T'
theorem w_lcD {FS : WA} (hs : Swi X wi FS) (hg : Sg g st js) (ht : Swb X tt FT) (he : Sw X te Fe) (hj : ∀ j ∈ js, j ∈ vs) (hi : X.i0 ∉ vs) : Sw X (tLc wi g tt te vs) (wLcD FS st FT Fe vs) := fun s l c T σ Γ G H R post hp Q q => by
  unfold wLcD at hp
  refine hs s l c T σ Γ G H R _ hp _ fun as T1' h1' J G2 H2 R2 x2 wl0 Dl hD => ?_
  · obtain ⟨hsm, hp⟩ := h1'
    have sml := small_le hsm
    have hiS : Dl ∉ [s, l, c] := by
      obtain ⟨⟨o1, a1, _⟩, ⟨o2, a2, _⟩, o3, a3, _⟩ := R2.wd.st.at
      simp only [List.mem_cons, List.not_mem_nil, or_false, not_or]
      exact ⟨fun z => (by rw [← z, hD] at a1; cases a1), fun z => (by rw [← z, hD] at a2; cases a2), fun z => (by rw [← z, hD] at a3; cases a3)⟩
    have gD : G2 Dl = none := fresh_back R2.r.w hD
    have nDl : ∀ (i : Nat) (c' : Ce), Γ[i]? = some c' → isMut c' = true → σ[i]? ≠ some (some (.ref Dl)) := fun i c' e m z => by
      have := R2.r.c i c' e
      cases c' with
      | ml d => obtain ⟨p2, e2, mm⟩ := this; rw [z] at e2; cases e2; obtain ⟨us, e3, _⟩ := mm.at_; rw [hD] at e3; cases e3
      | md d => obtain ⟨p2, e2, mm⟩ := this; rw [z] at e2; cases e2; obtain ⟨us, e3, _⟩ := mm.at_; rw [hD] at e3; cases e3
      | _ => cases m
    have keep : ∀ {G3 H3 G4 H4 : Hp} {vs3 : List V}, StN s l c G3 H3 G4 H4 → G3 Dl = none → H3 Dl = some (.lst vs3) → G4 Dl = none ∧ H4 Dl = some (.lst vs3) := fun {G3 H3 G4 H4 vs3} x g h => by
      have h' : noT H3 Dl = some (.lst vs3) := noT_at h fun _ z => by cases z
      exact ⟨x.n Dl g (by rw [h']; intro z; cases z) (by rw [h']; intro _ z; cases z), (of_noT (x.h _ _ hiS h')).1⟩
    have lst_nt : ∀ {H3 : Hp} {vs3 : List V}, H3 Dl = some (.lst vs3) → ∀ o', H3 Dl = some o' → ¬ ((∃ ps, o' = .tbl ps) ∨ ∃ φ, o' = .ext φ) := fun {H3 vs3} h o' h' z => by
      rw [h] at h'
      cases h'
      rcases z with ⟨_, z⟩ | ⟨_, z⟩ <;> cases z
    refine ⟨fun i m H3 => m = as.length - i ∧ i ≤ as.length ∧ ∃ (acc : List D) (Ti : Int) (Gi : Hp) (vs3 : List V) (po : List D → Int → Prop), lcW st FT Fe (wipeC Γ vs) (as.drop i) Ti po ∧ (∀ ds T', po ds T' → post (.list (acc ++ ds)) T') ∧ acc.length ≤ i ∧ RelW X s l c Ti Gi H3 σ Γ ∧ StN s l c G2 H2 Gi H3 ∧ Gi Dl = none ∧ H3 Dl = some (.lst vs3) ∧ DqA Gi vs3 acc,
      ⟨as.length, rfl, Nat.zero_le _, [], T1', G2, [], _, hp, fun ds T' h => h, Nat.le_refl _, R2.mutN gD hiS nDl (fun o' h' => by rw [hD] at h'; cases h'), R2.rf.mutN (noT_none hD) gD (fun _ z => by cases z), gD, upd_same, .nil⟩, ?_⟩
    rintro i m H3 ⟨rfl, hil, acc, Ti, Gi, vs3, po, hw, hpo, la, Ri, xi, gi, h3, qi⟩
    have x23 : Ex G2 H3 := xi.g.trans Ri.r.w
    cases hd : as.drop i with
    | nil =>
      have ei : i = as.length := by
        have := congrArg List.length hd
        rw [List.length_drop, List.length_nil] at this
        omega
      rw [hd] at hw
      refine .inl ⟨(wl0 i H3 x23).2 ei, ?_⟩
      have hpost := hpo [] Ti hw
      rw [List.append_nil] at hpost
      have xk := StN.knowL xi hD gi h3 (fun _ z => by cases z)
      have wk := Ri.wd.knowL h3 hiS
      refine q _ Ti hpost _ (noT (upd Gi Dl (.lst vs3))) H3 (R2.stN xk wk Ri.tb) (x2.trans (StN.cut R2.nt xk)) (Dq.noT (.lst upd_same (qi.mono (.new gi))))
    | cons a as2 =>
      obtain ⟨ha, hd2⟩ := drop_at hd
      have hlt : i < as.length := (List.getElem?_eq_some_iff.mp ha).1
      obtain ⟨hgo, hy⟩ := (wl0 i H3 x23).1 a ha
      refine .inr ⟨hgo, fun H' => ∃ (acc2 : List D) (T2 : Int) (Gi2 : Hp) (vs4 : List V) (po2 : List D → Int → Prop), lcW st FT Fe (wipeC Γ vs) (as.drop (i + 1)) T2 po2 ∧ (∀ ds T', po2 ds T' → post (.list (acc2 ++ ds)) T') ∧ acc2.length ≤ i + 1 ∧ RelW X s l c T2 Gi2 H' σ Γ ∧ StN s l c G2 H2 Gi2 H' ∧ Gi2 Dl = none ∧ H' Dl = some (.lst vs4) ∧ DqA Gi2 vs4 acc2, fun H' hN => ⟨as.length - (i + 1), by omega, rfl, hlt, hN⟩, ?_⟩
      intro v H4 hyl
      obtain ⟨G4, s4, qv⟩ := hy v H4 hyl Gi xi.g Ri.r.w
      have R4 := Ri.sts (s4.toS (S := [s, l, c])) (Ri.wd.stp s4)
      have y4 := Ri.toN s4
      obtain ⟨g4, h4⟩ := keep y4 gi h3
      rw [hd] at hw
      unfold lcW at hw
      cases hst : st a (wipeC Γ vs) with
      | none => rw [hst] at hw; exact hw.elim
      | some Γ1 =>
        rw [hst] at hw
        dsimp only at hw
        have Rw := R4.wipe hi
        refine hg _ _ _ _ Rw.r v a Γ1 qv.noT hst _ fun σ2 RR l5 o5 m5 f5 => ⟨?_, ?_⟩
        · rw [wipe_off l5 o5 hj, wipe_two]
        · have R5 := Rw.go (RR _ _ (.refl _) Rw.r) o5 m5 f5 fun z => hi (hj _ z)
          refine ht s l c Ti σ2 Γ1 _ H4 R5 _ hw _ fun b T1 h1 G6 H6 R6 x6 => ?_
          have x46 := y4.trans x6
          obtain ⟨g6, h6⟩ := keep x6 g4 h4
          cases b with
          | false =>
            rw [if_neg (by decide)] at h1 ⊢
            have R6' := R4.stN x6 R6.wd R6.tb
            obtain ⟨g6', _⟩ := keep (StN.cut R4.nt x6) g4 h4
            exact ⟨acc, T1, noT G6, vs3, po, by rw [hd2]; exact h1, hpo, by omega, R6', (xi.trans y4).trans (StN.cut R4.nt x6), g6', h6, ((qi.mono x46.g).noT)⟩
          | true =>
            rw [if_pos rfl] at h1 ⊢
            refine he s l c T1 σ2 Γ1 G6 H6 R6 _ h1 _ fun d T2 h2 y G7 H7 R7 x7 q7 => ?_
            have x67 := x6.trans x7
            obtain ⟨g7, h7⟩ := keep x67 g4 h4
            obtain ⟨g7', _⟩ := keep (StN.cut R4.nt x67) g4 h4
            have R7' := R4.stN x67 R7.wd R7.tb
            refine ⟨vs3, h7, by rw [qi.len, sizeLine_eq]; omega, acc ++ [d], T2, noT G7, vs3 ++ [y], _, by rw [hd2]; exact h2, fun ds T' h => ?_, by rw [List.length_append]; simp; omega, R7'.mutN g7' hiS nDl (lst_nt h7), StN.mutN ((xi.trans y4).trans (StN.cut R4.nt x67)) (noT_none hD) g7' (fun _ z => by cases z), g7', upd_same, (((qi.mono (y4.trans x67).g).noT).snoc q7.noT)⟩
            have := hpo (d :: ds) T' h
            rw [List.append_assoc]
            exact this
def wIL (F : WE) : WA := fun Γ T post => F Γ T fun d T1 => match d with
  | .list as => post as T1
  | _ => False
def wIT (F : WE) : WA := fun Γ T post => F Γ T fun d T1 => match d with
  | .tuple as => post as T1
  | _ => False
def wR1 (FA : WA) : WA := fun Γ T post => FA Γ T fun ds T1 => match ds with
  | [.int j] => small j.toNat = true ∧ -1000000 ≤ j ∧ post (upFrom 0 j.toNat) T1
  | _ => False
theorem w_rng1 (h : Swa X tas FA) : Swi X (iRng1 tas) (wR1 FA) := fun s l c T σ Γ G H R post hp Q q => by
  refine h s l c T σ Γ G H R _ hp _ fun ds T1 h1 vs G2 H2 R2 x2 q2 => ?_
  split at h1
  · rename_i j
    obtain ⟨k1, k2, h1⟩ := h1
    have := small_le k1
    cases q2 with
    | cons q3 q4 =>
      cases q4
      cases q3
      exact ⟨j, rfl, by omega, by omega, q _ T1 h1 _ G2 H2 R2 x2 (wlk_rng 0 _)⟩
  · exact h1.elim
def wZ2 (k1 k2 : Bool) (FA : WA) : WA := fun Γ T post => FA Γ T fun ds T1 => match ds with
  | [x, y] => match sqOf k1 x, sqOf k2 y with
    | some as, some bs => post (zipT as bs) T1
    | _, _ => False
  | _ => False
def wLenS (a : Addr) (n : Nat) : WE := fun Γ T post => Γ[0]? = some (.fx (.ref a)) ∧ post (.int (n : Nat)) T
theorem w_lenS {a : Addr} {ns : List Int} (hseq : ∀ H', Ex X.Z H' → SqL K H' a (ns.map V.int)) : Sw X (tCB (rLenA K) (tCons (tVar 0) tNil)) (wLenS a ns.length) := fun s l c T σ Γ G H R post hp Q q => by
  obtain ⟨h0, hp⟩ := hp
  refine ⟨.ref a, R.r.c 0 _ h0, a, ns.map V.int, rfl, .inl (hseq H (R.z.trans R.r.w)), ?_⟩
  rw [List.length_map]
  exact q _ T hp _ G H R R.rf (.int _)
def onlyA (H : Hp) (a : Addr) : Hp := fun b => if b = a then H a else none
theorem onlyA_ex {H : Hp} {a : Addr} : Ex (onlyA H a) H := fun b o q => by
  unfold onlyA at q
  split at q
  · rename_i e; rw [e]; exact q
  · cases q
def XL (TL : List (Addr × Str)) (H : Hp) (a : Addr) : Cw := ⟨TL, 1, noT (onlyA H a)⟩
theorem XL_seq {TL : List (Addr × Str)} {H : Hp} {a : Addr} {ns : List Int} (hS : SqL K H a (ns.map V.int)) : ∀ H', Ex (XL TL H a).Z H' → SqL K H' a (ns.map V.int) := fun H' e => by
  have g : onlyA H a a = H a := if_pos rfl
  rcases hS with (z | ⟨o, z⟩) | z
  · exact .inl (.inl (e _ _ (noT_at (g.trans z) fun _ z => by cases z)))
  · exact .inl (.inr ⟨o, e _ _ (noT_at (g.trans z) fun _ z => by cases z)⟩)
  · exact .inr z
theorem law_go {TL : List (Addr × Str)} {N : List Str} {n : Nat} {ts : TS} {F : WS} {H : Hp} {a : Addr} {ns : List Int} {Q : VK} {E' : XK} (hN : N.length = 2 + n) (hs : Sws (XL TL H a) ts F) (hS : SqL K H a (ns.map V.int)) (hlen : ns.length ≤ 63) (hTL : ∀ p ∈ TL, H p.1 = some (.tbl #[]))
    (hF : ∀ s : Addr, F (Ce.fx (.ref a) :: Ce.fx (.ref s) :: List.replicate n .un) 0 (fun _ _ => False) (fun d _ => d = .bool true)) (q : ∀ H', Q (.bl true) H') :
    tSeq (tAsg (tCall (SpBegun K) [] E' (tCons (tVar 0) tNil)) (gName 1)) ts { nx := fun _ H' => Q .non H', rt := Q } (L2.start N [.ref a]) H := by
  have e : L2.start N [.ref a] = some (.ref a) :: none :: List.replicate n none := by
    unfold L2.start
    rw [List.length_singleton, show N.length - 1 = n + 1 by omega, List.replicate_succ]; rfl
  rw [e]
  refine ⟨.ref a, rfl, onlyA H a, a, ns, rfl, onlyA_ex, hS, by omega, fun s l c H1 wd1 e1 => ?_⟩
  dsimp only [gName]
  have ex00 : Ex (noT (onlyA H a)) (onlyA H a) := fun b o q => (of_noT q).1
  have wd := wd_noT wd1
  have nm : ∀ {i : Nat} {c' : Ce}, (Ce.fx (.ref a) :: Ce.fx (.ref s) :: List.replicate n Ce.un)[i]? = some c' → isMut c' = false ∧ CellOk (noT (onlyA H a)) H1 ((some (.ref a) :: some (.ref s) :: List.replicate n none : L2.St)[i]?) c' := fun {i c'} e => by
    match i with
    | 0 => cases e; exact ⟨rfl, rfl⟩
    | 1 => cases e; exact ⟨rfl, rfl⟩
    | i + 2 =>
      rw [List.getElem?_cons_succ, List.getElem?_cons_succ, List.getElem?_replicate] at e
      split at e
      · cases e; exact ⟨rfl, trivial⟩
      · cases e
  have R : RelWS (XL TL H a) s l c (noT (onlyA H a)) H1 0 (noT (onlyA H a)) H1 (some (.ref a) :: some (.ref s) :: List.replicate n none) (Ce.fx (.ref a) :: Ce.fx (.ref s) :: List.replicate n Ce.un) := by
    refine ⟨⟨⟨wd.w, by simp, fun i c' e => (nm e).2, fun i j p ci cj e1 _ m1 _ _ _ => ?_⟩, wd, rfl, fun i c' p e m _ => ?_, fun b ps z => (of_noT z).2 ps rfl, fun p hp => TabS.nil (e1 _ _ (hTL p hp)), .refl _⟩, .refl fun b o e => noT_at (wd.w _ _ e) fun ps z => (of_noT e).2 ps (z ▸ rfl), fun i c' p e m _ => ?_⟩
    · rw [(nm e1).1] at m1; cases m1
    · rw [(nm e).1] at m; cases m
    · rw [(nm e).1] at m; cases m
  exact hs s l c _ _ 0 _ _ _ _ R _ _ (hF s) _ (fun _ _ z => z.elim) fun d T' h v G2 H2 _ _ _ q2 => by
    rw [h] at q2
    cases q2
    exact q _
end
end Mv
namespace Mv
open PySem PySem.Spec L2 PyProof.Rows
def CauO (cls : Value) (d : Option Addr) (a : Addr) : HO := .ext fun h => ∃ (oe : Obj) (vs : Array Value), h.get? a = some oe ∧ Zc cls d oe ∧ oe.data = .fields vs
section
variable {X : Cx} {pins : List (Addr × Obj)} {σ : L2.St} {H : Hp} {s : Shared} {a : Addr} {oe : Obj}
theorem suite_pins (J : Inv (X.suite a ((a, oe) :: (X.pn ++ pins))) [] σ H s) (ok : X.Ok) : Inv X ((a, oe) :: pins) σ H s := by
  refine ⟨ok, J.os, J.bare, J.base, J.loc, J.cell, J.free, J.freeC, fun q hq => J.pin q ?_, J.hok, J.len⟩
  show q ∈ ((a, oe) :: (X.pn ++ pins)) ++ []
  rw [List.append_nil]
  rcases List.mem_append.mp hq with z | z
  · exact List.mem_cons_of_mem _ (List.mem_append_left _ z)
  · rcases (List.mem_cons.mp z) with z | z
    · rw [z]; exact List.mem_cons_self ..
    · exact List.mem_cons_of_mem _ (List.mem_append_right _ z)
theorem keep_exc {cls : Value} {d : Option Addr} (J : Inv X ((a, oe) :: pins) σ H s) (z : Zc cls d oe) (hd : ∃ vs, oe.data = .fields vs) (newAt : X.s_0.heap.get? a = none) (np : ∀ q ∈ X.pn ++ pins, q.1 ≠ a) : Inv X pins σ (upd H a (CauO cls d a)) s := by
  obtain ⟨vs, hv⟩ := hd
  obtain ⟨ga, na, nl, nfs, ncell⟩ := J.pin (a, oe) (List.mem_append_right _ (List.mem_cons_self ..))
  have stay : ∀ {b : Addr}, b ≠ a → upd H a (CauO cls d a) b = H b := fun e => upd_ne e
  have old : ∀ {b : Addr} {u : HO}, H b = some u → upd H a (CauO cls d a) b = some u := fun e => (upd_ne (ne_of_none e na)).trans e
  refine ⟨J.ok, J.os, J.bare, ⟨J.base.keep, J.base.slot, fun b o q n x => ?_, J.base.there, fun b xs q => old (J.base.tups b xs q), fun b o u q => old (J.base.frzs b o u q), fun b ps q => ?_⟩, J.loc, J.cell, ?_, fun x c q => ?_, fun q hq => ?_, ?_, J.len⟩
  · rw [stay (fun z => by rw [z, newAt] at q; cases q)]
    exact J.base.free b o q n x
  · obtain ⟨m, r⟩ := J.base.tbls b ps q
    exact ⟨m, old r⟩
  · rw [stay (fun z => nl z.symm)]; exact J.free
  · rw [stay ?_]
    · exact J.freeC x c q
    · intro e
      obtain ⟨w', o, r1, r2⟩ := J.cell x c q
      rw [e, ga] at r1
      cases r1
      exact ncell _ r2
  · obtain ⟨r1, r2, r3⟩ := J.pin q (by
      rcases List.mem_append.mp hq with z | z
      · exact (List.mem_append_left _ z)
      · exact List.mem_append_right _ (List.mem_cons_of_mem _ z))
    exact ⟨r1, by rw [stay (np q hq)]; exact r2, r3⟩
  · exact J.hok.laidN (fun _ _ q => q) na ⟨⟨oe, vs, ga, z, hv⟩, ⟨oe, ga⟩, fun _ _ ⟨o, v, q, r⟩ k => ⟨o, v, k o q, r⟩⟩
end
def wKeep (K : PySem.W.Frag) (c : Value) (i : Nat) (ts : Addr → Value → Option Addr → TS) (Wo : WX) (D : Ends) : WX := fun cls d σ H => ∃ b, PySem.W.exmOne K cls c = some b ∧
  (b = true → ∀ a, H a = none → ts a cls d { nx := fun τ H' => D.nx (τ.set i none) (upd H' a (CauO cls d a)), rt := fun v H' => D.rt v (upd H' a (CauO cls d a)), bk := fun τ H' => D.bk (τ.set i none) (upd H' a (CauO cls d a)), ct := fun τ H' => D.ct (τ.set i none) (upd H' a (CauO cls d a)) } (σ.set i (some (.ref a))) H) ∧
  (b = false → Wo cls d σ H)
section
variable {X : Cx} {x n : Str} {c : Value} {i : Nat} {body suite : List Stmt} {b₀ : Stmt} {pa pb pc : Pos} {tb : WX → TS} {ts : Addr → Value → Option Addr → TS} {Wo : WX}
theorem ps_try_keep (hst : X.stack = X.env :: X.outer) (hfr : X.env.frame = some X.env.locals) (hex : X.ex = []) (nd : X.N.Nodup) (ix : X.N[i]? = some n) (own : X.env.kindOf n = some .local) (nm : Names X x c) (tk : Takes X Wo)
    (bodyR : ∀ (W : WX) (pn : List (Addr × Obj)) (xe : Value → Shared → Prop), Takes (X.tr pn xe) W → PassesOwn (model X.prog X.w) X.A X.env xe → PSs (X.tr pn xe) body (tb W))
    (hu : ∀ (a : Addr) (oe : Obj) (cls : Value) (d : Option Addr) (pn : List (Addr × Obj)), Zc cls d oe → (∃ vs, oe.data = .fields vs) → PSs (X.suite a ((a, oe) :: pn)) (b₀ :: suite) (ts a cls d)) :
    PS X (.Try body [.ExceptHandler (some (.Name x pa)) (some n) (b₀ :: suite) pb] [] [] pc) (fun D σ H => tb (wKeep X.K c i ts Wo D) D σ H) := by
  refine ⟨fun pins s σ H D I h => wpAny_Try_except ?_⟩
  have good := I.ok
  have frm : X.A.frames = some (X.env :: X.outer) := by rw [good.frames, hst]
  refine wpAny_mono ((bodyR (wKeep X.K c i ts Wo D) (X.pn ++ pins) _ (fun u s' xx => ?_) PassesOwn.looking).run [] s σ H D (I.toTry _) h) (fun f s1 hsp => ?_) (fun e s1 he => he)
  · obtain ⟨a, B, sI, pins', τ, Hc, cls, d, rfl, Jt, ground, up, sky, na, os, ag, b, hb1, yes, no⟩ := xx
    have J : Inv X pins τ Hc sI := Jt.ofTry good
    have sky2 : Sky B (X.env :: X.outer) a (Zc cls d) X.env.locals s'.heap := by rw [← hst]; exact sky
    show (wpAny (model X.prog X.w) X.A (noteFrame (.ref a) X.env) _ _ _)
    refine Sky.land Zc.steady frm hfr sky2 fun g fl up2 => ?_
    have J2 : Inv X pins τ Hc { s' with heap := g } := J.landed ground fl.1 (up.trans up2) os ag
    obtain ⟨oe, vs, ge, ze, de⟩ := fl.there
    have out : a ∉ frs (X.env :: X.outer) := fun hm => by
      obtain ⟨_, o', e', hnf⟩ := fl.2.2.1.mem hm
      rw [ge] at e'
      cases e'
      exact hnf _ de
    have nL : a ≠ X.env.locals := fun z => out (List.mem_filterMap.mpr ⟨X.env, List.mem_cons_self, by rw [hfr, z]⟩)
    have nFs : a ∉ X.fs := fun hm => by
      obtain ⟨e, he, q⟩ := (List.mem_filterMap.mp hm)
      exact out (List.mem_filterMap.mpr ⟨e, List.mem_cons_of_mem _ he, q⟩)
    have nI : sI.heap.get? a = none := by
      cases e : sI.heap.get? a with
      | none => rfl
      | some o =>
        have z := ground a o e (by rw [hst]; exact out)
        rw [fl.2.1] at z
        cases z
    have newAt : X.s_0.heap.get? a = none := by
      cases e : (X.s_0.heap.get? a) with
      | none => rfl
      | some o =>
        obtain ⟨o', z⟩ := J.base.there a o e (by rw [hex]; exact List.not_mem_nil)
        rw [nI] at z
        cases z
    have np : ∀ q ∈ X.pn ++ pins, q.1 ≠ a := fun q hq e => by
      have z := (J.pin q hq).1
      rw [e, nI] at z
      cases z
    have U := J2.suite ge de na nL nFs
    refine (wpAny_handleBy_cons (codeAny_handlers_test ?_) (by intro q; cases q))
    have TT : PySem.W.Looks (model X.prog X.w) g (typeOf (.ref a)) cls := fun A Q E s k q => wpAny_typeOf_ref (k _ _ ge) (by rw [ze.1]; exact q)
    have MM := PySem.W.exm_one (M := model X.prog X.w) (J2.kIn) TT hb1
    have named : ∀ {Q : Value → Shared → Prop} {E : Value → Shared → Prop}, Q c { s' with heap := g } → wpAny (model X.prog X.w) (X.A.mark (some (.ref a))) (eval (.Name x pa) X.env) Q E { s' with heap := g } := fun {Q E} q => by
      obtain ⟨hg, hdbg, m | ⟨m, v, nn⟩⟩ := nm
      · exact ld_glob (X := X.suite a ((a, oe) :: (X.pn ++ pins))) U hg m q hdbg
      · exact ld_blt (X := X.suite a ((a, oe) :: (X.pn ++ pins))) U hg m v q nn hdbg
    refine named (MM.here ?_)
    cases b with
    | false =>
      show (wpAny _ X.A (handleBy (.ref a) X.env []) _ _ _)
      refine wpAny_handleBy_nil ?_
      obtain ⟨_, _, _, oo, us, T, oT, tt, ho, hz, hd, h1, _⟩ := id fl
      unfold PySem.passOn
      refine wpAny_bind (wpAny_field ho hd h1 ?_)
      (rw [if_neg (show ¬ ((Value.ref T == Value.none) = true) from by simp)])
      have away : wpAny (model X.prog X.w) X.A (setFlight (.ref a) X.env.frame) (fun _ s4 => wpAny (model X.prog X.w) X.A (throw (.ref a) : Sem Flow) (SP X pins D) X.xe s4) X.xe { s' with heap := g } := by
        rw [hfr]
        refine HandSPX.setFlight_upZ fl fun g4 held up4 => wpAny_throw (tk _ _ ?_)
        exact ⟨a, B, sI, pins, τ, Hc, cls, d, rfl, J, ground, (up.trans up2).trans up4, .inr (.inr (by rw [hst]; exact held)), na, os, ag, no rfl⟩
      first
        | exact wpAny_bind (wpAny_pure (wpAny_bind away))
        | exact wpAny_bind away
    | true =>
      refine codeAny_handlers_suite_as ?_
      refine HandSPX.lands_againZ fl fun g4 fl4 up4 => ?_
      have J4 : Inv X pins τ Hc { s' with heap := g4 } := J.landed ground fl4.1 ((up.trans up2).trans up4) os ag
      obtain ⟨o4, vs4, ge4, ze4, de4⟩ := fl4.there
      refine store_ok (X := X.suite a ((a, o4) :: (X.pn ++ pins))) (v := .ref a) (J4.suite ge4 de4 na nL nFs) nd ix (.inl own) rfl (fun s5 U5 => ?_) (.inr own)
      refine wpAny_mono ((hu a o4 cls d (X.pn ++ pins) ze4 ⟨_, de4⟩).run [] s5 _ Hc _ U5 (yes rfl a na)) (fun f s6 hsp => ?_) (fun _ _ z => False.elim z)
      have last : ∀ {τ6 : L2.St} {H6 : Hp} {Q : Shared → Prop}, Inv (X.suite a ((a, o4) :: (X.pn ++ pins))) [] τ6 H6 s6 → (∀ s7, Inv X pins (τ6.set i none) (upd H6 a (CauO cls d a)) s7 → Q s7) →
          wpAny (model X.prog X.w) X.A (do bindName X.env n .none; unbindBehindTheSuite X.env n pb) (fun _ s7 => Q s7) X.xe s6 := fun U6 hq => gone_ok (pins := (a, o4) :: pins) (suite_pins U6 good) nd ix own fun s7 J7 => hq s7 (keep_exc J7 ze4 ⟨_, de4⟩ newAt np)
      cases f with
      | next =>
        obtain ⟨τ6, H6, U6, q6⟩ := hsp
        exact last U6 fun s7 J7 => ⟨_, _, J7, q6⟩
      | brk =>
        obtain ⟨τ6, H6, U6, q6⟩ := hsp
        exact last U6 fun s7 J7 => ⟨_, _, J7, q6⟩
      | cont =>
        obtain ⟨τ6, H6, U6, q6⟩ := hsp
        exact last U6 fun s7 J7 => ⟨_, _, J7, q6⟩
      | ret u =>
        obtain ⟨v6, τ6, H6, U6, r6, q6⟩ := hsp
        exact last U6 fun s7 J7 => ⟨_, _, _, J7, r6, q6⟩
  cases f with
  | next => exact wpAny_execs_nil (hsp.elim fun τ h => h.elim fun H' h => ⟨τ, H', h.1.ofTry good, h.2⟩)
  | brk => exact hsp.elim fun τ h => h.elim fun H' h => ⟨τ, H', h.1.ofTry good, h.2⟩
  | cont => exact hsp.elim fun τ h => h.elim fun H' h => ⟨τ, H', h.1.ofTry good, h.2⟩
  | ret u => exact hsp.elim fun v h => h.elim fun τ h => h.elim fun H' h => ⟨v, τ, H', h.1.ofTry good, h.2⟩
end
def rIsK (K : PySem.W.Frag) (C : Addr) : List V → Hp → VK → Prop := fun xs H Q => ∃ (a : Addr) (cv : Value) (c : V) (b : Bool), xs = [.ref a, c] ∧ H a = some (CauO (.ref C) none a) ∧ ClsV c cv ∧ PySem.W.kitOne K (.ref C) cv = some b ∧ Q (.bl b) H
theorem call_isK {X : Cx} {C : Addr} (B : L2.ExcC X.K C) : CallR X (.builtin "isinstance") (rIsK X.K C) := by
  intro pins; intro s σ H xs us Q I r h
  obtain ⟨a, cv, c, b, rfl, ha, hc, e, q⟩ := h
  obtain ⟨ua, ub, rfl, r1, r2⟩ := vals2 r
  obtain rfl : ua = Value.ref a := r1
  have e2 := hc.eq r2
  subst e2
  obtain ⟨⟨oe, vs, hg, hz, hv⟩, _, _⟩ := I.hok a _ ha
  have J : PySem.W.InstAt s.heap a oe C none := by
    obtain ⟨oc, od, o3, o4⟩ := oe
    obtain ⟨h1, h2⟩ := hz
    dsimp only at h1 h2 hv
    subst h1 h2 hv
    exact ⟨hg, rfl, rfl, trivial⟩
  exact PySem.W.kia_one (PySem.W.handS_kitx_exc B.hg B.hk B.hs B.hd B.ha B.hn B.ht B.hm) I.kIn J e (fun z => nomatch z) fun tk => ⟨.bl b, H, I.kept (t' := tk) fun _ _ z => z, rfl, q⟩
end Mv
namespace Mv
open PySem L2 Evl LamX
theorem takes_len {X : Cx} {W : WX} (t : Takes X W) : Takes X (fun cls d σ H => σ.length = X.N.length → W cls d σ H) := fun u s' ⟨a, B, sI, pins, σ, H, cls, d, e, I, nb, up, sky, na, os, ag, w⟩ =>
  t u s' ⟨a, B, sI, pins, σ, H, cls, d, e, I, nb, up, sky, na, os, ag, w I.len⟩
def TTc (K : PySem.W.Frag) (CS : Addr) : (XK → Hp → VK → Prop) → Hp → VK → Prop := fun tl H Q =>
  tl (fun cls d H' => ∃ b, PySem.W.exmOne K cls (.ref CS) = some b ∧ (b = true → ∀ a, H' a = none → Q (.ref a) (upd H' a (CauO cls d a))) ∧ (b = false → False)) H fun _ H' => Q .non H'
structure ErrC (K : PySem.W.Frag) (mg : Str → Option Value) (C0 : Addr) (x : Str) (C : Addr) : Prop where
  m : mg x = some (.ref C)
  i : L2.ExcC K C
  e : PySem.W.exmOne K (.ref C) (.ref C0) = some true
  k : PySem.W.kitOne K (.ref C) (.ref C) = some true
section
variable {X : Cw} {s l c : Addr} {T T' : Int} {G H G' H' G1 H1 G2 H2 G0 H0 : Hp} {σ : L2.St} {Γ Γ' : En} {K : PySem.W.Frag}
theorem RelW.extN (R : RelW X s l c T G H σ Γ) (e : ExtN H H1) (tb : Tabs X.TL H1) : RelW X s l c T G H1 σ Γ ∧ StN s l c G H G H1 := by
  have w1 : Ex G H1 := fun b o q => e b o (R.r.w b o q) fun ps z => R.nt b ps (z ▸ q)
  have st1 : StAt H1 s l c T := by
    obtain ⟨⟨lg, cs, left, turn, h1, h2, h3, h⟩, q⟩ := R.wd.st
    exact ⟨⟨lg, cs, left, turn, e _ _ h1 (fun _ z => by cases z), e _ _ h2 (fun _ z => by cases z), e _ _ h3 (fun _ z => by cases z), h⟩, q⟩
  refine ⟨⟨⟨w1, R.r.len, fun i c' ec => ?_, R.r.sep⟩, ⟨w1, st1, R.wd.gs, R.wd.gl, R.wd.gc⟩, R.st, R.ap, R.nt, tb, R.z⟩, ⟨.refl G, fun b o hb q => ?_, fun b hb q => ?_, fun b o q => ?_, fun b h _ _ => h⟩⟩
  · have hc := R.r.c i c' ec
    cases c' with
    | un => trivial
    | fx v => exact hc
    | d z => exact hc
    | ml ds =>
      obtain ⟨p, e1, m⟩ := hc
      obtain ⟨us, e2, q⟩ := m.at_
      exact ⟨p, e1, m.g, us, e _ _ e2 (fun _ z => by cases z), q⟩
    | md es =>
      obtain ⟨p, e1, m⟩ := hc
      obtain ⟨us, e2, q⟩ := m.at_
      exact ⟨p, e1, m.g, us, e _ _ e2 (fun _ z => by cases z), q⟩
  · obtain ⟨e1, e2⟩ := of_noT q
    exact noT_at (e _ _ e1 e2) e2
  · obtain ⟨⟨lg, cs, left, turn, f1, f2, f3, _⟩, _⟩ := st1
    simp only [List.mem_cons, List.not_mem_nil, or_false] at hb
    rcases hb with z | z | z
    · rw [z, noT_at f1 fun _ z => by cases z]; exact ⟨(fun y => nomatch y), fun _ xs y => nomatch y⟩
    · rw [z, noT_at f2 fun _ z => by cases z]; exact ⟨(fun y => nomatch y), fun _ xs y => nomatch y⟩
    · rw [z, noT_at f3 fun _ z => by cases z]; exact ⟨(fun y => nomatch y), fun _ xs y => nomatch y⟩
  · exact noT_at (w1 _ _ q) fun ps z => R.nt b ps (z ▸ q)
variable {ad : Str → Addr} {fas : En → Ra} {tas : TA}
def raisesB (x : Str) (g : List D → Re) (fas : En → Ra) (Γ : En) : Prop := bndA (fas Γ) g = some (.exc x)
def wCau (x : Str) (g : List D → Re) (fas : En → Ra) : WE := fun Γ T post => raisesB x g fas Γ ∧ post (.bool true) T
theorem w_cau {C0 : Addr} {x : Str} {g : List D → Re} {mg : Str → Option Value} (B : ErrC K mg C0 x (ad x)) (ha : ∀ E, Sa E ad tas fas) (hx : tmOf x = none := by decide) :
    Sw X (tCB (rIsK K (ad x)) (tCons (tLam X.TL (TTc K C0) (fun E => tCall (SpF ad g) [] E tas)) (tCons (tC (.ref (ad x))) tNil))) (wCau x g fas) := fun s l c T σ Γ G H R post hp Q q => by
  obtain ⟨hr, hp⟩ := hp
  refine ⟨R.tb, fun H1 eN tb1 => ?_⟩
  obtain ⟨R1, x1⟩ := R.extN eN tb1
  refine u_call (ha _) σ Γ G H1 R1.r _ hr _ fun G2 H2 s2 => ?_
  refine XE.mkP hx ?_
  refine ⟨true, B.e, fun _ e2 he2 => ⟨e2, .ref (ad x), .ref (ad x), true, rfl, upd_same, .own (ad x), B.k, ?_⟩, fun z => by cases z⟩
  have s3 : Stp G H1 G2 (upd H2 e2 (CauO (.ref (ad x)) none e2)) := s2.trans (Stp.old s2.w (.new he2))
  exact q _ T hp _ (noT G2) _ (R1.sts (s3.toS (S := [s, l, c])) (R1.wd.stp s3)) (x1.trans (R1.toN s3)) (.bl true)
end
end Mv
namespace Mv
open PySem L2 Evl LamX
theorem passF {P : Program} {w : World} {X : Cx} : Passes (L2.CX P w) X (fun _ _ _ => False) := fun _ _ _ _ _ _ _ ⟨_, _, _, _, _, _, _, _, _, _, _, _, z⟩ => z.elim
section
variable {X : Cw} {s l c : Addr} {T T' : Int} {G H G' H' G1 H1 G2 H2 G0 H0 : Hp} {σ : L2.St} {Γ Γ' : En} {K : PySem.W.Frag}
variable {E : XK} {ad : Str → Addr} {te ta tb : TE} {fe : En → Re} {Fa Fb Fe F : WE}
theorem RelWS.setM {p : Addr} {ds : List D} {j : Nat} (R : RelWS X s l c G0 H0 T G H σ Γ) (st : Stp G H G2 H2) (hp : H p = none) (m : ML G2 H2 p ds) (hj : X.i0 ≠ j) : RelWS X s l c G0 H0 T (noT G2) H2 (σ.set j (some (.ref p))) (Γ.set j (.ml ds)) := by
  have R1 := R.r.sts (st.toS (S := [s, l, c])) (R.r.wd.stp st)
  have x1 := R.x.trans (R.r.toN st)
  obtain ⟨us, e2, q⟩ := m.at_
  have apart : ∀ {i : Nat} {c' : Ce}, Γ[i]? = some c' → isMut c' = true → σ[i]? ≠ some (some (.ref p)) := fun {i c'} e mc z => by
    have := R.r.r.c i c' e
    cases c' with
    | ml d => obtain ⟨p2, e2, m2⟩ := this; rw [z] at e2; cases e2; obtain ⟨us, e3, _⟩ := m2.at_; rw [hp] at e3; cases e3
    | md d => obtain ⟨p2, e2, m2⟩ := this; rw [z] at e2; cases e2; obtain ⟨us, e3, _⟩ := m2.at_; rw [hp] at e3; cases e3
    | _ => cases mc
  have old0 : noT H0 p = none := by
    cases e : noT H0 p with
    | none => rfl
    | some o =>
      by_cases hb : p ∈ [s, l, c]
      · obtain ⟨⟨lg, cs, left, turn, f1, f2, f3, _⟩, _⟩ := R.r.wd.st
        simp only [List.mem_cons, List.not_mem_nil, or_false] at hb
        rcases hb with z | z | z
        · rw [z, f1] at hp; cases hp
        · rw [z, f2] at hp; cases hp
        · rw [z, f3] at hp; cases hp
      · have := (of_noT (R.x.h p o hb e)).1
        rw [hp] at this; cases this
  have pS : p ∉ [s, l, c] := fun hb => by
    obtain ⟨⟨lg, cs, left, turn, f1, f2, f3, _⟩, _⟩ := R.r.wd.st
    simp only [List.mem_cons, List.not_mem_nil, or_false] at hb
    rcases hb with z | z | z
    · rw [z, f1] at hp; cases hp
    · rw [z, f2] at hp; cases hp
    · rw [z, f3] at hp; cases hp
  have R2 := R.r.r.stp st
  refine ⟨⟨⟨R1.r.w, by rw [List.length_set, List.length_set]; exact R1.r.len, fun i c' e => ?_, fun i j' q' ci cj e1 e2' m1 m2 s1 s2 => ?_⟩, R1.wd, by rw [List.getElem?_set_ne (fun z => hj z.symm)]; exact R1.st, fun i c' q' e mc ep => ?_, R1.nt, R1.tb, R1.z⟩, x1, fun i c' q' e mc ep => ?_⟩
  · rcases set_at e with ⟨rfl, hl, rfl⟩ | ⟨ne, e⟩
    · exact ⟨p, by rw [List.getElem?_set_self (by rw [R.r.r.len]; exact hl)], noT_none m.g, us, e2, q.noT⟩
    · have := R1.r.c i c' e
      rw [List.getElem?_set_ne (fun z => ne z.symm)]
      exact this
  · rcases set_at e1 with ⟨rfl, hl, rfl⟩ | ⟨ne, k1⟩
    · rw [List.getElem?_set_self (by rw [R.r.r.len]; exact hl)] at s1
      cases s1
      rcases set_at e2' with ⟨rfl, _, _⟩ | ⟨ne2, k2⟩
      · rfl
      · rw [List.getElem?_set_ne (fun z => ne2 z.symm)] at s2
        exact (apart k2 m2 s2).elim
    · rw [List.getElem?_set_ne (fun z => ne z.symm)] at s1
      rcases set_at e2' with ⟨rfl, hl, rfl⟩ | ⟨ne2, k2⟩
      · rw [List.getElem?_set_self (by rw [R.r.r.len]; exact hl)] at s2
        cases s2
        exact (apart k1 m1 s1).elim
      · rw [List.getElem?_set_ne (fun z => ne2 z.symm)] at s2
        exact R.r.r.sep i j' q' ci cj k1 k2 m1 m2 s1 s2
  · rcases set_at e with ⟨rfl, hl, rfl⟩ | ⟨ne, e⟩
    · rw [List.getElem?_set_self (by rw [R.r.r.len]; exact hl)] at ep
      cases ep
      exact pS
    · rw [List.getElem?_set_ne (fun z => ne z.symm)] at ep
      exact R.r.ap i c' q' e mc ep
  · rcases set_at e with ⟨rfl, hl, rfl⟩ | ⟨ne, e⟩
    · rw [List.getElem?_set_self (by rw [R.r.r.len]; exact hl)] at ep
      cases ep
      exact old0
    · rw [List.getElem?_set_ne (fun z => ne z.symm)] at ep
      exact R.n i c' q' e mc ep
def wAsgL (i : Nat) (FA : WA) : WS := fun Γ T nx _ => FA Γ T fun ds T1 => small ds.length = true ∧ nx (Γ.set i (.ml ds)) T1
theorem w_asgL {i : Nat} {tas : TA} {FA : WA} (h : Swa X tas FA) (hi : X.i0 ≠ i) : Sws X (tAsg (tLst tas) (gName i)) (wAsgL i FA) := fun s l c G0 H0 T σ Γ G H R nx rt hp D' hn hr =>
  h s l c T σ Γ G H R.r _ hp _ fun ds T1 ⟨sm, h1⟩ vs G2 H2 R2 x2 q2 => ⟨by rw [q2.len]; exact small_line sm, fun p hp2 => by
    have s3 := Stp.old R2.r.w (Ex.new (o := .lst vs) hp2)
    exact hn _ T1 h1 _ (noT G2) _ ((R.sts R2 x2).setM s3 hp2 ⟨fresh_back R2.r.w hp2, vs, upd_same, q2⟩ hi) (x2.g.trans (R2.toN s3).g)⟩
def wAndV (Fa Fb : WE) : WE := fun Γ T post => Fa Γ T fun d T1 => match d with
  | .bool b => if b = true then Fb Γ T1 post else post (.bool false) T1
  | _ => False
def wOrV (Fa Fb : WE) : WE := fun Γ T post => Fa Γ T fun d T1 => match d with
  | .bool b => if b = true then post (.bool true) T1 else Fb Γ T1 post
  | _ => False
def wNotV (Fa : WE) : WE := fun Γ T post => Fa Γ T fun d T1 => match d with
  | .bool b => post (.bool (!b)) T1
  | _ => False
end
end Mv
namespace Mv
open PySem L2 Evl LamX
def permL {α : Type} (is : List Nat) (xs : List α) : List α := is.filterMap fun i => xs[i]?
theorem vals_at : ∀ {zs : List V} {ws : List Value}, Vals zs ws → ∀ i : Nat, (zs[i]? = none ∧ ws[i]? = none) ∨ ∃ z u, zs[i]? = some z ∧ ws[i]? = some u ∧ RelV z u
  | _, _, .nil, _ => .inl ⟨rfl, rfl⟩
  | _, _, .cons r t, 0 => .inr ⟨_, _, rfl, rfl, r⟩
  | _, _, .cons r t, i + 1 => vals_at t i
theorem vals_perm {zs : List V} {ws : List Value} (h : Vals zs ws) : ∀ is : List Nat, Vals (permL is zs) (permL is ws)
  | [] => .nil
  | i :: is => by
    unfold permL
    rcases vals_at h i with ⟨h1, h2⟩ | ⟨z, u, h1, h2, r⟩
    · rw [List.filterMap_cons_none h1, List.filterMap_cons_none h2]; exact vals_perm h is
    · rw [List.filterMap_cons_some h1, List.filterMap_cons_some h2]; exact .cons r (vals_perm h is)
theorem dqa_perm {G : Hp} {vs : List V} {ds : List D} (h : DqA G vs ds) : ∀ is : List Nat, DqA G (permL is vs) (permL is ds)
  | [] => .nil
  | i :: is => by
    unfold permL
    cases e : ds[i]? with
    | none =>
      have e2 : vs[i]? = none := by
        rw [List.getElem?_eq_none_iff] at e ⊢
        rw [h.len]; exact e
      rw [List.filterMap_cons_none e, List.filterMap_cons_none e2]; exact dqa_perm h is
    | some d =>
      obtain ⟨v, e2, q⟩ := h.getD e
      rw [List.filterMap_cons_some e, List.filterMap_cons_some e2]; exact .cons q (dqa_perm h is)
structure CalP (P : Program) (w : World) (K : PySem.W.Frag) (mg : Str → Option Value) (base : Heap) (CX : CXT) (k : Nat) (x : Str) (ks ps : List Str) (is : List Nat) (sp : Sp) : Prop where
  ex : ∃ (f : Addr) (fd : FuncData), FnOk P w K mg base CX k f fd ps sp ∧ mg x = some (.ref f) ∧ PySem.W.keepIn K (.ref f) = true ∧ ∀ ws : List Value, ws.length = ks.length → bindArgs fd ⟨[], ks.zip ws⟩ = pure (ps.zip (permL is ws))
def tCallP (sp : Sp) (E : XK) (is : List Nat) (n : Nat) (t : TA) : TE := fun σ H Q => t σ H fun vs H1 => vs.length = n ∧ sp (permL is vs) H1 Q E
theorem pe_calp {X : Cx} {CX : CXT} {k : Nat} {x : Str} {ks ps : List Str} {is : List Nat} {sp : Sp} {E : XK} {p pos : Pos} {kws : List Keyword} {t : TA} (C : CalP X.prog X.w X.K X.mg X.base CX k x ks ps is sp) (hr : Room k X.A) (hx : Passes CX X E) (ha : PK X kws t)
    (hg : Gl X x := by rfl) (hall : (backToKw pos (keywordEach kws X.env)).all (·.1.isSome) = true := by rfl) (hks : (backToKw pos (keywordEach kws X.env)).filterMap (·.1) = ks := by rfl) (hdb : (x == ("__debug__" : Str)) = false := by decide)
    (hpl : ((backTo pos (starEach [] X.env)).any (·.1) || (backToKw pos (keywordEach kws X.env)).any (·.1.isNone)) = false := by rfl) : PE X (.Call (.Name x p) [] kws pos) (tCallP sp E is ks.length t) := by
  obtain ⟨f, fd, F, hm, hk, hb⟩ := C.ex
  refine ⟨fun pins s σ H Q I h => wpAny_Call_Name_kw (ld_glob I hg hm ?_ hdb)⟩
  refine PySem.W.callWith_KW0 (h₀ := X.base) I.ok.mod.kin hk hall (thn (ha.run pos pins s σ H _ I h) fun ws s2 ⟨zs, H2, I2, rz, q2⟩ => ⟨I2.kIn, ?_⟩) hpl
  rw [hks]
  have q2 : zs.length = ks.length ∧ sp (permL is zs) H2 Q E := q2
  have hl : ws.length = ks.length := by rw [← rz.length]; exact q2.1
  refine wpAny_call (codeAny_mono (F.run X.A X.stack s2 H2 ⟨[], ks.zip ws⟩ (permL is ws) (permL is zs) Q E hr I2.env0 (.of_eq (hb ws hl)) (vals_perm rz is) q2.2) fun r s' hq => ?_)
  cases r with
  | error e => exact hx pins σ H2 s2 e s' I2 hq
  | ok fl =>
    cases fl with
    | ret u => exact I2.after hq
    | next => exact False.elim hq
    | brk => exact False.elim hq
    | cont => exact False.elim hq
section
variable {E : XK} {ad : Str → Addr} {G H : Hp} {tas : TA} {fas : En → Ra} {X : Cw} {FA : WA}
def fCallP (is : List Nat) (n : Nat) (g : List D → Re) (fas : En → Ra) (Γ : En) : Re := bndA (fas Γ) fun ds => if Nat.beq ds.length n = true then g (permL is ds) else none
theorem u_callP {is : List Nat} {n : Nat} {g : List D → Re} (h : Sa E ad tas fas) : Se E ad (tCallP (SpF ad g) E is n tas) (fCallP is n g fas) := fun σ Γ G H R r e Q q => by
  rcases bndA_some e with ⟨ds, e1, e2⟩ | ⟨x, e1, rfl⟩
  · refine h σ Γ G H R _ e1 _ fun vs G2 H2 s2 q2 => ?_
    split at e2
    · rename_i hn
      exact ⟨by rw [q2.len]; exact Nat.eq_of_beq_eq_true hn, G2, permL is ds, r, s2.w, dqa_perm q2 is, e2, q.stp s2⟩
    · cases e2
  · exact h σ Γ G H R _ e1 _ q
end
end Mv
namespace Mv
open PySem PySem.Spec PyProof.Rows L2 Evl LamX
structure FnG (P : Program) (w : World) (K : PySem.W.Frag) (mg : Str → Option Value) (base : Heap) (CX : CXT) (k : Nat) (f : Addr) (fd : FuncData) (ps : List Str) (sp : Sp) : Prop where
  len : ∀ vs H Q E, sp vs H Q E → vs.length = ps.length
  run : ∀ (A : Around) (outer : List Env) (s : Shared) (H : Hp) (args : Args) (us : List Value) (vs : List V) (Q : VK) (E : XK), A.guards = some [] → Room k A → Env0 P w K mg base A outer s H → BindsTo s fd args (ps.zip us) → Vals vs us → sp vs H Q E →
    codeAny (model P w) A (.call (.ref f) args) (CR CX outer P w H s Q E) s
section
variable {P : Program} {w : World} {mg : Str → Option Value} {base : Heap} {K : PySem.W.Frag}
theorem fun_okG {x qual : Str} {st : Stmt} {f : Addr} {fd : FuncData} {N ps : List Str} {k : Nat} {sp : Sp} (F : Fun K x qual st f fd) (S : FnScope N ps (defScope st)) (len : ∀ vs H Q E, sp vs H Q E → vs.length = ps.length)
    (hbody : ∀ (cdv : Value) (A : Around) (outer : List Env) (s : Shared) (H : Hp) (vs : List V) (Q : VK) (E : XK), (A.deeper (envOfC qual (defScope st) s.heap.objs.size f cdv)).guards = some [] → Room k (A.deeper (envOfC qual (defScope st) s.heap.objs.size f cdv)) → sp vs H Q E →
      ∃ t, PSs (cxOf CX0 P w K mg base N qual (defScope st) f cdv A outer s H E).nox (defBody st) t ∧ t { nx := fun _ H' => Q .non H', rt := Q } (L2.start N vs) H) : FnG P w K mg base CX0 (k + 1) f fd ps sp := by
  obtain ⟨oc, od, kV, doc, pm, an, cdv, ct, osl, rfl, lk, hcd⟩ := (F.ex)
  refine ⟨len, fun A outer s H args us vs Q E hg hr e0 hb r hsp => run_ofS lk hcd S hr e0 hb r (len _ _ _ _ hsp) fun hr2 => ?_⟩
  obtain ⟨t, h, q⟩ := hbody cdv A outer s H vs Q E hg hr2 hsp
  exact ⟨t, h.nox, q⟩
structure CalG (P : Program) (w : World) (K : PySem.W.Frag) (mg : Str → Option Value) (base : Heap) (CX : CXT) (k : Nat) (x : Str) (ps : List Str) (sp : Sp) : Prop where
  ex : ∃ (f : Addr) (fd : FuncData), FnG P w K mg base CX k f fd ps sp ∧ mg x = some (.ref f) ∧ PySem.W.keepIn K (.ref f) = true ∧ Binds K fd ps []
theorem pe_calG {X : Cx} {CX : CXT} {k : Nat} {x : Str} {ps : List Str} {sp : Sp} {E : XK} {p pos : Pos} {e : Expr} {es : List Expr} {t : TA} (hgd : X.A.guards = some []) (C : CalG X.prog X.w X.K X.mg X.base CX k x ps sp) (hr : Room k X.A) (hx : Passes CX X E) (ha : PA X (e :: es) t)
    (hg : Gl X x := by rfl) (hs : starEach (e :: es) X.env = (false, eval e X.env) :: starEach es X.env := by rfl) (hpl : (backTo pos (starEach es X.env)).any (·.1) = false := by rfl) (hdb : (x == ("__debug__" : Str)) = false := by decide) :
    PE X (.Call (.Name x p) (e :: es) [] pos) (tCall sp [] E t) := by
  obtain ⟨f, fd, F, hm, hk, hb⟩ := C.ex
  refine (⟨fun pins s σ H Q I h => ?_⟩)
  refine (wpAny_Call_Name_kw (ld_glob I hg hm ?_ hdb))
  refine PySem.W.callWith_K (h₀ := X.base) I.ok.mod.kin hk (thn (ha.run pos pins s σ H _ I h) fun us s1 ⟨vs, H1, I1, r, q⟩ => ⟨I1.kIn, ?_⟩) hs hpl
  have q2 : sp (vs ++ []) H1 Q E := q
  have r2 : Vals (vs ++ []) (us ++ []) := r.append .nil
  have hl : (us ++ []).length = ps.length := by rw [← r2.length]; exact F.len _ _ _ _ q2
  refine wpAny_call (codeAny_mono (F.run X.A X.stack s1 H1 ⟨us, []⟩ (us ++ []) (vs ++ []) Q E hgd hr I1.env0 (hb s1 us I1.kIn hl) r2 q2) fun r s' hq => ?_)
  cases r with
  | error e => exact hx pins σ H1 s1 e s' I1 hq
  | ok fl =>
    cases fl with
    | ret u => exact I1.after hq
    | next => exact False.elim hq
    | brk => exact False.elim hq
    | cont => exact False.elim hq
end
def rReprD (K : PySem.W.Frag) : List V → Hp → VK → Prop := fun xs H Q => ∃ (p : Addr) (d : D), xs = [.ref p] ∧ Dp K H (.ref p) d ∧ d.showable = true ∧ d.hasDict = false ∧ d.depth ≤ 64 ∧ d.shown.length ≤ sizeLine ∧ Q (.str d.shown) H
theorem call_reprD {X : Cx} (hg : X.A.guards = some []) (hu : X.A.units + 66 < cLine) : CallR X (.builtin "repr") (rReprD X.K) := by
  intro pins; intro s σ H xs us Q I r h
  obtain ⟨p, d, rfl, hd, h1, h2, h3, h4, q⟩ := h
  cases r with
  | cons rx rr =>
    cases rr
    obtain rfl := rx
    obtain ⟨as, hr⟩ := Dp.reads I d (.ref p) (.ref p) hd rfl
    exact repr_of_reads' hr h1 (fun z => by rw [h2] at z; cases z) hg (by omega) (fun _ _ e => e) (fun h' u tk hk => ⟨.str d.shown, H, I.kept (t' := tk) hk, ⟨u, rfl⟩, q⟩) h4
def rReprV (K : PySem.W.Frag) : List V → Hp → VK → Prop := fun xs H Q => rReprD K xs H Q ∨ (xs = [.non] ∧ Q (.str (PyData.shown .none)) H) ∨ ∃ i : Int, xs = [.int i] ∧ i.natAbs.log2 < 1920 ∧ Q (.str (PyData.shown (.int i))) H
theorem call_reprV {X : Cx} (hg : X.A.guards = some []) (hu : X.A.units + 66 < cLine) : CallR X (.builtin "repr") (rReprV X.K) := by
  intro pins; intro s σ H xs us Q I r h
  rcases h with h | ⟨rfl, q⟩ | ⟨i, rfl, hi, q⟩
  · exact call_reprD hg hu pins s σ H xs us Q I r h
  · cases r with
    | cons rx rr =>
      cases rr
      obtain rfl := rx
      exact PySem.P.repr_of_none ⟨.str (PyData.shown .none), H, I.tok _, ⟨_, by rw [show PyData.shown .none = ("None" : Str) from by first | rfl | simp [PyData.shown]]⟩, q⟩
  · exact SkE.call_repr_int pins s σ H _ us Q I r ⟨i, rfl, hi, by rw [show PyData.shown (.int i) = toString i from by first | rfl | simp [PyData.shown]] at q; exact q⟩
def reprOk (d : D) : Bool := (match d with | .list _ => true | .tuple _ => true | .none => true | .int i => decide (i.natAbs.log2 < 1920) | _ => false) && flatD d && d.showable && !d.hasDict && decide (d.depth ≤ 64) && small d.shown.length
def oRepr (ds : List D) : Option D := match ds with
  | [d] => if reprOk d = true then some (.str d.shown) else none
  | _ => none
theorem cs_repr {K : PySem.W.Frag} : CaS (rReprV K) oRepr := fun ds z e G => by
  unfold oRepr at e
  split at e
  · rename_i d
    by_cases ho : reprOk d = true
    · rw [if_pos ho] at e
      cases e
      unfold reprOk at ho
      simp only [Bool.and_eq_true, decide_eq_true_eq, Bool.not_eq_true'] at ho
      obtain ⟨⟨⟨⟨⟨k, f⟩, h1⟩, h2⟩, h3⟩, h4⟩ := ho
      have h4 := small_line h4
      intro vs G1 H1 x w h Q q
      cases h with
      | cons h kk =>
        cases kk
        cases d with
        | list xs => cases h with | lst hp hx => exact .inl ⟨_, _, rfl, dp_of w (.lst hp hx) f, h1, h2, h3, h4, q _ G1 H1 (.refl w) (.str _)⟩
        | tuple xs => cases h with | tup hp hx => exact .inl ⟨_, _, rfl, dp_of w (.tup hp hx) f, h1, h2, h3, h4, q _ G1 H1 (.refl w) (.str _)⟩
        | none => cases h; exact .inr (.inl ⟨rfl, q _ G1 H1 (.refl w) (.str _)⟩)
        | int i => cases h; exact .inr (.inr ⟨i, rfl, of_decide_eq_true k, q _ G1 H1 (.refl w) (.str _)⟩)
        | _ => cases k
    · rw [if_neg ho] at e; cases e
  · cases e
end Mv
namespace Mv
open PySem L2 Evl
mutual
def sameD : D → D → Bool
  | .none, .none => true
  | .bool a, .bool b => a == b
  | .int a, .int b => decide (a = b)
  | .str a, .str b => decide (a = b)
  | .list a, .list b => sameDs a b
  | .tuple a, .tuple b => sameDs a b
  | _, _ => false
def sameDs : List D → List D → Bool
  | [], [] => true
  | a :: as, b :: bs => sameD a b && sameDs as bs
  | _, _ => false
end
mutual
theorem sameD_eq : ∀ {a b : D}, sameD a b = true → a = b
  | .none, .none, _ => rfl
  | .bool a, .bool b, h => by unfold sameD at h; rw [eq_of_beq h]
  | .int a, .int b, h => by unfold sameD at h; rw [of_decide_eq_true h]
  | .str a, .str b, h => by unfold sameD at h; rw [of_decide_eq_true h]
  | .list a, .list b, h => by unfold sameD at h; rw [sameDs_eq h]
  | .tuple a, .tuple b, h => by unfold sameD at h; rw [sameDs_eq h]
  | .none, .bool _, h => by cases h
  | .none, .int _, h => by cases h
  | .none, .str _, h => by cases h
  | .none, .list _, h => by cases h
  | .none, .tuple _, h => by cases h
  | .none, .dict _, h => by cases h
  | .bool _, .none, h => by cases h
  | .bool _, .int _, h => by cases h
  | .bool _, .str _, h => by cases h
  | .bool _, .list _, h => by cases h
  | .bool _, .tuple _, h => by cases h
  | .bool _, .dict _, h => by cases h
  | .int _, .none, h => by cases h
  | .int _, .bool _, h => by cases h
  | .int _, .str _, h => by cases h
  | .int _, .list _, h => by cases h
  | .int _, .tuple _, h => by cases h
  | .int _, .dict _, h => by cases h
  | .str _, .none, h => by cases h
  | .str _, .bool _, h => by cases h
  | .str _, .int _, h => by cases h
  | .str _, .list _, h => by cases h
  | .str _, .tuple _, h => by cases h
  | .str _, .dict _, h => by cases h
  | .list _, .none, h => by cases h
  | .list _, .bool _, h => by cases h
  | .list _, .int _, h => by cases h
  | .list _, .str _, h => by cases h
  | .list _, .tuple _, h => by cases h
  | .list _, .dict _, h => by cases h
  | .tuple _, .none, h => by cases h
  | .tuple _, .bool _, h => by cases h
  | .tuple _, .int _, h => by cases h
  | .tuple _, .str _, h => by cases h
  | .tuple _, .list _, h => by cases h
  | .tuple _, .dict _, h => by cases h
  | .dict _, .none, h => by cases h
  | .dict _, .bool _, h => by cases h
  | .dict _, .int _, h => by cases h
  | .dict _, .str _, h => by cases h
  | .dict _, .list _, h => by cases h
  | .dict _, .tuple _, h => by cases h
  | .dict _, .dict _, h => by cases h
theorem sameDs_eq : ∀ {a b : List D}, sameDs a b = true → a = b
  | [], [], _ => rfl
  | a :: as, b :: bs, h => by
    unfold sameDs at h
    rw [Bool.and_eq_true] at h
    rw [sameD_eq h.1, sameDs_eq h.2]
  | [], _ :: _, h => by cases h
  | _ :: _, [], h => by cases h
end
def isV (r : Re) (d : D) : Bool := match r with
  | some (.val z) => sameD z d
  | _ => false
def isX (r : Re) (x : Str) : Bool := match r with
  | some (.exc y) => decide (y = x)
  | _ => false
theorem isV_eq {r : Re} {d : D} (h : isV r d = true) : r = some (.val d) := by
  unfold isV at h
  split at h
  · rw [sameD_eq h]
  · cases h
theorem isX_eq {r : Re} {x : Str} (h : isX r x = true) : r = some (.exc x) := by
  unfold isX at h
  split at h
  · rw [of_decide_eq_true h]
  · cases h
theorem few_V {L : List (List Int)} {f : List Int → Re} {g : List Int → D} (h : (L.all fun n => isV (f n) (g n)) = true) {n : List Int} (hn : n ∈ L) : f n = some (.val (g n)) := isV_eq (List.all_eq_true.mp h n hn)
section
variable {α β : Type} {st : Fs} {ft fe : En → Re} {Γ Γ1 : En} {vs : List Nat} {src : En → Ra}
theorem lc_of (e : α → D) (p : α → Bool) (g : α → D) : ∀ (as : List α), (∀ a ∈ as, ∃ Γ1, st (e a) Γ = some Γ1 ∧ ft Γ1 = some (.val (.bool (p a))) ∧ (p a = true → fe Γ1 = some (.val (g a)))) → lcGo st ft fe Γ (as.map e) = some ((as.filter p).map g)
  | [], _ => rfl
  | a :: as, h => by
    obtain ⟨Γ1, h1, h2, h3⟩ := h a (List.mem_cons_self ..)
    have ih := lc_of e p g as fun b hb => h b (List.mem_cons_of_mem _ hb)
    rw [List.map_cons]
    unfold lcGo
    rw [h1]; dsimp only
    rw [h2]; dsimp only
    cases hp : p a with
    | true =>
      rw [if_pos rfl, h3 hp]; dsimp only
      rw [ih, List.filter_cons_of_pos hp]; rfl
    | false =>
      rw [if_neg (by decide), ih, List.filter_cons_of_neg (by rw [hp]; decide)]
theorem flc_of (e : α → D) (p : α → Bool) (g : α → D) (as : List α) (h1 : src Γ = some (.vals (as.map e))) (h2 : as.length ≤ 1000000) (h3 : ∀ a ∈ as, ∃ Γ1, st (e a) (wipeC Γ vs) = some Γ1 ∧ ft Γ1 = some (.val (.bool (p a))) ∧ (p a = true → fe Γ1 = some (.val (g a)))) :
    fLc src st ft fe vs Γ = some (.val (.list ((as.filter p).map g))) := by
  unfold fLc
  rw [h1]; dsimp only
  rw [if_pos (by unfold small; rw [List.length_map]; exact Nat.ble_eq_true_of_le h2), lc_of e p g as h3]
theorem flc_map (e : α → D) (g : α → D) (as : List α) (h1 : src Γ = some (.vals (as.map e))) (h2 : as.length ≤ 1000000) (h3 : ∀ a ∈ as, ∃ Γ1, st (e a) (wipeC Γ vs) = some Γ1 ∧ ft Γ1 = some (.val (.bool true)) ∧ fe Γ1 = some (.val (g a))) :
    fLc src st ft fe vs Γ = some (.val (.list (as.map g))) := by
  have := flc_of (vs := vs) (fe := fe) (ft := ft) (st := st) e (fun _ => true) g as h1 h2 fun a ha => (h3 a ha).imp fun Γ1 h => ⟨h.1, h.2.1, fun _ => h.2.2⟩
  rw [this, List.filter_eq_self.mpr fun _ _ => rfl]
theorem zipT_map (e : α → D) (f : β → D) : ∀ (as : List α) (bs : List β), zipT (as.map e) (bs.map f) = (as.zip bs).map fun q => .tuple [e q.1, f q.2]
  | [], _ => by cases ‹List β› <;> rfl
  | _ :: _, [] => rfl
  | a :: as, b :: bs => by simp only [List.map_cons, zipT, List.zip_cons_cons, zipT_map e f as bs]
theorem for_inv {body : En → Rf} (P : Nat → En → Prop) : ∀ (as : List D) (k : Nat) (Γ : En), P k Γ → (∀ (i : Nat) (a : D) (Γ : En), as[i]? = some a → P (k + i) Γ → ∃ Γ1, st a Γ = some Γ1 ∧ ∃ Γ2, body Γ1 = some (.nx Γ2) ∧ P (k + i + 1) Γ2) → ∃ Γ', forGo st body as Γ = some (.nx Γ') ∧ P (k + as.length) Γ'
  | [], k, Γ, h0, _ => ⟨Γ, rfl, h0⟩
  | a :: as, k, Γ, h0, h => by
    obtain ⟨Γ1, h1, Γ2, h2, h3⟩ := h 0 a Γ rfl h0
    obtain ⟨Γ', h4, h5⟩ := for_inv P as (k + 1) Γ2 h3 fun i b Γ e hp => by
      have q := h (i + 1) b Γ e (by rw [show k + (i + 1) = k + 1 + i from by omega]; exact hp)
      rw [show k + (i + 1) + 1 = k + 1 + i + 1 from by omega] at q
      exact q
    refine ⟨Γ', ?_, by rw [List.length_cons, show k + (as.length + 1) = k + 1 + as.length from by omega]; exact h5⟩
    unfold forGo
    rw [h1]; dsimp only
    rw [h2]; exact h4
theorem ffor_inv {body : En → Rf} (P : Nat → En → Prop) {as : List D} (hs : src Γ = some (.vals as)) (h0 : P 0 Γ) (h : ∀ (i : Nat) (a : D) (Γ : En), as[i]? = some a → P i Γ → ∃ Γ1, st a Γ = some Γ1 ∧ ∃ Γ2, body Γ1 = some (.nx Γ2) ∧ P (i + 1) Γ2) : ∃ Γ', fFor src st body Γ = some (.nx Γ') ∧ P as.length Γ' := by
  obtain ⟨Γ', h1, h2⟩ := for_inv (st := st) (body := body) P as 0 Γ h0 fun i a Γ e hp => by rw [Nat.zero_add] at hp ⊢; exact h i a Γ e hp
  refine ⟨Γ', ?_, by rw [Nat.zero_add] at h2; exact h2⟩
  unfold fFor
  rw [hs]; exact h1
end
section
variable {Γ Γ' : En} {T : Int} {d : D} {i0 : Nat}
theorem pw_of {f : En → Re} {post : D → Int → Prop} (h : f Γ = some (.val d)) (k : post d T) : pw f Γ T post := by
  unfold pw; rw [h]; exact k
theorem pwb_of {f : En → Re} {post : Bool → Int → Prop} {b : Bool} (h : f Γ = some (.val (.bool b))) (k : post b T) : pwb f Γ T post := by
  unfold pwb; rw [h]; exact k
theorem pws_nx {f : En → Rf} {nx : En → Int → Prop} {rt : D → Int → Prop} (h : f Γ = some (.nx Γ')) (e : Γ'[i0]? = Γ[i0]?) (k : nx Γ' T) : pws i0 f Γ T nx rt := by
  unfold pws; rw [h]; exact ⟨e, k⟩
theorem pws_rt {f : En → Rf} {nx : En → Int → Prop} {rt : D → Int → Prop} (h : f Γ = some (.rt d)) (k : rt d T) : pws i0 f Γ T nx rt := by
  unfold pws; rw [h]; exact k
theorem draw_of {n : Int} {post : D → Int → Prop} (h1 : 0 < n) (h2 : n < 1073741824) (hT : T < 1000000000000) (h : ∀ r : Nat, (r : Int) < n → post (.int r) (T + 1)) : W__law_draw [.int n] T post :=
  ⟨n, rfl, h1, h2, hT, fun r r0 r1 => by
    have := h r.toNat (by omega)
    rwa [Int.toNat_of_nonneg r0] at this⟩
theorem bodyW_of {F : WS} {k n : Nat} {ds : List D} {post : D → Int → Prop} (h1 : ds.length = k) (h : ∀ s : Addr, F (Ce.fx (.ref s) :: (ds.map Ce.d ++ List.replicate n .un)) T (fun _ T' => post .none T') post) : bodyW F k n ds T post := ⟨h1, h⟩
variable {nx : En → Int → Prop} {rt : D → Int → Prop} {post : D → Int → Prop} {postA : List D → Int → Prop} {postB : Bool → Int → Prop} {Fa Fb F : WE} {FA FR : WA} {FT FU : WB} {F1 F2 : WS} {st : Fs} {src : En → Ra} {vs : List Nat} {k : Nat → Bool} {g : List D → Re} {as : List D}
theorem wRet_of (h : F Γ T rt) : wRet F Γ T nx rt := h
theorem wSeq_of (h : F1 Γ T (fun Γ1 T1 => F2 Γ1 T1 nx rt) rt) : wSeq F1 F2 Γ T nx rt := h
theorem wCons_of (h : Fa Γ T fun d T1 => FR Γ T1 fun ds T2 => postA (d :: ds) T2) : wCons Fa FR Γ T postA := h
theorem wNil_of (h : postA [] T) : wNil Γ T postA := h
theorem wCb_of {o : List D → Option D} (h : FA Γ T fun ds T1 => match o ds with | some z => post z T1 | none => False) : wCb o FA Γ T post := h
theorem wOp_of {o : D → D → Option D} (h : Fa Γ T fun x T1 => Fb Γ T1 fun y T2 => match o x y with | some z => post z T2 | none => False) : wOp o Fa Fb Γ T post := h
theorem wDraw_of {W : List D → Int → (D → Int → Prop) → Prop} (h : FA Γ T fun ds T1 => W ds T1 post) : wDraw W FA Γ T post := h
theorem wAsg_of (h : F Γ T fun d T1 => match st d Γ with | some Γ1 => nx Γ1 T1 | none => False) : wAsg F st Γ T nx rt := h
theorem wIfS_of (h : FT Γ T fun b T1 => if b = true then F1 Γ T1 nx rt else F2 Γ T1 nx rt) : wIfS FT F1 F2 Γ T nx rt := h
theorem wTup_of (h : FA Γ T fun ds T1 => small ds.length = true ∧ post (.tuple ds) T1) : wTup FA Γ T post := h
theorem wLst_of (h : FA Γ T fun ds T1 => small ds.length = true ∧ post (.list ds) T1) : wLst FA Γ T post := h
theorem wNext_of (h : nx Γ T) : wNext Γ T nx rt := h
theorem wFrz_of (h : F1 (lockL k Γ) T nx rt) : wFrz k F1 Γ T nx rt := h
theorem wT_of (h : Fa Γ T fun d T1 => match d with | .bool b => postB b T1 | _ => False) : wT Fa Γ T postB := h
theorem wNot_of (h : FT Γ T fun b T1 => postB (!b) T1) : wNot FT Γ T postB := h
theorem wOr_of (h : FT Γ T fun b T1 => if b = true then postB true T1 else FU Γ T1 postB) : wOr FT FU Γ T postB := h
theorem wFor_of {FS : WA} (h : FS Γ T fun as T1 => forWGo st F1 as Γ T1 nx rt) : wFor FS st F1 Γ T nx rt := h
theorem wLc_of {FT : WB} (h : src Γ = some (.vals as)) (hs : as.length ≤ 1000000) (k : lcW st FT F (wipeC Γ vs) as T fun ds T' => post (.list ds) T') : wLc src st FT F vs Γ T post := by
  unfold wLc
  rw [h]
  exact ⟨Nat.ble_eq_true_of_le hs, k⟩
theorem wCau_of {x : Str} {fas : En → Ra} (h : raisesB x g fas Γ) (k : post (.bool true) T) : wCau x g fas Γ T post := ⟨h, k⟩
theorem raises_of {x : Str} {fas : En → Ra} {ds : List D} (h : fas Γ = some (.vals ds)) (k : g ds = some (.exc x)) : raisesB x g fas Γ := by
  unfold raisesB bndA
  rw [h]; exact k
theorem lcW_all (Pv : D → Prop) {c : Int} {FT : WB} : ∀ (as : List D) (T : Int) (postA : List D → Int → Prop), (∀ a ∈ as, ∀ T' (q : D → Int → Prop), T ≤ T' → T' ≤ T + c * as.length → (∀ d T2, Pv d → T' ≤ T2 → T2 ≤ T' + c → q d T2) → ∃ Γ1, st a Γ = some Γ1 ∧ FT Γ1 T' fun b T1 => if b = true then F Γ1 T1 q else False) →
    0 ≤ c → (∀ ds T', (∀ d ∈ ds, Pv d) → ds.length = as.length → T ≤ T' → T' ≤ T + c * as.length → postA ds T') → (∀ Γ1 T (p q : Bool → Int → Prop), FT Γ1 T p → (∀ b T', p b T' → q b T') → FT Γ1 T q) → lcW st FT F Γ as T postA
  | [], T, postA, _, hc, h, _ => by
    have := h [] T (fun _ hd => by cases hd) rfl (Int.le_refl _) (by simp)
    exact this
  | a :: as, T, postA, hd, hc, h, hm => by
    have e : ((a :: as).length : Int) = (as.length : Int) + 1 := by simp
    have e2 : c * ((a :: as).length : Int) = c * (as.length : Int) + c := by rw [e, Int.mul_add, Int.mul_one]
    have e3 : 0 ≤ c * (as.length : Int) := Int.mul_nonneg hc (by omega)
    unfold lcW
    obtain ⟨Γ1, h1, h2⟩ := hd a (List.mem_cons_self ..) T (fun d T2 => lcW st FT F Γ as T2 fun ds T3 => postA (d :: ds) T3) (Int.le_refl _) (by omega) fun d T2 p1 p2 p3 => by
      refine lcW_all Pv as T2 _ (fun b hb T' q q1 q2 q3 => hd b (List.mem_cons_of_mem _ hb) T' q (by omega) (by omega) q3) hc (fun ds T' r1 r2 r3 r4 => ?_) hm
      exact h (d :: ds) T' (fun x hx => by
        rcases (List.mem_cons.mp hx) with rfl | hx
        · exact p1
        · exact r1 x hx) (by rw [List.length_cons, r2]; rfl) (by omega) (by omega)
    rw [h1]
    exact hm Γ1 T _ _ h2 fun b T' hb => by
      cases b with
      | true => rw [if_pos rfl] at hb ⊢; exact hb
      | false => rw [if_neg (by decide)] at hb; exact hb.elim
end
end Mv
namespace Mv
open PySem PySem.Spec L2 LamX PyProof.Rows
section
variable {X : Cx} {pins : List (Addr × Obj)} {σ : L2.St} {H : Hp} {s : Shared} {f : Addr} {o : HO}
end
section
variable {X : Cx}
end
end Mv
namespace Mv
open PySem L2 Evl LamX
section
variable {X : Cw} {Xc : Cx} {s l c : Addr} {T T' : Int} {G H G' H' G1 H1 G2 H2 G0 H0 : Hp} {σ : L2.St} {Γ Γ' : En} {K : PySem.W.Frag} {k : Nat}
theorem noT_id (nt : ∀ (b : Addr) (ps : Array Value), G b ≠ some (.tbl ps)) : noT G = G := by
  funext b
  cases e : G b with
  | none => exact noT_none e
  | some o => exact noT_at e fun ps z => nt b ps (z ▸ e)
theorem RelW.new {a : Addr} {o : HO} (R : RelW X s l c T G H σ Γ) (h : H a = none) : RelW X s l c T G (upd H a o) σ Γ ∧ StN s l c G H G (upd H a o) := by
  have s3 : Stp G H G (upd H a o) := Stp.old R.r.w (.new h)
  have R1 := R.sts (s3.toS (S := [s, l, c])) (R.wd.stp s3)
  have x1 := R.toN s3
  rw [noT_id R.nt] at R1 x1
  exact ⟨R1, x1⟩
structure La where
  g : List D → Re
  ta : TA
  fa : En → Ra
variable {ad : Str → Addr}
def La.t (ad : Str → Addr) (a : La) : XK → TE := fun E => tCall (SpF ad a.g) [] E a.ta
def La.p (a : La) : (List D → Re) × (En → Ra) := (a.g, a.fa)
end
end Mv
namespace Mv
open PySem L2 Evl
def mergeT (acc kvs : List (KK × V)) : List (KK × V) := kvs.foldl (fun a e => putK a e.1 e.2) acc
theorem paired_at {α β : Type} {F : α → β → Prop} : ∀ {l : List α} {m : List β} {j : Nat} {y : β}, Paired F l m → m[j]? = some y → ∃ x, l[j]? = some x ∧ F x y
  | _, _, _, _, .nil, e => by simp at e
  | _, _, 0, _, .cons h _, e => by
    cases e
    exact ⟨_, rfl, h⟩
  | _, _, j + 1, _, .cons _ t, e => by
    obtain ⟨x, h1, h2⟩ := paired_at t (j := j) (by simpa using e)
    exact (⟨x, by simpa using h1, h2⟩)
section
variable {X : Cx} {pins : List (Addr × Obj)} {σ : L2.St} {H : Hp} {s : Shared}
theorem kt_merge {prs : List (KK × Addr × Value)} {kvs : List (KK × V)} (r : KT H kvs prs) : ∀ {acc : List (KK × V)} {xs : List (KK × Addr × Value)}, KT H acc xs → KT H (mergeT acc kvs) (storedAllH xs prs) := by
  induction r with
  | nil => exact fun a => a
  | @cons e x es xs h t ih =>
    intro acc ys a
    have := ih (a.put e.1 (b := x.2.1) h.2.1 h.2.2)
    rw [h.1] at this
    show KT H (mergeT (putK acc e.1 e.2) es) (storedAllH (storedH ys x.1 x.2.1 x.2.2) xs)
    rw [h.1]; exact this
theorem merge_len : ∀ (kvs acc : List (KK × V)), (mergeT acc kvs).length ≤ acc.length + kvs.length
  | [], acc => Nat.le_refl _
  | e :: kvs, acc => by
    have h1 := merge_len kvs (putK acc e.1 e.2)
    have h2 := length_putK acc e.1 e.2
    show (mergeT (putK acc e.1 e.2) kvs).length ≤ _
    rw [List.length_cons]; omega
end
def mergeD (acc es : List (KK × D)) : List (KK × D) := es.foldl (fun a e => putD a e.1 e.2) acc
section
variable {E : XK} {ad : Str → Addr} {K : PySem.W.Frag} {G G' H H' : Hp} {tas : TA} {fas : En → Ra}
theorem merge_dq {kvs : List (KK × V)} {es : List (KK × D)} (h : DqP G kvs es) : ∀ {acc : List (KK × V)} {bs : List (KK × D)}, DqP G acc bs → DqP G (mergeT acc kvs) (mergeD bs es) := by
  match kvs, es, h with
  | _, _, .nil => intro acc bs a; exact a
  | _, _, .cons n hd tl => intro acc bs a; exact merge_dq tl (a.put n hd)
end
section
variable {X : Cx}
end
end Mv
namespace Mv
open PySem PySem.Spec PyProof.Rows L2 Evl
section
variable {X : Cx} {pins : List (Addr × Obj)} {σ : L2.St} {A : Around} {E : Value → Shared → Prop} {H : Hp} {s : Shared} {z TI TO i1 i2 a b S : Addr} {k1 k2 : Bool} {xs ys : List V}
end
section
variable {K : PySem.W.Frag} {E : XK} {ad : Str → Addr} {tas : TA} {fas : En → Ra} {k1 k2 : Bool}
end
end Mv
namespace Mv
open PySem L2 Evl PyProof.Rows
section
variable {X : Cx} {pos : Pos}
end
section
variable {X : Cw} {ta tb tc : TE} {Fa Fb Fc : WE}
end
section
variable {E : XK} {ad : Str → Addr} {ta tb tc : TE} {fa fb fc : En → Re}
end
end Mv
namespace Mv
open PySem PySem.Spec PyProof.Rows L2 Evl
section
variable {E : XK} {ad : Str → Addr} {K : PySem.W.Frag} {td : TE} {fd : En → Re}
end
end Mv
namespace Mv
open PySem PySem.Spec PyProof.Rows L2 Evl
section
variable {E : XK} {ad : Str → Addr} {K : PySem.W.Frag} {te tk tv : TE} {fe fk fv : En → Re} {G H G' H' G0 H0 : Hp} {σ : L2.St} {Γ : En} {i : Nat} {tas : TA} {fas : En → Ra}
theorem DqA.erase : ∀ {us : List V} {ds : List D} (j : Nat), DqA G us ds → DqA G (us.eraseIdx j) (ds.eraseIdx j)
  | _, _, _, .nil => .nil
  | _, _, 0, .cons _ k => k
  | _, _, j + 1, .cons q k => .cons q (DqA.erase j k)
theorem PoD.stp {Q : VK} {r : Ou} (h : PoD E ad G H Q r) (s : Stp G H G' H') : PoD E ad G' H' Q r := by
  cases r with
  | val d => cases d with
    | dict ps => exact fun es e p G2 H2 s2 h0 m => h es e p G2 H2 (s.trans s2) (by
        cases z : H p with
        | none => rfl
        | some o => rw [s.h _ _ z] at h0; cases h0) m
    | _ => exact h
  | exc x => exact fun G2 H2 s2 => h G2 H2 (s.trans s2)
end
end Mv
namespace Mv
open PySem L2 Evl
section
variable {X : Cw} {s l c : Addr} {T T' : Int} {G H G' H' G1 H1 G2 H2 G0 H0 : Hp} {σ : L2.St} {Γ Γ' : En} {K : PySem.W.Frag}
variable {E : XK} {ad : Str → Addr} {te ta tb : TE} {fe : En → Re} {tt tu : TT} {wi : TI} {src : En → Ra} {g : TG} {st : Fs} {js vs : List Nat} {Fa Fb Fe F : WE} {FT FU : WB} {tas : TA} {FA : WA}
end
end Mv
namespace Mv
open PySem L2 Evl LamX
mutual
def noLst : D → Bool
  | .list _ => false
  | .tuple ds => noLsts ds
  | .dict kvs => noLstP kvs
  | _ => true
def noLsts : List D → Bool
  | [] => true
  | d :: ds => noLst d && noLsts ds
def noLstP : List (D × D) → Bool
  | [] => true
  | (_, d) :: ds => noLst d && noLstP ds
end
theorem and_tt {a b : Bool} (h : (a && b) = true) : a = true ∧ b = true := by
  cases a <;> cases b <;> first | exact ⟨rfl, rfl⟩ | cases h
section
variable {G : Hp} {p : Addr} {xs : List V} {o : HO}
theorem upd_off {b : Addr} {u : HO} (hp : G p = some (.lst xs)) (h : G b = some u) (n : ∀ ys, u ≠ .lst ys) : upd G p o b = some u := by
  have : b ≠ p := fun z => by rw [z, hp] at h; cases h; exact n _ rfl
  rw [upd_ne this]; exact h
theorem noP_map {es : List (List L2.Key × D)} : ∀ {ds : List (D × D)}, ds = es.map (fun e => (kD e.1, e.2)) → noLstP ds = true → noLsts (es.map (·.2)) = true := by
  induction es with
  | nil => intro ds e h; rfl
  | cons x es ih =>
    intro ds e h
    subst e
    have h' : (noLst x.2 && noLstP (es.map (fun e => (kD e.1, e.2)))) = true := h
    obtain ⟨h1, h2⟩ := and_tt h'
    show (noLst x.2 && noLsts (es.map (·.2))) = true
    rw [h1, ih rfl h2]; rfl
mutual
theorem Dq.upd (hp : G p = some (.lst xs)) : ∀ {v : V} {d : D}, Dq G v d → noLst d = true → Dq (upd G p o) v d
  | _, _, .non, _ => .non
  | _, _, .bl b, _ => .bl b
  | _, _, .int i, _ => .int i
  | _, _, .str x, _ => .str x
  | _, _, .lst h k, n => by cases n
  | _, _, .tup h k, n => .tup (h.by fun o z e => upd_off hp e fun _ q => by rcases z with rfl | ⟨_, rfl⟩ <;> cases q) (DqA.upd hp k n)
  | _, _, .emp h r, n => .emp (upd_off hp h fun _ z => by cases z) r
  | _, _, .dct h k r, n => .dct (upd_off hp h fun _ z => by cases z) (DqP.upd hp k (noP_map r n)) r
theorem DqA.upd (hp : G p = some (.lst xs)) : ∀ {vs : List V} {ds : List D}, DqA G vs ds → noLsts ds = true → DqA (upd G p o) vs ds
  | _, _, .nil, _ => .nil
  | _, _, .cons h k, n => .cons (Dq.upd hp h (and_tt n).1) (DqA.upd hp k (and_tt n).2)
theorem DqP.upd (hp : G p = some (.lst xs)) : ∀ {kvs : List (List L2.Key × V)} {es : List (List L2.Key × D)}, DqP G kvs es → noLsts (es.map (·.2)) = true → DqP (upd G p o) kvs es
  | _, _, .nil, _ => .nil
  | _, _, .cons ne h k, n => .cons ne (Dq.upd hp h (and_tt n).1) (DqP.upd hp k (and_tt n).2)
end
end
section
variable {X : Cw} {s l c : Addr} {T T' : Int} {G H G' H' G1 H1 G2 H2 G0 H0 : Hp} {σ σ' : L2.St} {Γ Γ' : En} {K : PySem.W.Frag}
variable {E : XK} {ad : Str → Addr} {te ta tb : TE} {fe : En → Re} {tt tu : TT} {wi : TI} {src : En → Ra} {g : TG} {st : Fs} {js vs : List Nat} {Fa Fb Fe F : WE} {FT FU : WB} {tas : TA} {FA : WA} {ts tz : TS} {F1 F2 : WS}
end
end Mv
namespace Mv
open PySem L2 Evl
section
variable {E : XK} {ad : Str → Addr} {K : PySem.W.Frag} {ta tb tj tk : TE} {fa fb fj fk : En → Re}
def fSet2 (i : Nat) (fa fb fj fk : En → Re) (Γ : En) : Rf := match Γ[i]? with
  | some (.ml ds) => match fa Γ, fb Γ, fj Γ with
    | some (.val a), some (.val b), some (.val (.int j)) => match ixN ds.length j with
      | some j' => match fk (Γ.set i (.ml (ds.set j' a))) with
        | some (.val (.int k)) => match ixN ds.length k with
          | some k' => some (.nx (Γ.set i (.ml ((ds.set j' a).set k' b))))
          | none => none
        | _ => none
      | none => none
    | _, _, _ => none
  | _ => none
end
end Mv
namespace Mv
open PySem L2 Evl LamX
structure CalV (P : Program) (w : World) (K : PySem.W.Frag) (mg : Str → Option Value) (base : Heap) (CX : CXT) (k : Nat) (f : Addr) (sp : Sp) : Prop where
  ex : ∃ (ps : List Str) (fd : FuncData), FnOk P w K mg base CX k f fd ps sp ∧ PySem.W.keepIn K (.ref f) = true ∧ Binds K fd ps []
theorem Cal.at_ {P : Program} {w : World} {K : PySem.W.Frag} {mg : Str → Option Value} {base : Heap} {CX : CXT} {k : Nat} {x : Str} {ps : List Str} {sp : Sp} (C : Cal P w K mg base CX k x ps sp) : ∃ f : Addr, mg x = some (.ref f) ∧ CalV P w K mg base CX k f sp := by
  obtain ⟨f, fd, F, hm, hk, hb⟩ := C.ex
  exact ⟨f, hm, ps, fd, F, hk, hb⟩
section
variable {X : Cw} {s l c : Addr} {T T' : Int} {G H G' H' G1 H1 G2 H2 G0 H0 : Hp} {σ : L2.St} {Γ Γ' : En} {K : PySem.W.Frag} {k : Nat} {ad : Str → Addr} {fas : En → Ra} {tas : TA}
end
section
variable {E : XK} {ad : Str → Addr} {ta tb tc : TE} {fa fb fc : En → Re}
end
end Mv
namespace Mv
open PySem L2 Evl
section
variable {src : En → Ra} {st : Fs} {body : En → Rf} {α : Type} {Γ : En}
theorem for_find (e : α → D) (J : En → Prop) (c : α → Option D) : ∀ (as : List α) (Γ : En), J Γ →
    (∀ a ∈ as, ∀ Γ, J Γ → ∃ Γ1, st (e a) Γ = some Γ1 ∧ (∀ d, c a = some d → body Γ1 = some (.rt d)) ∧ (c a = none → ∃ Γ2, body Γ1 = some (.nx Γ2) ∧ J Γ2)) →
    (∀ d, as.findSome? c = some d → forGo st body (as.map e) Γ = some (.rt d)) ∧ (as.findSome? c = none → ∃ Γ', forGo st body (as.map e) Γ = some (.nx Γ') ∧ J Γ')
  | [], Γ, h0, _ => ⟨(fun d h => by cases h), fun _ => ⟨Γ, rfl, h0⟩⟩
  | a :: as, Γ, h0, h => by
    obtain ⟨Γ1, h1, h2, h3⟩ := h a (List.mem_cons_self ..) Γ h0
    cases ec : c a with
    | some d0 =>
      refine ⟨fun d hd => ?_, fun hn => ?_⟩
      · rw [List.findSome?_cons, ec] at hd
        cases hd
        show forGo st body (e a :: as.map e) Γ = _
        unfold forGo
        rw [h1]; dsimp only
        rw [h2 d0 ec]
      · rw [List.findSome?_cons, ec] at hn
        cases hn
    | none =>
      obtain ⟨Γ2, h4, h5⟩ := h3 ec
      obtain ⟨i1, i2⟩ := for_find e J c as Γ2 h5 fun b hb => h b (List.mem_cons_of_mem _ hb)
      refine ⟨fun d hd => ?_, fun hn => ?_⟩
      · rw [List.findSome?_cons, ec] at hd
        show forGo st body (e a :: as.map e) Γ = _
        unfold forGo
        rw [h1]; dsimp only
        rw [h4]; exact i1 d hd
      · rw [List.findSome?_cons, ec] at hn
        obtain ⟨Γ', q1, q2⟩ := i2 hn
        refine ⟨Γ', ?_, q2⟩
        show forGo st body (e a :: as.map e) Γ = _
        unfold forGo
        rw [h1]; dsimp only
        rw [h4]; exact q1
theorem ffor_find (e : α → D) (J : En → Prop) (c : α → Option D) (as : List α) (hs : src Γ = some (.vals (as.map e))) (h0 : J Γ)
    (h : ∀ a ∈ as, ∀ Γ, J Γ → ∃ Γ1, st (e a) Γ = some Γ1 ∧ (∀ d, c a = some d → body Γ1 = some (.rt d)) ∧ (c a = none → ∃ Γ2, body Γ1 = some (.nx Γ2) ∧ J Γ2)) :
    (∀ d, as.findSome? c = some d → fFor src st body Γ = some (.rt d)) ∧ (as.findSome? c = none → ∃ Γ', fFor src st body Γ = some (.nx Γ') ∧ J Γ') := by
  unfold fFor
  rw [hs]
  exact for_find e J c as Γ h0 h
end
end Mv
namespace Mv
open PySem L2 Evl
section
variable {src : En → Ra} {st : Fs} {body rest : En → Rf} {α β : Type} {Γ : En} {R : Rf}
theorem seq_for_find (e : α → D) (J : En → Prop) (c : α → Option D) (as : List α) (hs : src Γ = some (.vals (as.map e))) (h0 : J Γ)
    (h : ∀ a ∈ as, ∀ Γ, J Γ → ∃ Γ1, st (e a) Γ = some Γ1 ∧ (∀ d, c a = some d → body Γ1 = some (.rt d)) ∧ (c a = none → ∃ Γ2, body Γ1 = some (.nx Γ2) ∧ J Γ2))
    (k1 : ∀ d, as.findSome? c = some d → R = some (.rt d)) (k2 : as.findSome? c = none → ∀ Γ', J Γ' → rest Γ' = R) : fSeq (fFor src st body) rest Γ = R := by
  obtain ⟨h1, h2⟩ := ffor_find (src := src) (st := st) (body := body) (Γ := Γ) e J c as hs h0 h
  unfold fSeq
  cases hf : as.findSome? c with
  | some d => rw [h1 d hf, k1 d hf]
  | none =>
    obtain ⟨Γ', e1, j⟩ := h2 hf
    rw [e1]; exact k2 hf Γ' j
theorem seq_for_all (e : α → D) (J : En → Prop) (c : α → Bool) (d0 : D) (as : List α) (hs : src Γ = some (.vals (as.map e))) (h0 : J Γ)
    (h : ∀ a ∈ as, ∀ Γ, J Γ → ∃ Γ1, st (e a) Γ = some Γ1 ∧ (c a = false → body Γ1 = some (.rt d0)) ∧ (c a = true → ∃ Γ2, body Γ1 = some (.nx Γ2) ∧ J Γ2))
    (k1 : as.all c = false → R = some (.rt d0)) (k2 : as.all c = true → ∀ Γ', J Γ' → rest Γ' = R) : fSeq (fFor src st body) rest Γ = R := by
  have key : as.findSome? (fun a => if c a = true then none else some d0) = if as.all c = true then none else some d0 := by
    clear hs h k1 k2
    induction as with
    | nil => rfl
    | cons a as ih =>
      rw [List.findSome?_cons, List.all_cons]
      cases c a with
      | true => simpa using ih
      | false => rfl
  refine seq_for_find e J (fun a => if c a = true then none else some d0) as hs h0 (fun a ha Γ hJ => ?_) (fun d hd => ?_) fun hd => ?_
  · obtain ⟨Γ1, e1, e2, e3⟩ := h a ha Γ hJ
    refine ⟨Γ1, e1, fun d hd => ?_, fun hd => ?_⟩
    · cases q : c a with
      | true => rw [q] at hd; cases hd
      | false => rw [q] at hd; cases hd; exact e2 q
    · cases q : c a with
      | true => exact e3 q
      | false => rw [q] at hd; cases hd
  · rw [key] at hd
    cases q : as.all c with
    | true => rw [q] at hd; cases hd
    | false => rw [q] at hd; cases hd; exact k1 q
  · rw [key] at hd
    cases q : as.all c with
    | true => exact k2 q
    | false => rw [q] at hd; cases hd
theorem for_all (e : α → D) (J : En → Prop) (c : α → Bool) (d0 : D) (as : List α) (hs : src Γ = some (.vals (as.map e))) (h0 : J Γ)
    (h : ∀ a ∈ as, ∀ Γ, J Γ → ∃ Γ1, st (e a) Γ = some Γ1 ∧ (c a = false → body Γ1 = some (.rt d0)) ∧ (c a = true → ∃ Γ2, body Γ1 = some (.nx Γ2) ∧ J Γ2)) :
    (as.all c = false → fFor src st body Γ = some (.rt d0)) ∧ (as.all c = true → ∃ Γ', fFor src st body Γ = some (.nx Γ') ∧ J Γ') := by
  have l : fSeq (fFor src st body) (fun Γ' => some (.nx Γ')) Γ = fFor src st body Γ := by
    unfold fSeq
    cases fFor src st body Γ with
    | none => rfl
    | some r => cases r <;> rfl
  constructor
  · intro hf
    rw [← l]
    exact seq_for_all e J c d0 as hs h0 h (fun _ => rfl) fun ht => by rw [hf] at ht; cases ht
  · intro ht
    obtain ⟨h1, h2⟩ := ffor_find (src := src) (st := st) (body := body) (Γ := Γ) e J (fun _ => none) as hs h0 fun a ha Γ hJ => by
      obtain ⟨Γ1, e1, _, e3⟩ := h a ha Γ hJ
      exact ⟨Γ1, e1, (fun d z => by cases z), fun _ => e3 (List.all_eq_true.mp ht a ha)⟩
    exact h2 (by
      clear hs h ht h1 h2 l
      induction as with
      | nil => rfl
      | cons a as ih => exact ih)
end
section
variable {Γ : En} {T : Int} {nx : En → Int → Prop} {rt post : D → Int → Prop} {F : WE} {FA : WA}
theorem wApp_of {i : Nat} {ds : List D} (h : Γ[i]? = some (.ml ds)) (k : F Γ T fun d T1 => small ds.length = true ∧ nx (Γ.set i (.ml (ds ++ [d]))) T1) : wApp i F Γ T nx rt := by
  unfold wApp
  rw [h]
  exact k
theorem fOp_of {o : D → D → Option D} {fa fb : En → Re} {x y z : D} (ha : fa Γ = some (.val x)) (hb : fb Γ = some (.val y)) (ho : o x y = some z) : fOp o fa fb Γ = some (.val z) := by
  unfold fOp bnd
  rw [ha]; dsimp only
  rw [hb]; dsimp only
  rw [ho]; rfl
theorem fCons_of {fa : En → Re} {fr : En → Ra} {a : D} {as : List D} (ha : fa Γ = some (.val a)) (hr : fr Γ = some (.vals as)) : fCons fa fr Γ = some (.vals (a :: as)) := by
  unfold fCons
  rw [ha]; dsimp only
  rw [hr]
theorem fLst_of {fas : En → Ra} {ds : List D} (h : fas Γ = some (.vals ds)) (hs : ds.length ≤ 1000) : fLst fas Γ = some (.val (.list ds)) := by
  unfold fLst lim bndA
  rw [h]; dsimp only
  rw [if_pos (show small ds.length = true by unfold small; simp; omega)]
theorem fAsg_of {fe : En → Re} {st : Fs} {d : D} {Γ' : En} (h : fe Γ = some (.val d)) (hs : st d Γ = some Γ') : fAsg fe st Γ = some (.nx Γ') := by
  unfold fAsg
  rw [h]; dsimp only
  rw [hs]
end
end Mv
namespace PySem
namespace TmX
open PySem.W PySem.HandSPX PyProof.Rows PySem.Calls
section
variable {prog : Program} {w : World} {A : Around} {E : Value → Shared → Prop} {R : Result → Shared → Prop} {s : Shared} {K : Frag} {mg : Str → Option Value} {C fI : Addr}
end
end TmX
end PySem
namespace L2
open PySem PyProof.Rows PySem.Spec
section
variable {X : Cx} {C fI : Addr}
end
end L2
namespace Mv
open PySem L2 Evl LamX
section
variable {E : XK} {ad : Str → Addr} {ta : TA} {fa : En → Ra}
end
end Mv
namespace Mv
open PySem L2 Evl LamX
section
variable {X : Cw} {Xc : Cx} {s l c : Addr} {T T' : Int} {G H G' H' G1 H1 G2 H2 G0 H0 : Hp} {σ : L2.St} {Γ Γ' : En} {K : PySem.W.Frag} {k : Nat} {ad : Str → Addr}
theorem tabsU_put {T : List (Addr × Str)} {H : Hp} {p : Addr} {xs ys : List V} (x : Tabs T H) (hp : H p = some (.lst xs)) : Tabs T (upd H p (.lst ys)) := fun q hq => by
  obtain ⟨ps, h1, h2, h3⟩ := x q hq
  refine ⟨ps, ?_, h2, fun pos cv hc => ?_⟩
  · rw [upd_ne (fun z => by rw [z, hp] at h1; cases h1)]; exact h1
  · obtain ⟨c, e1, e2⟩ := h3 pos cv hc
    refine ⟨c, e1, ?_⟩
    rw [upd_ne (fun z => by rw [z, hp] at e2; unfold CodeO at e2; cases e2)]; exact e2
theorem WdU.put {p : Addr} {o : HO} (x : Wd G H s l c T) (gp : G p = none) (na : p ∉ [s, l, c]) : Wd G (upd H p o) s l c T := by
  simp only [List.mem_cons, List.not_mem_nil, or_false, not_or] at na
  obtain ⟨⟨⟨lg, cs, left, turn, h1, h2, h3, h⟩, q⟩, _⟩ := id (And.intro x.st trivial)
  refine ⟨fun b o z => ?_, ⟨⟨lg, cs, left, turn, by rw [upd_ne (Ne.symm na.1)]; exact h1, by rw [upd_ne (Ne.symm na.2.1)]; exact h2, by rw [upd_ne (Ne.symm na.2.2)]; exact h3, h⟩, q⟩, x.gs, x.gl, x.gc⟩
  have nb : b ≠ p := fun e => by rw [e, gp] at z; cases z
  rw [upd_ne nb]
  exact x.w b o z
theorem RelW.put {p : Addr} {xs ys : List V} (R : RelW X s l c T G H σ Γ) (gp : G p = none) (hp : H p = some (.lst xs)) (na : p ∉ [s, l, c]) (ap : ∀ (i : Nat) (c' : Ce), Γ[i]? = some c' → isMut c' = true → σ[i]? ≠ some (some (.ref p))) : RelW X s l c T G (upd H p (.lst ys)) σ Γ := by
  have wd := WdU.put (o := .lst ys) R.wd gp na
  refine ⟨⟨wd.w, R.r.len, fun i c2 e => ?_, R.r.sep⟩, wd, R.st, R.ap, R.nt, tabsU_put R.tb hp, R.z⟩
  have hc := R.r.c i c2 e
  cases c2 with
  | un => trivial
  | fx v => exact hc
  | d z => exact hc
  | ml ds =>
    obtain ⟨q, e1, m⟩ := hc
    obtain ⟨us, e2, q2⟩ := m.at_
    exact ⟨q, e1, m.g, us, by rw [upd_ne (fun z => ap i _ e rfl (by rw [z] at e1; exact e1))]; exact e2, q2⟩
  | md es =>
    obtain ⟨q, e1, m⟩ := hc
    obtain ⟨us, e2, q2⟩ := m.at_
    exact ⟨q, e1, m.g, us, by rw [upd_ne (fun z => ap i _ e rfl (by rw [z] at e1; exact e1))]; exact e2, q2⟩
theorem StN.back {b : Addr} (x : StN s l c G0 H0 G H) (hb : b ∉ [s, l, c]) (e : noT H b = none) : noT H0 b = none := by
  cases e0 : noT H0 b with
  | none => rfl
  | some o => rw [x.h b o hb e0] at e; cases e
theorem RelW.fresh {p : Addr} (R : RelW X s l c T G H σ Γ) (hp : H p = none) : p ∉ [s, l, c] := fun hm => by
  obtain ⟨⟨lg, cs, left, turn, a1, a2, a3, _⟩, _⟩ := R.wd.st
  simp only [List.mem_cons, List.not_mem_nil, or_false] at hm
  rcases hm with z | z | z
  · rw [z, a1] at hp; cases hp
  · rw [z, a2] at hp; cases hp
  · rw [z, a3] at hp; cases hp
theorem RelW.self (R : RelW X s l c T G H σ Γ) : StN s l c G H G H := by
  have x1 := R.toN (.refl R.r.w)
  rw [noT_id R.nt] at x1
  exact x1
end
end Mv
namespace Mv
open PySem PySem.Spec L2 LamX PyProof.Rows
end Mv
namespace Mv
open PySem L2 Evl LamX
section
variable {X : Cw} {Xc : Cx} {s l c : Addr} {T T' : Int} {G H G' H' G1 H1 G2 H2 G0 H0 : Hp} {σ : L2.St} {Γ Γ' : En} {K : PySem.W.Frag} {k : Nat} {ad : Str → Addr}
end
end Mv
namespace Mv
open PySem L2 Evl
section
variable {E : XK} {ad : Str → Addr} {K : PySem.W.Frag} {ta tb tj tk : TE} {fa fb fj fk : En → Re}
end
section
variable {X : Cw} {s l c : Addr} {T T' : Int} {G H G' H' G1 H1 G2 H2 G0 H0 : Hp} {σ : L2.St} {Γ Γ' : En} {K : PySem.W.Frag} {ta tj : TE} {Fa : WE} {fj : En → Re} {E : XK} {ad : Str → Addr}
end
end Mv
namespace Mv
open PySem PySem.Spec PyProof.Rows L2 Evl
section
variable {E : XK} {ad : Str → Addr} {K : PySem.W.Frag} {ta tb tc : TE} {fa fb fc : En → Re}
end
end Mv
namespace PySem
section
variable {prog : Program} {w : World} {K : Type} [DecidableEq K] {knd : HeapKind prog w K} {A : Around} {E : Value → Shared → Prop} {s : Shared}
end
section
variable {prog : Program} {w : World} {K : Type} [DecidableEq K] {knd : HeapKind prog w K}
end
end PySem
namespace Mv
open PySem PySem.Spec PyProof.Rows L2 L2.DX Evl
section
variable {X : Cx}
end
end Mv
namespace Mv
open PySem PySem.Spec PyProof.Rows L2 Evl
section
variable {E : XK} {ad : Str → Addr} {K : PySem.W.Frag} {te ta tb tc td tk tv : TE} {tt : TT} {fe fa fb fc fd fk ft : En → Re} {G H G' H' G0 H0 : Hp} {σ : L2.St} {Γ : En} {i : Nat} {tas : TA} {fas : En → Ra} {P : Program} {w : World}
def PoT (G H : Hp) (Q : VK) : Ou → Prop
  | .val (.tuple [.list _, .dict ps]) => ∀ es, dctOf (.dict ps) = some es → ∀ t v1 p G2 H2, Stp G H G2 H2 → H p = none → TupA H2 t [v1, .ref p] → MD G2 H2 p es → Q (.ref t) H2
  | _ => False
theorem fr_back {p : Addr} {s : Stp G H G' H'} (h : H' p = none) : H p = none := by
  cases z : H p with
  | none => rfl
  | some o => rw [s.h _ _ z] at h; cases h
theorem PoT.stp {Q : VK} {r : Ou} (h : PoT G H Q r) (s : Stp G H G' H') : PoT G' H' Q r := by
  unfold PoT at h ⊢
  split at h
  · exact fun es e t v1 p G2 H2 s2 h0 e2 m => h es e t v1 p G2 H2 (s.trans s2) (fr_back (s := s) h0) e2 m
  · exact h.elim
end
section
variable {X : Cw} {s l c : Addr} {T T' : Int} {G H G' H' G1 H1 G2 H2 G0 H0 : Hp} {σ : L2.St} {Γ Γ' : En} {K : PySem.W.Frag}
variable {E : XK} {ad : Str → Addr} {te ta tb : TE} {fe : En → Re} {Fa : WE}
end
end Mv
namespace Mv
open PySem PySem.Spec PyProof.Rows L2 Evl
section
variable {E : XK} {ad : Str → Addr} {K : PySem.W.Frag} {G H G' H' G0 H0 : Hp} {σ : L2.St} {Γ : En}
end
theorem ps_fixSet {X : Cx} {st : Stmt} {te : TE} {i : Nat} {y : Str} (hy : X.N[i]? = some y) (h : PS X st (tAsg te (gName i))) : PS X st (tAsg (tFix te) (gName i)) := ⟨fun pins s σ H D I q => by
  have hl : i < σ.length := by rw [I.len]; exact (List.getElem?_eq_some_iff.mp hy).1
  let nx' : L2.St → Hp → Prop := fun σ' H' => ∃ v, σ' = σ.set i (some v) ∧ ∃ d u, v = .ref d ∧ H' d = some u ∧ Mut (some u) ∧ ∀ o, D.nx (σ.set i (some v)) (upd H' d (.frz o u))
  have e : (fun v H1 => nx' (σ.set i (some v)) H1) = fun v H1 => ∃ d u, v = .ref d ∧ H1 d = some u ∧ Mut (some u) ∧ ∀ o, D.nx (σ.set i (some v)) (upd H1 d (.frz o u)) := by
    funext v H1
    refine propext ⟨fun ⟨v', hv, r⟩ => ?_, fun r => ⟨v, rfl, r⟩⟩
    have z : (σ.set i (some v))[i]? = (σ.set i (some v'))[i]? := congrArg (fun l : L2.St => l[i]?) hv
    rw [List.getElem?_set_self hl, List.getElem?_set_self hl] at z
    cases z
    exact r
  refine thn (h.run pins s σ H { nx := nx', rt := D.rt, bk := D.bk, ct := D.ct } I ?_) fun f s' z => ?_
  · show te σ H (fun v H1 => nx' (σ.set i (some v)) H1)
    rw [e]; exact q
  · cases f with
    | next =>
      obtain ⟨σ', H', I', v, rfl, d, u, rfl, hd, mu, k⟩ := z
      obtain ⟨o, I2⟩ := I'.lock hd mu
      exact ⟨_, _, I2, k o⟩
    | brk => exact z
    | cont => exact z
    | ret u => exact z⟩
section
variable {E : XK} {ad : Str → Addr} {ts : TS} {fs : En → Rf}
end
mutual
def readB : D → Bool
  | .dict ps => readBP ps
  | .list ds => readBs ds
  | .tuple ds => readBs ds
  | _ => true
def readBs : List D → Bool
  | [] => true
  | d :: ds => readB d && readBs ds
def readBP : List (D × D) → Bool
  | [] => true
  | (.tuple _, v) :: ps => readB v && readBP ps
  | _ :: _ => false
end
section
variable {X : Cx} {pins : List (Addr × Obj)} {σ : L2.St} {H : Hp} {s : Shared}
theorem key_reads (I : Inv X pins σ H s) {b : Addr} {k : KK} (hb : H b = some (.tup (k.map kV))) : Reads s.heap (.ref b) (kD k) [] := by
  obtain ⟨its, rv, ⟨o, ho, hc, n, hd⟩, _⟩ := I.tuple (SqT.of hb)
  have go : ∀ {k : KK} {us : List Value}, Vals (k.map kV) us → ReadsAll s.heap us (k.map keyD) [] := fun {k} => by
    induction k with
    | nil => intro us h; cases h; exact .nil
    | cons x k ih =>
      intro us h
      cases h with
      | cons h1 h2 =>
        cases x with
        | inl i => obtain ⟨t, rfl⟩ := h1; exact ReadsAll.cons (Reads.int i t) (ih h2)
        | inr x => obtain ⟨t, rfl⟩ := h1; exact ReadsAll.cons (Reads.str x t) (ih h2)
  exact Reads.tuple ho hc hd (go rv)
mutual
theorem Dq.readsH (I : Inv X pins σ H s) : ∀ {v : V} {d : D}, Dq H v d → readB d = true → ∀ {u : Value}, RelV v u → ∃ as, Reads s.heap u d as ∧ ∀ b ∈ as, H b ≠ none
  | _, _, .non, _, _, r => by cases r; exact ⟨_, Reads.none, fun b h => by cases h⟩
  | _, _, .bl b, _, _, r => by cases r; exact ⟨_, Reads.bool b, fun b h => by cases h⟩
  | _, _, .int i, _, _, r => by obtain ⟨t, rfl⟩ := r; exact ⟨_, Reads.int i t, fun b h => by cases h⟩
  | _, _, .str x, _, _, r => by obtain ⟨t, rfl⟩ := r; exact ⟨_, Reads.str x t, fun b h => by cases h⟩
  | _, _, .lst (a := a) h k, hb, _, r => by
    cases r
    obtain ⟨its, rv, ⟨o, n, ho, hc, _, hd⟩, _⟩ := I.list (SqL.of h)
    obtain ⟨as, hr, hn⟩ := DqA.readsH I k (by rw [readB] at hb; exact hb) rv
    exact ⟨_, Reads.list ho hc hd hr, fun b hb => by
      rcases (List.mem_cons.mp hb) with e | e
      · rw [e, h]; simp
      · exact hn b e⟩
  | _, _, .tup h k, hb, _, r => by
    cases r
    obtain ⟨its, rv, ⟨o, ho, hc, n, hd⟩, _⟩ := I.tuple h.sq
    obtain ⟨as, hr, hn⟩ := DqA.readsH I k (by rw [readB] at hb; exact hb) rv
    exact ⟨_, Reads.tuple ho hc hd hr, hn⟩
  | _, _, .emp (ds := ds) h q, hb, _, r => by
    rw [readB] at hb
    match ds, q, hb with
    | [], q, _ => cases q
    | (.tuple _, _) :: _, q, _ => cases q
    | (.none, _) :: _, _, hb => cases hb
    | (.bool _, _) :: _, _, hb => cases hb
    | (.int _, _) :: _, _, hb => cases hb
    | (.str _, _) :: _, _, hb => cases hb
    | (.list _, _) :: _, _, hb => cases hb
    | (.dict _, _) :: _, _, hb => cases hb
  | _, _, .dct (a := a) (o := o) (es := es) h k e, hb, _, r => by
    cases r
    subst e
    rw [readB] at hb
    obtain ⟨hg, hl, hs, xs, hp, o2, es2, ep, ho, hx, hd, hes, hnd⟩ := I.hok a _ h
    obtain ⟨as, bs, r1, r2, n1, n2⟩ := DqP.readsH I k hb hp
    have e1 : es2.toList.map (·.key) = xs.map fun x => Value.ref x.2.1 := by rw [hes, List.map_map]; rfl
    have e2 : es2.toList.map (·.val) = xs.map fun x => x.2.2 := by rw [hes, List.map_map]; rfl
    refine ⟨_, Reads.dict ho hx.1 hd (as := as) (bs := bs) ?_ ?_, fun b hb => ?_⟩
    · rw [e1, List.map_map]; exact r1
    · rw [e2, List.map_map]; exact r2
    · rcases List.mem_cons.mp (by simpa using hb : b ∈ a :: (as ++ bs)) with z | z
      · rw [z, h]; simp
      · rcases List.mem_append.mp z with z | z
        · exact n1 b z
        · exact n2 b z
theorem DqA.readsH (I : Inv X pins σ H s) : ∀ {vs : List V} {ds : List D}, DqA H vs ds → readBs ds = true → ∀ {us : List Value}, Vals vs us → ∃ as, ReadsAll s.heap us ds as ∧ ∀ b ∈ as, H b ≠ none
  | _, _, .nil, _, _, r => by cases r; exact ⟨_, .nil, fun b h => by cases h⟩
  | _, _, .cons h k, hb, _, r => by
    rw [readBs, Bool.and_eq_true] at hb
    cases r with
    | cons r1 r2 =>
      obtain ⟨as, q1, n1⟩ := Dq.readsH I h hb.1 r1
      obtain ⟨bs, q2, n2⟩ := DqA.readsH I k hb.2 r2
      exact ⟨_, .cons q1 q2, fun b hb => (List.mem_append.mp hb).elim (n1 b) (n2 b)⟩
theorem DqP.readsH (I : Inv X pins σ H s) : ∀ {kvs : List (KK × V)} {es : List (KK × D)}, DqP H kvs es → readBP (es.map fun e => (kD e.1, e.2)) = true → ∀ {xs : List (KK × Addr × Value)}, Paired (fun (p : KK × V) (q : KK × Addr × Value) => p.1 = q.1 ∧ H q.2.1 = some (.tup (p.1.map kV)) ∧ RelV p.2 q.2.2) kvs xs →
    ∃ as bs, ReadsAll s.heap (xs.map fun x => .ref x.2.1) (es.map fun e => kD e.1) as ∧ ReadsAll s.heap (xs.map fun x => x.2.2) (es.map fun e => e.2) bs ∧ (∀ b ∈ as, H b ≠ none) ∧ ∀ b ∈ bs, H b ≠ none
  | _, _, .nil, _, _, r => by cases r; exact ⟨[], [], .nil, .nil, (fun b h => by cases h), fun b h => by cases h⟩
  | _, _, .cons _ h k, hb, _, r => by
    have hb' : (readB _ && readBP _) = true := hb
    rw [Bool.and_eq_true] at hb'
    cases r with
    | cons r1 r2 =>
      obtain ⟨e1, e2, e3⟩ := r1
      obtain ⟨cs, q1, n1⟩ := Dq.readsH I h hb'.1 e3
      obtain ⟨as, bs, q2, q3, n2, n3⟩ := DqP.readsH I k hb'.2 r2
      exact ⟨_, _, .cons (key_reads I e2) q2, .cons q1 q3, n2, fun b hb => (List.mem_append.mp hb).elim (n1 b) (n3 b)⟩
end
end
end Mv
namespace Mv
open PySem PySem.Spec PyProof.Rows L2 Evl
section
variable {E : XK} {ad : Str → Addr}
end
section
variable {X : Cx}
end
section
variable {E : XK} {ad : Str → Addr} {K : PySem.W.Frag} {ta tb : TE} {fa fb : En → Re}
end
section
variable {E : XK} {ad : Str → Addr} {K : PySem.W.Frag} {ta tb : TE} {fa fb : En → Re}
end
end Mv
namespace Mv
open PySem PySem.Spec PyProof.Rows L2 Evl HT
section
variable {X : Cx}
end
section
variable {E : XK} {ad : Str → Addr} {K : PySem.W.Frag} {te : TE} {fe : En → Re}
def fRevL (fe : En → Re) (Γ : En) : Re := match fe Γ with
  | some (.val (.list ds)) => some (.val (.list ds.reverse))
  | some (.exc x) => some (.exc x)
  | _ => none
end
end Mv
namespace Mv
open PySem PySem.Spec PyProof.Rows L2 Evl
section
variable {prog : Program} {w : World} {A : Around} {E : Value → Shared → Prop} {s : Shared} {z TI TO i1 i2 T : Addr} {fp1 fp2 : List Addr} {n1 n2 i : Nat} {P1 P2 : Nat → Value → Prop} {St1 St2 : Nat → Heap → Prop} {f : Bool} {oT : Obj}
end
section
variable {prog : Program} {w : World} {A : Around} {E : Value → Shared → Prop} {s : Shared} {z TI TO i1 i2 T : Addr} {fp1 fp2 : List Addr} {n1 n2 i : Nat} {P1 P2 : Nat → Value → Prop} {St1 St2 : Nat → Heap → Prop} {f : Bool} {oT : Obj}
end
def ZS2 (k1 k2 : Bool) (z TI TO i1 i2 a b : Addr) (i : Nat) (H : Hp) (h : Heap) : Prop :=
  IsTupOf2 h TI (.ref i1) (.ref i2) ∧ ItrK k1 h i1 a i ∧ ItrK k2 h i2 b i ∧ (∃ o, h.get? TO = some o) ∧ ((i = 0 ∧ IsZip h z TI TO .none ∧ ∃ x y, IsTupOf2 h TO x y) ∨ ∃ T f u v, IsZipHeld h z TI TO T f ∧ Rd H T (.tup [u, v]))
section
variable {X : Cx} {pins : List (Addr × Obj)} {σ : L2.St} {H : Hp} {s : Shared} {A : Around} {E : Value → Shared → Prop} {z TI TO i1 i2 a b : Addr} {k1 k2 : Bool} {xs ys : List V} {i : Nat}
theorem ZS2.keep {h h' : Heap} (st : ZS2 k1 k2 z TI TO i1 i2 a b i H h) (k : ∀ c ∈ [z, TI, TO, i1, i2], ∀ o, h.get? c = some o → h'.get? c = some o) : ZS2 k1 k2 z TI TO i1 i2 a b i H h' := by
  obtain ⟨t, h1, h2, ⟨oO, eO⟩, q⟩ := st
  refine ⟨k TI (by simp) _ t, h1.at fun o q => k i1 (by simp) o q, h2.at fun o q => k i2 (by simp) o q, ⟨oO, k TO (by simp) _ eO⟩, ?_⟩
  rcases q with ⟨hi0, hz, x, y, hTO⟩ | ⟨T, f, u, v, hz, hT⟩
  · exact .inl ⟨hi0, k z (by simp) _ hz, x, y, k TO (by simp) _ hTO⟩
  · exact .inr ⟨T, f, u, v, k z (by simp) _ hz, hT⟩
end
section
variable {X : Cx} {pins : List (Addr × Obj)} {σ : L2.St} {A : Around} {z TI TO i1 i2 a b : Addr} {k1 k2 : Bool} {xs ys : List V}
end
section
variable {X : Cx} {pins : List (Addr × Obj)} {σ : L2.St} {A : Around} {E : Value → Shared → Prop} {H : Hp} {s : Shared} {z TI TO i1 i2 a b S : Addr} {k1 k2 : Bool} {xs ys : List V}
end
section
variable {as bs : List D}
end
section
variable {K : PySem.W.Frag} {E : XK} {ad : Str → Addr} {tas : TA} {fas : En → Ra} {k1 k2 : Bool}
end
end Mv
namespace Mv
open PySem L2 Evl LamX
section
variable {E : XK} {ad : Str → Addr} {tas tks : TA} {fas fks : En → Ra}
end
section
variable {X : Cw} {s l c : Addr} {T T' : Int} {G H G' H' G1 H1 G2 H2 G0 H0 : Hp} {σ : L2.St} {Γ Γ' : En} {K : PySem.W.Frag} {ta tb te : TE} {Fa Fb F : WE}
end
end Mv
namespace Mv
open PySem L2 Evl LamX
section
variable {X : Cw} {s l c : Addr} {T T' : Int} {G H G' H' G1 H1 G2 H2 G0 H0 : Hp} {σ : L2.St} {Γ Γ' : En} {K : PySem.W.Frag} {ta te tb : TE} {Fa Fb F : WE} {tas : TA} {FA : WA} {E : XK} {ad : Str → Addr}
theorem u_dispI {i j : Int} : Se E ad (tDisp [((tC (.int i)), (tC (.int j)))]) (fC (.dict [(.none, .none)])) := fun σ Γ G H R r e Q q => by
  cases e
  intro p hp
  refine ⟨upd_same, [(.inl i, .int j)], rfl, (show 1 ≤ 15 from by decide), ?_⟩
  have gp : G p = none := fresh_back R.w hp
  have s1 := Stp.new (o := .dK (mergeK [] [((.inl i : L2.Key), V.int j)])) R.w hp
  rw [upd_upd]
  exact q _ _ _ s1 (.emp upd_same rfl)
end
end Mv
namespace Mv
open PySem PySem.Spec PyProof.Rows L2 Evl
section
variable {X : Cx}
end
def keyDB : D → Bool
  | .int _ => true
  | .str _ => true
  | _ => false
def keyAD (ds : List D) : Bool := !ds.isEmpty && ds.all keyDB
theorem DqA.keyB {G : Hp} : ∀ {xs : List V} {ds : List D}, DqA G xs ds → xs.all keyV = ds.all keyDB
  | _, _, .nil => rfl
  | _, _, .cons h t => by
    rw [List.all_cons, List.all_cons, DqA.keyB t]
    congr 1
    cases h <;> rfl
theorem DqA.keyA {G : Hp} {xs : List V} {ds : List D} (h : DqA G xs ds) : Mv.keyA xs = keyAD ds := by
  unfold Mv.keyA keyAD
  rw [h.keyB]
  cases h <;> rfl
section
variable {E : XK} {ad : Str → Addr} {K : PySem.W.Frag} {ta tb : TE} {fa fb : En → Re}
end
end Mv
namespace Mv
open PySem L2 Evl
section
variable {X : Cx} {K : PySem.W.Frag} {P : Program} {w : World} {σ : L2.St} {G : Hp} {te : TE} {E : XK} {ad : Str → Addr} {fe : En → Re}
end
end Mv
namespace Mv
open PySem L2 Evl
section
variable {prog : Program} {w : World} {A : Around} {E : Value → Shared → Prop} {s : Shared}
end
section
variable {K : PySem.W.Frag}
end
end Mv
namespace Mv
open PySem L2 Evl
section
variable {X : Cx} {K : PySem.W.Frag} {P : Program} {w : World} {σ : L2.St} {G : Hp} {te : TE} {E : XK} {ad : Str → Addr} {fe : En → Re}
end
end Mv
namespace Mv
open PySem L2 Evl LamX
section
variable {X : Cw} {Xc : Cx} {s l c : Addr} {T T' : Int} {G H G' H' G1 H1 G2 H2 G0 H0 : Hp} {σ : L2.St} {Γ Γ' : En} {K : PySem.W.Frag} {k : Nat} {ad : Str → Addr} {fas : En → Ra} {tas : TA}
end
end Mv
namespace Mv
open PySem L2 Evl LamX
section
variable {X : Cw} {K : PySem.W.Frag} {ad : Str → Addr} {fas : En → Ra} {tas : TA} {E : XK}
end
end Mv
namespace Mv
open PySem L2 Evl
def cutL (G : Hp) : Hp := fun b => match G b with
  | some (.lst _) => none
  | o => o
theorem cutL_some {G : Hp} {b : Addr} {o : HO} (h : cutL G b = some o) : G b = some o ∧ ∀ us, o ≠ .lst us := by
  unfold cutL at h
  split at h
  · cases h
  · rename_i n
    exact ⟨h, fun us z => n us (by rw [h, z])⟩
theorem cutL_of {G : Hp} {b : Addr} {o : HO} (h : G b = some o) (n : ∀ us, o ≠ .lst us) : cutL G b = some o := by
  unfold cutL
  split
  · rename_i us e
    rw [h] at e; cases e; exact (n us rfl).elim
  · exact h
theorem cutL_none {G : Hp} {b : Addr} (h : G b = none) : cutL G b = none := by
  unfold cutL; rw [h]
theorem cutL_lst {G : Hp} {b : Addr} {us : List V} (h : G b = some (.lst us)) : cutL G b = none := by
  unfold cutL; rw [h]
def newR : Ou → Bool
  | .val (.list xs) => noLs xs
  | .val _ => false
  | .exc _ => true
section
variable {E : XK} {ad : Str → Addr} {G H : Hp} {tas tks : TA} {fas fks : En → Ra} {X : Cw} {Q : VK}
theorem spF_new {g : List D → Re} {vs : List V} {ds : List D} {r : Ou} (w : Ex G H) (hv : DqA G vs ds) (nl : noLs ds = true) (e : g ds = some r) (hr : newR r = true) (q : PoM E ad G H Q r) : SpF ad g vs H Q E := by
  have w0 : Ex (cutL G) H := fun b o h => w b o (cutL_some h).1
  refine ⟨cutL G, ds, r, w0, hv.cut (fun b o h n => cutL_of h n) nl, e, ?_⟩
  cases r with
  | exc x =>
    intro G3 H3 s3
    exact q (fun b => match G b with | some o => some o | none => G3 b) H3 ⟨fun b o h => by show (match G b with | some o => some o | none => G3 b) = _; rw [h], s3.h, fun b o h => by
      have h : (match G b with | some o => some o | none => G3 b) = some o := h
      split at h
      · rename_i o' e'; cases h; exact s3.h _ _ (w _ _ e')
      · exact s3.w _ _ h, fun b h1 h2 h3 => by
      show (match G b with | some o => some o | none => G3 b) = none
      rw [h1]; exact s3.n b (cutL_none h1) h2 h3⟩
  | val d =>
    cases d with
    | list xs =>
      intro v G3 H3 s3 hq
      cases hq with
      | @lst p us _ hp hus =>
        have hp0 : H p = none := by
          cases z : H p with
          | none => rfl
          | some o =>
            exfalso
            have h3 := s3.w _ _ hp
            have h4 := s3.h _ _ z
            rw [h3] at h4
            cases h4
            have c0 : cutL G p = none := by
              cases y : G p with
              | none => exact cutL_none y
              | some o =>
                have := w _ _ y
                rw [z] at this
                cases this
                exact cutL_lst y
            have := s3.n p c0 (by rw [z]; intro k; cases k) (by rw [z]; intro k1 k; cases k)
            rw [hp] at this; cases this
        have gp : G p = none := fresh_back w hp0
        refine q p (fun b => if b = p then none else match G b with | some o => some o | none => G3 b) H3 ⟨fun b o h => ?_, s3.h, fun b o h => ?_, fun b h1 h2 h3 => ?_⟩ hp0 ⟨if_pos rfl, us, s3.w _ _ hp, hus.cut (fun b o h n => ?_) hr⟩
        · have nb : b ≠ p := fun z => by rw [z, gp] at h; cases h
          show (if b = p then none else _) = _
          rw [if_neg nb, h]
        · have h : (if b = p then none else match G b with | some o => some o | none => G3 b) = some o := h
          by_cases nb : b = p
          · rw [if_pos nb] at h; cases h
          · rw [if_neg nb] at h
            split at h
            · rename_i o' e'; cases h; exact s3.h _ _ (w _ _ e')
            · exact s3.w _ _ h
        · show (if b = p then none else _) = _
          by_cases nb : b = p
          · rw [if_pos nb]
          · rw [if_neg nb, h1]; exact s3.n b (cutL_none h1) h2 h3
        · have nb : b ≠ p := fun z => by rw [z, hp] at h; cases h; exact n _ rfl
          show (if b = p then none else _) = _
          rw [if_neg nb]
          cases y : G b with
          | none => exact h
          | some o' =>
            have h1 := s3.h _ _ (w _ _ y)
            have h2 := s3.w _ _ h
            rw [h1] at h2
            exact h2
    | _ => cases hr
def newRe (nl : Bool) (r : Re) : Re := match r with
  | some r => if (nl && newR r) = true then some r else none
  | none => none
theorem newRe_some {nl : Bool} {r : Re} {o : Ou} (h : newRe nl r = some o) : r = some o ∧ nl = true ∧ newR o = true := by
  unfold newRe at h
  split at h
  · rename_i o'
    by_cases z : (nl && newR o') = true
    · rw [if_pos z] at h; cases h
      simp only [Bool.and_eq_true] at z
      exact ⟨rfl, z.1, z.2⟩
    · rw [if_neg z] at h; cases h
  · cases h
def fCallN (g : List D → Re) (fas : En → Ra) (Γ : En) : Re := bndA (fas Γ) fun ds => newRe (noLs ds) (g ds)
theorem m_callN {g : List D → Re} (h : Sa E ad tas fas) : Sm E ad (tCall (SpF ad g) [] E tas) (fCallN g fas) := fun σ Γ G H R r e Q q => by
  rcases bndA_some e with ⟨ds, e1, e2⟩ | ⟨x, e1, rfl⟩
  · obtain ⟨e3, e4, e5⟩ := newRe_some e2
    refine h σ Γ G H R _ e1 _ fun vs G2 H2 s2 q2 => ?_
    rw [List.append_nil]
    exact spF_new s2.w q2 e4 e3 e5 (q.stp s2)
  · exact h σ Γ G H R _ e1 _ q
def fCallPN (is : List Nat) (n : Nat) (g : List D → Re) (fas : En → Ra) (Γ : En) : Re := bndA (fas Γ) fun ds => if Nat.beq ds.length n = true then newRe (noLs (permL is ds)) (g (permL is ds)) else none
theorem m_callPN {is : List Nat} {n : Nat} {g : List D → Re} (h : Sa E ad tas fas) : Sm E ad (tCallP (SpF ad g) E is n tas) (fCallPN is n g fas) := fun σ Γ G H R r e Q q => by
  rcases bndA_some e with ⟨ds, e1, e2⟩ | ⟨x, e1, rfl⟩
  · refine h σ Γ G H R _ e1 _ fun vs G2 H2 s2 q2 => ?_
    split at e2
    · rename_i hn
      obtain ⟨e3, e4, e5⟩ := newRe_some e2
      exact ⟨by rw [q2.len]; exact Nat.eq_of_beq_eq_true hn, spF_new s2.w (dqa_perm q2 is) e4 e3 e5 (q.stp s2)⟩
    · cases e2
  · exact h σ Γ G H R _ e1 _ q
def fClr (i : Nat) (Γ : En) : Rf := match Γ[i]? with
  | some (.ml _) => some (.nx (Γ.set i (.ml [])))
  | _ => none
theorem u_clr {K : PySem.W.Frag} {i : Nat} : Ss E ad (tDrop (tBM0 K "list" rClear (tVar i))) (fClr i) := fun G0 H0 σ Γ G H R r e D' q => by
  unfold fClr at e
  split at e
  · rename_i ds e1
    cases e
    obtain ⟨p, ep, m⟩ := R.r.c i _ e1
    obtain ⟨us, eu, qu⟩ := m.at_
    refine ⟨.ref p, ep, .inl ⟨rfl, us, SqL.of eu⟩, p, us, rfl, rfl, eu, ?_⟩
    exact q σ G _ (R.mut e1 ep ⟨m.g, _, upd_same, .nil⟩) (.refl G)
  · cases e
end
end Mv
namespace Mv
open PySem PySem.Spec PyProof.Rows L2 Evl
theorem HasK.at {k : Bool} {h h' : Heap} {a : Addr} {xs : Array Value} (x : HasK k h a xs) (e : ∀ o, h.get? a = some o → h'.get? a = some o) : HasK k h' a xs := by
  cases k with
  | true => exact Heap.IsList.at x e
  | false => exact Heap.IsTuple.at x e
theorem HasK.there {k : Bool} {h : Heap} {a : Addr} {xs : Array Value} (x : HasK k h a xs) : ∃ o, h.get? a = some o := by
  cases k with
  | true => obtain ⟨o, e, _⟩ := x; exact ⟨o, e⟩
  | false => obtain ⟨o, e, _⟩ := x; exact ⟨o, e⟩
theorem itrK_there {k : Bool} {h : Heap} {it a : Addr} {i : Nat} (x : ItrK k h it a i) : ∃ o, h.get? it = some o := by
  obtain ⟨o, e, _⟩ := x.ob; exact ⟨o, e⟩
section
variable {prog : Program} {w : World}
theorem pairZip (k1 k2 : Bool) (z TI TO i1 i2 a b : Addr) (D : Sep2Z z TI TO i1 i2 a b) (xs ys : Array Value) (hxy : xs.size = ys.size) :
    PairArg prog w "zip" z [z, TI, TO, i1, i2, a, b] [z, TO, i1, i2] xs.size (fun i k v => xs[i]? = some k ∧ ys[i]? = some v)
      (fun h => IsZip h z TI TO .none ∧ IsTupOf2 h TI (.ref i1) (.ref i2) ∧ (∃ x y, IsTupOf2 h TO x y) ∧ ItrK k1 h i1 a 0 ∧ ItrK k2 h i2 b 0 ∧ HasK k1 h a xs ∧ HasK k2 h b ys) where
  type := fun s ok => ⟨_, ok.1, rfl⟩
  notDict := by decide
  keep := fun h h' ok hk => by
    obtain ⟨hz, hTI, ⟨x, y, hTO⟩, h1, h2, p1, p2⟩ := ok
    exact ⟨hk _ _ hz, hk _ _ hTI, ⟨x, y, hk _ _ hTO⟩, h1.at fun o e => hk _ o e, h2.at fun o e => hk _ o e, p1.at fun o e => hk _ o e, p2.at fun o e => hk _ o e⟩
  there := fun h ok c hc => by
    obtain ⟨hz, hTI, ⟨x, y, hTO⟩, h1, h2, p1, p2⟩ := ok
    simp only [List.mem_cons, List.not_mem_nil, or_false] at hc
    rcases hc with rfl | rfl | rfl | rfl | rfl | rfl | rfl
    · exact ⟨_, hz⟩
    · exact ⟨_, hTI⟩
    · exact ⟨_, hTO⟩
    · exact itrK_there h1
    · exact itrK_there h2
    · exact p1.there
    · exact p2.there
  sub := fun c hc => by simp at hc ⊢; rcases hc with rfl | rfl | rfl | rfl <;> simp
  noKeys := fun A s Q E hA ok h => getAttrOr_miss_zip ok.1 rfl rfl rfl zip_no_keys (by decide +kernel) hA h
  iter := fun A s d Q E hA ok hd hdf go => by
    obtain ⟨hz, hTI, ⟨x, y, hTO⟩, h1, h2, p1, p2⟩ := ok
    simp only [List.mem_cons, List.not_mem_nil, or_false, not_or] at hdf
    obtain ⟨dz, dTI, dTO, di1, di2, da, db⟩ := hdf
    have S := D.sep
    refine wpAny_pyIter_zip hz (go z [z, TO, i1, i2] (fun i h => IsTupOf2 h TI (.ref i1) (.ref i2) ∧ ItrK k1 h i1 a i ∧ ItrK k2 h i2 b i ∧ HasK k1 h a xs ∧ HasK k2 h b ys ∧
      ((IsZip h z TI TO .none ∧ ∃ x y, IsTupOf2 h TO x y) ∨ ∃ T f oT, IsZipHeld h z TI TO T f ∧ h.get? T = some oT ∧ T ≠ z ∧ T ≠ i1 ∧ T ≠ i2 ∧ T ≠ d)) s.heap s.toks ?_
      ⟨hTI, h1, h2, p1, p2, .inl ⟨hz, x, y, hTO⟩⟩ (fun _ _ e => e) fun c hc => .inl hc)
    refine { off := fun hm => ?_, frame := fun i g g' st hk => ?_, item := fun i s1 Q1 E1 hi st hds hQ => ?_, done := fun s1 Q1 E1 st hQ => ?_ }
    · simp only [List.mem_cons, List.not_mem_nil, or_false] at hm
      rcases hm with e | e | e | e
      · exact dz e
      · exact dTO e
      · exact di1 e
      · exact di2 e
    · obtain ⟨hTI, h1, h2, p1, p2, hz⟩ := st
      refine ⟨hk _ _ (Ne.symm dTI) hTI, h1.at fun o e => hk _ o (Ne.symm di1) e, h2.at fun o e => hk _ o (Ne.symm di2) e, p1.at fun o e => hk _ o (Ne.symm da) e, p2.at fun o e => hk _ o (Ne.symm db) e, ?_⟩
      rcases hz with ⟨hz, x, y, hTO⟩ | ⟨T, f, oT, hz, hT, r1, r2, r3, r4⟩
      · exact .inl ⟨hk _ _ (Ne.symm dz) hz, x, y, hk _ _ (Ne.symm dTO) hTO⟩
      · exact (.inr ⟨T, f, oT, hk _ _ (Ne.symm dz) hz, hk _ _ r4 hT, r1, r2, r3, r4⟩)
    · obtain ⟨hTI, h1, h2, p1, p2, hz⟩ := st
      have hA' : A.in1.handled = none := hA
      have d1 := drawsK (prog := prog) (w := w) k1 hA' i1 a D.n1 xs
      have d2 := drawsK (prog := prog) (w := w) k2 hA' i2 b D.n2 ys
      have off : ∀ {c : Addr} {o : Obj}, s1.heap.get? c = some o → s1.heap.objs.size ≠ c := fun e => Nat.ne_of_gt (Heap.lt_size e)
      obtain ⟨o1, e1⟩ := itrK_there h1
      obtain ⟨o2, e2⟩ := itrK_there h2
      have n1 := off e1
      have n2 := off e2
      rcases hz with ⟨hz, x, y, hTO⟩ | ⟨T, f, oT, hz, hT, r1, r2, r3, r4⟩
      · refine wpAny_pyNext_zipD2_item S d1 d2 hz hTI hTO ⟨h1, p1⟩ ⟨h2, p2⟩ hi (by omega) fun y1 y2 h' tk g1 g2 hz' hTO' s1' s2' hT hsz hk => ?_
        have hTI' := hk _ _ S.TIz S.TITO S.TIi1 S.TIi2 hTI
        refine hQ s1.heap.objs.size y1 y2 h' tk ⟨g1, g2⟩ (.inl ⟨_, hT, rfl, _, rfl⟩) ⟨hTI', s1'.1, s2'.1, s1'.2, s2'.2, .inr ⟨s1.heap.objs.size, false, _, hz', hT, off hz, n1, n2, Nat.ne_of_gt hds⟩⟩ fun c o hc e => hk c o (fun q => hc (by simp [q])) (fun q => hc (by simp [q])) (fun q => hc (by simp [q])) (fun q => hc (by simp [q])) e
      · refine nextH_item S d1 d2 hz hT hTI ⟨h1, p1⟩ ⟨h2, p2⟩ hi (by omega) fun y1 y2 h' tk g1 g2 hz' s1' s2' hT2 hsz hk => ?_
        have hTI' := hk _ _ S.TIz S.TIi1 S.TIi2 hTI
        refine hQ s1.heap.objs.size y1 y2 h' tk ⟨g1, g2⟩ (.inl ⟨_, hT2, rfl, _, rfl⟩) ⟨hTI', s1'.1, s2'.1, s1'.2, s2'.2, .inr ⟨T, true, oT, hz', hk _ _ r1 r2 r3 hT, r1, r2, r3, r4⟩⟩ fun c o hc e => hk c o (fun q => hc (by simp [q])) (fun q => hc (by simp [q])) (fun q => hc (by simp [q])) e
    · obtain ⟨hTI, h1, h2, p1, p2, hz⟩ := st
      have hA' : A.in1.handled = none := hA
      have d1 := drawsK (prog := prog) (w := w) k1 hA' i1 a D.n1 xs
      have d2 := drawsK (prog := prog) (w := w) k2 hA' i2 b D.n2 ys
      rcases hz with ⟨hz, x, y, hTO⟩ | ⟨T, f, oT, hz, hT, r1, r2, r3, r4⟩
      · refine wpAny_pyNext_zipD2_end S d1 d2 hz hTI hTO ⟨h1, p1⟩ ⟨h2, p2⟩ (Nat.le_refl _) (by omega) (.inl rfl) fun h' tk hk => ?_
        exact hQ h' tk fun c o hc e => hk c o (fun q => hc (by simp [q])) (fun q => hc (by simp [q])) (fun q => hc (by simp [q])) (fun q => hc (by simp [q])) e
      · refine nextH_end S d1 d2 hz hT hTI ⟨h1, p1⟩ fun h' hk => ?_
        exact hQ h' s1.toks fun c o hc e => hk c o (fun q => hc (by simp [q])) (fun q => hc (by simp [q])) (fun q => hc (by simp [q])) e
end
def rDictZ (K : PySem.W.Frag) (k1 k2 : Bool) : List V → Hp → VK → Prop := fun us H Q => ∃ (a b : Addr) (xs ys : List V) (kvs : List (KK × V)), us = [.ref a, .ref b] ∧ SqK K k1 H a xs ∧ SqK K k2 H b ys ∧ xs.length = ys.length ∧ xs.length ≤ 1000000 ∧ ys = kvs.map (·.2) ∧
  Paired (fun u (e : KK × V) => ∃ q, u = V.ref q ∧ H q = some (.tup (e.1.map kV))) xs kvs ∧ ∀ p, H p = none → Q (.ref p) (upd H p (.dT (mergeT [] kvs)))
section
variable {X : Cx} {pins : List (Addr × Obj)} {σ : L2.St} {H : Hp} {s : Shared}
theorem keys_lie : ∀ {xs : List V} {kvs : List (KK × V)} {t1 t2 : List Value}, Paired (fun u (e : KK × V) => ∃ q, u = V.ref q ∧ H q = some (.tup (e.1.map kV))) xs kvs → Vals xs t1 → Vals (kvs.map (·.2)) t2 →
    ∃ prs : List (KK × Addr × Value), KT H kvs prs ∧ prs.length = kvs.length ∧ t1 = prs.map (fun x => Value.ref x.2.1) ∧ t2 = prs.map (fun x => x.2.2)
  | _, _, _, _, .nil, r1, r2 => by
    cases r1
    cases r2
    exact ⟨[], .nil, rfl, rfl, rfl⟩
  | _, _, _, _, .cons (b := e) ⟨q, eu, hq⟩ t, r1, r2 => by
    subst eu
    cases r1 with
    | cons a1 b1 =>
      cases r2 with
      | @cons _ y _ _ a2 b2 =>
        cases a1
        obtain ⟨prs, e1, e2, e3, e4⟩ := keys_lie t b1 b2
        exact ⟨(e.1, q, y) :: prs, .cons ⟨rfl, hq, a2⟩ e1, by rw [List.length_cons, List.length_cons, e2], by rw [e3]; rfl, by rw [e4]; rfl⟩
theorem pe_dictZ (k1 k2 : Bool) {X : Cx} {e e2 : Expr} {ta : TA} {p p2 q pos : Pos} (hu : X.A.units + 64 < cLine) (hg : Gl X "dict") (hm : X.mg "dict" = none) (hbt : bootBuiltins "dict" = some (.type "dict")) (hg2 : Gl X "zip") (hm2 : X.mg "zip" = none) (ha : PA X [e, e2] ta) (hc : X.calm = true := by rfl)
    (hs : starEach [e, e2] X.env = (false, eval e X.env) :: starEach [e2] X.env := by rfl) (hpl : (backTo q (starEach [e2] X.env)).any (·.1) = false := by rfl) :
    PE X (.Call (.Name "dict" p) [.Call (.Name "zip" p2) [e, e2] [] q] [] pos) (tCB (rDictZ X.K k1 k2) ta) := by
  refine (⟨fun pins s σ H Q I h => ?_⟩)
  refine Call_ (ld_blt I hg hm hbt ?_)
  refine (PyProof.Rows.callWith_type1 (PyProof.Rows.args_cons ?_ rfl) rfl rfl)
  refine Call_ (ld_blt I hg2 hm2 PyProof.Rows.boot_zip (PyProof.Rows.callWith_type1 (thn (ha.run q pins s σ H _ I h) fun us s1 ⟨vs, H1, I1, r1, q1⟩ => ?_) hs hpl))
  obtain ⟨a, b, xs, ys, kvs, ex, hqx, hqy, hlen, hn, ey, hp, qq⟩ := q1
  subst ex
  subst ey
  cases r1 with
  | cons r rr =>
    cases rr with
    | cons r' rr =>
      cases rr; cases r; cases r'
      obtain ⟨t1, w1, p1, _⟩ := seqK I1 hqx
      obtain ⟨t2, w2, p2, _⟩ := seqK I1 hqy
      obtain ⟨prs, e1, e2', e3, e4⟩ := keys_lie hp w1 w2
      have l1 := w1.length
      have l2 := w2.length
      have zt1 : t1.toArray.size = t1.length := List.size_toArray
      have zt2 : t2.toArray.size = t2.length := List.size_toArray
      have kl : kvs.length = prs.length := e2'.symm
      refine zip_begins2 (beginsK k1 a t1.toArray) (beginsK k2 b t2.toArray) p1 p2 fun h' hz hTI hTO b1 b2 hsz hk => ?_
      have I2 := I1.kept (t' := s1.toks) (h' := h') hk
      have DS : Sep2Z (s1.heap.objs.size + 4) (s1.heap.objs.size + 2) (s1.heap.objs.size + 3) s1.heap.objs.size (s1.heap.objs.size + 1) a b := by
        obtain ⟨oa, ea⟩ := p1.there
        obtain ⟨ob, eb⟩ := p2.there
        have la := Heap.lt_size ea
        have lb := Heap.lt_size eb
        exact ⟨zip_sep2 (by simpa using la) (by simpa using lb), Nat.ne_of_lt la, Nat.ne_of_lt (Nat.lt_add_right 1 lb)⟩
      refine PyProof.Rows.args_nil ?_
      have low : ∀ c, c < s1.heap.objs.size → c ∉ [s1.heap.objs.size + 4, s1.heap.objs.size + 3, s1.heap.objs.size, s1.heap.objs.size + 1] := fun c hc hm => by simp at hm; omega
      have keys : ∀ x ∈ prs, ∃ ks : KK, x.1 = ks ∧ H1 x.2.1 = some (.tup (ks.map kV)) := by
        intro x hx
        obtain ⟨j, hj⟩ := (List.getElem?_of_mem hx)
        obtain ⟨y, hy, f⟩ := paired_at e1 hj
        exact ⟨_, f.1.symm, f.2.1⟩
      refine call_dict_pairsH (knd := tupleKind (mixKind X.prog X.w)) (ps := prs) (pairZip k1 k2 _ _ _ _ _ a b DS t1.toArray t2.toArray (by rw [zt1, zt2, ← l1, ← l2]; exact hlen)) (I1.ok.hd hc) (show X.A.in1.in1.units < cLine from by have := hu; show X.A.units + 1 + 1 < cLine; omega)
        ⟨hz, hTI, ⟨_, _, hTO⟩, itrK_new b1, itrK_new b2, p1.at fun o e => hk _ o e, p2.at fun o e => hk _ o e⟩ ?_ ?_ (by rw [zt1, ← l1, sizeLine_eq]; omega) fun h2 tk hd' hk' => ?_
      · refine ⟨by rw [zt1, e3, List.length_map], fun i key v e => ?_⟩
        have g1 : t1[i]? = some key := by have := e.1; simpa using this
        have g2 : t2[i]? = some v := by have := e.2; simpa using this
        rw [e3, List.getElem?_map] at g1
        rw [e4, List.getElem?_map] at g2
        obtain ⟨x, hx, rfl⟩ := Option.map_eq_some_iff.mp g1
        rw [hx] at g2
        cases g2
        exact ⟨x.1, x.2.1, hx, rfl⟩
      · intro h3 hk3 x hx
        obtain ⟨ks, k1', k2'⟩ := keys x hx
        obtain ⟨o2, its2, n2, g1, g2, g3, g4⟩ := key_of I1.hok k2'
        rw [k1']
        have lt := Heap.lt_size g1
        exact ⟨o2, its2, n2, hk3 _ _ (Nat.ne_of_lt (Nat.lt_of_lt_of_le lt (show s1.heap.objs.size ≤ h'.objs.size by omega))) (low _ lt) (hk _ _ g1), g2, g3, g4⟩
      · have hm : (h'.objs.size == sysModules) = false := beq_eq_false_iff_ne.mpr (Nat.ne_of_gt (Nat.lt_of_lt_of_le I1.big (by omega)))
        have hlen2 : (mergeT [] kvs).length ≤ sizeLine := by
          have := merge_len kvs []
          have hpl := Paired.length hp
          rw [sizeLine_eq]
          simp at this; omega
        obtain ⟨o2, es, ep, g1, g2, g3, g4, _, g6⟩ := hd'
        have ge : s1.heap.objs.size ≤ h'.objs.size := by omega
        have free := I1.hok.fresh ge
        have all : ∀ c o, s1.heap.get? c = some o → h2.get? c = some o := fun c o e => hk' c o (low c (Heap.lt_size e)) (hk _ _ e)
        exact ⟨.ref h'.objs.size, upd H1 h'.objs.size (.dT (mergeT [] kvs)), I1.laid (t' := tk) all ge (show ObjOk X.prog X.w _ _ _ (.dT (mergeT [] kvs)) from ⟨hlen2, hm, _, (kt_merge e1 .nil).keeps (fun b ys e => by rw [upd_ne (fun z => by rw [z, free] at e; cases e)]; exact e), o2, es, ep, g1, g2, g3, g4, g6⟩), rfl, qq _ free⟩
end
section
variable {K : PySem.W.Frag}
def keysOf : List D → Option (List KK)
  | [] => some []
  | d :: ds => match keyOf d, keysOf ds with
    | some k, some ks => some (k :: ks)
    | _, _ => none
theorem keysOf_some : ∀ {ds : List D} {ks : List KK}, keysOf ds = some ks → ds = ks.map kD ∧ ∀ k ∈ ks, k ≠ []
  | [], ks, h => by cases h; exact ⟨rfl, fun k hk => by cases hk⟩
  | d :: ds, ks, h => by
    unfold keysOf at h
    split at h
    · rename_i k r e1 e2
      cases h
      obtain ⟨h1, h2⟩ := keysOf_some e2
      refine ⟨by rw [h1, keyOf_some e1]; rfl, fun q hq => ?_⟩
      rcases (List.mem_cons.mp hq) with rfl | hq
      · exact keyOf_ne e1
      · exact h2 q hq
    · cases h
def oDictZ (k1 k2 : Bool) (ds : List D) : Option D := match ds with
  | [x, y] => match sqOf k1 x, sqOf k2 y with
    | some as, some bs => match keysOf as with
      | some ks => if (Nat.beq ks.length bs.length && small ks.length) = true then some (dctD (mergeD [] (ks.zip bs))) else none
      | none => none
    | _, _ => none
  | _ => none
theorem keys_dq {G H : Hp} (w : Ex G H) : ∀ {xs : List V} {ks : List KK} {ys : List V} {bs : List D}, DqA G xs (ks.map kD) → (∀ k ∈ ks, k ≠ []) → DqA G ys bs → ks.length = bs.length → ∃ kvs : List (KK × V), ys = kvs.map (·.2) ∧ Paired (fun u (e : KK × V) => ∃ q, u = V.ref q ∧ H q = some (.tup (e.1.map kV))) xs kvs ∧ DqP G kvs (ks.zip bs)
  | _, [], _, bs, h1, _, h2, hl => by
    cases h1
    cases bs with
    | nil => cases h2; exact ⟨[], rfl, .nil, .nil⟩
    | cons _ _ => cases hl
  | _, k :: ks, _, bs, h1, hne, h2, hl => by
    cases bs with
    | nil => cases hl
    | cons b bs =>
      cases h1 with
      | cons a1 a2 =>
        cases h2 with
        | cons b1 b2 =>
          obtain ⟨kvs, c1, c2, c3⟩ := keys_dq w a2 (fun q hq => hne q (List.mem_cons_of_mem _ hq)) b2 (by simpa using hl)
          have nk := hne k (List.mem_cons_self ..)
          obtain ⟨q, rfl, hq⟩ := a1.key nk
          exact ⟨(k, _) :: kvs, by rw [c1]; rfl, .cons ⟨q, rfl, w _ _ hq⟩ c2, .cons nk b1 c3⟩
def rDictZF (K : PySem.W.Frag) (k1 k2 : Bool) : List V → Hp → VK → Prop := fun vs H Q => tFix (fun _ H Q => rDictZ K k1 k2 vs H Q) [] H Q
theorem cs_dictZ {k1 k2 : Bool} : CaS (rDictZF K k1 k2) (oDictZ k1 k2) := fun ds z e G vs G1 H1 x w hv Q q => by
  unfold oDictZ at e
  split at e
  · rename_i x y
    split at e
    · rename_i as bs e1 e2
      split at e
      · rename_i ks e3
        split at e
        · rename_i hs
          cases e
          rw [Bool.and_eq_true] at hs
          have ll : ks.length = bs.length := Nat.eq_of_beq_eq_true hs.1
          have sm := small_le hs.2
          obtain ⟨ea, ne⟩ := keysOf_some e3
          refine d_fix (te := fun _ H Q => rDictZ K k1 k2 vs H Q) (σ := []) (G := G1) (es := mergeD [] (ks.zip bs)) (fun G2 H2 x2 w2 Q2 q2 => ?_) G1 H1 (.refl G1) w Q q
          have hv2 := hv.mono x2
          cases hv2 with
          | cons h1 h2 =>
            cases h2 with
            | cons h2 h3 =>
              cases h3
              rw [sq_of e1] at h1
              rw [sq_of e2] at h2
              obtain ⟨a, xs, rfl, hxs, qa⟩ := sq_at (K := K) h1
              obtain ⟨b, ys, rfl, hys, qb⟩ := sq_at (K := K) h2
              have l1 := hxs.len
              have l2 := hys.len
              subst ea
              obtain ⟨kvs, c1, c2, c3⟩ := keys_dq w2 hxs ne hys ll
              rw [List.length_map] at l1
              refine ⟨a, b, xs, ys, kvs, rfl, qa _ w2, qb _ w2, by omega, by omega, c1, c2, fun p hp => ?_⟩
              have gp : G2 p = none := by
                cases z : G2 p with
                | none => rfl
                | some o => rw [w2 _ _ z] at hp; cases hp
              exact q2 p _ G2 _ (Stp.old w2 (.new hp)) hp gp upd_same (merge_dq c3 .nil)
        · cases e
      · cases e
    · cases e
  · cases e
end
section
variable {X : Cx}
theorem pe_dictZF (k1 k2 : Bool) {e e2 : Expr} {ta : TA} {p p2 q pos : Pos} (hu : X.A.units + 64 < cLine) (hg : Gl X "dict") (hm : X.mg "dict" = none) (hbt : bootBuiltins "dict" = some (.type "dict")) (hg2 : Gl X "zip") (hm2 : X.mg "zip" = none) (ha : PA X [e, e2] ta) (hc : X.calm = true := by rfl)
    (hs : starEach [e, e2] X.env = (false, eval e X.env) :: starEach [e2] X.env := by rfl) (hpl : (backTo q (starEach [e2] X.env)).any (·.1) = false := by rfl) :
    PE X (.Call (.Name "dict" p) [.Call (.Name "zip" p2) [e, e2] [] q] [] pos) (tCB (rDictZF X.K k1 k2) ta) := by
  have h := pe_fix (pe_dictZ k1 k2 (p := p) (p2 := p2) (q := q) (pos := pos) hu hg hm hbt hg2 hm2 ha hc hs hpl)
  exact h
end
end Mv
namespace Mv
open PySem PySem.Spec PyProof.Rows L2 Evl
def rLtD (K : PySem.W.Frag) : R2 := fun x y H Q => ∃ d e : D, Dp K H x d ∧ Dp K H y e ∧ PySem.W.alike d e = true ∧ d ≠ .none ∧ d.depth ≤ 60 ∧ Q (.bl (PySem.W.dataLt d e)) H
theorem op_ltD {X : Cx} (hu : X.A.units + 64 + 1 < cLine) : OpR X (compareOp .Lt) (rLtD X.K) := by
  intro pins; intro s σ H x y v u Q I rx ry h
  obtain ⟨d, e, hd, he, al, ne, dp, q⟩ := h
  obtain ⟨as, r1⟩ := (Dp.reads I d x v hd rx)
  obtain ⟨bs, r2⟩ := (Dp.reads I e y u he ry)
  refine PySem.W.lt_data r1 r2 al ne ?_ ⟨.bl _, H, I, rfl, q⟩
  omega
variable {K : PySem.W.Frag}
def notNone : D → Bool
  | .none => false
  | _ => true
def oLtD (x y : D) : Option D := if (flatD x && flatD y && PySem.W.alike x y && notNone x && Nat.ble x.depth 60) = true then some (.bool (PySem.W.dataLt x y)) else none
theorem os_ltD : OpS (rLtD K) oLtD := fun x y z e G => by
  unfold oLtD at e
  split at e
  · rename_i h
    cases e
    simp only [Bool.and_eq_true] at h
    obtain ⟨⟨⟨⟨h1, h2⟩, h3⟩, h4⟩, h5⟩ := h
    intro u v G1 H1 a b hx hy Q q
    exact ⟨x, y, dp_of b hx h1, dp_of b hy h2, h3, (fun z => by subst z; cases h4), Nat.le_of_ble_eq_true h5, q _ G1 H1 (.refl b) (.bl _)⟩
  · cases e
def oIntB (ds : List D) : Option D := match ds with
  | [.int i] => some (.int i)
  | [.bool b] => some (.int (if b then 1 else 0))
  | _ => none
theorem cad_intB {G : Hp} {b : Bool} : CaD (fun xs H Q => (∃ i, xs = [.int i] ∧ Q (.int i) H) ∨ ∃ k, xs = [.bl k] ∧ Q (.int (if k then 1 else 0)) H) G [.bool b] (.int (if b then 1 else 0)) := fun vs G1 H1 x w h Q q => by
  cases h with
  | cons h1 h2 =>
    cases h2; cases h1
    exact .inr ⟨b, rfl, q _ G1 H1 (.refl w) (.int _)⟩
theorem cs_intB : CaS (fun xs H Q => (∃ i, xs = [.int i] ∧ Q (.int i) H) ∨ ∃ k, xs = [.bl k] ∧ Q (.int (if k then 1 else 0)) H) oIntB := fun ds z e G => by
  unfold oIntB at e
  split at e
  · cases e; exact cad_int1
  · cases e; exact cad_intB
  · cases e
end Mv
namespace Mv
open PySem L2 Evl
def top (i : Nat) : Stmt := PySem.Challenge.pw_movedround_k32_weighings_listed_and_judg.main.body.getD i (.Pass ⟨0, 0, 0, 0⟩)
section
variable {P : Program} {w : World} {K : PySem.W.Frag} {mg : Str → Option Value} {base : Heap} {ad : Str → Addr} {TL : List (Addr × Str)}
abbrev s_place_count : Stmt := top 1
def b_place_count : En → Rf := (fSeq (fAsg (fC (.int 1)) (sName 1)) (fSeq (fFor (iT (fVar 0)) (sName 2) (fAsg (fOp oMul (fVar 1) (fVar 2)) (sName 1))) (fRet (fVar 1))))
def f_place_count : List D → Re := guardN 1 (bodyD b_place_count 2)
theorem ok_place_count {f : Addr} {fd : FuncData}  (F : Fun K "place_count" "place_count" s_place_count f fd) : FnOk P w K mg base CX0 1 f fd ["dials"] (SpF ad f_place_count) := by
  have sc : FnScope ["dials", "many", "size"] ["dials"] (defScope s_place_count) := ⟨rfl, rfl, rfl, by decide +kernel, rfl, by decide +kernel, by decide +kernel⟩
  refine F.ok sc (fun vs H Q E h => ?_) (fun cdv A outer s H vs Q E hr h => ?_)
  · obtain ⟨G, ds, r, _, hv, e, _⟩ := h
    unfold f_place_count at e
    exact hv.len.trans (guard_len e)
  · obtain ⟨G, ds, r, wf, hv, e, k⟩ := h
    unfold f_place_count at e
    refine ⟨_, (pss_cons (ps_set (i := 1) sc.nd rfl (Or.inl rfl) pe_int) (pss_cons (ps_for PassesOwn.never rfl (pi_tup (pv 0)) (pg_name (i := 2) sc.nd rfl (Or.inl rfl)) (pss_one (ps_set (i := 1) sc.nd rfl (Or.inl rfl) (pe_op op_mul (pv 1) (pv 2))))) (pss_one (ps_ret (pv 1))))), ?_⟩
    exact body_start (k := 1) (n := 2) rfl (hv.len.trans (guard_len e)) (show Ss E ad _ b_place_count from (u_seq (u_asg (u_c fun _ => .int 1) g_name) (u_seq (u_for (i_tup u_var) g_name (u_asg (u_op os_mul u_var u_var) g_name)) (u_ret u_var)))) wf hv (guard_get e) k
abbrev s_all_places : Stmt := top 2
def b_all_places : En → Rf := (fSeq (fAsg (fLst (fCons (fTup fNil) fNil)) (sName 1)) (fSeq (fFor (iT (fVar 0)) (sName 2) (fAsg (fLc2 (iL (fVar 1)) (sName 3) (fC (.bool true)) (iR1 (fCons (fVar 2) fNil)) (sName 4) (fC (.bool true)) (fOp oCatT (fVar 3) (fTup (fCons (fVar 4) fNil))) [3, 4] [4]) (sName 1))) (fRet (fVar 1))))
def f_all_places : List D → Re := guardN 1 (bodyD b_all_places 4)
theorem ok_all_places {f : Addr} {fd : FuncData} (Z : Zs mg) (F : Fun K "all_places" "all_places" s_all_places f fd) : FnOk P w K mg base CX0 1 f fd ["dials"] (SpF ad f_all_places) := by
  have sc : FnScope ["dials", "found", "size", "begin", "at"] ["dials"] (defScope s_all_places) := ⟨rfl, rfl, rfl, by decide +kernel, rfl, by decide +kernel, by decide +kernel⟩
  refine F.ok sc (fun vs H Q E h => ?_) (fun cdv A outer s H vs Q E hr h => ?_)
  · obtain ⟨G, ds, r, _, hv, e, _⟩ := h
    unfold f_all_places at e
    exact hv.len.trans (guard_len e)
  · obtain ⟨G, ds, r, wf, hv, e, k⟩ := h
    unfold f_all_places at e
    refine ⟨_, (pss_cons (ps_set (i := 1) sc.nd rfl (Or.inl rfl) (pe_lst (pa_cons (pe_tup pa_nil) pa_nil))) (pss_cons (ps_for PassesOwn.never rfl (pi_tup (pv 0)) (pg_name (i := 2) sc.nd rfl (Or.inr rfl)) (pss_one (ps_setLc2 (i := 1) (own := [("begin", 3), ("at", 4)]) (vs1 := [4])  (g := gName 3) (g1 := gName 4) (by rfl) sc.nd rfl rfl (sw_true rfl rfl rfl (by decide +kernel)) (pi_list (pv 1)) (blkOk_by (N := ["dials", "found", "size", "begin", "at"]) (sc := defScope s_all_places) (by decide +kernel)) (by decide) (fun _ _ _ _ _ => (pg_name (i := 3) sc.nd rfl (Or.inl rfl))) (fun _ _ _ _ _ => pts_nil) (fun _ _ _ _ _ => (pi_range1 (by rfl) Z.range (pa_cons (pv 2) pa_nil))) (fun _ _ _ _ _ => (pg_name (i := 4) sc.nd rfl (Or.inl rfl))) (fun _ _ _ _ _ => pts_nil) (fun _ _ _ _ _ => (pe_op (r := rCatA K) op_catA (pv 3) (pe_tup (pa_cons (pv 4) pa_nil))))))) (pss_one (ps_ret (pv 1))))), ?_⟩
    exact body_start (k := 1) (n := 4) rfl (hv.len.trans (guard_len e)) (show Ss E ad _ b_all_places from (u_seq (u_asg (u_lst (u_cons (u_tup u_nil) u_nil)) g_name) (u_seq (u_for (i_tup u_var) g_name (u_asg (u_lc2 (i_list u_var) g_name u_yes (i_rng1 (u_cons u_var u_nil)) g_name u_yes (u_op os_catT u_var (u_tup (u_cons u_var u_nil))) (by decide) (by decide)) g_name)) (u_ret u_var)))) wf hv (guard_get e) k
abbrev s_add : Stmt := top 3
def b_add : En → Rf := (fRet (fCb oTuple (fCons (fLc (iZ3 false false false (fCons (fVar 1) (fCons (fVar 2) (fCons (fVar 0) fNil)))) (sTup 3 (sCons (sName 3) (sCons (sName 4) (sCons (sName 5) sNil)))) (fC (.bool true)) (fOp oMod (fOp oAdd (fVar 3) (fVar 4)) (fVar 5)) [3, 4, 5]) fNil)))
def f_add : List D → Re := guardN 3 (bodyD b_add 3)
theorem ok_add {f : Addr} {fd : FuncData} (Z : Zs mg) (F : Fun K "add" "add" s_add f fd) : FnOk P w K mg base CX0 1 f fd ["dials", "one", "other"] (SpF ad f_add) := by
  have sc : FnScope ["dials", "one", "other", "here", "there", "size"] ["dials", "one", "other"] (defScope s_add) := ⟨rfl, rfl, rfl, by decide +kernel, rfl, by decide +kernel, by decide +kernel⟩
  refine F.ok sc (fun vs H Q E h => ?_) (fun cdv A outer s H vs Q E hr h => ?_)
  · obtain ⟨G, ds, r, _, hv, e, _⟩ := h
    unfold f_add at e
    exact hv.len.trans (guard_len e)
  · obtain ⟨G, ds, r, wf, hv, e, k⟩ := h
    unfold f_add at e
    refine ⟨_, (pss_one (ps_ret (pe_callTy (r := rTupOf K) call_tuple_of (by rfl) Z.tuple (by decide +kernel) (pa_cons (pe_lc (own := [("here", 3), ("there", 4), ("size", 5)]) (g := gTup K 3 (gCons (gName 3) (gCons (gName 4) (gCons (gName 5) gNil)))) (tt := tYes) (by rfl) sc.nd (pi_zip3 false false false (by rfl) Z.zip (pa_cons (pv 1) (pa_cons (pv 2) (pa_cons (pv 0) pa_nil)))) (blkOk_by (N := ["dials", "one", "other", "here", "there", "size"]) (sc := defScope s_add) (by decide +kernel)) (fun _ _ _ _ _ => (pg_tup rfl (pgs_cons (pg_name (i := 3) sc.nd rfl (Or.inl rfl)) (pgs_cons (pg_name (i := 4) sc.nd rfl (Or.inl rfl)) (pgs_cons (pg_name (i := 5) sc.nd rfl (Or.inl rfl)) pgs_nil))))) (fun _ _ _ _ _ => pts_nil) (fun _ _ _ _ _ => (pe_op op_mod (pe_op op_add (pv 3) (pv 4)) (pv 5)))) pa_nil)))), ?_⟩
    exact body_start (k := 3) (n := 3) rfl (hv.len.trans (guard_len e)) (show Ss E ad _ b_add from (u_ret (u_cb cs_tuple (u_cons (u_lc (i_zip3 (u_cons u_var (u_cons u_var (u_cons u_var u_nil)))) (g_tup (g_cons g_name (g_cons g_name (g_cons g_name g_nil)))) u_yes (u_op os_mod (u_op os_add u_var u_var) u_var) (by decide)) u_nil)))) wf hv (guard_get e) k
abbrev s_is_number : Stmt := top 11
def b_is_number : En → Rf := (fRet (fAnd (fIsi "int" (fVar 0)) (fNot (fIsi "bool" (fVar 0)))))
def f_is_number : List D → Re := guardN 1 (bodyD b_is_number 0)
theorem ok_is_number {f : Addr} {fd : FuncData} (Z : Zs mg) (F : Fun K "is_number" "is_number" s_is_number f fd) : FnOk P w K mg base CX0 1 f fd ["thing"] (SpF ad f_is_number) := by
  have sc : FnScope ["thing"] ["thing"] (defScope s_is_number) := ⟨rfl, rfl, rfl, by decide +kernel, rfl, by decide +kernel, by decide +kernel⟩
  refine F.ok sc (fun vs H Q E h => ?_) (fun cdv A outer s H vs Q E hr h => ?_)
  · obtain ⟨G, ds, r, _, hv, e, _⟩ := h
    unfold f_is_number at e
    exact hv.len.trans (guard_len e)
  · obtain ⟨G, ds, r, wf, hv, e, k⟩ := h
    unfold f_is_number at e
    refine ⟨_, (pss_one (ps_ret (pe_and (pe_callB (r := rIsiY K) call_isiY (by rfl) Z.isinstance (by decide +kernel) (pa_cons (pv 0) (pa_cons (pe_bltn (v := .ty "int") (u := .type "int") (by rfl) Z.int (by decide +kernel) rfl) pa_nil))) (pe_one (pe_not (pe_callB (r := rIsiY K) call_isiY (by rfl) Z.isinstance (by decide +kernel) (pa_cons (pv 0) (pa_cons (pe_bltn (v := .ty "bool") (u := .type "bool") (by rfl) Z.bool (by decide +kernel) rfl) pa_nil)))))))), ?_⟩
    exact body_start (k := 1) (n := 0) rfl (hv.len.trans (guard_len e)) (show Ss E ad _ b_is_number from (u_ret (u_and (u_isi (c := "int") (by decide) u_var) (u_not (u_isi (c := "bool") (by decide) u_var))))) wf hv (guard_get e) k
abbrev s_is_between : Stmt := top 12
def b_is_between : En → Rf := (fRet (fAnd (fCall0 f_is_number (fCons (fVar 0) fNil)) (fChain oLe oLe (fVar 1) (fVar 0) (fVar 2))))
def f_is_between : List D → Re := guardN 3 (bodyD b_is_between 0)
theorem ok_is_between {f : Addr} {fd : FuncData} (C_is_number : Cal P w K mg base CX0 1 "is_number" ["thing"] (SpF ad f_is_number)) (F : Fun K "is_between" "is_between" s_is_between f fd) : FnOk P w K mg base CX0 2 f fd ["thing", "low", "high"] (SpF ad f_is_between) := by
  have sc : FnScope ["thing", "low", "high"] ["thing", "low", "high"] (defScope s_is_between) := ⟨rfl, rfl, rfl, by decide +kernel, rfl, by decide +kernel, by decide +kernel⟩
  refine F.ok sc (fun vs H Q E h => ?_) (fun cdv A outer s H vs Q E hr h => ?_)
  · obtain ⟨G, ds, r, _, hv, e, _⟩ := h
    unfold f_is_between at e
    exact hv.len.trans (guard_len e)
  · obtain ⟨G, ds, r, wf, hv, e, k⟩ := h
    unfold f_is_between at e
    refine ⟨_, (pss_one (ps_ret (pe_and (pe_cal C_is_number (hr.mono (by decide)) pass0 (pa_cons (pv 0) pa_nil)) (pe_one (pe_chain op_le op_le (pv 1) (pv 0) (pv 2)))))), ?_⟩
    exact body_start (k := 3) (n := 0) rfl (hv.len.trans (guard_len e)) (show Ss E ad _ b_is_between from (u_ret (u_and (u_call0 (u_cons u_var u_nil)) (u_chain os_le os_le u_var u_var u_var)))) wf hv (guard_get e) k
abbrev s_is_listed : Stmt := top 13
def b_is_listed : En → Rf := (fRet (fIsiLT (fVar 0)))
def f_is_listed : List D → Re := guardN 1 (bodyD b_is_listed 0)
theorem ok_is_listed {f : Addr} {fd : FuncData} (Z : Zs mg) (F : Fun K "is_listed" "is_listed" s_is_listed f fd) : FnOk P w K mg base CX0 1 f fd ["thing"] (SpF ad f_is_listed) := by
  have sc : FnScope ["thing"] ["thing"] (defScope s_is_listed) := ⟨rfl, rfl, rfl, by decide +kernel, rfl, by decide +kernel, by decide +kernel⟩
  refine F.ok sc (fun vs H Q E h => ?_) (fun cdv A outer s H vs Q E hr h => ?_)
  · obtain ⟨G, ds, r, _, hv, e, _⟩ := h
    unfold f_is_listed at e
    exact hv.len.trans (guard_len e)
  · obtain ⟨G, ds, r, wf, hv, e, k⟩ := h
    unfold f_is_listed at e
    refine ⟨_, (pss_one (ps_ret (pe_callB (r := rIsiTY K) call_isiTY (by rfl) Z.isinstance (by decide +kernel) (pa_cons (pv 0) (pa_cons (pe_tup (pa_cons (pe_bltn (v := .ty "list") (u := .type "list") (by rfl) Z.list (by decide +kernel) rfl) (pa_cons (pe_bltn (v := .ty "tuple") (u := .type "tuple") (by rfl) Z.tuple (by decide +kernel) rfl) pa_nil))) pa_nil))))), ?_⟩
    exact body_start (k := 1) (n := 0) rfl (hv.len.trans (guard_len e)) (show Ss E ad _ b_is_listed from (u_ret (u_isiLT u_var))) wf hv (guard_get e) k
abbrev s_is_tuple_of : Stmt := top 14
def b_is_tuple_of : En → Rf := (fRet (fAnd (fIsi "tuple" (fVar 0)) (fOp oEqA (fCb oLen (fCons (fVar 0) fNil)) (fVar 1))))
def f_is_tuple_of : List D → Re := guardN 2 (bodyD b_is_tuple_of 0)
theorem ok_is_tuple_of {f : Addr} {fd : FuncData} (Z : Zs mg) (F : Fun K "is_tuple_of" "is_tuple_of" s_is_tuple_of f fd) : FnOk P w K mg base CX0 1 f fd ["thing", "many"] (SpF ad f_is_tuple_of) := by
  have sc : FnScope ["thing", "many"] ["thing", "many"] (defScope s_is_tuple_of) := ⟨rfl, rfl, rfl, by decide +kernel, rfl, by decide +kernel, by decide +kernel⟩
  refine F.ok sc (fun vs H Q E h => ?_) (fun cdv A outer s H vs Q E hr h => ?_)
  · obtain ⟨G, ds, r, _, hv, e, _⟩ := h
    unfold f_is_tuple_of at e
    exact hv.len.trans (guard_len e)
  · obtain ⟨G, ds, r, wf, hv, e, k⟩ := h
    unfold f_is_tuple_of at e
    refine ⟨_, (pss_one (ps_ret (pe_and (pe_callB (r := rIsiY K) call_isiY (by rfl) Z.isinstance (by decide +kernel) (pa_cons (pv 0) (pa_cons (pe_bltn (v := .ty "tuple") (u := .type "tuple") (by rfl) Z.tuple (by decide +kernel) rfl) pa_nil))) (pe_one (pe_cmpR op_eq (pe_callB (r := rLenA K) call_len_seq (by rfl) Z.len PySem.boot_len (pa_cons (pv 0) pa_nil)) (pv 1) (nomark _)))))), ?_⟩
    exact body_start (k := 2) (n := 0) rfl (hv.len.trans (guard_len e)) (show Ss E ad _ b_is_tuple_of from (u_ret (u_and (u_isi (c := "tuple") (by decide) u_var) (u_op os_eqA (u_cb cs_len (u_cons u_var u_nil)) u_var)))) wf hv (guard_get e) k
abbrev s_is_dials : Stmt := top 16
def b_is_dials : En → Rf := (fSeq (fIfS (fOr (fNot (fT (fIsi "tuple" (fVar 0)))) (fNot (fT (fChain oLe oLe (fC (.int 1)) (fCb oLen (fCons (fVar 0) fNil)) (fC (.int 4)))))) (fRet (fC (.bool false))) fNext) (fRet (fAnd (fCb oAll (fCons (fLc (iT (fVar 0)) (sName 1) (fC (.bool true)) (fCall0 f_is_between (fCons (fVar 1) (fCons (fC (.int 2)) (fCons (fC (.int 24)) fNil)))) [1]) fNil)) (fOp oLe (fCall0 f_place_count (fCons (fVar 0) fNil)) (fC (.int 24))))))
def f_is_dials : List D → Re := guardN 1 (bodyD b_is_dials 1)
theorem ok_is_dials {f : Addr} {fd : FuncData} (Z : Zs mg) (C_place_count : Cal P w K mg base CX0 1 "place_count" ["dials"] (SpF ad f_place_count)) (C_is_between : Cal P w K mg base CX0 2 "is_between" ["thing", "low", "high"] (SpF ad f_is_between)) (F : Fun K "is_dials" "is_dials" s_is_dials f fd) : FnOk P w K mg base CX0 3 f fd ["thing"] (SpF ad f_is_dials) := by
  have sc : FnScope ["thing", "size"] ["thing"] (defScope s_is_dials) := ⟨rfl, rfl, rfl, by decide +kernel, rfl, by decide +kernel, by decide +kernel⟩
  refine F.ok sc (fun vs H Q E h => ?_) (fun cdv A outer s H vs Q E hr h => ?_)
  · obtain ⟨G, ds, r, _, hv, e, _⟩ := h
    unfold f_is_dials at e
    exact hv.len.trans (guard_len e)
  · obtain ⟨G, ds, r, wf, hv, e, k⟩ := h
    unfold f_is_dials at e
    refine ⟨_, (pss_cons (ps_if (PW.pt (pw_or (pt_not (pt_val (pe_callB (r := rIsiY K) call_isiY (by rfl) Z.isinstance (by decide +kernel) (pa_cons (pv 0) (pa_cons (pe_bltn (v := .ty "tuple") (u := .type "tuple") (by rfl) Z.tuple (by decide +kernel) rfl) pa_nil))))) (pw_or1 (pt_not (pt_chain op_le op_le pe_int (pe_callB (r := rLenA K) call_len_seq (by rfl) Z.len PySem.boot_len (pa_cons (pv 0) pa_nil)) pe_int))))) (pss_one (ps_ret pe_bl)) pss_nil) (pss_one (ps_ret (pe_and (pe_callB (r := rAll K) (cr_all (by rfl)) (by rfl) Z.all (by decide +kernel) (pa_cons (pe_lc (own := [("size", 1)]) (g := gName 1) (tt := tYes) (by rfl) sc.nd (pi_tup (pv 0)) (blkOk_by (N := ["thing", "size"]) (sc := defScope s_is_dials) (by decide +kernel)) (fun _ _ _ _ _ => (pg_name (i := 1) sc.nd rfl (Or.inl rfl))) (fun _ _ _ _ _ => pts_nil) (fun _ _ _ _ _ => (pe_cal C_is_between (hr.mono (by decide)) pass0 (pa_cons (pv 1) (pa_cons pe_int (pa_cons pe_int pa_nil)))))) pa_nil)) (pe_one (pe_cmpR op_le (pe_cal C_place_count (hr.mono (by decide)) pass0 (pa_cons (pv 0) pa_nil)) pe_int (nomark _))))))), ?_⟩
    exact body_start (k := 1) (n := 1) rfl (hv.len.trans (guard_len e)) (show Ss E ad _ b_is_dials from (u_seq (u_ifS (u_tOr (u_tNot (u_tB (u_isi (c := "tuple") (by decide) u_var))) (u_tNot (u_test (u_chain os_le os_le (u_c fun _ => .int 1) (u_cb cs_len (u_cons u_var u_nil)) (u_c fun _ => .int 4))))) (u_ret (u_c fun _ => .bl false)) u_next) (u_ret (u_and (u_cb cs_all (u_cons (u_lc (i_tup u_var) g_name u_yes (u_call0 (u_cons u_var (u_cons (u_c fun _ => .int 2) (u_cons (u_c fun _ => .int 24) u_nil)))) (by decide)) u_nil)) (u_op os_le (u_call0 (u_cons u_var u_nil)) (u_c fun _ => .int 24)))))) wf hv (guard_get e) k
abbrev s_is_place : Stmt := top 17
def b_is_place : En → Rf := (fSeq (fIfS (fNot (fT (fCall0 f_is_tuple_of (fCons (fVar 1) (fCons (fCb oLen (fCons (fVar 0) fNil)) fNil))))) (fRet (fC (.bool false))) fNext) (fRet (fCb oAll (fCons (fLc (iZ2 false false (fCons (fVar 1) (fCons (fVar 0) fNil))) (sTup 2 (sCons (sName 2) (sCons (sName 3) sNil))) (fC (.bool true)) (fCall0 f_is_between (fCons (fVar 2) (fCons (fC (.int 0)) (fCons (fOp oSub (fVar 3) (fC (.int 1))) fNil)))) [2, 3]) fNil))))
def f_is_place : List D → Re := guardN 2 (bodyD b_is_place 2)
theorem ok_is_place {f : Addr} {fd : FuncData} (Z : Zs mg) (C_is_tuple_of : Cal P w K mg base CX0 1 "is_tuple_of" ["thing", "many"] (SpF ad f_is_tuple_of)) (C_is_between : Cal P w K mg base CX0 2 "is_between" ["thing", "low", "high"] (SpF ad f_is_between)) (F : Fun K "is_place" "is_place" s_is_place f fd) : FnOk P w K mg base CX0 3 f fd ["dials", "thing"] (SpF ad f_is_place) := by
  have sc : FnScope ["dials", "thing", "at", "size"] ["dials", "thing"] (defScope s_is_place) := ⟨rfl, rfl, rfl, by decide +kernel, rfl, by decide +kernel, by decide +kernel⟩
  refine F.ok sc (fun vs H Q E h => ?_) (fun cdv A outer s H vs Q E hr h => ?_)
  · obtain ⟨G, ds, r, _, hv, e, _⟩ := h
    unfold f_is_place at e
    exact hv.len.trans (guard_len e)
  · obtain ⟨G, ds, r, wf, hv, e, k⟩ := h
    unfold f_is_place at e
    refine ⟨_, (pss_cons (ps_if (pt_not (pt_val (pe_cal C_is_tuple_of (hr.mono (by decide)) pass0 (pa_cons (pv 1) (pa_cons (pe_callB (r := rLenA K) call_len_seq (by rfl) Z.len PySem.boot_len (pa_cons (pv 0) pa_nil)) pa_nil))))) (pss_one (ps_ret pe_bl)) pss_nil) (pss_one (ps_ret (pe_callB (r := rAll K) (cr_all (by rfl)) (by rfl) Z.all (by decide +kernel) (pa_cons (pe_lc (own := [("at", 2), ("size", 3)]) (g := gTup K 2 (gCons (gName 2) (gCons (gName 3) gNil))) (tt := tYes) (by rfl) sc.nd (pi_zip2 false false (by rfl) Z.zip (pa_cons (pv 1) (pa_cons (pv 0) pa_nil))) (blkOk_by (N := ["dials", "thing", "at", "size"]) (sc := defScope s_is_place) (by decide +kernel)) (fun _ _ _ _ _ => (pg_tup rfl (pgs_cons (pg_name (i := 2) sc.nd rfl (Or.inl rfl)) (pgs_cons (pg_name (i := 3) sc.nd rfl (Or.inl rfl)) pgs_nil)))) (fun _ _ _ _ _ => pts_nil) (fun _ _ _ _ _ => (pe_cal C_is_between (hr.mono (by decide)) pass0 (pa_cons (pv 2) (pa_cons pe_int (pa_cons (pe_op op_sub (pv 3) pe_int) pa_nil)))))) pa_nil))))), ?_⟩
    exact body_start (k := 2) (n := 2) rfl (hv.len.trans (guard_len e)) (show Ss E ad _ b_is_place from (u_seq (u_ifS (u_tNot (u_tB (u_call0 (u_cons u_var (u_cons (u_cb cs_len (u_cons u_var u_nil)) u_nil))))) (u_ret (u_c fun _ => .bl false)) u_next) (u_ret (u_cb cs_all (u_cons (u_lc (i_zip2 (u_cons u_var (u_cons u_var u_nil))) (g_tup (g_cons g_name (g_cons g_name g_nil))) u_yes (u_call0 (u_cons u_var (u_cons (u_c fun _ => .int 0) (u_cons (u_op os_sub u_var (u_c fun _ => .int 1)) u_nil)))) (by decide)) u_nil))))) wf hv (guard_get e) k
abbrev s_are_places : Stmt := top 18
def b_are_places_list : En → Rf := (fRet (fAnd (fCall0 f_is_listed (fCons (fVar 1) fNil)) (fCb oAll (fCons (fLc (iL (fVar 1)) (sName 2) (fC (.bool true)) (fCall0 f_is_place (fCons (fVar 0) (fCons (fVar 2) fNil))) [2]) fNil))))
def b_are_places_tup : En → Rf := (fRet (fAnd (fCall0 f_is_listed (fCons (fVar 1) fNil)) (fCb oAll (fCons (fLc (iT (fVar 1)) (sName 2) (fC (.bool true)) (fCall0 f_is_place (fCons (fVar 0) (fCons (fVar 2) fNil))) [2]) fNil))))
def f_are_places : List D → Re := guardN 2 fun ds => if isLstAt 1 ds = true then bodyD b_are_places_list 1 ds else bodyD b_are_places_tup 1 ds
theorem ok_are_places {f : Addr} {fd : FuncData} (Z : Zs mg) (C_is_listed : Cal P w K mg base CX0 1 "is_listed" ["thing"] (SpF ad f_is_listed)) (C_is_place : Cal P w K mg base CX0 3 "is_place" ["dials", "thing"] (SpF ad f_is_place)) (F : Fun K "are_places" "are_places" s_are_places f fd) : FnOk P w K mg base CX0 4 f fd ["dials", "thing"] (SpF ad f_are_places) := by
  have sc : FnScope ["dials", "thing", "item"] ["dials", "thing"] (defScope s_are_places) := ⟨rfl, rfl, rfl, by decide +kernel, rfl, by decide +kernel, by decide +kernel⟩
  refine F.ok sc (fun vs H Q E h => ?_) (fun cdv A outer s H vs Q E hr h => ?_)
  · obtain ⟨G, ds, r, _, hv, e, _⟩ := h
    unfold f_are_places at e
    exact hv.len.trans (guard_len e)
  · obtain ⟨G, ds, r, wf, hv, e, k⟩ := h
    unfold f_are_places at e
    have e2 := guard_get e
    by_cases hb : isLstAt 1 ds = true
    · simp only [hb, if_true, if_false, Bool.false_eq_true] at e2
      refine ⟨_, (pss_one (ps_ret (pe_and (pe_cal C_is_listed (hr.mono (by decide)) pass0 (pa_cons (pv 1) pa_nil)) (pe_one (pe_callB (r := rAll K) (cr_all (by rfl)) (by rfl) Z.all (by decide +kernel) (pa_cons (pe_lc (own := [("item", 2)]) (g := gName 2) (tt := tYes) (by rfl) sc.nd (pi_list (pv 1)) (blkOk_by (N := ["dials", "thing", "item"]) (sc := defScope s_are_places) (by decide +kernel)) (fun _ _ _ _ _ => (pg_name (i := 2) sc.nd rfl (Or.inl rfl))) (fun _ _ _ _ _ => pts_nil) (fun _ _ _ _ _ => (pe_cal C_is_place (hr.mono (by decide)) pass0 (pa_cons (pv 0) (pa_cons (pv 2) pa_nil))))) pa_nil)))))), ?_⟩
      exact body_start (k := 2) (n := 1) rfl (hv.len.trans (guard_len e)) (show Ss E ad _ b_are_places_list from (u_ret (u_and (u_call0 (u_cons u_var u_nil)) (u_cb cs_all (u_cons (u_lc (i_list u_var) g_name u_yes (u_call0 (u_cons u_var (u_cons u_var u_nil))) (by decide)) u_nil))))) wf hv e2 k
    · simp only [hb, if_true, if_false, Bool.false_eq_true] at e2
      refine ⟨_, (pss_one (ps_ret (pe_and (pe_cal C_is_listed (hr.mono (by decide)) pass0 (pa_cons (pv 1) pa_nil)) (pe_one (pe_callB (r := rAll K) (cr_all (by rfl)) (by rfl) Z.all (by decide +kernel) (pa_cons (pe_lc (own := [("item", 2)]) (g := gName 2) (tt := tYes) (by rfl) sc.nd (pi_tup (pv 1)) (blkOk_by (N := ["dials", "thing", "item"]) (sc := defScope s_are_places) (by decide +kernel)) (fun _ _ _ _ _ => (pg_name (i := 2) sc.nd rfl (Or.inl rfl))) (fun _ _ _ _ _ => pts_nil) (fun _ _ _ _ _ => (pe_cal C_is_place (hr.mono (by decide)) pass0 (pa_cons (pv 0) (pa_cons (pv 2) pa_nil))))) pa_nil)))))), ?_⟩
      exact body_start (k := 2) (n := 1) rfl (hv.len.trans (guard_len e)) (show Ss E ad _ b_are_places_tup from (u_ret (u_and (u_call0 (u_cons u_var u_nil)) (u_cb cs_all (u_cons (u_lc (i_tup u_var) g_name u_yes (u_call0 (u_cons u_var (u_cons u_var u_nil))) (by decide)) u_nil))))) wf hv e2 k
abbrev s_check_dials : Stmt := top 19
def b_check_dials : En → Rf := (fIfS (fNot (fT (fCall0 f_is_dials (fCons (fVar 0) fNil)))) (fRaise "BadDials") fNext)
def f_check_dials : List D → Re := guardN 1 (bodyD b_check_dials 0)
theorem ok_check_dials {f : Addr} {fd : FuncData} (B_BadDials : ExcC K mg "BadDials" (ad "BadDials")) (C_is_dials : Cal P w K mg base CX0 3 "is_dials" ["thing"] (SpF ad f_is_dials)) (F : Fun K "check_dials" "check_dials" s_check_dials f fd) : FnOk P w K mg base (L2.CX P w) 4 f fd ["dials"] (SpF ad f_check_dials) := by
  have sc : FnScope ["dials"] ["dials"] (defScope s_check_dials) := ⟨rfl, rfl, rfl, by decide +kernel, rfl, by decide +kernel, by decide +kernel⟩
  refine F.okX sc (fun vs H Q E h => ?_) (fun cdv A outer s H vs Q E hr h => ?_)
  · obtain ⟨G, ds, r, _, hv, e, _⟩ := h
    unfold f_check_dials at e
    exact hv.len.trans (guard_len e)
  · obtain ⟨G, ds, r, wf, hv, e, k⟩ := h
    unfold f_check_dials at e
    refine ⟨_, (pss_one (ps_if (pt_not (pt_val (pe_cal C_is_dials (hr.mono (by decide)) pass0 (pa_cons (pv 0) pa_nil)))) (pss_one (ps_raise rfl (takes_of rfl rfl rfl rfl) (pmk_own PySem.F.excBase_ValueError B_BadDials.ex B_BadDials.g B_BadDials.k (raises_own B_BadDials.b B_BadDials.t) rfl))) pss_nil)), ?_⟩
    exact body_start (k := 1) (n := 0) rfl (hv.len.trans (guard_len e)) (show Ss E ad _ b_check_dials from (u_ifS (u_tNot (u_tB (u_call0 (u_cons u_var u_nil)))) u_raise u_next)) wf hv (guard_get e) k
abbrev s_check_several : Stmt := top 20
def b_check_several : En → Rf := (fIfS (fNot (fT (fCall0 f_are_places (fCons (fVar 0) (fCons (fVar 1) fNil))))) (fRaise "BadSeveral") fNext)
def f_check_several : List D → Re := guardN 2 (bodyD b_check_several 0)
theorem ok_check_several {f : Addr} {fd : FuncData} (B_BadSeveral : ExcC K mg "BadSeveral" (ad "BadSeveral")) (C_are_places : Cal P w K mg base CX0 4 "are_places" ["dials", "thing"] (SpF ad f_are_places)) (F : Fun K "check_several" "check_several" s_check_several f fd) : FnOk P w K mg base (L2.CX P w) 5 f fd ["dials", "several"] (SpF ad f_check_several) := by
  have sc : FnScope ["dials", "several"] ["dials", "several"] (defScope s_check_several) := ⟨rfl, rfl, rfl, by decide +kernel, rfl, by decide +kernel, by decide +kernel⟩
  refine F.okX sc (fun vs H Q E h => ?_) (fun cdv A outer s H vs Q E hr h => ?_)
  · obtain ⟨G, ds, r, _, hv, e, _⟩ := h
    unfold f_check_several at e
    exact hv.len.trans (guard_len e)
  · obtain ⟨G, ds, r, wf, hv, e, k⟩ := h
    unfold f_check_several at e
    refine ⟨_, (pss_one (ps_if (pt_not (pt_val (pe_cal C_are_places (hr.mono (by decide)) pass0 (pa_cons (pv 0) (pa_cons (pv 1) pa_nil))))) (pss_one (ps_raise rfl (takes_of rfl rfl rfl rfl) (pmk_own PySem.F.excBase_ValueError B_BadSeveral.ex B_BadSeveral.g B_BadSeveral.k (raises_own B_BadSeveral.b B_BadSeveral.t) rfl))) pss_nil)), ?_⟩
    exact body_start (k := 2) (n := 0) rfl (hv.len.trans (guard_len e)) (show Ss E ad _ b_check_several from (u_ifS (u_tNot (u_tB (u_call0 (u_cons u_var (u_cons u_var u_nil))))) u_raise u_next)) wf hv (guard_get e) k
abbrev s_adds_up : Stmt := top 22
def b_adds_up : En → Rf := (fSeq (fAsg (fDc (iZ2 true false (fCons (fCall0 f_all_places (fCons (fVar 0) fNil)) (fCons (fVar 2) fNil))) (sTup 2 (sCons (sName 4) (sCons (sName 5) sNil))) (fC (.bool true)) (fVar 4) (fVar 5) [4, 5]) (sName 3)) (fSeq (fFor (iKy (fVar 3)) (sName 6) (fFor (iKy (fVar 3)) (sName 7) (fIfS (fT (fOp oNeA (fDGet (fVar 3) (fCall0 f_add (fCons (fVar 0) (fCons (fVar 6) (fCons (fVar 7) fNil))))) (fOp oMod (fOp oAdd (fDGet (fVar 3) (fVar 6)) (fDGet (fVar 3) (fVar 7))) (fVar 1)))) (fRet (fC (.bool false))) fNext))) (fRet (fC (.bool true)))))
def f_adds_up : List D → Re := guardN 3 (bodyD b_adds_up 5)
theorem ok_adds_up {f : Addr} {fd : FuncData} (Z : Zs mg) (C_all_places : Cal P w K mg base CX0 1 "all_places" ["dials"] (SpF ad f_all_places)) (C_add : Cal P w K mg base CX0 1 "add" ["dials", "one", "other"] (SpF ad f_add)) (F : Fun K "adds_up" "adds_up" s_adds_up f fd) : FnOk P w K mg base CX0 2 f fd ["dials", "modulus", "weights"] (SpF ad f_adds_up) := by
  have sc : FnScope ["dials", "modulus", "weights", "weight_of", "place", "weight", "one", "other"] ["dials", "modulus", "weights"] (defScope s_adds_up) := ⟨rfl, rfl, rfl, by decide +kernel, rfl, by decide +kernel, by decide +kernel⟩
  refine F.ok sc (fun vs H Q E h => ?_) (fun cdv A outer s H vs Q E hr h => ?_)
  · obtain ⟨G, ds, r, _, hv, e, _⟩ := h
    unfold f_adds_up at e
    exact hv.len.trans (guard_len e)
  · obtain ⟨G, ds, r, wf, hv, e, k⟩ := h
    unfold f_adds_up at e
    have hu := hu_of hr
    refine ⟨_, (pss_cons (ps_fixSet (i := 3) rfl (ps_setDcT (i := 3) (own := [("place", 4), ("weight", 5)]) (g := gTup K 2 (gCons (gName 4) (gCons (gName 5) gNil))) (tt := tYes) hu (by rfl) sc.nd rfl rfl (swT rfl rfl rfl (by decide +kernel)) (pi_zip2 true false (by rfl) Z.zip (pa_cons (pe_cal C_all_places (hr.mono (by decide)) pass0 (pa_cons (pv 0) pa_nil)) (pa_cons (pv 2) pa_nil))) (blkOk_by (N := ["dials", "modulus", "weights", "weight_of", "place", "weight", "one", "other"]) (sc := defScope s_adds_up) (by decide +kernel)) (fun _ _ _ _ _ => (pg_tup rfl (pgs_cons (pg_name (i := 4) sc.nd rfl (Or.inl rfl)) (pgs_cons (pg_name (i := 5) sc.nd rfl (Or.inl rfl)) pgs_nil)))) (fun _ _ _ _ _ => pts_nil) (fun _ _ _ _ _ => (pv 4)) (fun _ _ _ _ _ => (pv 5)))) (pss_cons (ps_for PassesOwn.never rfl (pi_keys (pv 3)) (pg_name (i := 6) sc.nd rfl (Or.inl rfl)) (pss_one (ps_for PassesOwn.never rfl (pi_keys (pv 3)) (pg_name (i := 7) sc.nd rfl (Or.inl rfl)) (pss_one (ps_if (pt_cmpR op_ne (pe_dget hu (pv 3) (pe_cal C_add (hr.mono (by decide)) pass0 (pa_cons (pv 0) (pa_cons (pv 6) (pa_cons (pv 7) pa_nil)))) (fun _ _ => rfl)) (pe_op op_mod (pe_op op_add (pe_dget hu (pv 3) (pv 6) (fun _ _ => rfl)) (pe_dget hu (pv 3) (pv 7) (fun _ _ => rfl))) (pv 1)) (nomark _)) (pss_one (ps_ret pe_bl)) pss_nil))))) (pss_one (ps_ret pe_bl)))), ?_⟩
    exact body_start (k := 3) (n := 5) rfl (hv.len.trans (guard_len e)) (show Ss E ad _ b_adds_up from (u_seq (u_asg (u_dc (i_zip2 (u_cons (u_call0 (u_cons u_var u_nil)) (u_cons u_var u_nil))) (g_tup (g_cons g_name (g_cons g_name g_nil))) u_yes u_var u_var (by decide)) g_name) (u_seq (u_for (i_keys u_var) g_name (u_for (i_keys u_var) g_name (u_ifS (u_test (u_op os_neA (u_dget u_var (u_call0 (u_cons u_var (u_cons u_var (u_cons u_var u_nil))))) (u_op os_mod (u_op os_add (u_dget u_var u_var) (u_dget u_var u_var)) u_var))) (u_ret (u_c fun _ => .bl false)) u_next))) (u_ret (u_c fun _ => .bl true))))) wf hv (guard_get e) k
abbrev s_is_weighed_by : Stmt := top 23
def b_is_weighed_by : En → Rf := (fSeq (fIfS (fOr (fNot (fT (fCall0 f_is_tuple_of (fCons (fVar 1) (fCons (fC (.int 2)) fNil))))) (fNot (fT (fCall0 f_is_between (fCons (fOp oIxT (fVar 1) (fC (.int 0))) (fCons (fC (.int 2)) (fCons (fC (.int 24)) fNil))))))) (fRet (fC (.bool false))) fNext) (fSeq (fAsg (fVar 1) (sTup 2 (sCons (sName 2) (sCons (sName 3) sNil)))) (fSeq (fIfS (fNot (fT (fCall0 f_is_tuple_of (fCons (fVar 3) (fCons (fCall0 f_place_count (fCons (fVar 0) fNil)) fNil))))) (fRet (fC (.bool false))) fNext) (fSeq (fIfS (fNot (fT (fCb oAll (fCons (fLc (iT (fVar 3)) (sName 4) (fC (.bool true)) (fCall0 f_is_between (fCons (fVar 4) (fCons (fC (.int 0)) (fCons (fOp oSub (fVar 2) (fC (.int 1))) fNil)))) [4]) fNil)))) (fRet (fC (.bool false))) fNext) (fRet (fCall0 f_adds_up (fCons (fVar 0) (fCons (fVar 2) (fCons (fVar 3) fNil)))))))))
def f_is_weighed_by : List D → Re := guardN 2 (bodyD b_is_weighed_by 3)
theorem ok_is_weighed_by {f : Addr} {fd : FuncData} (Z : Zs mg) (C_adds_up : Cal P w K mg base CX0 2 "adds_up" ["dials", "modulus", "weights"] (SpF ad f_adds_up)) (C_is_tuple_of : Cal P w K mg base CX0 1 "is_tuple_of" ["thing", "many"] (SpF ad f_is_tuple_of)) (C_is_between : Cal P w K mg base CX0 2 "is_between" ["thing", "low", "high"] (SpF ad f_is_between)) (C_place_count : Cal P w K mg base CX0 1 "place_count" ["dials"] (SpF ad f_place_count)) (F : Fun K "is_weighed_by" "is_weighed_by" s_is_weighed_by f fd) : FnOk P w K mg base CX0 3 f fd ["dials", "thing"] (SpF ad f_is_weighed_by) := by
  have sc : FnScope ["dials", "thing", "modulus", "weights", "weight"] ["dials", "thing"] (defScope s_is_weighed_by) := ⟨rfl, rfl, rfl, by decide +kernel, rfl, by decide +kernel, by decide +kernel⟩
  refine F.ok sc (fun vs H Q E h => ?_) (fun cdv A outer s H vs Q E hr h => ?_)
  · obtain ⟨G, ds, r, _, hv, e, _⟩ := h
    unfold f_is_weighed_by at e
    exact hv.len.trans (guard_len e)
  · obtain ⟨G, ds, r, wf, hv, e, k⟩ := h
    unfold f_is_weighed_by at e
    refine ⟨_, (pss_cons (ps_if (PW.pt (pw_or (pt_not (pt_val (pe_cal C_is_tuple_of (hr.mono (by decide)) pass0 (pa_cons (pv 1) (pa_cons pe_int pa_nil))))) (pw_or1 (pt_not (pt_val (pe_cal C_is_between (hr.mono (by decide)) pass0 (pa_cons (pe_ix (r := rIxT K) ix_tup (pv 1) pe_int (fun _ _ => rfl)) (pa_cons pe_int (pa_cons pe_int pa_nil))))))))) (pss_one (ps_ret pe_bl)) pss_nil) (pss_cons (ps_asg (pv 1) (pg_tup rfl (pgs_cons (pg_name (i := 2) sc.nd rfl (Or.inr rfl)) (pgs_cons (pg_name (i := 3) sc.nd rfl (Or.inl rfl)) pgs_nil)))) (pss_cons (ps_if (pt_not (pt_val (pe_cal C_is_tuple_of (hr.mono (by decide)) pass0 (pa_cons (pv 3) (pa_cons (pe_cal C_place_count (hr.mono (by decide)) pass0 (pa_cons (pv 0) pa_nil)) pa_nil))))) (pss_one (ps_ret pe_bl)) pss_nil) (pss_cons (ps_if (pt_not (pt_val (pe_callB (r := rAll K) (cr_all (by rfl)) (by rfl) Z.all (by decide +kernel) (pa_cons (pe_lc (own := [("weight", 4)]) (g := gName 4) (tt := tYes) (by rfl) sc.nd (pi_tup (pv 3)) (blkOk_by (N := ["dials", "thing", "modulus", "weights", "weight"]) (sc := defScope s_is_weighed_by) (by decide +kernel)) (fun _ _ _ _ _ => (pg_name (i := 4) sc.nd rfl (Or.inl rfl))) (fun _ _ _ _ _ => pts_nil) (fun _ _ _ _ _ => (pe_cal C_is_between (hr.mono (by decide)) pass0 (pa_cons (pv 4) (pa_cons pe_int (pa_cons (pe_op op_sub (pv 2) pe_int) pa_nil)))))) pa_nil)))) (pss_one (ps_ret pe_bl)) pss_nil) (pss_one (ps_ret (pe_cal C_adds_up (hr.mono (by decide)) pass0 (pa_cons (pv 0) (pa_cons (pv 2) (pa_cons (pv 3) pa_nil)))))))))), ?_⟩
    exact body_start (k := 2) (n := 3) rfl (hv.len.trans (guard_len e)) (show Ss E ad _ b_is_weighed_by from (u_seq (u_ifS (u_tOr (u_tNot (u_tB (u_call0 (u_cons u_var (u_cons (u_c fun _ => .int 2) u_nil))))) (u_tNot (u_tB (u_call0 (u_cons (u_op os_ixT u_var (u_c fun _ => .int 0)) (u_cons (u_c fun _ => .int 2) (u_cons (u_c fun _ => .int 24) u_nil))))))) (u_ret (u_c fun _ => .bl false)) u_next) (u_seq (u_asg u_var (g_tup (g_cons g_name (g_cons g_name g_nil)))) (u_seq (u_ifS (u_tNot (u_tB (u_call0 (u_cons u_var (u_cons (u_call0 (u_cons u_var u_nil)) u_nil))))) (u_ret (u_c fun _ => .bl false)) u_next) (u_seq (u_ifS (u_tNot (u_tB (u_cb cs_all (u_cons (u_lc (i_tup u_var) g_name u_yes (u_call0 (u_cons u_var (u_cons (u_c fun _ => .int 0) (u_cons (u_op os_sub u_var (u_c fun _ => .int 1)) u_nil)))) (by decide)) u_nil)))) (u_ret (u_c fun _ => .bl false)) u_next) (u_ret (u_call0 (u_cons u_var (u_cons u_var (u_cons u_var u_nil)))))))))) wf hv (guard_get e) k
abbrev s_is_weighing : Stmt := top 24
def b_is_weighing : En → Rf := (fSeq (fDrop (fCall f_check_dials (fCons (fVar 0) fNil))) (fRet (fCall0 f_is_weighed_by (fCons (fVar 0) (fCons (fVar 1) fNil)))))
def f_is_weighing : List D → Re := guardN 2 (bodyD b_is_weighing 0)
theorem ok_is_weighing {f : Addr} {fd : FuncData} (C_check_dials : Cal P w K mg base (L2.CX P w) 4 "check_dials" ["dials"] (SpF ad f_check_dials)) (C_is_weighed_by : Cal P w K mg base CX0 3 "is_weighed_by" ["dials", "thing"] (SpF ad f_is_weighed_by)) (F : Fun K "is_weighing" "is_weighing" s_is_weighing f fd) : FnOk P w K mg base (L2.CX P w) 5 f fd ["dials", "thing"] (SpF ad f_is_weighing) := by
  have sc : FnScope ["dials", "thing"] ["dials", "thing"] (defScope s_is_weighing) := ⟨rfl, rfl, rfl, by decide +kernel, rfl, by decide +kernel, by decide +kernel⟩
  refine F.okX sc (fun vs H Q E h => ?_) (fun cdv A outer s H vs Q E hr h => ?_)
  · obtain ⟨G, ds, r, _, hv, e, _⟩ := h
    unfold f_is_weighing at e
    exact hv.len.trans (guard_len e)
  · obtain ⟨G, ds, r, wf, hv, e, k⟩ := h
    unfold f_is_weighing at e
    refine ⟨_, (pss_cons (ps_expr (pe_cal C_check_dials (hr.mono (by decide)) (passes_call (E := E) (W := fun c d _ H => E c d H) (takes_of rfl rfl rfl rfl) (fun _ _ _ _ h => h)) (pa_cons (pv 0) pa_nil))) (pss_one (ps_ret (pe_cal C_is_weighed_by (hr.mono (by decide)) pass0 (pa_cons (pv 0) (pa_cons (pv 1) pa_nil)))))), ?_⟩
    exact body_start (k := 2) (n := 0) rfl (hv.len.trans (guard_len e)) (show Ss E ad _ b_is_weighing from (u_seq (u_drop (u_call (u_cons u_var u_nil))) (u_ret (u_call0 (u_cons u_var (u_cons u_var u_nil)))))) wf hv (guard_get e) k
abbrev s_weight_by : Stmt := top 25
def b_weight_by : En → Rf := (fRet (fOp oMod (fCb oSum (fCons (fLc (iZ2 false false (fCons (fVar 2) (fCons (fVar 1) fNil))) (sTup 2 (sCons (sName 3) (sCons (sName 4) sNil))) (fC (.bool true)) (fOp oMul (fVar 3) (fVar 4)) [3, 4]) fNil)) (fVar 0)))
def f_weight_by : List D → Re := guardN 3 (bodyD b_weight_by 2)
theorem ok_weight_by {f : Addr} {fd : FuncData} (Z : Zs mg) (Z_sum : mg "sum" = none) (F : Fun K "weight_by" "weight_by" s_weight_by f fd) : FnOk P w K mg base CX0 1 f fd ["modulus", "by_dial", "place"] (SpF ad f_weight_by) := by
  have sc : FnScope ["modulus", "by_dial", "place", "at", "weight"] ["modulus", "by_dial", "place"] (defScope s_weight_by) := ⟨rfl, rfl, rfl, by decide +kernel, rfl, by decide +kernel, by decide +kernel⟩
  refine F.ok sc (fun vs H Q E h => ?_) (fun cdv A outer s H vs Q E hr h => ?_)
  · obtain ⟨G, ds, r, _, hv, e, _⟩ := h
    unfold f_weight_by at e
    exact hv.len.trans (guard_len e)
  · obtain ⟨G, ds, r, wf, hv, e, k⟩ := h
    unfold f_weight_by at e
    refine ⟨_, (pss_one (ps_ret (pe_op op_mod (pe_callB (r := rSum K) (cr_sum (by rfl)) (by rfl) Z_sum (by decide +kernel) (pa_cons (pe_lc (own := [("at", 3), ("weight", 4)]) (g := gTup K 2 (gCons (gName 3) (gCons (gName 4) gNil))) (tt := tYes) (by rfl) sc.nd (pi_zip2 false false (by rfl) Z.zip (pa_cons (pv 2) (pa_cons (pv 1) pa_nil))) (blkOk_by (N := ["modulus", "by_dial", "place", "at", "weight"]) (sc := defScope s_weight_by) (by decide +kernel)) (fun _ _ _ _ _ => (pg_tup rfl (pgs_cons (pg_name (i := 3) sc.nd rfl (Or.inl rfl)) (pgs_cons (pg_name (i := 4) sc.nd rfl (Or.inl rfl)) pgs_nil)))) (fun _ _ _ _ _ => pts_nil) (fun _ _ _ _ _ => (pe_op op_mul (pv 3) (pv 4)))) pa_nil)) (pv 0)))), ?_⟩
    exact body_start (k := 3) (n := 2) rfl (hv.len.trans (guard_len e)) (show Ss E ad _ b_weight_by from (u_ret (u_op os_mod (u_cb cs_sum (u_cons (u_lc (i_zip2 (u_cons u_var (u_cons u_var u_nil))) (g_tup (g_cons g_name (g_cons g_name g_nil))) u_yes (u_op os_mul u_var u_var) (by decide)) u_nil)) u_var))) wf hv (guard_get e) k
abbrev s_list_weighings : Stmt := top 26
def b_list_weighings : En → Rf := (fSeq (fAsg (fLst (fCons (fTup fNil) fNil)) (sName 2)) (fSeq (fFor (iT (fVar 0)) (sName 3) (fAsg (fLc2 (iL (fVar 2)) (sName 4) (fC (.bool true)) (iR1 (fCons (fVar 1) fNil)) (sName 5) (fT (fOp oEqA (fOp oMod (fOp oMul (fVar 3) (fVar 5)) (fVar 1)) (fC (.int 0)))) (fOp oCatT (fVar 4) (fTup (fCons (fVar 5) fNil))) [4, 5] [5]) (sName 2))) (fSeq (fAsgM (fLst fNil) 6) (fSeq (fFor (iL (fVar 2)) (sName 7) (fSeq (fAsg (fCb oTuple (fCons (fLc (iL (fCall0 f_all_places (fCons (fVar 0) fNil))) (sName 9) (fC (.bool true)) (fCall0 f_weight_by (fCons (fVar 1) (fCons (fVar 7) (fCons (fVar 9) fNil)))) [9]) fNil)) (sName 8)) (fApp 6 (fTup (fCons (fVar 1) (fCons (fVar 8) fNil)))))) (fRet (fCb oSorted (fCons (fVar 6) fNil)))))))
def f_list_weighings : List D → Re := guardN 2 (bodyD b_list_weighings 8)
theorem ok_list_weighings {f : Addr} {fd : FuncData} (Z : Zs mg) (Z_sorted : mg "sorted" = none) (C_weight_by : Cal P w K mg base CX0 1 "weight_by" ["modulus", "by_dial", "place"] (SpF ad f_weight_by)) (C_all_places : Cal P w K mg base CX0 1 "all_places" ["dials"] (SpF ad f_all_places)) (F : Fun K "list_weighings" "list_weighings" s_list_weighings f fd) : FnOk P w K mg base CX0 2 f fd ["dials", "modulus"] (SpF ad f_list_weighings) := by
  have sc : FnScope ["dials", "modulus", "choices", "size", "begin", "weight", "found", "by_dial", "weights", "place"] ["dials", "modulus"] (defScope s_list_weighings) := ⟨rfl, rfl, rfl, by decide +kernel, rfl, by decide +kernel, by decide +kernel⟩
  refine F.ok sc (fun vs H Q E h => ?_) (fun cdv A outer s H vs Q E hr h => ?_)
  · obtain ⟨G, ds, r, _, hv, e, _⟩ := h
    unfold f_list_weighings at e
    exact hv.len.trans (guard_len e)
  · obtain ⟨G, ds, r, wf, hv, e, k⟩ := h
    unfold f_list_weighings at e
    refine ⟨_, (pss_cons (ps_set (i := 2) sc.nd rfl (Or.inl rfl) (pe_lst (pa_cons (pe_tup pa_nil) pa_nil))) (pss_cons (ps_for PassesOwn.never rfl (pi_tup (pv 0)) (pg_name (i := 3) sc.nd rfl (Or.inr rfl)) (pss_one (ps_setLc2 (i := 2) (own := [("begin", 4), ("weight", 5)]) (vs1 := [5])  (g := gName 4) (g1 := gName 5) (by rfl) sc.nd rfl rfl (sw_true rfl rfl rfl (by decide +kernel)) (pi_list (pv 2)) (blkOk_by (N := ["dials", "modulus", "choices", "size", "begin", "weight", "found", "by_dial", "weights", "place"]) (sc := defScope s_list_weighings) (by decide +kernel)) (by decide) (fun _ _ _ _ _ => (pg_name (i := 4) sc.nd rfl (Or.inl rfl))) (fun _ _ _ _ _ => pts_nil) (fun _ _ _ _ _ => (pi_range1 (by rfl) Z.range (pa_cons (pv 1) pa_nil))) (fun _ _ _ _ _ => (pg_name (i := 5) sc.nd rfl (Or.inl rfl))) (fun _ _ _ _ _ => (pts_one (pt_cmpR op_eq (pe_op op_mod (pe_op op_mul (pv 3) (pv 5)) (pv 1)) pe_int (nomark _)))) (fun _ _ _ _ _ => (pe_op (r := rCatA K) op_catA (pv 4) (pe_tup (pa_cons (pv 5) pa_nil))))))) (pss_cons (ps_set (i := 6) sc.nd rfl (Or.inl rfl) (pe_lst pa_nil)) (pss_cons (ps_for PassesOwn.never rfl (pi_list (pv 2)) (pg_name (i := 7) sc.nd rfl (Or.inr rfl)) (pss_cons (ps_set (i := 8) sc.nd rfl (Or.inl rfl) (pe_callTy (r := rTupOf K) call_tuple_of (by rfl) Z.tuple (by decide +kernel) (pa_cons (pe_lc (own := [("place", 9)]) (g := gName 9) (tt := tYes) (by rfl) sc.nd (pi_list (pe_cal C_all_places (hr.mono (by decide)) pass0 (pa_cons (pv 0) pa_nil))) (blkOk_by (N := ["dials", "modulus", "choices", "size", "begin", "weight", "found", "by_dial", "weights", "place"]) (sc := defScope s_list_weighings) (by decide +kernel)) (fun _ _ _ _ _ => (pg_name (i := 9) sc.nd rfl (Or.inl rfl))) (fun _ _ _ _ _ => pts_nil) (fun _ _ _ _ _ => (pe_cal C_weight_by (hr.mono (by decide)) pass0 (pa_cons (pv 1) (pa_cons (pv 7) (pa_cons (pv 9) pa_nil)))))) pa_nil))) (pss_one (ps_expr (pe_bm PySem.F.plainAttrs_list PySem.F.slot_list_append PySem.F.type_list_append mt_append (pv 6) (pa_cons (pe_tup (pa_cons (pv 1) (pa_cons (pv 8) pa_nil))) pa_nil)))))) (pss_one (ps_ret (pe_callB (r := rSortD K) (call_sortD hr.units) (by rfl) Z_sorted (by decide +kernel) (pa_cons (pv 6) pa_nil)))))))), ?_⟩
    exact body_start (k := 2) (n := 8) rfl (hv.len.trans (guard_len e)) (show Ss E ad _ b_list_weighings from (u_seq (u_asg (u_lst (u_cons (u_tup u_nil) u_nil)) g_name) (u_seq (u_for (i_tup u_var) g_name (u_asg (u_lc2 (i_list u_var) g_name u_yes (i_rng1 (u_cons u_var u_nil)) g_name (u_test (u_op os_eqA (u_op os_mod (u_op os_mul u_var u_var) u_var) (u_c fun _ => .int 0))) (u_op os_catT u_var (u_tup (u_cons u_var u_nil))) (by decide) (by decide)) g_name)) (u_seq (u_asgM (m_lst u_nil)) (u_seq (u_for (i_list u_var) g_name (u_seq (u_asg (u_cb cs_tuple (u_cons (u_lc (i_list (u_call0 (u_cons u_var u_nil))) g_name u_yes (u_call0 (u_cons u_var (u_cons u_var (u_cons u_var u_nil)))) (by decide)) u_nil)) g_name) (u_app (u_tup (u_cons u_var (u_cons u_var u_nil)))))) (u_ret (u_cb cs_sorted (u_cons u_var u_nil)))))))) wf hv (guard_get e) k
abbrev s_weighings : Stmt := top 27
def b_weighings : En → Rf := (fSeq (fDrop (fCall f_check_dials (fCons (fVar 0) fNil))) (fSeq (fIfS (fNot (fT (fCall0 f_is_between (fCons (fVar 1) (fCons (fC (.int 2)) (fCons (fC (.int 24)) fNil)))))) (fRaise "BadModulus") fNext) (fRet (fCall0 f_list_weighings (fCons (fVar 0) (fCons (fVar 1) fNil))))))
def f_weighings : List D → Re := guardN 2 (bodyD b_weighings 0)
theorem ok_weighings {f : Addr} {fd : FuncData} (B_BadModulus : ExcC K mg "BadModulus" (ad "BadModulus")) (C_check_dials : Cal P w K mg base (L2.CX P w) 4 "check_dials" ["dials"] (SpF ad f_check_dials)) (C_list_weighings : Cal P w K mg base CX0 2 "list_weighings" ["dials", "modulus"] (SpF ad f_list_weighings)) (C_is_between : Cal P w K mg base CX0 2 "is_between" ["thing", "low", "high"] (SpF ad f_is_between)) (F : Fun K "weighings" "weighings" s_weighings f fd) : FnOk P w K mg base (L2.CX P w) 5 f fd ["dials", "modulus"] (SpF ad f_weighings) := by
  have sc : FnScope ["dials", "modulus"] ["dials", "modulus"] (defScope s_weighings) := ⟨rfl, rfl, rfl, by decide +kernel, rfl, by decide +kernel, by decide +kernel⟩
  refine F.okX sc (fun vs H Q E h => ?_) (fun cdv A outer s H vs Q E hr h => ?_)
  · obtain ⟨G, ds, r, _, hv, e, _⟩ := h
    unfold f_weighings at e
    exact hv.len.trans (guard_len e)
  · obtain ⟨G, ds, r, wf, hv, e, k⟩ := h
    unfold f_weighings at e
    refine ⟨_, (pss_cons (ps_expr (pe_cal C_check_dials (hr.mono (by decide)) (passes_call (E := E) (W := fun c d _ H => E c d H) (takes_of rfl rfl rfl rfl) (fun _ _ _ _ h => h)) (pa_cons (pv 0) pa_nil))) (pss_cons (ps_if (pt_not (pt_val (pe_cal C_is_between (hr.mono (by decide)) pass0 (pa_cons (pv 1) (pa_cons pe_int (pa_cons pe_int pa_nil)))))) (pss_one (ps_raise rfl (takes_of rfl rfl rfl rfl) (pmk_own PySem.F.excBase_ValueError B_BadModulus.ex B_BadModulus.g B_BadModulus.k (raises_own B_BadModulus.b B_BadModulus.t) rfl))) pss_nil) (pss_one (ps_ret (pe_cal C_list_weighings (hr.mono (by decide)) pass0 (pa_cons (pv 0) (pa_cons (pv 1) pa_nil))))))), ?_⟩
    exact body_start (k := 2) (n := 0) rfl (hv.len.trans (guard_len e)) (show Ss E ad _ b_weighings from (u_seq (u_drop (u_call (u_cons u_var u_nil))) (u_seq (u_ifS (u_tNot (u_tB (u_call0 (u_cons u_var (u_cons (u_c fun _ => .int 2) (u_cons (u_c fun _ => .int 24) u_nil)))))) u_raise u_next) (u_ret (u_call0 (u_cons u_var (u_cons u_var u_nil))))))) wf hv (guard_get e) k
abbrev s_weighed : Stmt := top 28
def b_weighed_list : En → Rf := (fSeq (fDrop (fCall f_check_dials (fCons (fVar 0) fNil))) (fSeq (fIfS (fNot (fT (fCall0 f_is_weighed_by (fCons (fVar 0) (fCons (fVar 1) fNil))))) (fRaise "BadWeighing") fNext) (fSeq (fDrop (fCall f_check_several (fCons (fVar 0) (fCons (fVar 2) fNil)))) (fSeq (fAsg (fVar 1) (sTup 2 (sCons (sName 3) (sCons (sName 4) sNil)))) (fSeq (fAsg (fDc (iZ2 true false (fCons (fCall0 f_all_places (fCons (fVar 0) fNil)) (fCons (fVar 4) fNil))) (sTup 2 (sCons (sName 6) (sCons (sName 7) sNil))) (fC (.bool true)) (fVar 6) (fVar 7) [6, 7]) (sName 5)) (fRet (fOp oMod (fCb oSum (fCons (fLc (iL (fVar 2)) (sName 6) (fC (.bool true)) (fDGet (fVar 5) (fVar 6)) [6]) fNil)) (fVar 3))))))))
def b_weighed_tup : En → Rf := (fSeq (fDrop (fCall f_check_dials (fCons (fVar 0) fNil))) (fSeq (fIfS (fNot (fT (fCall0 f_is_weighed_by (fCons (fVar 0) (fCons (fVar 1) fNil))))) (fRaise "BadWeighing") fNext) (fSeq (fDrop (fCall f_check_several (fCons (fVar 0) (fCons (fVar 2) fNil)))) (fSeq (fAsg (fVar 1) (sTup 2 (sCons (sName 3) (sCons (sName 4) sNil)))) (fSeq (fAsg (fDc (iZ2 true false (fCons (fCall0 f_all_places (fCons (fVar 0) fNil)) (fCons (fVar 4) fNil))) (sTup 2 (sCons (sName 6) (sCons (sName 7) sNil))) (fC (.bool true)) (fVar 6) (fVar 7) [6, 7]) (sName 5)) (fRet (fOp oMod (fCb oSum (fCons (fLc (iT (fVar 2)) (sName 6) (fC (.bool true)) (fDGet (fVar 5) (fVar 6)) [6]) fNil)) (fVar 3))))))))
def f_weighed : List D → Re := guardN 3 fun ds => if isLstAt 2 ds = true then bodyD b_weighed_list 5 ds else bodyD b_weighed_tup 5 ds
theorem ok_weighed {f : Addr} {fd : FuncData} (Z : Zs mg) (Z_sum : mg "sum" = none) (B_BadWeighing : ExcC K mg "BadWeighing" (ad "BadWeighing")) (C_check_dials : Cal P w K mg base (L2.CX P w) 4 "check_dials" ["dials"] (SpF ad f_check_dials)) (C_check_several : Cal P w K mg base (L2.CX P w) 5 "check_several" ["dials", "several"] (SpF ad f_check_several)) (C_is_weighed_by : Cal P w K mg base CX0 3 "is_weighed_by" ["dials", "thing"] (SpF ad f_is_weighed_by)) (C_all_places : Cal P w K mg base CX0 1 "all_places" ["dials"] (SpF ad f_all_places)) (F : Fun K "weighed" "weighed" s_weighed f fd) : FnOk P w K mg base (L2.CX P w) 6 f fd ["dials", "weighing", "several"] (SpF ad f_weighed) := by
  have sc : FnScope ["dials", "weighing", "several", "modulus", "weights", "weight_of", "place", "weight"] ["dials", "weighing", "several"] (defScope s_weighed) := ⟨rfl, rfl, rfl, by decide +kernel, rfl, by decide +kernel, by decide +kernel⟩
  refine F.okX sc (fun vs H Q E h => ?_) (fun cdv A outer s H vs Q E hr h => ?_)
  · obtain ⟨G, ds, r, _, hv, e, _⟩ := h
    unfold f_weighed at e
    exact hv.len.trans (guard_len e)
  · obtain ⟨G, ds, r, wf, hv, e, k⟩ := h
    unfold f_weighed at e
    have hu := hu_of hr
    have e2 := guard_get e
    by_cases hb : isLstAt 2 ds = true
    · simp only [hb, if_true, if_false, Bool.false_eq_true] at e2
      refine ⟨_, (pss_cons (ps_expr (pe_cal C_check_dials (hr.mono (by decide)) (passes_call (E := E) (W := fun c d _ H => E c d H) (takes_of rfl rfl rfl rfl) (fun _ _ _ _ h => h)) (pa_cons (pv 0) pa_nil))) (pss_cons (ps_if (pt_not (pt_val (pe_cal C_is_weighed_by (hr.mono (by decide)) pass0 (pa_cons (pv 0) (pa_cons (pv 1) pa_nil))))) (pss_one (ps_raise rfl (takes_of rfl rfl rfl rfl) (pmk_own PySem.F.excBase_ValueError B_BadWeighing.ex B_BadWeighing.g B_BadWeighing.k (raises_own B_BadWeighing.b B_BadWeighing.t) rfl))) pss_nil) (pss_cons (ps_expr (pe_cal C_check_several (hr.mono (by decide)) (passes_call (E := E) (W := fun c d _ H => E c d H) (takes_of rfl rfl rfl rfl) (fun _ _ _ _ h => h)) (pa_cons (pv 0) (pa_cons (pv 2) pa_nil)))) (pss_cons (ps_asg (pv 1) (pg_tup rfl (pgs_cons (pg_name (i := 3) sc.nd rfl (Or.inl rfl)) (pgs_cons (pg_name (i := 4) sc.nd rfl (Or.inl rfl)) pgs_nil)))) (pss_cons (ps_set (i := 5) sc.nd rfl (Or.inr rfl) (pe_fix (pe_dcT (own := [("place", 6), ("weight", 7)]) (g := gTup K 2 (gCons (gName 6) (gCons (gName 7) gNil))) (tt := tYes) hu (by rfl) sc.nd (pi_zip2 true false (by rfl) Z.zip (pa_cons (pe_cal C_all_places (hr.mono (by decide)) pass0 (pa_cons (pv 0) pa_nil)) (pa_cons (pv 4) pa_nil))) (blkOk_by (N := ["dials", "weighing", "several", "modulus", "weights", "weight_of", "place", "weight"]) (sc := defScope s_weighed) (by decide +kernel)) (fun _ _ _ _ _ => (pg_tup rfl (pgs_cons (pg_name (i := 6) sc.nd rfl (Or.inl rfl)) (pgs_cons (pg_name (i := 7) sc.nd rfl (Or.inl rfl)) pgs_nil)))) (fun _ _ _ _ _ => pts_nil) (fun _ _ _ _ _ => (pv 6)) (fun _ _ _ _ _ => (pv 7))))) (pss_one (ps_ret (pe_op op_mod (pe_callB (r := rSum K) (cr_sum (by rfl)) (by rfl) Z_sum (by decide +kernel) (pa_cons (pe_lc (own := [("place", 6)]) (g := gName 6) (tt := tYes) (by rfl) sc.nd (pi_list (pv 2)) (blkOk_by (N := ["dials", "weighing", "several", "modulus", "weights", "weight_of", "place", "weight"]) (sc := defScope s_weighed) (by decide +kernel)) (fun _ _ _ _ _ => (pg_name (i := 6) sc.nd rfl (Or.inl rfl))) (fun _ _ _ _ _ => pts_nil) (fun _ _ _ _ _ => (pe_dget hu (pv 5) (pv 6) (fun _ _ => rfl)))) pa_nil)) (pv 3))))))))), ?_⟩
      exact body_start (k := 3) (n := 5) rfl (hv.len.trans (guard_len e)) (show Ss E ad _ b_weighed_list from (u_seq (u_drop (u_call (u_cons u_var u_nil))) (u_seq (u_ifS (u_tNot (u_tB (u_call0 (u_cons u_var (u_cons u_var u_nil))))) u_raise u_next) (u_seq (u_drop (u_call (u_cons u_var (u_cons u_var u_nil)))) (u_seq (u_asg u_var (g_tup (g_cons g_name (g_cons g_name g_nil)))) (u_seq (u_asg (u_dc (i_zip2 (u_cons (u_call0 (u_cons u_var u_nil)) (u_cons u_var u_nil))) (g_tup (g_cons g_name (g_cons g_name g_nil))) u_yes u_var u_var (by decide)) g_name) (u_ret (u_op os_mod (u_cb cs_sum (u_cons (u_lc (i_list u_var) g_name u_yes (u_dget u_var u_var) (by decide)) u_nil)) u_var)))))))) wf hv e2 k
    · simp only [hb, if_true, if_false, Bool.false_eq_true] at e2
      refine ⟨_, (pss_cons (ps_expr (pe_cal C_check_dials (hr.mono (by decide)) (passes_call (E := E) (W := fun c d _ H => E c d H) (takes_of rfl rfl rfl rfl) (fun _ _ _ _ h => h)) (pa_cons (pv 0) pa_nil))) (pss_cons (ps_if (pt_not (pt_val (pe_cal C_is_weighed_by (hr.mono (by decide)) pass0 (pa_cons (pv 0) (pa_cons (pv 1) pa_nil))))) (pss_one (ps_raise rfl (takes_of rfl rfl rfl rfl) (pmk_own PySem.F.excBase_ValueError B_BadWeighing.ex B_BadWeighing.g B_BadWeighing.k (raises_own B_BadWeighing.b B_BadWeighing.t) rfl))) pss_nil) (pss_cons (ps_expr (pe_cal C_check_several (hr.mono (by decide)) (passes_call (E := E) (W := fun c d _ H => E c d H) (takes_of rfl rfl rfl rfl) (fun _ _ _ _ h => h)) (pa_cons (pv 0) (pa_cons (pv 2) pa_nil)))) (pss_cons (ps_asg (pv 1) (pg_tup rfl (pgs_cons (pg_name (i := 3) sc.nd rfl (Or.inl rfl)) (pgs_cons (pg_name (i := 4) sc.nd rfl (Or.inl rfl)) pgs_nil)))) (pss_cons (ps_set (i := 5) sc.nd rfl (Or.inr rfl) (pe_fix (pe_dcT (own := [("place", 6), ("weight", 7)]) (g := gTup K 2 (gCons (gName 6) (gCons (gName 7) gNil))) (tt := tYes) hu (by rfl) sc.nd (pi_zip2 true false (by rfl) Z.zip (pa_cons (pe_cal C_all_places (hr.mono (by decide)) pass0 (pa_cons (pv 0) pa_nil)) (pa_cons (pv 4) pa_nil))) (blkOk_by (N := ["dials", "weighing", "several", "modulus", "weights", "weight_of", "place", "weight"]) (sc := defScope s_weighed) (by decide +kernel)) (fun _ _ _ _ _ => (pg_tup rfl (pgs_cons (pg_name (i := 6) sc.nd rfl (Or.inl rfl)) (pgs_cons (pg_name (i := 7) sc.nd rfl (Or.inl rfl)) pgs_nil)))) (fun _ _ _ _ _ => pts_nil) (fun _ _ _ _ _ => (pv 6)) (fun _ _ _ _ _ => (pv 7))))) (pss_one (ps_ret (pe_op op_mod (pe_callB (r := rSum K) (cr_sum (by rfl)) (by rfl) Z_sum (by decide +kernel) (pa_cons (pe_lc (own := [("place", 6)]) (g := gName 6) (tt := tYes) (by rfl) sc.nd (pi_tup (pv 2)) (blkOk_by (N := ["dials", "weighing", "several", "modulus", "weights", "weight_of", "place", "weight"]) (sc := defScope s_weighed) (by decide +kernel)) (fun _ _ _ _ _ => (pg_name (i := 6) sc.nd rfl (Or.inl rfl))) (fun _ _ _ _ _ => pts_nil) (fun _ _ _ _ _ => (pe_dget hu (pv 5) (pv 6) (fun _ _ => rfl)))) pa_nil)) (pv 3))))))))), ?_⟩
      exact body_start (k := 3) (n := 5) rfl (hv.len.trans (guard_len e)) (show Ss E ad _ b_weighed_tup from (u_seq (u_drop (u_call (u_cons u_var u_nil))) (u_seq (u_ifS (u_tNot (u_tB (u_call0 (u_cons u_var (u_cons u_var u_nil))))) u_raise u_next) (u_seq (u_drop (u_call (u_cons u_var (u_cons u_var u_nil)))) (u_seq (u_asg u_var (g_tup (g_cons g_name (g_cons g_name g_nil)))) (u_seq (u_asg (u_dc (i_zip2 (u_cons (u_call0 (u_cons u_var u_nil)) (u_cons u_var u_nil))) (g_tup (g_cons g_name (g_cons g_name g_nil))) u_yes u_var u_var (by decide)) g_name) (u_ret (u_op os_mod (u_cb cs_sum (u_cons (u_lc (i_tup u_var) g_name u_yes (u_dget u_var u_var) (by decide)) u_nil)) u_var)))))))) wf hv e2 k
end
end Mv
namespace Mv
open PySem L2 Evl
theorem small_few0 : small 0 = true := rfl
theorem small_few1 : small 1 = true := rfl
theorem small_few2 : small 2 = true := rfl
theorem small_few3 : small 3 = true := rfl
section
variable {n a b : List Int}
theorem few_okd (hn : n ∈ fewD) : OkD n := okB_ok (List.all_eq_true.mp few_ok n hn)
theorem few_pos (hn : n ∈ fewD) : ∀ s ∈ n, 0 < s := fun s hs => by have := (few_okd hn).sz s hs; omega
theorem few_l4 (hn : n ∈ fewD) : n.length ≤ 4 := (few_okd hn).hi
theorem few_l1 (hn : n ∈ fewD) : 1 ≤ n.length := (few_okd hn).lo
theorem few_24 (hn : n ∈ fewD) : (placesOf n).length ≤ 24 := by
  have h1 := (few_okd hn).pl n.length
  rwa [List.take_length] at h1
theorem in_len (hn : n ∈ fewD) {p : List Int} (h : p ∈ placesOf n) : p.length = n.length := (few_inP hn h).len
theorem count_v (hn : n ∈ fewD) : f_place_count [dI n] = some (.val (.int (prod n))) := few_V (f := fun n => f_place_count [dI n]) (g := fun n => .int (prod n)) (by decide +kernel) hn
theorem places_v (hn : n ∈ fewD) : f_all_places [dI n] = some (.val (dL (placesOf n))) := few_V (f := fun n => f_all_places [dI n]) (g := fun n => dL (placesOf n)) (by decide +kernel) hn
theorem chkDials_v (hn : n ∈ fewD) : f_check_dials [dI n] = some (.val .none) := few_V (f := fun n => f_check_dials [dI n]) (g := fun _ => .none) (by decide +kernel) hn
theorem add_go (X Y Z : Ce) : ∀ {n a b : List Int}, a.length = n.length → b.length = n.length → (∀ s ∈ n, 0 < s) →
    lcGo (sTup 3 (sCons (sName 3) (sCons (sName 4) (sCons (sName 5) sNil)))) (fC (.bool true)) (fOp oMod (fOp oAdd (fVar 3) (fVar 4)) (fVar 5)) [X, Y, Z, .un, .un, .un] (zipT3 (a.map .int) (b.map .int) (n.map .int)) = some ((addP n a b).map .int)
  | [], [], [], _, _, _ => rfl
  | s :: n, x :: a, y :: b, h1, h2, h3 => by
    have ih := add_go X Y Z (n := n) (a := a) (b := b) (by simpa using h1) (by simpa using h2) (fun s hs => h3 s (List.mem_cons_of_mem _ hs))
    have hs : 0 < s := h3 s (List.mem_cons_self ..)
    have e : (fOp oMod (fOp oAdd (fVar 3) (fVar 4)) (fVar 5)) [X, Y, Z, .d (.int x), .d (.int y), .d (.int s)] = some (.val (.int ((x + y) % s))) := by
      show (match oIc cMod (fun i j => PyData.int (i % j)) (.int (x + y)) (.int s) with | some z => some (Ou.val z) | none => none) = _
      simp [oIc, cMod, hs]
    simp only [List.map_cons, zipT3, addP]
    unfold lcGo
    show (match (fOp oMod (fOp oAdd (fVar 3) (fVar 4)) (fVar 5)) [X, Y, Z, .d (.int x), .d (.int y), .d (.int s)] with
        | some (.val d) => match lcGo (sTup 3 (sCons (sName 3) (sCons (sName 4) (sCons (sName 5) sNil)))) (fC (.bool true)) (fOp oMod (fOp oAdd (fVar 3) (fVar 4)) (fVar 5)) [X, Y, Z, .un, .un, .un] (zipT3 (a.map .int) (b.map .int) (n.map .int)) with
          | some ds => some (d :: ds)
          | none => none
        | _ => none) = _
    rw [e, ih]
theorem add_R (ds : List D) (z : D) (h : R_add ds z) : f_add ds = some (.val z) := by
  obtain ⟨n, a, b, rfl, h1, h2, h3, h4, rfl⟩ := h
  refine (guard_of rfl).trans (bodyD_rt (fRet_val ?_))
  rw [fCb_one (fLc_of (as := zipT3 (a.map PyData.int) (b.map .int) (n.map .int)) rfl (zipT3_small h3) (add_go _ _ _ h1 h2 h4))]
  rfl
theorem add_v (hn : n ∈ fewD) (h1 : a.length = n.length) (h2 : b.length = n.length) : f_add [dI n, dI a, dI b] = some (.val (dI (addP n a b))) :=
  add_R _ _ ⟨n, a, b, rfl, h1, h2, by have := few_l4 hn; omega, few_pos hn, rfl⟩
theorem MovesOk.inn (hn : n ∈ fewD) {M : Rows} (o : MovesOk n M) {p : List Int} (h : p ∈ M) : p.length = n.length := (o.inp p h).len
theorem number_v (d : D) : f_is_number [d] = some (.val (.bool (isNum d))) := by cases d <;> rfl
theorem between_v (d : D) (lo hi : Int) : f_is_between [d, .int lo, .int hi] = some (.val (.bool (btw lo hi d))) := by
  have h0 := number_v d
  cases d with
  | int i =>
    have e : isNum (.int i) = true := rfl
    simp only [f_is_between, b_is_between, guardN, bodyD, fSeq, fAsg, fAsgM, fApp, fRet, fRetN, fDrop, fIfS, fNext, fRaise, fIf, fAnd, fOr, fNot, fT, bo, bnd, bndA, rB, fCall0, noEx, fCall, fCallP, permL, fCons, fNil, fTup, fLst, lim, fCb, ret, fOp, fUn, fVar, fC, fIsi, fIsiLT, isLT, fChain, fLk, fLkB, fLkM, fRevL, fSet2, fFrz, lockL, lockG, lkC, sName, sTup, sCons, sNil, wipeC, List.map_cons, List.map_nil, List.replicate_succ, List.replicate_zero, List.cons_append, List.nil_append, List.getElem?_cons_zero, List.getElem?_cons_succ, List.set_cons_zero, List.set_cons_succ, List.length_cons, List.length_nil, Nat.beq_refl, Nat.reduceAdd, Nat.reduceLeDiff, Nat.reduceEqDiff, Nat.zero_add, if_true, if_false, Bool.false_eq_true, reduceIte, Bool.not_true, Bool.not_false, small_few0, small_few1, small_few2, small_few3, h0, e, oLe, oI, btw]
    by_cases h1 : lo ≤ i <;> simp [h1]
  | _ => rfl
theorem listed_v (d : D) : f_is_listed [d] = some (.val (.bool (isLT d))) := by cases d <;> rfl
theorem tupleOf_v (d : D) (m : Int) : f_is_tuple_of [d, .int m] = some (.val (.bool (isTup d m))) := by cases d <;> rfl
theorem isPlace_v (hn : n ∈ fewD) (d : D) : f_is_place [dI n, d] = some (.val (.bool (isPlace n d))) := by
  have hl : oLen [dI n] = some (.int (n.length : Nat)) := by show some (PyData.int ((n.map PyData.int).length : Nat)) = _; rw [List.length_map]
  have h0 := tupleOf_v d (n.length : Nat)
  cases d with
  | tuple xs =>
    by_cases hx : xs.length = n.length
    · have e : isTup (.tuple xs) (n.length : Nat) = true := decide_eq_true (by rw [hx])
      have hz : (xs.zip n).length ≤ 1000000 := by rw [List.length_zip]; have := few_l4 hn; omega
      have hp := flc_map (src := iZ2 false false (fCons (fVar 1) (fCons (fVar 0) fNil))) (st := sTup 2 (sCons (sName 2) (sCons (sName 3) sNil))) (ft := fC (.bool true)) (fe := fCall0 f_is_between (fCons (fVar 2) (fCons (fC (.int 0)) (fCons (fOp oSub (fVar 3) (fC (.int 1))) fNil)))) (vs := [2, 3])
        (Γ := [.d (dI n), .d (.tuple xs), .un, .un]) (fun q : D × Int => .tuple [q.1, .int q.2]) (fun q => .bool (btw 0 (q.2 - 1) q.1)) (xs.zip n)
        (by
          show some (Oa.vals (zipT xs (n.map PyData.int))) = _
          have := zipT_map id PyData.int xs n
          rw [List.map_id] at this
          rw [this]; rfl) hz fun q hq => by
          refine ⟨_, rfl, rfl, ?_⟩
          simp only [guardN, bodyD, fSeq, fAsg, fAsgM, fApp, fRet, fRetN, fDrop, fIfS, fNext, fRaise, fIf, fAnd, fOr, fNot, fT, bo, bnd, bndA, rB, fCall0, noEx, fCall, fCallP, permL, fCons, fNil, fTup, fLst, lim, fCb, ret, fOp, fUn, fVar, fC, fIsi, fIsiLT, isLT, fChain, fLk, fLkB, fLkM, fRevL, fSet2, fFrz, lockL, lockG, lkC, sName, sTup, sCons, sNil, wipeC, List.map_cons, List.map_nil, List.replicate_succ, List.replicate_zero, List.cons_append, List.nil_append, List.getElem?_cons_zero, List.getElem?_cons_succ, List.set_cons_zero, List.set_cons_succ, List.length_cons, List.length_nil, Nat.beq_refl, Nat.reduceAdd, Nat.reduceLeDiff, Nat.reduceEqDiff, Nat.zero_add, if_true, if_false, Bool.false_eq_true, reduceIte, Bool.not_true, Bool.not_false, small_few0, small_few1, small_few2, small_few3, oSub, oI, between_v]
      have hb : oAll [.list ((xs.zip n).map fun q => .bool (btw 0 (q.2 - 1) q.1))] = some (.bool ((xs.zip n).all fun q => btw 0 (q.2 - 1) q.1)) := by
        unfold oAll
        have := of_bools ((xs.zip n).map fun q => btw 0 (q.2 - 1) q.1)
        rw [List.map_map] at this
        show (match boolsOf ((xs.zip n).map (PyData.bool ∘ fun q => btw 0 (q.2 - 1) q.1)) with | some bs => some (PyData.bool (bs.all id)) | none => none) = _
        rw [this]
        simp [List.all_map]
      simp only [f_is_place, b_is_place, guardN, bodyD, fSeq, fAsg, fAsgM, fApp, fRet, fRetN, fDrop, fIfS, fNext, fRaise, fIf, fAnd, fOr, fNot, fT, bo, bnd, bndA, rB, fCall0, noEx, fCall, fCallP, permL, fCons, fNil, fTup, fLst, lim, fCb, ret, fOp, fUn, fVar, fC, fIsi, fIsiLT, isLT, fChain, fLk, fLkB, fLkM, fRevL, fSet2, fFrz, lockL, lockG, lkC, sName, sTup, sCons, sNil, wipeC, List.map_cons, List.map_nil, List.replicate_succ, List.replicate_zero, List.cons_append, List.nil_append, List.getElem?_cons_zero, List.getElem?_cons_succ, List.set_cons_zero, List.set_cons_succ, List.length_cons, List.length_nil, Nat.beq_refl, Nat.reduceAdd, Nat.reduceLeDiff, Nat.reduceEqDiff, Nat.zero_add, if_true, if_false, Bool.false_eq_true, reduceIte, Bool.not_true, Bool.not_false, small_few0, small_few1, small_few2, small_few3, hl, h0, e, hp, hb]
      simp [isPlace, hx]
    · have e : isTup (.tuple xs) (n.length : Nat) = false := decide_eq_false (by omega)
      simp only [f_is_place, b_is_place, guardN, bodyD, fSeq, fAsg, fAsgM, fApp, fRet, fRetN, fDrop, fIfS, fNext, fRaise, fIf, fAnd, fOr, fNot, fT, bo, bnd, bndA, rB, fCall0, noEx, fCall, fCallP, permL, fCons, fNil, fTup, fLst, lim, fCb, ret, fOp, fUn, fVar, fC, fIsi, fIsiLT, isLT, fChain, fLk, fLkB, fLkM, fRevL, fSet2, fFrz, lockL, lockG, lkC, sName, sTup, sCons, sNil, wipeC, List.map_cons, List.map_nil, List.replicate_succ, List.replicate_zero, List.cons_append, List.nil_append, List.getElem?_cons_zero, List.getElem?_cons_succ, List.set_cons_zero, List.set_cons_succ, List.length_cons, List.length_nil, Nat.beq_refl, Nat.reduceAdd, Nat.reduceLeDiff, Nat.reduceEqDiff, Nat.zero_add, if_true, if_false, Bool.false_eq_true, reduceIte, Bool.not_true, Bool.not_false, small_few0, small_few1, small_few2, small_few3, hl, h0, e]
      simp [isPlace, hx]
  | _ =>
    simp only [isTup] at h0
    simp only [f_is_place, b_is_place, guardN, bodyD, fSeq, fAsg, fAsgM, fApp, fRet, fRetN, fDrop, fIfS, fNext, fRaise, fIf, fAnd, fOr, fNot, fT, bo, bnd, bndA, rB, fCall0, noEx, fCall, fCallP, permL, fCons, fNil, fTup, fLst, lim, fCb, ret, fOp, fUn, fVar, fC, fIsi, fIsiLT, isLT, fChain, fLk, fLkB, fLkM, fRevL, fSet2, fFrz, lockL, lockG, lkC, sName, sTup, sCons, sNil, wipeC, List.map_cons, List.map_nil, List.replicate_succ, List.replicate_zero, List.cons_append, List.nil_append, List.getElem?_cons_zero, List.getElem?_cons_succ, List.set_cons_zero, List.set_cons_succ, List.length_cons, List.length_nil, Nat.beq_refl, Nat.reduceAdd, Nat.reduceLeDiff, Nat.reduceEqDiff, Nat.zero_add, if_true, if_false, Bool.false_eq_true, reduceIte, Bool.not_true, Bool.not_false, small_few0, small_few1, small_few2, small_few3, hl, h0]
    rfl
end
end Mv
namespace Mv
open PySem L2 Evl
section
variable {n a b : List Int}
theorem all_bools {α : Type} (l : List α) (f : α → Bool) : oAll [.list (l.map fun x => .bool (f x))] = some (.bool (l.all f)) := by
  unfold oAll
  have := of_bools (l.map f)
  rw [List.map_map] at this
  show (match boolsOf (l.map (PyData.bool ∘ f)) with | some bs => some (PyData.bool (bs.all id)) | none => none) = _
  rw [this]
  simp [List.all_map]
theorem cut1 (ds : List D) : cutD ds (some 1) none = ds.tail := by
  cases ds with
  | nil => rfl
  | cons d ds =>
    have := cut_hi (ds := d :: ds) 1 (by simp)
    rw [List.tail_cons]
    exact this
end
end Mv
namespace Mv
open PySem L2 Evl
section
variable {n a b : List Int} {Γ : En} {fa fb fy fd : En → Re} {B : Bg} {p t y m : List Int}
theorem keysI_kI (p : List Int) : keysI (p.map PyData.int) = some (kI p) := by
  have := keysI_map (kI p)
  unfold kI at this
  rw [List.map_map] at this
  exact this
theorem keyOf0_dI (p : List Int) : keyOf0 (dI p) = some (kI p) := keysI_kI p
theorem in_ne {n p : List Int} (hn : n ∈ fewD) (h : p ∈ placesOf n) : p ≠ [] := fun z => by
  have h1 := (few_inP hn h).len
  have h2 := (few_okd hn).lo
  rw [z] at h1
  simp at h1
  omega
theorem inP_ne {n p : List Int} (hn : n ∈ fewD) (h : InP p n) : p ≠ [] := in_ne hn h.mem
theorem keyOf_dI {p : List Int} (ne : p ≠ []) : keyOf (dI p) = some (kI p) := by
  cases p with
  | nil => exact (ne rfl).elim
  | cons x p => exact keysI_kI (x :: p)
end
end Mv
namespace Mv
open PySem L2 Evl
section
variable {n a b : List Int} {M : Rows}
theorem zero_add {p : List Int} (hn : n ∈ fewD) (h : p ∈ placesOf n) : addP n (zeros n) p = p := by
  have : ∀ {n p : List Int}, InP p n → addP n (zeros n) p = p := fun {n p} h => by
    induction h with
    | nil => rfl
    | @cons x s p n h1 h2 _ ih =>
      show ((0 + x) % s) :: addP n (zeros n) p = _
      rw [ih, Int.zero_add, Int.emod_eq_of_lt h1 h2]
  exact this (few_inP hn h)
end
end Mv
namespace Mv
open PySem L2 Evl
abbrev s__law_draw : Stmt := top 31
abbrev s__law_begun : Stmt := top 30
section
variable {P : Program} {w : World} {mg : Str → Option Value} {base : Heap} {K : PySem.W.Frag}
theorem wd_upd {G H H' : Hp} {s l c : Addr} {T T' : Int} (x : Wd G H s l c T) (k : ∀ b o, b ≠ s → b ≠ l → H b = some o → H' b = some o) (st : StAt H' s l c T') : Wd G H' s l c T' ∧ StS [s, l, c] G H G H' := by
  have w' : Ex G H' := fun b o q => k b o (fun z => by rw [z, x.gs] at q; cases q) (fun z => by rw [z, x.gl] at q; cases q) (x.w b o q)
  refine ⟨⟨w', st, x.gs, x.gl, x.gc⟩, ⟨.refl G, fun b o hb q => k b o (fun z => hb (by simp [z])) (fun z => hb (by simp [z])) q, fun b hb q => ?_, w', fun b h _ _ => h⟩⟩
  obtain ⟨⟨o1, e1, m1⟩, ⟨o2, e2, m2⟩, o3, e3, m3⟩ := st.at
  simp only [List.mem_cons, List.not_mem_nil, or_false] at hb
  rcases hb with z | z | z
  · rw [z, e1]; exact ⟨(fun y => nomatch y), fun _ xs y => m1 xs (Option.some.inj y)⟩
  · rw [z, e2]; exact ⟨(fun y => nomatch y), fun _ xs y => m2 xs (Option.some.inj y)⟩
  · rw [z, e3]; exact ⟨(fun y => nomatch y), fun _ xs y => m3 xs (Option.some.inj y)⟩
theorem ok__law_draw {f : Addr} {fd : FuncData} (Z : Zs mg) (F : Fun K "_law_draw" "_law_draw" s__law_draw f fd) : FnOk P w K mg base CX0 1 f fd ["state", "size_here"] SpDraw := by
  have sc : FnScope ["state", "size_here", "found", "turn", "cell", "mixed"] ["state", "size_here"] (defScope s__law_draw) := ⟨rfl, rfl, rfl, by decide +kernel, rfl, by decide +kernel, by decide +kernel⟩
  refine F.ok sc (fun vs H Q E h => ?_) (fun cdv A outer s H vs Q E hr h => ?_)
  · obtain ⟨G, s, l, c, T, n, rfl, _⟩ := h
    rfl
  · obtain ⟨G, s, l, c, T, n, rfl, wd, n1, n2, hT, k⟩ := h
    have hu := hu_of hr
    refine ⟨_, (pss_cons (ps_while PassesOwn.never (PW.pt (pw_and (pt_cmpR op_eq (pe_dget hu (pv 0) pe_str (fun _ _ => rfl)) pe_int (nomark _)) (pw_and1 (pt_cmpR (r := rNeD K) (op_neD hr.units) (pe_dget hu (pv 0) pe_str (fun _ _ => rfl)) (pe_lst pa_nil) (nomark _))))) (pss_one (ps_dput hu (pv 0) pe_str (pe_bm PySem.F.plainAttrs_list PySem.F.slot_list_pop PySem.F.type_list_pop mt_popAt (pe_dget hu (pv 0) pe_str (fun _ _ => rfl)) (pa_cons pe_int pa_nil)) rfl))) (pss_cons (ps_if (pt_cmpR op_gt (pe_dget hu (pv 0) pe_str (fun _ _ => rfl)) pe_int (nomark _)) (pss_cons (ps_set (i := 2) sc.nd rfl (Or.inl rfl) (pe_op op_mod (pe_callTy call_int1 (by rfl) Z.int (by decide +kernel) (pa_cons (pe_dget hu (pv 0) pe_str (fun _ _ => rfl)) pa_nil)) (pv 1))) (pss_cons (ps_dput hu (pv 0) pe_str (pe_op op_fdiv (pe_dget hu (pv 0) pe_str (fun _ _ => rfl)) (pv 1)) rfl) (pss_one (ps_ret (pv 2))))) pss_nil) (pss_cons (ps_set (i := 3) sc.nd rfl (Or.inl rfl) (pe_op op_add (pe_dget hu (pv 0) pe_str (fun _ _ => rfl)) pe_int)) (pss_cons (ps_dput hu (pv 0) pe_str (pv 3) rfl) (pss_cons (ps_set (i := 4) sc.nd rfl (Or.inl rfl) (pe_ifExp (pt_cmpR (r := rNeD K) (op_neD hr.units) (pe_dget hu (pv 0) pe_str (fun _ _ => rfl)) (pe_lst pa_nil) (nomark _)) (pe_ix (r := rIxL K) ix_list (pe_dget hu (pv 0) pe_str (fun _ _ => rfl)) (pe_op op_mod (pe_callTy call_int1 (by rfl) Z.int (by decide +kernel) (pa_cons (pv 3) pa_nil)) (pe_callB (r := rLenA K) call_len_seq (by rfl) Z.len PySem.boot_len (pa_cons (pe_dget hu (pv 0) pe_str (fun _ _ => rfl)) pa_nil))) (fun _ _ => rfl)) pe_int)) (pss_cons (ps_set (i := 5) sc.nd rfl (Or.inl rfl) (pe_op op_mod (pe_callTy call_int1 (by rfl) Z.int (by decide +kernel) (pa_cons (pe_op op_pow (pe_op op_add (pe_op op_add (pe_op op_mod (pe_callTy call_int1 (by rfl) Z.int (by decide +kernel) (pa_cons (pv 4) pa_nil)) pe_int) (pe_op op_mul pe_int (pv 3))) pe_int) pe_int) pa_nil)) pe_int)) (pss_one (ps_ret (pe_op op_mod (pe_callTy call_int1 (by rfl) Z.int (by decide +kernel) (pa_cons (pe_op op_fdiv (pe_op op_mod (pe_callTy call_int1 (by rfl) Z.int (by decide +kernel) (pa_cons (pe_op op_pow (pe_op op_add (pv 5) (pe_op op_mul pe_int (pv 3))) pe_int) pa_nil)) pe_int) pe_int) pa_nil)) (pv 1)))))))))), ?_⟩
    refine q_whileW (fun m σ H' => σ = [some (.ref s), some (.int n), none, none, none, none] ∧ Wd G H' s l c T ∧ StS [s, l, c] G H G H' ∧ ∃ (lg cs : List Int) (left turn : Int), lg.length = m ∧ H' s = some (.dK (stK l c left turn)) ∧ H' l = some (.lst (lg.map V.int)) ∧ H' c = some (.lst (cs.map V.int)) ∧ (∀ x ∈ lg, 0 ≤ x) ∧ (∀ x ∈ cs, 0 ≤ x) ∧ 0 ≤ left ∧ 0 ≤ turn ∧ turn ≤ T)
      (fun σ H' => σ = [some (.ref s), some (.int n), none, none, none, none] ∧ Wd G H' s l c T ∧ StS [s, l, c] G H G H') ?_ ?_ ?_
    · obtain ⟨lg, cs, left, turn, h⟩ := wd.st.ex
      exact ⟨lg.length, rfl, wd, .refl wd.w, lg, cs, left, turn, rfl, h⟩
    · rintro R hR m σ H1 ⟨rfl, wd1, ss1, lg, cs, left, turn, rfl, hs, hl, hc, plg, pcs, pl, pt, ptT⟩
      refine st_get rfl hs (v_left l c left turn) ?_
      refine ⟨rfl, _, rfl, ?_⟩
      refine ite2 (fun h0 => ?_) (fun h0 => ?_)
      · refine st_get rfl hs (v_large l c left turn) ?_
        refine ne_nil hl fun p hp => ⟨_, rfl, ?_⟩
        have e2 : Ex H1 (upd H1 p (.lst [])) := .new hp
        cases lg with
        | nil => exact iteF (hR _ _ ⟨rfl, wd1.stp (.old wd1.w e2), ss1.trans (Stp.old wd1.w e2).toS⟩)
        | cons x lg =>
          refine iteT ⟨fun σ H' => σ = [some (.ref s), some (.int n), none, none, none, none] ∧ Wd G H' s l c T ∧ StS [s, l, c] G H G H' ∧ ∃ (lg' cs : List Int) (left turn : Int), lg'.length = lg.length ∧ H' s = some (.dK (stK l c left turn)) ∧ H' l = some (.lst (lg'.map V.int)) ∧ H' c = some (.lst (cs.map V.int)) ∧ (∀ x ∈ lg', 0 ≤ x) ∧ (∀ x ∈ cs, 0 ≤ x) ∧ 0 ≤ left ∧ 0 ≤ turn ∧ turn ≤ T, ?_, ?_⟩
          · rintro σ' H' ⟨rfl, w1, w2, lg', cs, left, turn, e, h⟩
            exact ⟨lg.length, Nat.lt_succ_self _, rfl, w1, w2, lg', cs, left, turn, e, h⟩
          · refine st_get rfl (e2 _ _ hs) (v_large l c left turn) ?_
            have hl2 := e2 _ _ hl
            refine ⟨.inl ⟨rfl, _, SqL.of hl2⟩, l, (x :: lg).map V.int, 0, 0, .int x, rfl, rfl, hl2, by decide, by decide, (ixN_seq (by unfold ixN; rw [if_pos (by decide), if_pos (by simp)]; rfl)).1, rfl, ?_⟩
            obtain ⟨sl, sc'⟩ := wd1.st.apart
            have hs2 : upd (upd H1 p (.lst [])) l (.lst (((x :: lg).map V.int).eraseIdx 0)) s = some (.dK (stK l c left turn)) := by rw [upd_ne sl]; exact e2 _ _ hs
            refine ⟨.ref s, rfl, s, _, rfl, DPut.k (k := Sum.inr ("left" : Str)) hs2 (by show 4 < sizeLine; decide), ?_⟩
            rw [p_left]
            have px := plg x (List.mem_cons_self ..)
            have plg' : ∀ y ∈ lg, 0 ≤ y := fun y hy => plg y (List.mem_cons_of_mem _ hy)
            have f1 : upd (upd (upd H1 p (.lst [])) l (.lst (((x :: lg).map V.int).eraseIdx 0))) s (.dK (stK l c x turn)) s = some (.dK (stK l c x turn)) := upd_same
            have f2 : upd (upd (upd H1 p (.lst [])) l (.lst (((x :: lg).map V.int).eraseIdx 0))) s (.dK (stK l c x turn)) l = some (.lst (lg.map V.int)) := by rw [upd_ne sl.symm, upd_same]; rfl
            have f3 : upd (upd (upd H1 p (.lst [])) l (.lst (((x :: lg).map V.int).eraseIdx 0))) s (.dK (stK l c x turn)) c = some (.lst (cs.map V.int)) := by rw [upd_ne sc'.symm, upd_ne wd1.st.lc.symm]; exact e2 _ _ hc
            have st' : StAt (upd (upd (upd H1 p (.lst [])) l (.lst (((x :: lg).map V.int).eraseIdx 0))) s (.dK (stK l c x turn))) s l c T := ⟨⟨lg, cs, x, turn, f1, f2, f3, plg', pcs, px, pt, ptT⟩, wd1.st.lc⟩
            obtain ⟨wd3, ss3⟩ := wd_upd (wd1.stp (.old wd1.w e2)) (fun b o h1 h2 q => by rw [upd_ne h1, upd_ne h2]; exact q) st'
            exact ⟨rfl, wd3, (ss1.trans (Stp.old wd1.w e2).toS).trans ss3, lg, cs, x, turn, rfl, f1, f2, f3, plg', pcs, px, pt, ptT⟩
      · exact iteF (hR _ _ ⟨rfl, wd1, ss1⟩)
    rintro σ H2 ⟨rfl, wd2, ss2⟩
    obtain ⟨lg, cs, left, turn, hs, hl, hc, plg, pcs, pl, pt, ptT⟩ := wd2.st.ex
    refine st_get rfl hs (v_left l c left turn) ?_
    refine ⟨left, 0, rfl, rfl, _, rfl, ?_⟩
    obtain ⟨sl, sc'⟩ := wd2.st.apart
    refine ite2 (fun hpos => ?_) (fun hnp => ?_)
    · -- found = left % n; left = left // n; return found
      have hpos : 0 < left := of_decide_eq_true hpos
      refine st_get rfl hs (v_left l c left turn) ?_
      refine .inl ⟨left, rfl, .int n, rfl, left, n, rfl, rfl, n1, ?_⟩
      refine st_get rfl hs (v_left l c left turn) ?_
      refine ⟨.int n, rfl, left, n, rfl, rfl, ⟨n1, n2⟩, .ref s, rfl, s, _, rfl, DPut.k (k := Sum.inr ("left" : Str)) hs (by show 4 < sizeLine; decide), .int (left % n), rfl, ?_⟩
      rw [p_left]
      have st' : StAt (upd H2 s (.dK (stK l c (left / n) turn))) s l c (T + 1) :=
        ⟨⟨lg, cs, left / n, turn, upd_same, by rw [upd_ne sl.symm]; exact hl, by rw [upd_ne sc'.symm]; exact hc, plg, pcs, Int.ediv_nonneg pl (by omega), pt, by omega⟩, wd2.st.lc⟩
      obtain ⟨wd3, ss3⟩ := wd_upd wd2 (fun b o h1 _ q => by rw [upd_ne h1]; exact q) st'
      exact k _ _ (Int.emod_nonneg _ (by omega)) (Int.emod_lt_of_pos _ n1) wd3 (ss2.trans ss3)
    · -- turn = turn + 1; ..
      refine st_get rfl hs (v_turn l c left turn) ?_
      refine ⟨turn, 1, rfl, rfl, .int (turn + 1), rfl, .ref s, rfl, s, _, rfl, DPut.k (k := Sum.inr ("turn" : Str)) hs (by show 4 < sizeLine; decide), ?_⟩
      rw [p_turn]
      have hs3 : upd H2 s (.dK (stK l c left (turn + 1))) s = some (.dK (stK l c left (turn + 1))) := upd_same
      have hc3 : upd H2 s (.dK (stK l c left (turn + 1))) c = some (.lst (cs.map V.int)) := by rw [upd_ne sc'.symm]; exact hc
      have st' : StAt (upd H2 s (.dK (stK l c left (turn + 1)))) s l c (T + 1) :=
        ⟨⟨lg, cs, left, turn + 1, hs3, by rw [upd_ne sl.symm]; exact hl, hc3, plg, pcs, pl, by omega, by omega⟩, wd2.st.lc⟩
      obtain ⟨wd3, ss3⟩ := wd_upd wd2 (fun b o h1 _ q => by rw [upd_ne h1]; exact q) st'
      dsimp only
      refine q_asgW (fun v H4 => ∃ cell, v = .int cell ∧ 0 ≤ cell ∧ Wd G H4 s l c (T + 1) ∧ StS [s, l, c] G H G H4) (fun Q hQ => ?_) ?_
      · refine st_get rfl hs3 (v_cells l c left (turn + 1)) ?_
        refine ne_nil hc3 fun p hp => ⟨_, rfl, ?_⟩
        have e4 : Ex (upd H2 s (.dK (stK l c left (turn + 1)))) (upd (upd H2 s (.dK (stK l c left (turn + 1)))) p (.lst [])) := .new hp
        have wd4 := wd3.stp (.old wd3.w e4)
        have ss4 := (ss2.trans ss3).trans (Stp.old wd3.w e4).toS
        cases hcs : cs with
        | nil => exact iteF (hQ _ _ ⟨0, rfl, Int.le_refl _, wd4, ss4⟩)
        | cons x0 xs0 =>
          refine iteT ?_
          refine st_get rfl (e4 _ _ hs3) (v_cells l c left (turn + 1)) ?_
          refine ⟨.int (turn + 1), rfl, .inl ⟨turn + 1, rfl, ?_⟩⟩
          refine st_get rfl (e4 _ _ hs3) (v_cells l c left (turn + 1)) ?_
          refine ⟨c, cs.map V.int, rfl, .inl (SqL.of (e4 _ _ hc3)), ?_⟩
          have hn : (0 : Int) < ((cs.map V.int).length : Nat) := by rw [hcs]; simp
          refine ⟨turn + 1, _, rfl, rfl, hn, ?_⟩
          have a1 := Int.emod_nonneg (turn + 1) (show (((cs.map V.int).length : Nat) : Int) ≠ 0 by omega)
          have a2 := Int.emod_lt_of_pos (turn + 1) hn
          obtain ⟨j, hj⟩ := Int.eq_ofNat_of_zero_le a1
          rw [hj] at a2
          show rIxL K (V.ref c) (V.int ((turn + 1) % (((cs.map V.int).length : Nat) : Int))) _ Q
          rw [hj]
          have hjl : j < cs.length := by rw [List.length_map] at a2; omega
          have hg : (cs.map V.int)[j]? = some (V.int cs[j]) := by rw [List.getElem?_map, List.getElem?_eq_getElem hjl]; rfl
          exact ⟨c, cs.map V.int, _, _, rfl, rfl, SqL.of (e4 _ _ hc3), atI_nat hg, hQ _ _ ⟨_, rfl, pcs _ (List.getElem_mem hjl), wd4, ss4⟩⟩
      · rintro v H4 ⟨cell, rfl, hcell, wd4, ss4⟩
        have m1 := Int.emod_nonneg cell (show (2147483563 : Int) ≠ 0 by decide)
        have m2 := Int.emod_lt_of_pos cell (show (0 : Int) < 2147483563 by decide)
        refine ⟨.int cell, rfl, .inl ⟨cell, rfl, cell, 2147483563, rfl, rfl, (by show (0 : Int) < 2147483563; decide), .int (turn + 1), rfl, 40692, turn + 1, rfl, rfl, .inl ⟨by decide, by decide⟩, _, _, rfl, rfl, _, 24681, rfl, rfl, _, 3, rfl, rfl, ⟨by decide, by decide, by omega⟩, .inl ⟨_, rfl, _, 2147483629, rfl, rfl, (by show (0 : Int) < 2147483629; decide), ?_⟩⟩⟩
        have m3 := Int.emod_nonneg ((cell % 2147483563 + 40692 * (turn + 1) + 24681) ^ (3 : Int).toNat) (show (2147483629 : Int) ≠ 0 by decide)
        have m4 := Int.emod_lt_of_pos ((cell % 2147483563 + 40692 * (turn + 1) + 24681) ^ (3 : Int).toNat) (show (0 : Int) < 2147483629 by decide)
        obtain ⟨mixed, hm⟩ : ∃ m, m = (cell % 2147483563 + 40692 * (turn + 1) + 24681) ^ (3 : Int).toNat % 2147483629 := ⟨_, rfl⟩
        rw [← hm] at m3 m4
        refine ⟨.int mixed, (by rw [hm]; rfl), .int (turn + 1), rfl, 104917, turn + 1, rfl, rfl, .inl ⟨by decide, by decide⟩, _, _, rfl, rfl, _, 5, rfl, rfl, ⟨by decide, by decide, by omega⟩, .inl ⟨_, rfl, _, 2147483579, rfl, rfl, (by show (0 : Int) < 2147483579; decide), _, 29, rfl, rfl, ⟨by decide, by decide⟩, .inl ⟨_, rfl, .int n, rfl, _, n, rfl, rfl, n1, ?_⟩⟩⟩
        exact k _ _ (Int.emod_nonneg _ (by omega)) (Int.emod_lt_of_pos _ n1) wd4 ss4
end
theorem given_ints (n : Nat) (f : Nat → Bool) (g : Nat → Int) : given n f (fun i => .int (g i)) = (((List.range n).filter f).map g).map V.int := by
  unfold given
  rw [List.map_map]; rfl
theorem merge_st (l c : Addr) (x y : Int) : mergeK [] (stK l c x y) = stK l c x y := by
  unfold mergeK stK
  simp only [List.foldl]
  rw [putK_new _ valV_nil, List.nil_append, putK_new _ (show valV [(Sum.inr ("large" : Str), V.ref l)] (Sum.inr ("cells" : Str)) = none by rw [valV_neg ne1]; exact valV_nil)]
  simp only [List.cons_append, List.nil_append]
  rw [putK_new _ (show valV [(Sum.inr ("large" : Str), V.ref l), (Sum.inr ("cells" : Str), V.ref c)] (Sum.inr ("left" : Str)) = none by rw [valV_neg ne2, valV_neg ne4]; exact valV_nil)]
  simp only [List.cons_append, List.nil_append]
  rw [putK_new _ (show valV [(Sum.inr ("large" : Str), V.ref l), (Sum.inr ("cells" : Str), V.ref c), (Sum.inr ("left" : Str), V.int x)] (Sum.inr ("turn" : Str)) = none by rw [valV_neg ne3, valV_neg ne5, valV_neg ne6]; exact valV_nil)]
  rfl
section
variable {P : Program} {w : World} {mg : Str → Option Value} {base : Heap} {K : PySem.W.Frag}
theorem ok__law_begun {f : Addr} {fd : FuncData} (Z : Zs mg) (F : Fun K "_law_begun" "_law_begun" s__law_begun f fd) : FnOk P w K mg base CX0 1 f fd ["script"] (SpBegun K) := by
  have sc : FnScope ["script", "cells_here", "cell", "large"] ["script"] (defScope s__law_begun) := ⟨rfl, rfl, rfl, by decide +kernel, rfl, by decide +kernel, by decide +kernel⟩
  refine F.ok sc (fun vs H Q E h => ?_) (fun cdv A outer s H vs Q E hr h => ?_)
  · obtain ⟨G, a, ns, rfl, _⟩ := h
    rfl
  · obtain ⟨G, a, ns, rfl, wf, hS, hlen, k⟩ := h
    refine ⟨_, (pss_cons (ps_setLc (i := 1) (own := [("cell", 2)]) (g := gName 2) (tt := tYes) (by rfl) sc.nd rfl rfl (sw_true rfl rfl rfl (by decide +kernel)) (pi_list (pv 0)) (blkOk_by (N := ["script", "cells_here", "cell", "large"]) (sc := defScope s__law_begun) (by decide +kernel)) (fun _ _ _ _ _ => (pg_name (i := 2) sc.nd rfl (Or.inl rfl))) (fun _ _ _ _ _ => pts_nil) (fun _ _ _ _ _ => (pe_callB call_abs (by rfl) Z.abs (by decide +kernel) (pa_cons (pv 2) pa_nil)))) (pss_cons (ps_setLc (i := 3) (own := [("cell", 2)]) (g := gName 2) (tt := _) (by rfl) sc.nd rfl rfl (sw_true rfl rfl rfl (by decide +kernel)) (pi_list (pv 1)) (blkOk_by (N := ["script", "cells_here", "cell", "large"]) (sc := defScope s__law_begun) (by decide +kernel)) (fun _ _ _ _ _ => (pg_name (i := 2) sc.nd rfl (Or.inl rfl))) (fun _ _ _ _ _ => (pts_one (pt_cmpR op_ge (pv 2) (pe_op op_pow pe_int pe_int) (nomark _)))) (fun _ _ _ _ _ => (pe_op op_sub (pv 2) (pe_op op_pow pe_int pe_int)))) (pss_one (ps_ret (pe_disp (pps_cons pe_str (pv 3) (pps_cons pe_str (pv 1) (pps_cons pe_str pe_int (pps_cons pe_str pe_int pps_nil)))) (by rfl) (by rfl) (fun z => by cases z) (by decide)))))), ?_⟩
    have gi : ∀ {i : Nat} {x : V}, (ns.map V.int)[i]? = some x → x = .int (ns.getD i 0) := by
      intro i x hx
      rw [List.getElem?_map] at hx
      obtain ⟨y, hy, rfl⟩ := Option.map_eq_some_iff.mp hx
      (rw [List.getD_eq_getElem?_getD, hy]); rfl
    refine Evl.q_asgL (Evl.el_lcL (xs := ns.map V.int) (fun _ => true) (fun i => .int (if ns.getD i 0 < 0 then -(ns.getD i 0) else ns.getD i 0)) (Evl.ev_var rfl) hS (by rw [List.length_map]; omega) (fun _ => rfl) (fun i x H1 _ _ => fun H2 e Q q => q H2 (.refl H2)) (fun i x H1 _ hx _ => ?_)) fun c H1 hc0 e1 hc => ?_
    · rw [gi hx]
      exact fun H2 e Q q => ⟨_, rfl, _, rfl, q H2 (.refl H2)⟩
    rw [given_ints] at hc
    have hcs : ∀ x ∈ ((List.range (ns.map V.int).length).filter (fun _ => true)).map (fun i => if ns.getD i 0 < 0 then -(ns.getD i 0) else ns.getD i 0), 0 ≤ x := by
      intro x hx
      obtain ⟨i, _, rfl⟩ := List.mem_map.mp hx
      split <;> omega
    have hcl : (((List.range (ns.map V.int).length).filter (fun _ => true)).map (fun i => if ns.getD i 0 < 0 then -(ns.getD i 0) else ns.getD i 0)).length ≤ 1000 := by
      rw [List.length_map]
      refine Nat.le_trans (List.length_filter_le _ _) ?_
      rw [List.length_range, List.length_map]; exact hlen
    generalize ((List.range (ns.map V.int).length).filter (fun _ => true)).map (fun i => if ns.getD i 0 < 0 then -(ns.getD i 0) else ns.getD i 0) = cs at hc hcs hcl
    have gc : ∀ {i : Nat} {x : V}, (cs.map V.int)[i]? = some x → x = .int (cs.getD i 0) := by
      intro i x hx
      rw [List.getElem?_map] at hx
      obtain ⟨y, hy, rfl⟩ := Option.map_eq_some_iff.mp hx
      (rw [List.getD_eq_getElem?_getD, hy]); rfl
    refine Evl.q_asgL (Evl.el_lcL (xs := cs.map V.int) (fun i => decide (10 ^ 18 ≤ cs.getD i 0)) (fun i => .int (cs.getD i 0 - 10 ^ 18)) (Evl.ev_var rfl) (SqL.of hc) (by rw [List.length_map]; omega) (fun _ => rfl) (fun i x H2 _ hx => ?_) (fun i x H2 _ hx _ => ?_)) fun l H2 hl0 e2 hl => ?_
    · rw [gc hx]
      exact fun H3 e Q q => ⟨_, rfl, 10, 18, rfl, rfl, ⟨by decide, by decide, by decide⟩, cs.getD i 0, 10 ^ 18, rfl, rfl, _, rfl, q H3 (.refl H3)⟩
    · rw [gc hx]
      exact fun H3 e Q q => ⟨_, rfl, 10, 18, rfl, rfl, ⟨by decide, by decide, by decide⟩, cs.getD i 0, 10 ^ 18, rfl, rfl, q H3 (.refl H3)⟩
    rw [given_ints] at hl
    have hls : ∀ x ∈ ((List.range (cs.map V.int).length).filter (fun i => decide (10 ^ 18 ≤ cs.getD i 0))).map (fun i => cs.getD i 0 - 10 ^ 18), 0 ≤ x := by
      intro x hx
      obtain ⟨i, hi, rfl⟩ := List.mem_map.mp hx
      have := of_decide_eq_true (List.mem_filter.mp hi).2
      omega
    generalize ((List.range (cs.map V.int).length).filter (fun i => decide (10 ^ 18 ≤ cs.getD i 0))).map (fun i => cs.getD i 0 - 10 ^ 18) = lg at hl hls
    intro p hp
    have e3 : Ex H2 (upd H2 p (.dK [])) := .new hp
    refine ⟨.ref l, rfl, .ref c, rfl, upd_same, stK l c 0 0, rfl, by show 4 ≤ 15; decide, ?_⟩
    rw [merge_st]
    have hl3 : upd (upd H2 p (.dK [])) p (.dK (stK l c 0 0)) l = some (.lst (lg.map V.int)) := by
      rw [upd_ne (ne_of_none hl hp), upd_ne (ne_of_none hl hp)]; exact hl
    have hc2 : H2 c = some (.lst (cs.map V.int)) := e2 _ _ hc
    have hc3 : upd (upd H2 p (.dK [])) p (.dK (stK l c 0 0)) c = some (.lst (cs.map V.int)) := by
      rw [upd_ne (ne_of_none hc2 hp), upd_ne (ne_of_none hc2 hp)]; exact hc2
    have lc : l ≠ c := fun z => by rw [z] at hl0; rw [hc] at hl0; cases hl0
    have e4 : Ex H (upd (upd H2 p (.dK [])) p (.dK (stK l c 0 0))) := fun b o q => by
      have q2 := e2 _ _ (e1 _ _ q)
      rw [upd_ne (ne_of_none q2 hp), upd_ne (ne_of_none q2 hp)]; exact q2
    exact k p l c _ ⟨wf.trans e4, ⟨⟨lg, cs, 0, 0, upd_same, hl3, hc3, hls, hcs, Int.le_refl _, Int.le_refl _, Int.le_refl _⟩, lc⟩, fresh_back (wf.trans (e1.trans e2)) hp, fresh_back (wf.trans e1) hl0, fresh_back wf hc0⟩ e4
end
abbrev s__law_mixed : Stmt := top 33
section
variable {P : Program} {w : World} {mg : Str → Option Value} {base : Heap} {K : PySem.W.Frag}
theorem ok__law_mixed {f : Addr} {fd : FuncData} (Z : Zs mg) (C__law_draw : Cal P w K mg base CX0 1 "_law_draw" ["state", "size_here"] SpDraw) (F : Fun K "_law_mixed" "_law_mixed" s__law_mixed f fd) : FnOk P w K mg base CX0 2 f fd ["state", "several"] (SpMixK K) := by
  have sc : FnScope ["state", "several", "left", "found"] ["state", "several"] (defScope s__law_mixed) := ⟨rfl, rfl, rfl, by decide +kernel, rfl, by decide +kernel, by decide +kernel⟩
  refine F.ok sc (fun vs H Q E h => ?_) (fun cdv A outer s0 H vs Q E hr h => ?_)
  · obtain ⟨G, s, l, c, T, v1, as, k0, rfl, _⟩ := h
    rfl
  · obtain ⟨G, s, l, c, T, v1, as, k0, rfl, hv, hsh, hfl, hlen, wd, hT, k⟩ := h
    refine ⟨_, (pss_cons (ps_par (i := 2) (j := 3) (by rfl) sc.nd rfl rfl (by decide) rfl rfl (pa_cons (pe_callTy (r := rListOf K) call_list_of (by rfl) Z.list (by decide +kernel) (pa_cons (pv 1) pa_nil)) (pa_cons (pe_lst pa_nil) pa_nil)) (by rfl)) (pss_cons (ps_while PassesOwn.never (pt_cmpR (r := rNeD K) (op_neD hr.units) (pv 2) (pe_lst pa_nil) (nomark _)) (pss_one (ps_expr (pe_bm PySem.F.plainAttrs_list PySem.F.slot_list_append PySem.F.type_list_append mt_append (pv 3) (pa_cons (pe_bm PySem.F.plainAttrs_list PySem.F.slot_list_pop PySem.F.type_list_pop mt_popAt (pv 2) (pa_cons (pe_cal C__law_draw (hr.mono (by decide)) pass0 (pa_cons (pv 0) (pa_cons (pe_callB (r := rLenA K) call_len_seq (by rfl) Z.len PySem.boot_len (pa_cons (pv 2) pa_nil)) pa_nil))) pa_nil)) pa_nil))))) (pss_one (ps_ret (pv 3))))), ?_⟩
    obtain ⟨a, xs, rfl, hxs, qa⟩ := sq_at (K := K) hv
    ·
      have n0 := hxs.len
      refine ⟨.ref a, rfl, a, xs, rfl, (show SqL K H a xs ∨ SqT K H a xs from by cases k0 with | true => exact .inl (qa H wd.w) | false => exact .inr (qa H wd.w)), fun p hp => ⟨Nat.zero_le _, fun q hq => ⟨.ref p, .ref q, rfl, ?_⟩⟩⟩
      have hpq : p ≠ q := fun z => by rw [← z, upd_same] at hq; cases hq
      have hq0 : H q = none := by rw [upd_ne hpq.symm] at hq; exact hq
      have gp : G p = none := fresh_back wd.w hp
      have gq : G q = none := fresh_back wd.w hq0
      obtain ⟨⟨o1, e1, _⟩, ⟨o2, e2, _⟩, o3, e3, _⟩ := wd.st.at
      have ps : p ≠ s ∧ p ≠ l ∧ p ≠ c := ⟨(ne_of_none e1 hp).symm, (ne_of_none e2 hp).symm, (ne_of_none e3 hp).symm⟩
      have qs : q ≠ s ∧ q ≠ l ∧ q ≠ c := ⟨(ne_of_none e1 hq0).symm, (ne_of_none e2 hq0).symm, (ne_of_none e3 hq0).symm⟩
      refine q_whileW (fun m σ H' => σ = [some (.ref s), some (.ref a), some (.ref p), some (.ref q)] ∧ StS [s, l, c] G H G H' ∧ ∃ (us ws : List V) (bs cs : List D), H' p = some (.lst us) ∧ H' q = some (.lst ws) ∧ DqA G us bs ∧ DqA G ws cs ∧ (∀ b ∈ bs, b ∈ as) ∧ (∀ b ∈ cs, b ∈ as) ∧ bs.length = m ∧ bs.length + cs.length = as.length ∧ (bs ++ cs).Perm as ∧ Wd G H' s l c (T + (cs.length : Int)))
        (fun σ H' => σ = [some (.ref s), some (.ref a), some (.ref p), some (.ref q)] ∧ StS [s, l, c] G H G H' ∧ ∃ (ws : List V) (cs : List D), H' q = some (.lst ws) ∧ DqA G ws cs ∧ (∀ b ∈ cs, b ∈ as) ∧ cs.length = as.length ∧ cs.Perm as ∧ Wd G H' s l c (T + (cs.length : Int))) ?_ ?_ ?_
      · refine ⟨as.length, rfl, ((StS.refl wd.w).mut hp gp).mut hq0 gq, xs, [], as, [], by rw [upd_ne hpq, upd_same], upd_same, hxs, .nil, fun _ h => h, fun _ h => absurd h (List.not_mem_nil), rfl, rfl, by rw [List.append_nil], ?_⟩
        have := (wd.mut (o := .lst xs) gp ps.1 ps.2.1 ps.2.2).mut (o := .lst []) gq qs.1 qs.2.1 qs.2.2
        simpa using this
      · rintro R hR m σ H1 ⟨rfl, ss, us, ws, bs, cs, hp1, hq1, hu, hw, sb, sc', rfl, hn, hpm, wd1⟩
        refine ⟨.ref p, rfl, ne_nilD hp1 wd1.w hu (flat_sub hfl sb) (shaped_sub hsh sb) fun t ht => ⟨_, rfl, ?_⟩⟩
        have e2 : Ex H1 (upd H1 t (.lst [])) := .new ht
        have wd2 := wd1.stp (Stp.old wd1.w e2)
        have ss2 := ss.trans (Stp.old wd1.w e2).toS
        have hp2 := e2 _ _ hp1
        have hq2 := e2 _ _ hq1
        cases bs with
        | nil => exact iteF (hR _ _ ⟨rfl, ss2, ws, cs, hq2, hw, sc', by simpa using hn, by simpa using hpm, wd2⟩)
        | cons b0 bs =>
          refine iteT ⟨fun σ H' => σ = [some (.ref s), some (.ref a), some (.ref p), some (.ref q)] ∧ StS [s, l, c] G H G H' ∧ ∃ (us ws : List V) (bs' cs : List D), H' p = some (.lst us) ∧ H' q = some (.lst ws) ∧ DqA G us bs' ∧ DqA G ws cs ∧ (∀ b ∈ bs', b ∈ as) ∧ (∀ b ∈ cs, b ∈ as) ∧ bs'.length = bs.length ∧ bs'.length + cs.length = as.length ∧ (bs' ++ cs).Perm as ∧ Wd G H' s l c (T + (cs.length : Int)), ?_, ?_⟩
          · rintro σ' H' ⟨rfl, w1, us', ws', bs', cs', f1, f2, f3, f4, f5, f6, f7, f8, f9⟩
            exact ⟨bs.length, Nat.lt_succ_self _, rfl, w1, us', ws', bs', cs', f1, f2, f3, f4, f5, f6, f7, f8, f9⟩
          · have hul := hu.len
            rw [List.length_cons] at hul hn
            refine ⟨.ref q, rfl, .inl ⟨rfl, _, SqL.of hq2⟩, .ref p, rfl, .inl ⟨rfl, _, SqL.of hp2⟩, .ref s, rfl, .ref p, rfl, p, us, rfl, .inl (SqL.of hp2), G, s, l, c, _, (us.length : Nat), rfl, wd2, by omega, by omega, by omega, fun r H3 r1 r2 wd3 ss3 => ?_⟩
            obtain ⟨j, rfl⟩ := Int.eq_ofNat_of_zero_le r1
            have hj : j < us.length := by omega
            have hx : us[j]? = some us[j] := List.getElem?_eq_getElem hj
            obtain ⟨d, hd, hdq⟩ := hu.get hx
            have hp3 := ss3.h p _ (by simp [ps.1, ps.2.1, ps.2.2]) hp2
            have hq3 := ss3.h q _ (by simp [qs.1, qs.2.1, qs.2.2]) hq2
            have hwl := hw.len
            refine ⟨p, us, (j : Int), j, _, rfl, rfl, hp3, by omega, by omega, (ixN_seq (by unfold ixN; rw [if_pos (by omega), if_pos (by omega)]; rfl)).1, hx, ?_⟩
            refine ⟨q, ws, _, rfl, rfl, by rw [upd_ne hpq.symm]; exact hq3, by rw [sizeLine_eq]; omega, ?_⟩
            have gdel : ∀ {vs : List V} {ds : List D} (j : Nat), DqA G vs ds → DqA G (vs.eraseIdx j) (ds.eraseIdx j) := fun j h => by
              rw [List.eraseIdx_eq_take_drop_succ, List.eraseIdx_eq_take_drop_succ]
              exact (h.take j).app (h.drop (j + 1))
            have jd : j < (b0 :: bs).length := by rw [List.length_cons]; omega
            have dl : ((b0 :: bs).eraseIdx j).length = bs.length := by rw [List.length_eraseIdx_of_lt jd]; rfl
            refine ⟨rfl, ((ss2.trans ss3).mut hp gp).mut hq0 gq, us.eraseIdx j, ws ++ [us[j]], (b0 :: bs).eraseIdx j, cs ++ [d], by rw [upd_ne hpq, upd_same], upd_same, gdel j hu, hw.snoc hdq, fun b hb => sb b (List.mem_of_mem_eraseIdx hb), fun b hb => ?_, dl, by rw [dl, List.length_append]; show _ + (_ + 1) = _; omega, ?pm, ?_⟩
            case pm =>
              have e1 : (b0 :: bs).eraseIdx j ++ (cs ++ [d]) = ((b0 :: bs).eraseIdx j ++ cs) ++ [d] := (List.append_assoc _ _ _).symm
              rw [e1]
              exact (List.perm_append_comm (l₁ := (b0 :: bs).eraseIdx j ++ cs) (l₂ := [d])).trans (((erase_perm hd).append_right cs).trans hpm)
            · rcases List.mem_append.mp hb with h | h
              · exact sc' b h
              · rw [List.mem_singleton.mp h]; exact sb d (List.mem_of_getElem? hd)
            · have := (wd3.mut (o := .lst (us.eraseIdx j)) gp ps.1 ps.2.1 ps.2.2).mut (o := .lst (ws ++ [us[j]])) gq qs.1 qs.2.1 qs.2.2
              have e : T + (((cs ++ [d]).length : Nat) : Int) = T + (cs.length : Int) + 1 := by rw [List.length_append]; show T + ((cs.length + 1 : Nat) : Int) = _; omega
              rw [e]; exact this
      · rintro σ H2 ⟨rfl, ss, ws, cs, hq2, hw, sc', hn, hpm, wd2⟩
        have s3 : StS [s, l, c] G H (upd G q (.lst ws)) H2 := by
          refine ⟨.new gq, ss.h, ss.k, fun b o q' => ?_, fun b h1 h2 _ => ?_⟩
          · by_cases e : b = q
            · rw [e, upd_same] at q'; rw [e, ← q']; exact hq2
            · rw [upd_ne e] at q'; exact wd2.w b o q'
          · rw [upd_ne (fun z => h2 (by rw [z]; exact hq0))]; exact h1
        refine ⟨.ref q, rfl, k _ cs (upd G q (.lst ws)) H2 sc' hn hpm ?_ s3 (.lst upd_same (hw.mono (.new gq)))⟩
        rw [hn] at wd2
        exact ⟨s3.w, wd2.st, by rw [upd_ne qs.1.symm]; exact wd2.gs, by rw [upd_ne qs.2.1.symm]; exact wd2.gl, by rw [upd_ne qs.2.2.symm]; exact wd2.gc⟩
end
end Mv
namespace Mv
open PySem L2 Evl LamX
abbrev s__law_caught : Stmt := top 34
theorem caught_gives {X : Cx} {g CS : Addr} {cdg : Value} {q : Str} (hm : X.mg "MoveError" = some (.ref CS)) : GivesTo X ["work", "caught", "error"] "_law_caught" (defScope s__law_caught) g cdg (defBody s__law_caught) "work" q (TTc X.K CS) := by
  intro f c' s H Q tl act hc h
  have nd : (["work", "caught", "error"] : List Str).Nodup := by decide +kernel
  refine ⟨_, pss_cons (ps_set (i := 1) nd rfl (Or.inl rfl) pe_non) (pss_cons (ps_try_keep (i := 2) (X := (cxOf C8.CX0 X.prog X.w X.K X.mg X.base ["work", "caught", "error"] "_law_caught" (defScope s__law_caught) g cdg X.A X.stack s H C8.E0).nox) (c := .ref CS)
      (tb := fun W D σ H => ∃ Ech : XK, (∀ cls d σ' H', Ech cls d H' → σ'.length = 3 → W cls d σ' H') ∧ σ[0]? = some (some (.ref f)) ∧ H c' = some (CodeO c' q) ∧ tl Ech H fun _ H1 => D.nx σ H1)
      (ts := fun _ _ _ => tAsg (tVar 2) (gName 1)) rfl rfl rfl nd rfl rfl ⟨rfl, rfl, .inl hm⟩ LamX.takes0 (fun W pn xe tk _ => ?_) (fun a oe cls d pn _ _ => pss_one (ps_set (i := 1) nd rfl (Or.inl rfl) (pv 2)))) (pss_one (ps_ret (pv 1)))), ?_⟩
  · refine (⟨fun pins s' σ H' D I h' => ?_⟩)
    obtain ⟨Ech, hW, h1, h2, h3⟩ := (h')
    have hp := fun p1 p2 => act _ pn xe Ech p1 p2 (takes_len tk) (fun cls d σ' H' h hl => hW cls d σ' H' h hl)
    exact (pss_one (ps_expr (hp _ _))).run pins s' σ H' D I ⟨h1, h2, h3⟩
  · refine ⟨fun cls d H' => ∃ b, PySem.W.exmOne X.K cls (.ref CS) = some b ∧ (b = true → ∀ a, H' a = none → Q (.ref a) (upd H' a (CauO cls d a))) ∧ (b = false → False), fun cls d σ' H' ⟨b, e1, e2, e3⟩ hl => ⟨b, e1, fun hb a ha => ?_, fun hb => e3 hb⟩, rfl, hc, ?_⟩
    · match σ', hl with
      | [x, y, z], _ => exact ⟨.ref a, rfl, .ref a, rfl, e2 hb a ha⟩
    · have e : ∀ (Ech : XK), tl Ech H (fun _ H' => Q .non H') → tl Ech H (fun _ H1 => ∃ v, ([some (.ref f), some .non, none] : L2.St)[1]? = some (some v) ∧ Q v H1) := fun Ech h => by
        have e : (fun (_ : V) (H1 : Hp) => ∃ v, ([some (.ref f), some .non, none] : L2.St)[1]? = some (some v) ∧ Q v H1) = fun _ H' => Q .non H' := by
          funext _ H1
          exact propext ⟨fun ⟨v, h1, h2⟩ => by cases h1; exact h2, fun h => ⟨_, rfl, h⟩⟩
        rw [e]; exact h
      exact e _ h
section
variable {P : Program} {w : World} {K : PySem.W.Frag} {mg : Str → Option Value} {base : Heap} {ad : Str → Addr} {TL : List (Addr × Str)}
abbrev s__law_pick : Stmt := top 32
def F__law_pick : WS := (wRet (wOp oIxL (pw (fVar 1)) (wDraw W__law_draw (wCons (pw (fCb oLen (fCons (fVar 1) fNil))) wNil))))
def W__law_pick : List D → Int → (D → Int → Prop) → Prop := bodyW F__law_pick 1 0
theorem ok__law_pick {f : Addr} {fd : FuncData} (Z : Zs mg) (C__law_draw : Cal P w K mg base CX0 1 "_law_draw" ["state", "size_here"] (SpW TL W__law_draw)) (F : Fun K "_law_pick" "_law_pick" s__law_pick f fd) : FnOk P w K mg base CX0 2 f fd ["state", "several"] (SpW TL W__law_pick) := by
  have sc : FnScope ["state", "several"] ["state", "several"] (defScope s__law_pick) := ⟨rfl, rfl, rfl, by decide +kernel, rfl, by decide +kernel, by decide +kernel⟩
  refine F.ok sc (fun vs H Q E h => ?_) (fun cdv A outer s0 H vs Q E hr h => ?_)
  · obtain ⟨G, s, l, c, T, vs2, ds, post, rfl, hv, _, _, _, hb, _⟩ := h
    rw [List.length_cons, hv.len, hb.1]; rfl
  · obtain ⟨G, s, l, c, T, vs2, ds, post, rfl, hv, wd, nt, tb, hb, k⟩ := h
    refine ⟨_, (pss_one (ps_ret (pe_ix (r := rIxL K) ix_list (pv 1) (pe_cal C__law_draw (hr.mono (by decide)) pass0 (pa_cons (pv 0) (pa_cons (pe_callB (r := rLenA K) call_len_seq (by rfl) Z.len PySem.boot_len (pa_cons (pv 1) pa_nil)) pa_nil))) (fun _ _ => rfl)))), ?_⟩
    exact startW (k := 1) (n := 0) rfl (show Sws (X0 TL) _ F__law_pick from (w_ret (w_op os_ixL (w_pure (E := fun _ _ _ => False) (ad := fun _ => 0) u_var) (w_draw (w_cons (w_pure (E := fun _ _ _ => False) (ad := fun _ => 0) (u_cb cs_len (u_cons u_var u_nil))) w_nil))))) hv wd nt tb hb k
abbrev s__law_is_whole : Stmt := top 35
def b__law_is_whole : En → Rf := (fRet (fAnd (fIsi "int" (fVar 0)) (fNot (fIsi "bool" (fVar 0)))))
def f__law_is_whole : List D → Re := guardN 1 (bodyD b__law_is_whole 0)
theorem ok__law_is_whole {f : Addr} {fd : FuncData} (Z : Zs mg) (F : Fun K "_law_is_whole" "_law_is_whole" s__law_is_whole f fd) : FnOk P w K mg base CX0 1 f fd ["item"] (SpF ad f__law_is_whole) := by
  have sc : FnScope ["item"] ["item"] (defScope s__law_is_whole) := ⟨rfl, rfl, rfl, by decide +kernel, rfl, by decide +kernel, by decide +kernel⟩
  refine F.ok sc (fun vs H Q E h => ?_) (fun cdv A outer s H vs Q E hr h => ?_)
  · obtain ⟨G, ds, r, _, hv, e, _⟩ := h
    unfold f__law_is_whole at e
    exact hv.len.trans (guard_len e)
  · obtain ⟨G, ds, r, wf, hv, e, k⟩ := h
    unfold f__law_is_whole at e
    refine ⟨_, (pss_one (ps_ret (pe_and (pe_callB (r := rIsiY K) call_isiY (by rfl) Z.isinstance (by decide +kernel) (pa_cons (pv 0) (pa_cons (pe_bltn (v := .ty "int") (u := .type "int") (by rfl) Z.int (by decide +kernel) rfl) pa_nil))) (pe_one (pe_not (pe_callB (r := rIsiY K) call_isiY (by rfl) Z.isinstance (by decide +kernel) (pa_cons (pv 0) (pa_cons (pe_bltn (v := .ty "bool") (u := .type "bool") (by rfl) Z.bool (by decide +kernel) rfl) pa_nil)))))))), ?_⟩
    exact body_start (k := 1) (n := 0) rfl (hv.len.trans (guard_len e)) (show Ss E ad _ b__law_is_whole from (u_ret (u_and (u_isi (c := "int") (by decide) u_var) (u_not (u_isi (c := "bool") (by decide) u_var))))) wf hv (guard_get e) k
abbrev s__law_odd : Stmt := top 36
def F__law_odd : WS := (wRet (wDraw W__law_pick (wCons (pw (fLst (fCons (fC .none) (fCons (fC (.bool true)) (fCons (fC (.bool false)) (fCons (fC (.str "0")) (fCons (fC (.str "")) (fCons (fLst fNil) (fCons (fC (.dict [(.none, .none)])) (fCons (fTup (fCons (fC .none) fNil)) (fCons (fTup (fCons (fC (.str "a")) (fCons (fC (.int 1)) fNil))) (fCons (fLst (fCons (fLst (fCons (fC (.int 0)) fNil)) fNil)) (fCons (fC (.dict [(.none, .none)])) (fCons (fTup (fCons (fC (.bool true)) fNil)) (fCons (fC (.int 5)) (fCons (fUn oNeg (fC (.int 1))) fNil)))))))))))))))) wNil)))
def W__law_odd : List D → Int → (D → Int → Prop) → Prop := bodyW F__law_odd 0 0
theorem ok__law_odd {f : Addr} {fd : FuncData} (C__law_pick : Cal P w K mg base CX0 2 "_law_pick" ["state", "several"] (SpW TL W__law_pick)) (F : Fun K "_law_odd" "_law_odd" s__law_odd f fd) : FnOk P w K mg base CX0 3 f fd ["state"] (SpW TL W__law_odd) := by
  have sc : FnScope ["state"] ["state"] (defScope s__law_odd) := ⟨rfl, rfl, rfl, by decide +kernel, rfl, by decide +kernel, by decide +kernel⟩
  refine F.ok sc (fun vs H Q E h => ?_) (fun cdv A outer s0 H vs Q E hr h => ?_)
  · obtain ⟨G, s, l, c, T, vs2, ds, post, rfl, hv, _, _, _, hb, _⟩ := h
    rw [List.length_cons, hv.len, hb.1]; rfl
  · obtain ⟨G, s, l, c, T, vs2, ds, post, rfl, hv, wd, nt, tb, hb, k⟩ := h
    refine ⟨_, (pss_one (ps_ret (pe_cal C__law_pick (hr.mono (by decide)) pass0 (pa_cons (pv 0) (pa_cons (pe_lst (pa_cons pe_non (pa_cons pe_bl (pa_cons pe_bl (pa_cons pe_str (pa_cons pe_str (pa_cons (pe_lst pa_nil) (pa_cons pe_dnewK (pa_cons (pe_tup (pa_cons pe_non pa_nil)) (pa_cons (pe_tup (pa_cons pe_str (pa_cons pe_int pa_nil))) (pa_cons (pe_lst (pa_cons (pe_lst (pa_cons pe_int pa_nil)) pa_nil)) (pa_cons (pe_disp (pps_cons pe_int pe_int pps_nil) (by rfl) (by rfl) (fun z => by cases z) (by decide)) (pa_cons (pe_tup (pa_cons pe_bl pa_nil)) (pa_cons pe_int (pa_cons (pe_un un_neg pe_int) pa_nil))))))))))))))) pa_nil))))), ?_⟩
    exact startW (k := 0) (n := 0) rfl (show Sws (X0 TL) _ F__law_odd from (w_ret (w_draw (w_cons (w_pure (E := fun _ _ _ => False) (ad := fun _ => 0) (u_lst (u_cons (u_c fun _ => .non) (u_cons (u_c fun _ => .bl true) (u_cons (u_c fun _ => .bl false) (u_cons (u_c fun _ => .str "0") (u_cons (u_c fun _ => .str "") (u_cons (u_lst u_nil) (u_cons u_emp (u_cons (u_tup (u_cons (u_c fun _ => .non) u_nil)) (u_cons (u_tup (u_cons (u_c fun _ => .str "a") (u_cons (u_c fun _ => .int 1) u_nil))) (u_cons (u_lst (u_cons (u_lst (u_cons (u_c fun _ => .int 0) u_nil)) u_nil)) (u_cons u_dispI (u_cons (u_tup (u_cons (u_c fun _ => .bl true) u_nil)) (u_cons (u_c fun _ => .int 5) (u_cons (u_un us_neg (u_c fun _ => .int 1)) u_nil)))))))))))))))) w_nil)))) hv wd nt tb hb k
abbrev s__law_count : Stmt := top 37
def b__law_count : En → Rf := (fSeq (fAsg (fC (.int 1)) (sName 1)) (fSeq (fFor (iT (fVar 0)) (sName 2) (fAsg (fOp oMul (fVar 1) (fVar 2)) (sName 1))) (fRet (fVar 1))))
def f__law_count : List D → Re := guardN 1 (bodyD b__law_count 2)
theorem ok__law_count {f : Addr} {fd : FuncData}  (F : Fun K "_law_count" "_law_count" s__law_count f fd) : FnOk P w K mg base CX0 1 f fd ["dials_here"] (SpF ad f__law_count) := by
  have sc : FnScope ["dials_here", "found", "size_here"] ["dials_here"] (defScope s__law_count) := ⟨rfl, rfl, rfl, by decide +kernel, rfl, by decide +kernel, by decide +kernel⟩
  refine F.ok sc (fun vs H Q E h => ?_) (fun cdv A outer s H vs Q E hr h => ?_)
  · obtain ⟨G, ds, r, _, hv, e, _⟩ := h
    unfold f__law_count at e
    exact hv.len.trans (guard_len e)
  · obtain ⟨G, ds, r, wf, hv, e, k⟩ := h
    unfold f__law_count at e
    refine ⟨_, (pss_cons (ps_set (i := 1) sc.nd rfl (Or.inl rfl) pe_int) (pss_cons (ps_for PassesOwn.never rfl (pi_tup (pv 0)) (pg_name (i := 2) sc.nd rfl (Or.inl rfl)) (pss_one (ps_set (i := 1) sc.nd rfl (Or.inl rfl) (pe_op op_mul (pv 1) (pv 2))))) (pss_one (ps_ret (pv 1))))), ?_⟩
    exact body_start (k := 1) (n := 2) rfl (hv.len.trans (guard_len e)) (show Ss E ad _ b__law_count from (u_seq (u_asg (u_c fun _ => .int 1) g_name) (u_seq (u_for (i_tup u_var) g_name (u_asg (u_op os_mul u_var u_var) g_name)) (u_ret u_var)))) wf hv (guard_get e) k
abbrev s__law_dials : Stmt := top 38
def F__law_dials : WS := (wSeq (pws 0 (fAsg (fLst (fCons (fTup (fCons (fC (.int 2)) fNil)) (fCons (fTup (fCons (fC (.int 3)) fNil)) (fCons (fTup (fCons (fC (.int 4)) fNil)) (fCons (fTup (fCons (fC (.int 2)) (fCons (fC (.int 2)) fNil))) (fCons (fTup (fCons (fC (.int 5)) fNil)) (fCons (fTup (fCons (fC (.int 6)) fNil)) (fCons (fTup (fCons (fC (.int 2)) (fCons (fC (.int 3)) fNil))) (fCons (fTup (fCons (fC (.int 7)) fNil)) (fCons (fTup (fCons (fC (.int 8)) fNil)) (fCons (fTup (fCons (fC (.int 2)) (fCons (fC (.int 4)) fNil))) (fCons (fTup (fCons (fC (.int 2)) (fCons (fC (.int 2)) (fCons (fC (.int 2)) fNil)))) (fCons (fTup (fCons (fC (.int 9)) fNil)) (fCons (fTup (fCons (fC (.int 3)) (fCons (fC (.int 3)) fNil))) (fCons (fTup (fCons (fC (.int 10)) fNil)) (fCons (fTup (fCons (fC (.int 11)) fNil)) (fCons (fTup (fCons (fC (.int 12)) fNil)) fNil))))))))))))))))) (sName 2))) (wSeq (pws 0 (fAsg (fOp oCat (fVar 2) (fLst (fCons (fTup (fCons (fC (.int 2)) (fCons (fC (.int 6)) fNil))) (fCons (fTup (fCons (fC (.int 3)) (fCons (fC (.int 4)) fNil))) (fCons (fTup (fCons (fC (.int 13)) fNil)) (fCons (fTup (fCons (fC (.int 14)) fNil)) (fCons (fTup (fCons (fC (.int 15)) fNil)) (fCons (fTup (fCons (fC (.int 3)) (fCons (fC (.int 5)) fNil))) (fCons (fTup (fCons (fC (.int 16)) fNil)) (fCons (fTup (fCons (fC (.int 4)) (fCons (fC (.int 4)) fNil))) (fCons (fTup (fCons (fC (.int 2)) (fCons (fC (.int 8)) fNil))) (fCons (fTup (fCons (fC (.int 2)) (fCons (fC (.int 2)) (fCons (fC (.int 4)) fNil)))) (fCons (fTup (fCons (fC (.int 2)) (fCons (fC (.int 2)) (fCons (fC (.int 2)) (fCons (fC (.int 2)) fNil))))) (fCons (fTup (fCons (fC (.int 17)) fNil)) (fCons (fTup (fCons (fC (.int 18)) fNil)) (fCons (fTup (fCons (fC (.int 3)) (fCons (fC (.int 6)) fNil))) fNil)))))))))))))))) (sName 2))) (wSeq (pws 0 (fAsg (fOp oCat (fVar 2) (fLst (fCons (fTup (fCons (fC (.int 19)) fNil)) (fCons (fTup (fCons (fC (.int 20)) fNil)) (fCons (fTup (fCons (fC (.int 2)) (fCons (fC (.int 10)) fNil))) (fCons (fTup (fCons (fC (.int 21)) fNil)) (fCons (fTup (fCons (fC (.int 22)) fNil)) (fCons (fTup (fCons (fC (.int 23)) fNil)) (fCons (fTup (fCons (fC (.int 24)) fNil)) (fCons (fTup (fCons (fC (.int 2)) (fCons (fC (.int 12)) fNil))) (fCons (fTup (fCons (fC (.int 4)) (fCons (fC (.int 6)) fNil))) (fCons (fTup (fCons (fC (.int 2)) (fCons (fC (.int 2)) (fCons (fC (.int 6)) fNil)))) (fCons (fTup (fCons (fC (.int 2)) (fCons (fC (.int 2)) (fCons (fC (.int 2)) (fCons (fC (.int 3)) fNil))))) fNil))))))))))))) (sName 2))) (wRet (wDraw W__law_pick (wCons (pw (fLc (iL (fVar 2)) (sName 3) (fT (fOp oLe (fCall0 f__law_count (fCons (fVar 3) fNil)) (fVar 1))) (fVar 3) [3])) wNil))))))
def W__law_dials : List D → Int → (D → Int → Prop) → Prop := bodyW F__law_dials 1 2
theorem ok__law_dials {f : Addr} {fd : FuncData} (C__law_pick : Cal P w K mg base CX0 2 "_law_pick" ["state", "several"] (SpW TL W__law_pick)) (C__law_count : Cal P w K mg base CX0 1 "_law_count" ["dials_here"] (SpF ad f__law_count)) (F : Fun K "_law_dials" "_law_dials" s__law_dials f fd) : FnOk P w K mg base CX0 3 f fd ["state", "most"] (SpW TL W__law_dials) := by
  have sc : FnScope ["state", "most", "some", "dials_here"] ["state", "most"] (defScope s__law_dials) := ⟨rfl, rfl, rfl, by decide +kernel, rfl, by decide +kernel, by decide +kernel⟩
  refine F.ok sc (fun vs H Q E h => ?_) (fun cdv A outer s0 H vs Q E hr h => ?_)
  · obtain ⟨G, s, l, c, T, vs2, ds, post, rfl, hv, _, _, _, hb, _⟩ := h
    rw [List.length_cons, hv.len, hb.1]; rfl
  · obtain ⟨G, s, l, c, T, vs2, ds, post, rfl, hv, wd, nt, tb, hb, k⟩ := h
    refine ⟨_, (pss_cons (ps_set (i := 2) sc.nd rfl (Or.inl rfl) (pe_lst (pa_cons (pe_tup (pa_cons pe_int pa_nil)) (pa_cons (pe_tup (pa_cons pe_int pa_nil)) (pa_cons (pe_tup (pa_cons pe_int pa_nil)) (pa_cons (pe_tup (pa_cons pe_int (pa_cons pe_int pa_nil))) (pa_cons (pe_tup (pa_cons pe_int pa_nil)) (pa_cons (pe_tup (pa_cons pe_int pa_nil)) (pa_cons (pe_tup (pa_cons pe_int (pa_cons pe_int pa_nil))) (pa_cons (pe_tup (pa_cons pe_int pa_nil)) (pa_cons (pe_tup (pa_cons pe_int pa_nil)) (pa_cons (pe_tup (pa_cons pe_int (pa_cons pe_int pa_nil))) (pa_cons (pe_tup (pa_cons pe_int (pa_cons pe_int (pa_cons pe_int pa_nil)))) (pa_cons (pe_tup (pa_cons pe_int pa_nil)) (pa_cons (pe_tup (pa_cons pe_int (pa_cons pe_int pa_nil))) (pa_cons (pe_tup (pa_cons pe_int pa_nil)) (pa_cons (pe_tup (pa_cons pe_int pa_nil)) (pa_cons (pe_tup (pa_cons pe_int pa_nil)) pa_nil)))))))))))))))))) (pss_cons (ps_set (i := 2) sc.nd rfl (Or.inl rfl) (pe_op op_cat (pv 2) (pe_lst (pa_cons (pe_tup (pa_cons pe_int (pa_cons pe_int pa_nil))) (pa_cons (pe_tup (pa_cons pe_int (pa_cons pe_int pa_nil))) (pa_cons (pe_tup (pa_cons pe_int pa_nil)) (pa_cons (pe_tup (pa_cons pe_int pa_nil)) (pa_cons (pe_tup (pa_cons pe_int pa_nil)) (pa_cons (pe_tup (pa_cons pe_int (pa_cons pe_int pa_nil))) (pa_cons (pe_tup (pa_cons pe_int pa_nil)) (pa_cons (pe_tup (pa_cons pe_int (pa_cons pe_int pa_nil))) (pa_cons (pe_tup (pa_cons pe_int (pa_cons pe_int pa_nil))) (pa_cons (pe_tup (pa_cons pe_int (pa_cons pe_int (pa_cons pe_int pa_nil)))) (pa_cons (pe_tup (pa_cons pe_int (pa_cons pe_int (pa_cons pe_int (pa_cons pe_int pa_nil))))) (pa_cons (pe_tup (pa_cons pe_int pa_nil)) (pa_cons (pe_tup (pa_cons pe_int pa_nil)) (pa_cons (pe_tup (pa_cons pe_int (pa_cons pe_int pa_nil))) pa_nil))))))))))))))))) (pss_cons (ps_set (i := 2) sc.nd rfl (Or.inl rfl) (pe_op op_cat (pv 2) (pe_lst (pa_cons (pe_tup (pa_cons pe_int pa_nil)) (pa_cons (pe_tup (pa_cons pe_int pa_nil)) (pa_cons (pe_tup (pa_cons pe_int (pa_cons pe_int pa_nil))) (pa_cons (pe_tup (pa_cons pe_int pa_nil)) (pa_cons (pe_tup (pa_cons pe_int pa_nil)) (pa_cons (pe_tup (pa_cons pe_int pa_nil)) (pa_cons (pe_tup (pa_cons pe_int pa_nil)) (pa_cons (pe_tup (pa_cons pe_int (pa_cons pe_int pa_nil))) (pa_cons (pe_tup (pa_cons pe_int (pa_cons pe_int pa_nil))) (pa_cons (pe_tup (pa_cons pe_int (pa_cons pe_int (pa_cons pe_int pa_nil)))) (pa_cons (pe_tup (pa_cons pe_int (pa_cons pe_int (pa_cons pe_int (pa_cons pe_int pa_nil))))) pa_nil)))))))))))))) (pss_one (ps_ret (pe_cal C__law_pick (hr.mono (by decide)) pass0 (pa_cons (pv 0) (pa_cons (pe_lc (own := [("dials_here", 3)]) (g := gName 3) (tt := _) (by rfl) sc.nd (pi_list (pv 2)) (blkOk_by (N := ["state", "most", "some", "dials_here"]) (sc := defScope s__law_dials) (by decide +kernel)) (fun _ _ _ _ _ => (pg_name (i := 3) sc.nd rfl (Or.inl rfl))) (fun _ _ _ _ _ => (pts_one (pt_cmpR op_le (pe_cal C__law_count (hr.mono (by decide)) pass0 (pa_cons (pv 3) pa_nil)) (pv 1) (nomark _)))) (fun _ _ _ _ _ => (pv 3))) pa_nil)))))))), ?_⟩
    exact startW (k := 1) (n := 2) rfl (show Sws (X0 TL) _ F__law_dials from (w_seq (w_stmt (E := fun _ _ _ => False) (ad := ad) (u_asg (u_lst (u_cons (u_tup (u_cons (u_c fun _ => .int 2) u_nil)) (u_cons (u_tup (u_cons (u_c fun _ => .int 3) u_nil)) (u_cons (u_tup (u_cons (u_c fun _ => .int 4) u_nil)) (u_cons (u_tup (u_cons (u_c fun _ => .int 2) (u_cons (u_c fun _ => .int 2) u_nil))) (u_cons (u_tup (u_cons (u_c fun _ => .int 5) u_nil)) (u_cons (u_tup (u_cons (u_c fun _ => .int 6) u_nil)) (u_cons (u_tup (u_cons (u_c fun _ => .int 2) (u_cons (u_c fun _ => .int 3) u_nil))) (u_cons (u_tup (u_cons (u_c fun _ => .int 7) u_nil)) (u_cons (u_tup (u_cons (u_c fun _ => .int 8) u_nil)) (u_cons (u_tup (u_cons (u_c fun _ => .int 2) (u_cons (u_c fun _ => .int 4) u_nil))) (u_cons (u_tup (u_cons (u_c fun _ => .int 2) (u_cons (u_c fun _ => .int 2) (u_cons (u_c fun _ => .int 2) u_nil)))) (u_cons (u_tup (u_cons (u_c fun _ => .int 9) u_nil)) (u_cons (u_tup (u_cons (u_c fun _ => .int 3) (u_cons (u_c fun _ => .int 3) u_nil))) (u_cons (u_tup (u_cons (u_c fun _ => .int 10) u_nil)) (u_cons (u_tup (u_cons (u_c fun _ => .int 11) u_nil)) (u_cons (u_tup (u_cons (u_c fun _ => .int 12) u_nil)) u_nil))))))))))))))))) g_name)) (w_seq (w_stmt (E := fun _ _ _ => False) (ad := ad) (u_asg (u_op os_cat u_var (u_lst (u_cons (u_tup (u_cons (u_c fun _ => .int 2) (u_cons (u_c fun _ => .int 6) u_nil))) (u_cons (u_tup (u_cons (u_c fun _ => .int 3) (u_cons (u_c fun _ => .int 4) u_nil))) (u_cons (u_tup (u_cons (u_c fun _ => .int 13) u_nil)) (u_cons (u_tup (u_cons (u_c fun _ => .int 14) u_nil)) (u_cons (u_tup (u_cons (u_c fun _ => .int 15) u_nil)) (u_cons (u_tup (u_cons (u_c fun _ => .int 3) (u_cons (u_c fun _ => .int 5) u_nil))) (u_cons (u_tup (u_cons (u_c fun _ => .int 16) u_nil)) (u_cons (u_tup (u_cons (u_c fun _ => .int 4) (u_cons (u_c fun _ => .int 4) u_nil))) (u_cons (u_tup (u_cons (u_c fun _ => .int 2) (u_cons (u_c fun _ => .int 8) u_nil))) (u_cons (u_tup (u_cons (u_c fun _ => .int 2) (u_cons (u_c fun _ => .int 2) (u_cons (u_c fun _ => .int 4) u_nil)))) (u_cons (u_tup (u_cons (u_c fun _ => .int 2) (u_cons (u_c fun _ => .int 2) (u_cons (u_c fun _ => .int 2) (u_cons (u_c fun _ => .int 2) u_nil))))) (u_cons (u_tup (u_cons (u_c fun _ => .int 17) u_nil)) (u_cons (u_tup (u_cons (u_c fun _ => .int 18) u_nil)) (u_cons (u_tup (u_cons (u_c fun _ => .int 3) (u_cons (u_c fun _ => .int 6) u_nil))) u_nil)))))))))))))))) g_name)) (w_seq (w_stmt (E := fun _ _ _ => False) (ad := ad) (u_asg (u_op os_cat u_var (u_lst (u_cons (u_tup (u_cons (u_c fun _ => .int 19) u_nil)) (u_cons (u_tup (u_cons (u_c fun _ => .int 20) u_nil)) (u_cons (u_tup (u_cons (u_c fun _ => .int 2) (u_cons (u_c fun _ => .int 10) u_nil))) (u_cons (u_tup (u_cons (u_c fun _ => .int 21) u_nil)) (u_cons (u_tup (u_cons (u_c fun _ => .int 22) u_nil)) (u_cons (u_tup (u_cons (u_c fun _ => .int 23) u_nil)) (u_cons (u_tup (u_cons (u_c fun _ => .int 24) u_nil)) (u_cons (u_tup (u_cons (u_c fun _ => .int 2) (u_cons (u_c fun _ => .int 12) u_nil))) (u_cons (u_tup (u_cons (u_c fun _ => .int 4) (u_cons (u_c fun _ => .int 6) u_nil))) (u_cons (u_tup (u_cons (u_c fun _ => .int 2) (u_cons (u_c fun _ => .int 2) (u_cons (u_c fun _ => .int 6) u_nil)))) (u_cons (u_tup (u_cons (u_c fun _ => .int 2) (u_cons (u_c fun _ => .int 2) (u_cons (u_c fun _ => .int 2) (u_cons (u_c fun _ => .int 3) u_nil))))) u_nil))))))))))))) g_name)) (w_ret (w_draw (w_cons (w_pure (E := fun _ _ _ => False) (ad := ad) (u_lc (i_list u_var) g_name (u_test (u_op os_le (u_call0 (u_cons u_var u_nil)) u_var)) u_var (by decide))) w_nil))))))) hv wd nt tb hb k
abbrev s__law_places : Stmt := top 39
def b__law_places : En → Rf := (fSeq (fAsg (fLst (fCons (fTup fNil) fNil)) (sName 1)) (fSeq (fFor (iT (fVar 0)) (sName 2) (fSeq (fAsg (fLst fNil) (sName 3)) (fSeq (fFor (iL (fVar 1)) (sName 4) (fAsg (fOp oCat (fVar 3) (fLc (iR1 (fCons (fVar 2) fNil)) (sName 5) (fC (.bool true)) (fOp oCatT (fVar 4) (fTup (fCons (fVar 5) fNil))) [5])) (sName 3))) (fAsg (fVar 3) (sName 1))))) (fRet (fVar 1))))
def f__law_places : List D → Re := guardN 1 (bodyD b__law_places 5)
theorem ok__law_places {f : Addr} {fd : FuncData} (Z : Zs mg) (F : Fun K "_law_places" "_law_places" s__law_places f fd) : FnOk P w K mg base CX0 1 f fd ["dials_here"] (SpF ad f__law_places) := by
  have sc : FnScope ["dials_here", "found", "size_here", "more", "row", "item"] ["dials_here"] (defScope s__law_places) := ⟨rfl, rfl, rfl, by decide +kernel, rfl, by decide +kernel, by decide +kernel⟩
  refine F.ok sc (fun vs H Q E h => ?_) (fun cdv A outer s H vs Q E hr h => ?_)
  · obtain ⟨G, ds, r, _, hv, e, _⟩ := h
    unfold f__law_places at e
    exact hv.len.trans (guard_len e)
  · obtain ⟨G, ds, r, wf, hv, e, k⟩ := h
    unfold f__law_places at e
    refine ⟨_, (pss_cons (ps_set (i := 1) sc.nd rfl (Or.inl rfl) (pe_lst (pa_cons (pe_tup pa_nil) pa_nil))) (pss_cons (ps_for PassesOwn.never rfl (pi_tup (pv 0)) (pg_name (i := 2) sc.nd rfl (Or.inl rfl)) (pss_cons (ps_set (i := 3) sc.nd rfl (Or.inl rfl) (pe_lst pa_nil)) (pss_cons (ps_for PassesOwn.never rfl (pi_list (pv 1)) (pg_name (i := 4) sc.nd rfl (Or.inr rfl)) (pss_one (ps_set (i := 3) sc.nd rfl (Or.inl rfl) (pe_op op_cat (pv 3) (pe_lc (own := [("item", 5)]) (g := gName 5) (tt := tYes) (by rfl) sc.nd (pi_range1 (by rfl) Z.range (pa_cons (pv 2) pa_nil)) (blkOk_by (N := ["dials_here", "found", "size_here", "more", "row", "item"]) (sc := defScope s__law_places) (by decide +kernel)) (fun _ _ _ _ _ => (pg_name (i := 5) sc.nd rfl (Or.inl rfl))) (fun _ _ _ _ _ => pts_nil) (fun _ _ _ _ _ => (pe_op (r := rCatA K) op_catA (pv 4) (pe_tup (pa_cons (pv 5) pa_nil))))))))) (pss_one (ps_set (i := 1) sc.nd rfl (Or.inl rfl) (pv 3)))))) (pss_one (ps_ret (pv 1))))), ?_⟩
    exact body_start (k := 1) (n := 5) rfl (hv.len.trans (guard_len e)) (show Ss E ad _ b__law_places from (u_seq (u_asg (u_lst (u_cons (u_tup u_nil) u_nil)) g_name) (u_seq (u_for (i_tup u_var) g_name (u_seq (u_asg (u_lst u_nil) g_name) (u_seq (u_for (i_list u_var) g_name (u_asg (u_op os_cat u_var (u_lc (i_rng1 (u_cons u_var u_nil)) g_name u_yes (u_op os_catT u_var (u_tup (u_cons u_var u_nil))) (by decide))) g_name)) (u_asg u_var g_name)))) (u_ret u_var)))) wf hv (guard_get e) k
abbrev s__law_plus : Stmt := top 40
def b__law_plus : En → Rf := (fRet (fCb oTuple (fCons (fLc (iZ3 false false false (fCons (fVar 1) (fCons (fVar 2) (fCons (fVar 0) fNil)))) (sTup 3 (sCons (sName 3) (sCons (sName 4) (sCons (sName 5) sNil)))) (fC (.bool true)) (fOp oMod (fCb oInt (fCons (fOp oAdd (fVar 3) (fVar 4)) fNil)) (fVar 5)) [3, 4, 5]) fNil)))
def f__law_plus : List D → Re := guardN 3 (bodyD b__law_plus 3)
theorem ok__law_plus {f : Addr} {fd : FuncData} (Z : Zs mg) (F : Fun K "_law_plus" "_law_plus" s__law_plus f fd) : FnOk P w K mg base CX0 1 f fd ["dials_here", "one", "other"] (SpF ad f__law_plus) := by
  have sc : FnScope ["dials_here", "one", "other", "here", "there", "size_here"] ["dials_here", "one", "other"] (defScope s__law_plus) := ⟨rfl, rfl, rfl, by decide +kernel, rfl, by decide +kernel, by decide +kernel⟩
  refine F.ok sc (fun vs H Q E h => ?_) (fun cdv A outer s H vs Q E hr h => ?_)
  · obtain ⟨G, ds, r, _, hv, e, _⟩ := h
    unfold f__law_plus at e
    exact hv.len.trans (guard_len e)
  · obtain ⟨G, ds, r, wf, hv, e, k⟩ := h
    unfold f__law_plus at e
    refine ⟨_, (pss_one (ps_ret (pe_callTy (r := rTupOf K) call_tuple_of (by rfl) Z.tuple (by decide +kernel) (pa_cons (pe_lc (own := [("here", 3), ("there", 4), ("size_here", 5)]) (g := gTup K 3 (gCons (gName 3) (gCons (gName 4) (gCons (gName 5) gNil)))) (tt := tYes) (by rfl) sc.nd (pi_zip3 false false false (by rfl) Z.zip (pa_cons (pv 1) (pa_cons (pv 2) (pa_cons (pv 0) pa_nil)))) (blkOk_by (N := ["dials_here", "one", "other", "here", "there", "size_here"]) (sc := defScope s__law_plus) (by decide +kernel)) (fun _ _ _ _ _ => (pg_tup rfl (pgs_cons (pg_name (i := 3) sc.nd rfl (Or.inl rfl)) (pgs_cons (pg_name (i := 4) sc.nd rfl (Or.inl rfl)) (pgs_cons (pg_name (i := 5) sc.nd rfl (Or.inl rfl)) pgs_nil))))) (fun _ _ _ _ _ => pts_nil) (fun _ _ _ _ _ => (pe_op op_mod (pe_callTy call_int1 (by rfl) Z.int (by decide +kernel) (pa_cons (pe_op op_add (pv 3) (pv 4)) pa_nil)) (pv 5)))) pa_nil)))), ?_⟩
    exact body_start (k := 3) (n := 3) rfl (hv.len.trans (guard_len e)) (show Ss E ad _ b__law_plus from (u_ret (u_cb cs_tuple (u_cons (u_lc (i_zip3 (u_cons u_var (u_cons u_var (u_cons u_var u_nil)))) (g_tup (g_cons g_name (g_cons g_name (g_cons g_name g_nil)))) u_yes (u_op os_mod (u_cb cs_int (u_cons (u_op os_add u_var u_var) u_nil)) u_var) (by decide)) u_nil)))) wf hv (guard_get e) k
abbrev s__law_place : Stmt := top 41
def F__law_place : WS := (wRet (wCb oTuple (wCons (wLc (iT (fVar 1)) (sName 2) (pwb (fC (.bool true))) (wDraw W__law_draw (wCons (pw (fVar 2)) wNil)) [2]) wNil)))
def W__law_place : List D → Int → (D → Int → Prop) → Prop := bodyW F__law_place 1 1
theorem ok__law_place {f : Addr} {fd : FuncData} (Z : Zs mg) (C__law_draw : Cal P w K mg base CX0 1 "_law_draw" ["state", "size_here"] (SpW TL W__law_draw)) (F : Fun K "_law_place" "_law_place" s__law_place f fd) : FnOk P w K mg base CX0 2 f fd ["state", "dials_here"] (SpW TL W__law_place) := by
  have sc : FnScope ["state", "dials_here", "size_here"] ["state", "dials_here"] (defScope s__law_place) := ⟨rfl, rfl, rfl, by decide +kernel, rfl, by decide +kernel, by decide +kernel⟩
  refine F.ok sc (fun vs H Q E h => ?_) (fun cdv A outer s0 H vs Q E hr h => ?_)
  · obtain ⟨G, s, l, c, T, vs2, ds, post, rfl, hv, _, _, _, hb, _⟩ := h
    rw [List.length_cons, hv.len, hb.1]; rfl
  · obtain ⟨G, s, l, c, T, vs2, ds, post, rfl, hv, wd, nt, tb, hb, k⟩ := h
    refine ⟨_, (pss_one (ps_ret (pe_callTy (r := rTupOf K) call_tuple_of (by rfl) Z.tuple (by decide +kernel) (pa_cons (pe_lc (own := [("size_here", 2)]) (g := gName 2) (tt := tYes) (by rfl) sc.nd (pi_tup (pv 1)) (blkOk_by (N := ["state", "dials_here", "size_here"]) (sc := defScope s__law_place) (by decide +kernel)) (fun _ _ _ _ _ => (pg_name (i := 2) sc.nd rfl (Or.inl rfl))) (fun _ _ _ _ _ => pts_nil) (fun _ _ _ _ _ => (pe_cal C__law_draw (hr.mono (by decide)) pass0 (pa_cons (pv 0) (pa_cons (pv 2) pa_nil))))) pa_nil)))), ?_⟩
    exact startW (k := 1) (n := 1) rfl (show Sws (X0 TL) _ F__law_place from (w_ret (w_cb cs_tuple (w_cons (w_lc (E := fun _ _ _ => False) (ad := fun _ => 0) (i_tup u_var) g_name (w_pureb (E := fun _ _ _ => False) (ad := fun _ => 0) u_yes) (w_draw (w_cons (w_pure (E := fun _ _ _ => False) (ad := fun _ => 0) u_var) w_nil)) (by decide) (show (0 : Nat) ∉ _ from by decide)) w_nil)))) hv wd nt tb hb k
abbrev s__law_bool_place : Stmt := top 42
def F__law_bool_place : WS := (wSeq (pws 0 (fAsg (fLc (iEn false (fCons (fVar 1) fNil)) (sTup 2 (sCons (sName 3) (sCons (sName 4) sNil))) (fT (fOp oLt (fVar 4) (fC (.int 2)))) (fVar 3) [3, 4]) (sName 2))) (wSeq (pws 0 (fIfS (fT (fOp oEq (fVar 2) (fLst fNil))) (fRet (fSl false (fVar 1) pNone (pSome (fUn oNeg (fC (.int 1)))))) fNext)) (wSeq (wAsg (wDraw W__law_pick (wCons (pw (fVar 2)) wNil)) (sName 3)) (pws 0 (fRet (fOp oCatT (fOp oCatT (fSl false (fVar 1) pNone (pSome (fVar 3))) (fTup (fCons (fOp oEqA (fOp oIxT (fVar 1) (fVar 3)) (fC (.int 1))) fNil))) (fSl false (fVar 1) (pSome (fOp oAdd (fVar 3) (fC (.int 1)))) pNone)))))))
def W__law_bool_place : List D → Int → (D → Int → Prop) → Prop := bodyW F__law_bool_place 1 3
theorem ok__law_bool_place {f : Addr} {fd : FuncData} (Z_enumerate : mg "enumerate" = none) (C__law_pick : Cal P w K mg base CX0 2 "_law_pick" ["state", "several"] (SpW TL W__law_pick)) (F : Fun K "_law_bool_place" "_law_bool_place" s__law_bool_place f fd) : FnOk P w K mg base CX0 3 f fd ["state", "place_here"] (SpW TL W__law_bool_place) := by
  have sc : FnScope ["state", "place_here", "spots_here", "spot", "item"] ["state", "place_here"] (defScope s__law_bool_place) := ⟨rfl, rfl, rfl, by decide +kernel, rfl, by decide +kernel, by decide +kernel⟩
  refine F.ok sc (fun vs H Q E h => ?_) (fun cdv A outer s0 H vs Q E hr h => ?_)
  · obtain ⟨G, s, l, c, T, vs2, ds, post, rfl, hv, _, _, _, hb, _⟩ := h
    rw [List.length_cons, hv.len, hb.1]; rfl
  · obtain ⟨G, s, l, c, T, vs2, ds, post, rfl, hv, wd, nt, tb, hb, k⟩ := h
    refine ⟨_, (pss_cons (ps_setLc (i := 2) (own := [("spot", 3), ("item", 4)]) (g := gTup K 2 (gCons (gName 3) (gCons (gName 4) gNil))) (tt := _) (by rfl) sc.nd rfl rfl (sw_true rfl rfl rfl (by decide +kernel)) (pi_enumk false (by rfl) Z_enumerate (pa_cons (pv 1) pa_nil)) (blkOk_by (N := ["state", "place_here", "spots_here", "spot", "item"]) (sc := defScope s__law_bool_place) (by decide +kernel)) (fun _ _ _ _ _ => (pg_tup rfl (pgs_cons (pg_name (i := 3) sc.nd rfl (Or.inl rfl)) (pgs_cons (pg_name (i := 4) sc.nd rfl (Or.inl rfl)) pgs_nil)))) (fun _ _ _ _ _ => (pts_one (pt_cmpR op_lt (pv 4) pe_int (nomark _)))) (fun _ _ _ _ _ => (pv 3))) (pss_cons (ps_if (pt_cmpR (r := rEqD K) (op_eqD hr.units) (pv 2) (pe_lst pa_nil) (nomark _)) (pss_one (ps_ret (pe_slice (r := rSlA K) sl_tupA (pv 1) po_none (po_some (pe_un un_neg pe_int))))) pss_nil) (pss_cons (ps_set (i := 3) sc.nd rfl (Or.inl rfl) (pe_cal C__law_pick (hr.mono (by decide)) pass0 (pa_cons (pv 0) (pa_cons (pv 2) pa_nil)))) (pss_one (ps_ret (pe_op (r := rCatA K) op_catA (pe_op (r := rCatA K) op_catA (pe_slice (r := rSlA K) sl_tupA (pv 1) po_none (po_some (pv 3))) (pe_tup (pa_cons (pe_cmpR op_eq (pe_ix (r := rIxT K) ix_tup (pv 1) (pv 3) (fun _ _ => rfl)) pe_int (nomark _)) pa_nil))) (pe_slice (r := rSlA K) sl_tupA (pv 1) (po_some (pe_op op_add (pv 3) pe_int)) po_none))))))), ?_⟩
    exact startW (k := 1) (n := 3) rfl (show Sws (X0 TL) _ F__law_bool_place from (w_seq (w_stmt (E := fun _ _ _ => False) (ad := fun _ => 0) (u_asg (u_lc (i_enum (u_cons u_var u_nil)) (g_tup (g_cons g_name (g_cons g_name g_nil))) (u_test (u_op os_lt u_var (u_c fun _ => .int 2))) u_var (by decide)) g_name)) (w_seq (w_stmt (E := fun _ _ _ => False) (ad := fun _ => 0) (u_ifS (u_test (u_op os_eq u_var (u_lst u_nil))) (u_ret (u_sl (k := false) u_var p_none (p_some (E := E) (ad := fun _ => 0) (u_un us_neg (u_c fun _ => .int 1))))) u_next)) (w_seq (w_asg (w_draw (w_cons (w_pure (E := fun _ _ _ => False) (ad := fun _ => 0) u_var) w_nil)) g_name (show (0 : Nat) ∉ _ from by decide)) (w_stmt (E := fun _ _ _ => False) (ad := fun _ => 0) (u_ret (u_op os_catT (u_op os_catT (u_sl (k := false) u_var p_none (p_some (E := E) (ad := fun _ => 0) u_var)) (u_tup (u_cons (u_op os_eqA (u_op os_ixT u_var u_var) (u_c fun _ => .int 1)) u_nil))) (u_sl (k := false) u_var (p_some (E := E) (ad := fun _ => 0) (u_op os_add u_var (u_c fun _ => .int 1))) p_none)))))))) hv wd nt tb hb k
abbrev s__law_bad_place : Stmt := top 43
def F__law_bad_place : WS := (wSeq (wAsg (wTup (wCons (wDraw W__law_place (wCons (pw (fVar 1)) wNil)) (wCons (wDraw W__law_draw (wCons (pw (fCb oLen (fCons (fVar 1) fNil))) wNil)) wNil))) (sTup 2 (sCons (sName 2) (sCons (sName 3) sNil)))) (wSeq (pws 0 (fAsg (fLc (iL (fLst (fCons (fUn oNeg (fC (.int 1))) (fCons (fOp oIxT (fVar 1) (fVar 3)) (fCons (fC .none) (fCons (fC (.str "0")) fNil)))))) (sName 5) (fC (.bool true)) (fOp oCatT (fOp oCatT (fSl false (fVar 2) pNone (pSome (fVar 3))) (fTup (fCons (fVar 5) fNil))) (fSl false (fVar 2) (pSome (fOp oAdd (fVar 3) (fC (.int 1)))) pNone)) [5]) (sName 4))) (wRet (wDraw W__law_pick (wCons (wOp oCat (pw (fVar 4)) (wLst (wCons (pw (fCb oList (fCons (fVar 2) fNil))) (wCons (pw (fSl false (fVar 2) pNone (pSome (fUn oNeg (fC (.int 1)))))) (wCons (pw (fOp oCatT (fVar 2) (fTup (fCons (fC (.int 0)) fNil)))) (wCons (pw (fC .none)) (wCons (pw (fC (.int 5))) (wCons (wDraw W__law_bool_place (wCons (pw (fVar 2)) wNil)) wNil)))))))) wNil)))))
def W__law_bad_place : List D → Int → (D → Int → Prop) → Prop := bodyW F__law_bad_place 1 4
theorem ok__law_bad_place {f : Addr} {fd : FuncData} (Z : Zs mg) (C__law_pick : Cal P w K mg base CX0 2 "_law_pick" ["state", "several"] (SpW TL W__law_pick)) (C__law_place : Cal P w K mg base CX0 2 "_law_place" ["state", "dials_here"] (SpW TL W__law_place)) (C__law_draw : Cal P w K mg base CX0 1 "_law_draw" ["state", "size_here"] (SpW TL W__law_draw)) (C__law_bool_place : Cal P w K mg base CX0 3 "_law_bool_place" ["state", "place_here"] (SpW TL W__law_bool_place)) (F : Fun K "_law_bad_place" "_law_bad_place" s__law_bad_place f fd) : FnOk P w K mg base CX0 4 f fd ["state", "dials_here"] (SpW TL W__law_bad_place) := by
  have sc : FnScope ["state", "dials_here", "place_here", "spot", "some", "item"] ["state", "dials_here"] (defScope s__law_bad_place) := ⟨rfl, rfl, rfl, by decide +kernel, rfl, by decide +kernel, by decide +kernel⟩
  refine F.ok sc (fun vs H Q E h => ?_) (fun cdv A outer s0 H vs Q E hr h => ?_)
  · obtain ⟨G, s, l, c, T, vs2, ds, post, rfl, hv, _, _, _, hb, _⟩ := h
    rw [List.length_cons, hv.len, hb.1]; rfl
  · obtain ⟨G, s, l, c, T, vs2, ds, post, rfl, hv, wd, nt, tb, hb, k⟩ := h
    refine ⟨_, (pss_cons (ps_asg (pe_tup (pa_cons (pe_cal C__law_place (hr.mono (by decide)) pass0 (pa_cons (pv 0) (pa_cons (pv 1) pa_nil))) (pa_cons (pe_cal C__law_draw (hr.mono (by decide)) pass0 (pa_cons (pv 0) (pa_cons (pe_callB (r := rLenA K) call_len_seq (by rfl) Z.len PySem.boot_len (pa_cons (pv 1) pa_nil)) pa_nil))) pa_nil))) (pg_tup rfl (pgs_cons (pg_name (i := 2) sc.nd rfl (Or.inr rfl)) (pgs_cons (pg_name (i := 3) sc.nd rfl (Or.inr rfl)) pgs_nil)))) (pss_cons (ps_setLc (i := 4) (own := [("item", 5)]) (g := gName 5) (tt := tYes) (by rfl) sc.nd rfl rfl (sw_true rfl rfl rfl (by decide +kernel)) (pi_list (pe_lst (pa_cons (pe_un un_neg pe_int) (pa_cons (pe_ix (r := rIxT K) ix_tup (pv 1) (pv 3) (fun _ _ => rfl)) (pa_cons pe_non (pa_cons pe_str pa_nil)))))) (blkOk_by (N := ["state", "dials_here", "place_here", "spot", "some", "item"]) (sc := defScope s__law_bad_place) (by decide +kernel)) (fun _ _ _ _ _ => (pg_name (i := 5) sc.nd rfl (Or.inl rfl))) (fun _ _ _ _ _ => pts_nil) (fun _ _ _ _ _ => (pe_op (r := rCatA K) op_catA (pe_op (r := rCatA K) op_catA (pe_slice (r := rSlA K) sl_tupA (pv 2) po_none (po_some (pv 3))) (pe_tup (pa_cons (pv 5) pa_nil))) (pe_slice (r := rSlA K) sl_tupA (pv 2) (po_some (pe_op op_add (pv 3) pe_int)) po_none)))) (pss_one (ps_ret (pe_cal C__law_pick (hr.mono (by decide)) pass0 (pa_cons (pv 0) (pa_cons (pe_op op_cat (pv 4) (pe_lst (pa_cons (pe_callTy (r := rListOf K) call_list_of (by rfl) Z.list (by decide +kernel) (pa_cons (pv 2) pa_nil)) (pa_cons (pe_slice (r := rSlA K) sl_tupA (pv 2) po_none (po_some (pe_un un_neg pe_int))) (pa_cons (pe_op (r := rCatA K) op_catA (pv 2) (pe_tup (pa_cons pe_int pa_nil))) (pa_cons pe_non (pa_cons pe_int (pa_cons (pe_cal C__law_bool_place (hr.mono (by decide)) pass0 (pa_cons (pv 0) (pa_cons (pv 2) pa_nil))) pa_nil)))))))) pa_nil))))))), ?_⟩
    exact startW (k := 1) (n := 4) rfl (show Sws (X0 TL) _ F__law_bad_place from (w_seq (w_asg (w_tup (w_cons (w_draw (w_cons (w_pure (E := fun _ _ _ => False) (ad := fun _ => 0) u_var) w_nil)) (w_cons (w_draw (w_cons (w_pure (E := fun _ _ _ => False) (ad := fun _ => 0) (u_cb cs_len (u_cons u_var u_nil))) w_nil)) w_nil))) (g_tup (g_cons g_name (g_cons g_name g_nil))) (show (0 : Nat) ∉ _ from by decide)) (w_seq (w_stmt (E := fun _ _ _ => False) (ad := fun _ => 0) (u_asg (u_lc (i_list (u_lst (u_cons (u_un us_neg (u_c fun _ => .int 1)) (u_cons (u_op os_ixT u_var u_var) (u_cons (u_c fun _ => .non) (u_cons (u_c fun _ => .str "0") u_nil)))))) g_name u_yes (u_op os_catT (u_op os_catT (u_sl (k := false) u_var p_none (p_some (E := E) (ad := fun _ => 0) u_var)) (u_tup (u_cons u_var u_nil))) (u_sl (k := false) u_var (p_some (E := E) (ad := fun _ => 0) (u_op os_add u_var (u_c fun _ => .int 1))) p_none)) (by decide)) g_name)) (w_ret (w_draw (w_cons (w_op os_cat (w_pure (E := fun _ _ _ => False) (ad := fun _ => 0) u_var) (w_lst (w_cons (w_pure (E := fun _ _ _ => False) (ad := fun _ => 0) (u_cb cs_list (u_cons u_var u_nil))) (w_cons (w_pure (E := fun _ _ _ => False) (ad := fun _ => 0) (u_sl (k := false) u_var p_none (p_some (E := E) (ad := fun _ => 0) (u_un us_neg (u_c fun _ => .int 1))))) (w_cons (w_pure (E := fun _ _ _ => False) (ad := fun _ => 0) (u_op os_catT u_var (u_tup (u_cons (u_c fun _ => .int 0) u_nil)))) (w_cons (w_pure (E := fun _ _ _ => False) (ad := fun _ => 0) (u_c fun _ => .non)) (w_cons (w_pure (E := fun _ _ _ => False) (ad := fun _ => 0) (u_c fun _ => .int 5)) (w_cons (w_draw (w_cons (w_pure (E := fun _ _ _ => False) (ad := fun _ => 0) u_var) w_nil)) w_nil)))))))) w_nil)))))) hv wd nt tb hb k
abbrev s__law_bad_dials : Stmt := top 44
def F__law_bad_dials : WS := (wRet (wDraw W__law_pick (wCons (pw (fLst (fCons (fC .none) (fCons (fTup fNil) (fCons (fLst (fCons (fC (.int 2)) (fCons (fC (.int 3)) fNil))) (fCons (fTup (fCons (fC (.int 1)) (fCons (fC (.int 3)) fNil))) (fCons (fTup (fCons (fC (.int 0)) fNil)) (fCons (fTup (fCons (fC (.int 25)) fNil)) (fCons (fTup (fCons (fC (.int 5)) (fCons (fC (.int 5)) fNil))) (fCons (fTup (fCons (fC (.int 2)) (fCons (fC (.int 2)) (fCons (fC (.int 2)) (fCons (fC (.int 2)) (fCons (fC (.int 2)) fNil)))))) (fCons (fTup (fCons (fC (.bool true)) (fCons (fC (.int 3)) fNil))) (fCons (fC (.str "23")) (fCons (fC (.int 6)) (fCons (fTup (fCons (fUn oNeg (fC (.int 2))) fNil)) (fCons (fC (.dict [(.none, .none)])) fNil))))))))))))))) wNil)))
def W__law_bad_dials : List D → Int → (D → Int → Prop) → Prop := bodyW F__law_bad_dials 0 0
theorem ok__law_bad_dials {f : Addr} {fd : FuncData} (C__law_pick : Cal P w K mg base CX0 2 "_law_pick" ["state", "several"] (SpW TL W__law_pick)) (F : Fun K "_law_bad_dials" "_law_bad_dials" s__law_bad_dials f fd) : FnOk P w K mg base CX0 3 f fd ["state"] (SpW TL W__law_bad_dials) := by
  have sc : FnScope ["state"] ["state"] (defScope s__law_bad_dials) := ⟨rfl, rfl, rfl, by decide +kernel, rfl, by decide +kernel, by decide +kernel⟩
  refine F.ok sc (fun vs H Q E h => ?_) (fun cdv A outer s0 H vs Q E hr h => ?_)
  · obtain ⟨G, s, l, c, T, vs2, ds, post, rfl, hv, _, _, _, hb, _⟩ := h
    rw [List.length_cons, hv.len, hb.1]; rfl
  · obtain ⟨G, s, l, c, T, vs2, ds, post, rfl, hv, wd, nt, tb, hb, k⟩ := h
    refine ⟨_, (pss_one (ps_ret (pe_cal C__law_pick (hr.mono (by decide)) pass0 (pa_cons (pv 0) (pa_cons (pe_lst (pa_cons pe_non (pa_cons (pe_tup pa_nil) (pa_cons (pe_lst (pa_cons pe_int (pa_cons pe_int pa_nil))) (pa_cons (pe_tup (pa_cons pe_int (pa_cons pe_int pa_nil))) (pa_cons (pe_tup (pa_cons pe_int pa_nil)) (pa_cons (pe_tup (pa_cons pe_int pa_nil)) (pa_cons (pe_tup (pa_cons pe_int (pa_cons pe_int pa_nil))) (pa_cons (pe_tup (pa_cons pe_int (pa_cons pe_int (pa_cons pe_int (pa_cons pe_int (pa_cons pe_int pa_nil)))))) (pa_cons (pe_tup (pa_cons pe_bl (pa_cons pe_int pa_nil))) (pa_cons pe_str (pa_cons pe_int (pa_cons (pe_tup (pa_cons (pe_un un_neg pe_int) pa_nil)) (pa_cons pe_dnewK pa_nil)))))))))))))) pa_nil))))), ?_⟩
    exact startW (k := 0) (n := 0) rfl (show Sws (X0 TL) _ F__law_bad_dials from (w_ret (w_draw (w_cons (w_pure (E := fun _ _ _ => False) (ad := fun _ => 0) (u_lst (u_cons (u_c fun _ => .non) (u_cons (u_tup u_nil) (u_cons (u_lst (u_cons (u_c fun _ => .int 2) (u_cons (u_c fun _ => .int 3) u_nil))) (u_cons (u_tup (u_cons (u_c fun _ => .int 1) (u_cons (u_c fun _ => .int 3) u_nil))) (u_cons (u_tup (u_cons (u_c fun _ => .int 0) u_nil)) (u_cons (u_tup (u_cons (u_c fun _ => .int 25) u_nil)) (u_cons (u_tup (u_cons (u_c fun _ => .int 5) (u_cons (u_c fun _ => .int 5) u_nil))) (u_cons (u_tup (u_cons (u_c fun _ => .int 2) (u_cons (u_c fun _ => .int 2) (u_cons (u_c fun _ => .int 2) (u_cons (u_c fun _ => .int 2) (u_cons (u_c fun _ => .int 2) u_nil)))))) (u_cons (u_tup (u_cons (u_c fun _ => .bl true) (u_cons (u_c fun _ => .int 3) u_nil))) (u_cons (u_c fun _ => .str "23") (u_cons (u_c fun _ => .int 6) (u_cons (u_tup (u_cons (u_un us_neg (u_c fun _ => .int 2)) u_nil)) (u_cons u_emp u_nil))))))))))))))) w_nil)))) hv wd nt tb hb k
abbrev s__law_turned_dials : Stmt := top 45
def F__law_turned_dials : WS := (wRet (wCb oTuple (wCons (wDraw W__law_mixed (wCons (wCb oList (wCons (wDraw W__law_dials (wCons (pw (fVar 1)) wNil)) wNil)) wNil)) wNil)))
def W__law_turned_dials : List D → Int → (D → Int → Prop) → Prop := bodyW F__law_turned_dials 1 0
theorem ok__law_turned_dials {f : Addr} {fd : FuncData} (Z : Zs mg) (C__law_mixed : Cal P w K mg base CX0 2 "_law_mixed" ["state", "several"] (SpW TL W__law_mixed)) (C__law_dials : Cal P w K mg base CX0 3 "_law_dials" ["state", "most"] (SpW TL W__law_dials)) (F : Fun K "_law_turned_dials" "_law_turned_dials" s__law_turned_dials f fd) : FnOk P w K mg base CX0 4 f fd ["state", "most"] (SpW TL W__law_turned_dials) := by
  have sc : FnScope ["state", "most"] ["state", "most"] (defScope s__law_turned_dials) := ⟨rfl, rfl, rfl, by decide +kernel, rfl, by decide +kernel, by decide +kernel⟩
  refine F.ok sc (fun vs H Q E h => ?_) (fun cdv A outer s0 H vs Q E hr h => ?_)
  · obtain ⟨G, s, l, c, T, vs2, ds, post, rfl, hv, _, _, _, hb, _⟩ := h
    rw [List.length_cons, hv.len, hb.1]; rfl
  · obtain ⟨G, s, l, c, T, vs2, ds, post, rfl, hv, wd, nt, tb, hb, k⟩ := h
    refine ⟨_, (pss_one (ps_ret (pe_callTy (r := rTupOf K) call_tuple_of (by rfl) Z.tuple (by decide +kernel) (pa_cons (pe_cal C__law_mixed (hr.mono (by decide)) pass0 (pa_cons (pv 0) (pa_cons (pe_callTy (r := rListOf K) call_list_of (by rfl) Z.list (by decide +kernel) (pa_cons (pe_cal C__law_dials (hr.mono (by decide)) pass0 (pa_cons (pv 0) (pa_cons (pv 1) pa_nil))) pa_nil)) pa_nil))) pa_nil)))), ?_⟩
    exact startW (k := 1) (n := 0) rfl (show Sws (X0 TL) _ F__law_turned_dials from (w_ret (w_cb cs_tuple (w_cons (w_draw (w_cons (w_cb cs_list (w_cons (w_draw (w_cons (w_pure (E := fun _ _ _ => False) (ad := fun _ => 0) u_var) w_nil)) w_nil)) w_nil)) w_nil)))) hv wd nt tb hb k
abbrev s__law_said : Stmt := top 46
def b__law_said : En → Rf := (fRet (fAnd (fIsi "bool" (fVar 0)) (fOp oEqA (fVar 0) (fVar 1))))
def f__law_said : List D → Re := guardN 2 (bodyD b__law_said 0)
theorem ok__law_said {f : Addr} {fd : FuncData} (Z : Zs mg) (F : Fun K "_law_said" "_law_said" s__law_said f fd) : FnOk P w K mg base CX0 1 f fd ["answer", "due"] (SpF ad f__law_said) := by
  have sc : FnScope ["answer", "due"] ["answer", "due"] (defScope s__law_said) := ⟨rfl, rfl, rfl, by decide +kernel, rfl, by decide +kernel, by decide +kernel⟩
  refine F.ok sc (fun vs H Q E h => ?_) (fun cdv A outer s H vs Q E hr h => ?_)
  · obtain ⟨G, ds, r, _, hv, e, _⟩ := h
    unfold f__law_said at e
    exact hv.len.trans (guard_len e)
  · obtain ⟨G, ds, r, wf, hv, e, k⟩ := h
    unfold f__law_said at e
    refine ⟨_, (pss_one (ps_ret (pe_and (pe_callB (r := rIsiY K) call_isiY (by rfl) Z.isinstance (by decide +kernel) (pa_cons (pv 0) (pa_cons (pe_bltn (v := .ty "bool") (u := .type "bool") (by rfl) Z.bool (by decide +kernel) rfl) pa_nil))) (pe_one (pe_cmpR op_eq (pv 0) (pv 1) (nomark _)))))), ?_⟩
    exact body_start (k := 2) (n := 0) rfl (hv.len.trans (guard_len e)) (show Ss E ad _ b__law_said from (u_ret (u_and (u_isi (c := "bool") (by decide) u_var) (u_op os_eqA u_var u_var)))) wf hv (guard_get e) k
abbrev s__law_gcd : Stmt := top 47
def b__law_gcd : En → Rf := (fSeq (fFor (iR1 (fCons (fC (.int 60)) fNil)) (sName 2) (fIfS (fT (fOp oNeA (fVar 1) (fC (.int 0)))) (fPar false false 0 1 (fVar 1) (fOp oMod (fCb oInt (fCons (fVar 0) fNil)) (fVar 1))) fNext)) (fRet (fVar 0)))
def f__law_gcd : List D → Re := guardN 2 (bodyD b__law_gcd 1)
theorem ok__law_gcd {f : Addr} {fd : FuncData} (Z : Zs mg) (F : Fun K "_law_gcd" "_law_gcd" s__law_gcd f fd) : FnOk P w K mg base CX0 1 f fd ["one", "other"] (SpF ad f__law_gcd) := by
  have sc : FnScope ["one", "other", "lap"] ["one", "other"] (defScope s__law_gcd) := ⟨rfl, rfl, rfl, by decide +kernel, rfl, by decide +kernel, by decide +kernel⟩
  refine F.ok sc (fun vs H Q E h => ?_) (fun cdv A outer s H vs Q E hr h => ?_)
  · obtain ⟨G, ds, r, _, hv, e, _⟩ := h
    unfold f__law_gcd at e
    exact hv.len.trans (guard_len e)
  · obtain ⟨G, ds, r, wf, hv, e, k⟩ := h
    unfold f__law_gcd at e
    refine ⟨_, (pss_cons (ps_for PassesOwn.never rfl (pi_range1 (by rfl) Z.range (pa_cons pe_int pa_nil)) (pg_name (i := 2) sc.nd rfl (Or.inl rfl)) (pss_one (ps_if (pt_cmpR op_ne (pv 1) pe_int (nomark _)) (pss_one (ps_par (i := 0) (j := 1) (by rfl) sc.nd rfl rfl (by decide) rfl rfl (pa_cons (pv 1) (pa_cons (pe_op op_mod (pe_callTy call_int1 (by rfl) Z.int (by decide +kernel) (pa_cons (pv 0) pa_nil)) (pv 1)) pa_nil)) (by rfl))) pss_nil))) (pss_one (ps_ret (pv 0)))), ?_⟩
    exact body_start (k := 2) (n := 1) rfl (hv.len.trans (guard_len e)) (show Ss E ad _ b__law_gcd from (u_seq (u_for (i_rng1 (u_cons (u_c fun _ => .int 60) u_nil)) g_name (u_ifS (u_test (u_op os_neA u_var (u_c fun _ => .int 0))) (u_par (m1 := false) (m2 := false) u_var (u_op os_mod (u_cb cs_int (u_cons u_var u_nil)) u_var)) u_next)) (u_ret u_var))) wf hv (guard_get e) k
abbrev s__law_led : Stmt := top 48
def b__law_led : En → Rf := (fRet (fCb (oDictZ true false) (fCons (fCall0 f__law_places (fCons (fVar 0) fNil)) (fCons (fVar 1) fNil))))
def f__law_led : List D → Re := guardN 2 (bodyD b__law_led 0)
theorem ok__law_led {f : Addr} {fd : FuncData} (Z : Zs mg) (Z_dict : mg "dict" = none) (C__law_places : Cal P w K mg base CX0 1 "_law_places" ["dials_here"] (SpF ad f__law_places)) (F : Fun K "_law_led" "_law_led" s__law_led f fd) : FnOk P w K mg base CX0 2 f fd ["dials_here", "told"] (SpF ad f__law_led) := by
  have sc : FnScope ["dials_here", "told"] ["dials_here", "told"] (defScope s__law_led) := ⟨rfl, rfl, rfl, by decide +kernel, rfl, by decide +kernel, by decide +kernel⟩
  refine F.ok sc (fun vs H Q E h => ?_) (fun cdv A outer s H vs Q E hr h => ?_)
  · obtain ⟨G, ds, r, _, hv, e, _⟩ := h
    unfold f__law_led at e
    exact hv.len.trans (guard_len e)
  · obtain ⟨G, ds, r, wf, hv, e, k⟩ := h
    unfold f__law_led at e
    refine ⟨_, (pss_one (ps_ret (pe_dictZF true false hr.units (by rfl) Z_dict (by decide +kernel) (by rfl) Z.zip (pa_cons (pe_cal C__law_places (hr.mono (by decide)) pass0 (pa_cons (pv 0) pa_nil)) (pa_cons (pv 1) pa_nil))))), ?_⟩
    exact body_start (k := 2) (n := 0) rfl (hv.len.trans (guard_len e)) (show Ss E ad _ b__law_led from (u_ret (u_cb cs_dictZ (u_cons (u_call0 (u_cons u_var u_nil)) (u_cons u_var u_nil))))) wf hv (guard_get e) k
abbrev s__law_units : Stmt := top 49
def b__law_units : En → Rf := (fRet (fLc (iR1 (fCons (fCb oLen (fCons (fVar 0) fNil)) fNil)) (sName 2) (fC (.bool true)) (fCb oTuple (fCons (fLc (iR1 (fCons (fCb oLen (fCons (fVar 0) fNil)) fNil)) (sName 1) (fC (.bool true)) (fCb oIntB (fCons (fOp oEqA (fVar 2) (fVar 1)) fNil)) [1]) fNil)) [2]))
def f__law_units : List D → Re := guardN 1 (bodyD b__law_units 2)
theorem ok__law_units {f : Addr} {fd : FuncData} (Z : Zs mg) (F : Fun K "_law_units" "_law_units" s__law_units f fd) : FnOk P w K mg base CX0 1 f fd ["dials_here"] (SpF ad f__law_units) := by
  have sc : FnScope ["dials_here", "item", "spot"] ["dials_here"] (defScope s__law_units) := ⟨rfl, rfl, rfl, by decide +kernel, rfl, by decide +kernel, by decide +kernel⟩
  refine F.ok sc (fun vs H Q E h => ?_) (fun cdv A outer s H vs Q E hr h => ?_)
  · obtain ⟨G, ds, r, _, hv, e, _⟩ := h
    unfold f__law_units at e
    exact hv.len.trans (guard_len e)
  · obtain ⟨G, ds, r, wf, hv, e, k⟩ := h
    unfold f__law_units at e
    refine ⟨_, (pss_one (ps_ret (pe_lc (own := [("spot", 2)]) (g := gName 2) (tt := tYes) (by rfl) sc.nd (pi_range1 (by rfl) Z.range (pa_cons (pe_callB (r := rLenA K) call_len_seq (by rfl) Z.len PySem.boot_len (pa_cons (pv 0) pa_nil)) pa_nil)) (blkOk_by (N := ["dials_here", "item", "spot"]) (sc := defScope s__law_units) (by decide +kernel)) (fun _ _ _ _ _ => (pg_name (i := 2) sc.nd rfl (Or.inr rfl))) (fun _ _ _ _ _ => pts_nil) (fun _ _ _ _ _ => (pe_callTy (r := rTupOf K) call_tuple_of (by rfl) Z.tuple (by decide +kernel) (pa_cons (pe_lc (own := [("item", 1)]) (g := gName 1) (tt := tYes) (by rfl) sc.nd (pi_range1 (by rfl) Z.range (pa_cons (pe_callB (r := rLenA K) call_len_seq (by rfl) Z.len PySem.boot_len (pa_cons (pv 0) pa_nil)) pa_nil)) (blkOk_by (N := ["dials_here", "item", "spot"]) (sc := _) (by rfl)) (fun _ _ _ _ _ => (pg_name (i := 1) sc.nd rfl (Or.inl rfl))) (fun _ _ _ _ _ => pts_nil) (fun _ _ _ _ _ => (pe_callTy call_int1 (by rfl) Z.int (by decide +kernel) (pa_cons (pe_cmpR op_eq (pv 2) (pv 1) (nomark _)) pa_nil)))) pa_nil)))))), ?_⟩
    exact body_start (k := 1) (n := 2) rfl (hv.len.trans (guard_len e)) (show Ss E ad _ b__law_units from (u_ret (u_lc (i_rng1 (u_cons (u_cb cs_len (u_cons u_var u_nil)) u_nil)) g_name u_yes (u_cb cs_tuple (u_cons (u_lc (i_rng1 (u_cons (u_cb cs_len (u_cons u_var u_nil)) u_nil)) g_name u_yes (u_cb cs_intB (u_cons (u_op os_eqA u_var u_var) u_nil)) (by decide)) u_nil)) (by decide)))) wf hv (guard_get e) k
abbrev s__law_is_weighing : Stmt := top 50
def b__law_is_weighing : En → Rf := (fSeq (fIfS (fOr (fNot (fT (fIsi "tuple" (fVar 1)))) (fOr (fT (fOp oNeA (fCb oLen (fCons (fVar 1) fNil)) (fC (.int 2)))) (fOr (fNot (fT (fCall0 f__law_is_whole (fCons (fOp oIxT (fVar 1) (fC (.int 0))) fNil)))) (fNot (fT (fChain oLe oLe (fC (.int 2)) (fOp oIxT (fVar 1) (fC (.int 0))) (fC (.int 24)))))))) (fRet (fC (.bool false))) fNext) (fSeq (fAsg (fVar 1) (sTup 2 (sCons (sName 2) (sCons (sName 3) sNil)))) (fSeq (fIfS (fOr (fNot (fT (fIsi "tuple" (fVar 3)))) (fT (fOp oNeA (fCb oLen (fCons (fVar 3) fNil)) (fCall0 f__law_count (fCons (fVar 0) fNil))))) (fRet (fC (.bool false))) fNext) (fSeq (fIfS (fT (fOp oNe (fLc (iT (fVar 3)) (sName 4) (fOr (fNot (fT (fCall0 f__law_is_whole (fCons (fVar 4) fNil)))) (fNot (fT (fChain oLe oLt (fC (.int 0)) (fVar 4) (fVar 2))))) (fC (.int 1)) [4]) (fLst fNil))) (fRet (fC (.bool false))) fNext) (fSeq (fAsg (fCall0 f__law_led (fCons (fVar 0) (fCons (fVar 3) fNil))) (sName 5)) (fSeq (fFor (iKy (fVar 5)) (sName 6) (fFor (iL (fCall0 f__law_units (fCons (fVar 0) fNil))) (sName 7) (fIfS (fT (fOp oNeA (fOp oMod (fCb oInt (fCons (fOp oAdd (fDGet (fVar 5) (fVar 6)) (fDGet (fVar 5) (fVar 7))) fNil)) (fVar 2)) (fDGet (fVar 5) (fCall0 f__law_plus (fCons (fVar 0) (fCons (fVar 6) (fCons (fVar 7) fNil))))))) (fRet (fC (.bool false))) fNext))) (fRet (fC (.bool true)))))))))
def f__law_is_weighing : List D → Re := guardN 2 (bodyD b__law_is_weighing 6)
theorem ok__law_is_weighing {f : Addr} {fd : FuncData} (Z : Zs mg) (C__law_led : Cal P w K mg base CX0 2 "_law_led" ["dials_here", "told"] (SpF ad f__law_led)) (C__law_units : Cal P w K mg base CX0 1 "_law_units" ["dials_here"] (SpF ad f__law_units)) (C__law_is_whole : Cal P w K mg base CX0 1 "_law_is_whole" ["item"] (SpF ad f__law_is_whole)) (C__law_count : Cal P w K mg base CX0 1 "_law_count" ["dials_here"] (SpF ad f__law_count)) (C__law_plus : Cal P w K mg base CX0 1 "_law_plus" ["dials_here", "one", "other"] (SpF ad f__law_plus)) (F : Fun K "_law_is_weighing" "_law_is_weighing" s__law_is_weighing f fd) : FnOk P w K mg base CX0 3 f fd ["dials_here", "item"] (SpF ad f__law_is_weighing) := by
  have sc : FnScope ["dials_here", "item", "modulus_here", "weights_here", "weight", "led", "place_here", "unit"] ["dials_here", "item"] (defScope s__law_is_weighing) := ⟨rfl, rfl, rfl, by decide +kernel, rfl, by decide +kernel, by decide +kernel⟩
  refine F.ok sc (fun vs H Q E h => ?_) (fun cdv A outer s H vs Q E hr h => ?_)
  · obtain ⟨G, ds, r, _, hv, e, _⟩ := h
    unfold f__law_is_weighing at e
    exact hv.len.trans (guard_len e)
  · obtain ⟨G, ds, r, wf, hv, e, k⟩ := h
    unfold f__law_is_weighing at e
    have hu := hu_of hr
    refine ⟨_, (pss_cons (ps_if (PW.pt (pw_or (pt_not (pt_val (pe_callB (r := rIsiY K) call_isiY (by rfl) Z.isinstance (by decide +kernel) (pa_cons (pv 1) (pa_cons (pe_bltn (v := .ty "tuple") (u := .type "tuple") (by rfl) Z.tuple (by decide +kernel) rfl) pa_nil))))) (pw_or (pt_cmpR op_ne (pe_callB (r := rLenA K) call_len_seq (by rfl) Z.len PySem.boot_len (pa_cons (pv 1) pa_nil)) pe_int (nomark _)) (pw_or (pt_not (pt_val (pe_cal C__law_is_whole (hr.mono (by decide)) pass0 (pa_cons (pe_ix (r := rIxT K) ix_tup (pv 1) pe_int (fun _ _ => rfl)) pa_nil)))) (pw_or1 (pt_not (pt_chain op_le op_le pe_int (pe_ix (r := rIxT K) ix_tup (pv 1) pe_int (fun _ _ => rfl)) pe_int))))))) (pss_one (ps_ret pe_bl)) pss_nil) (pss_cons (ps_asg (pv 1) (pg_tup rfl (pgs_cons (pg_name (i := 2) sc.nd rfl (Or.inr rfl)) (pgs_cons (pg_name (i := 3) sc.nd rfl (Or.inl rfl)) pgs_nil)))) (pss_cons (ps_if (PW.pt (pw_or (pt_not (pt_val (pe_callB (r := rIsiY K) call_isiY (by rfl) Z.isinstance (by decide +kernel) (pa_cons (pv 3) (pa_cons (pe_bltn (v := .ty "tuple") (u := .type "tuple") (by rfl) Z.tuple (by decide +kernel) rfl) pa_nil))))) (pw_or1 (pt_cmpR op_ne (pe_callB (r := rLenA K) call_len_seq (by rfl) Z.len PySem.boot_len (pa_cons (pv 3) pa_nil)) (pe_cal C__law_count (hr.mono (by decide)) pass0 (pa_cons (pv 0) pa_nil)) (nomark _))))) (pss_one (ps_ret pe_bl)) pss_nil) (pss_cons (ps_if (pt_cmpR (r := rNeD K) (op_neD hr.units) (pe_lc (own := [("weight", 4)]) (g := gName 4) (tt := _) (by rfl) sc.nd (pi_tup (pv 3)) (blkOk_by (N := ["dials_here", "item", "modulus_here", "weights_here", "weight", "led", "place_here", "unit"]) (sc := defScope s__law_is_weighing) (by decide +kernel)) (fun _ _ _ _ _ => (pg_name (i := 4) sc.nd rfl (Or.inl rfl))) (fun _ _ _ _ _ => (pts_one (PW.pt (pw_or (pt_not (pt_val (pe_cal C__law_is_whole (hr.mono (by decide)) pass0 (pa_cons (pv 4) pa_nil)))) (pw_or1 (pt_not (pt_chain op_le op_lt pe_int (pv 4) (pv 2)))))))) (fun _ _ _ _ _ => pe_int)) (pe_lst pa_nil) (nomark _)) (pss_one (ps_ret pe_bl)) pss_nil) (pss_cons (ps_set (i := 5) sc.nd rfl (Or.inl rfl) (pe_cal C__law_led (hr.mono (by decide)) pass0 (pa_cons (pv 0) (pa_cons (pv 3) pa_nil)))) (pss_cons (ps_for PassesOwn.never rfl (pi_keys (pv 5)) (pg_name (i := 6) sc.nd rfl (Or.inl rfl)) (pss_one (ps_for PassesOwn.never rfl (pi_list (pe_cal C__law_units (hr.mono (by decide)) pass0 (pa_cons (pv 0) pa_nil))) (pg_name (i := 7) sc.nd rfl (Or.inl rfl)) (pss_one (ps_if (pt_cmpR op_ne (pe_op op_mod (pe_callTy call_int1 (by rfl) Z.int (by decide +kernel) (pa_cons (pe_op op_add (pe_dget hu (pv 5) (pv 6) (fun _ _ => rfl)) (pe_dget hu (pv 5) (pv 7) (fun _ _ => rfl))) pa_nil)) (pv 2)) (pe_dget hu (pv 5) (pe_cal C__law_plus (hr.mono (by decide)) pass0 (pa_cons (pv 0) (pa_cons (pv 6) (pa_cons (pv 7) pa_nil)))) (fun _ _ => rfl)) (nomark _)) (pss_one (ps_ret pe_bl)) pss_nil))))) (pss_one (ps_ret pe_bl)))))))), ?_⟩
    exact body_start (k := 2) (n := 6) rfl (hv.len.trans (guard_len e)) (show Ss E ad _ b__law_is_weighing from (u_seq (u_ifS (u_tOr (u_tNot (u_tB (u_isi (c := "tuple") (by decide) u_var))) (u_tOr (u_test (u_op os_neA (u_cb cs_len (u_cons u_var u_nil)) (u_c fun _ => .int 2))) (u_tOr (u_tNot (u_tB (u_call0 (u_cons (u_op os_ixT u_var (u_c fun _ => .int 0)) u_nil)))) (u_tNot (u_test (u_chain os_le os_le (u_c fun _ => .int 2) (u_op os_ixT u_var (u_c fun _ => .int 0)) (u_c fun _ => .int 24))))))) (u_ret (u_c fun _ => .bl false)) u_next) (u_seq (u_asg u_var (g_tup (g_cons g_name (g_cons g_name g_nil)))) (u_seq (u_ifS (u_tOr (u_tNot (u_tB (u_isi (c := "tuple") (by decide) u_var))) (u_test (u_op os_neA (u_cb cs_len (u_cons u_var u_nil)) (u_call0 (u_cons u_var u_nil))))) (u_ret (u_c fun _ => .bl false)) u_next) (u_seq (u_ifS (u_test (u_op os_ne (u_lc (i_tup u_var) g_name (u_tOr (u_tNot (u_tB (u_call0 (u_cons u_var u_nil)))) (u_tNot (u_test (u_chain os_le os_lt (u_c fun _ => .int 0) u_var u_var)))) (u_c fun _ => .int 1) (by decide)) (u_lst u_nil))) (u_ret (u_c fun _ => .bl false)) u_next) (u_seq (u_asg (u_call0 (u_cons u_var (u_cons u_var u_nil))) g_name) (u_seq (u_for (i_keys u_var) g_name (u_for (i_list (u_call0 (u_cons u_var u_nil))) g_name (u_ifS (u_test (u_op os_neA (u_op os_mod (u_cb cs_int (u_cons (u_op os_add (u_dget u_var u_var) (u_dget u_var u_var)) u_nil)) u_var) (u_dget u_var (u_call0 (u_cons u_var (u_cons u_var (u_cons u_var u_nil))))))) (u_ret (u_c fun _ => .bl false)) u_next))) (u_ret (u_c fun _ => .bl true))))))))) wf hv (guard_get e) k
abbrev s__law_list_right : Stmt := top 51
def b__law_list_right : En → Rf := (fSeq (fPar false true 2 3 (fC (.int 1)) (fCallN f_weighings (fCons (fVar 0) (fCons (fVar 1) fNil)))) (fSeq (fFor (iT (fVar 0)) (sName 4) (fAsg (fOp oMul (fVar 2) (fCall0 f__law_gcd (fCons (fVar 1) (fCons (fVar 4) fNil)))) (sName 2))) (fSeq (fIfS (fLkB (fOr (fNot (fT (fIsi "list" (fVar 3)))) (fT (fOp oNeA (fCb oLen (fCons (fVar 3) fNil)) (fVar 2))))) (fRet (fC (.bool false))) fNext) (fSeq (fIfS (fLkB (fT (fOp oNe (fLc (iL (fVar 3)) (sName 5) (fOr (fNot (fT (fCall0 f__law_is_weighing (fCons (fVar 0) (fCons (fVar 5) fNil))))) (fT (fOp oNeA (fOp oIxT (fVar 5) (fC (.int 0))) (fVar 1)))) (fC (.int 1)) [5]) (fLst fNil)))) (fRet (fC (.bool false))) fNext) (fSeq (fAsgM (fLkM (fCb oList (fCons (fVar 3) fNil))) 6) (fSeq (fClr 3) (fSeq (fAsgM (fCallPN [1, 0] 2 f_weighings (fCons (fVar 1) (fCons (fVar 0) fNil))) 3) (fRet (fAnd (fOp oEq (fVar 3) (fVar 6)) (fOp oEq (fLc (iZ2 true true (fCons (fVar 3) (fCons (fSl true (fVar 3) (pSome (fC (.int 1))) pNone) fNil))) (sTup 2 (sCons (sName 7) (sCons (sName 8) sNil))) (fNot (fT (fOp oLtD (fVar 7) (fVar 8)))) (fC (.int 1)) [7, 8]) (fLst fNil)))))))))))
def f__law_list_right : List D → Re := guardN 2 (bodyD b__law_list_right 7)
theorem ok__law_list_right {f : Addr} {fd : FuncData} (Z : Zs mg) (C_weighings : Cal P w K mg base (L2.CX P w) 5 "weighings" ["dials", "modulus"] (SpF ad f_weighings)) (CP_weighings__modulus__dials : CalP P w K mg base (L2.CX P w) 5 "weighings" ["modulus", "dials"] ["dials", "modulus"] [1, 0] (SpF ad f_weighings)) (C__law_gcd : Cal P w K mg base CX0 1 "_law_gcd" ["one", "other"] (SpF ad f__law_gcd)) (C__law_is_weighing : Cal P w K mg base CX0 3 "_law_is_weighing" ["dials_here", "item"] (SpF ad f__law_is_weighing)) (F : Fun K "_law_list_right" "_law_list_right" s__law_list_right f fd) : FnOk P w K mg base (L2.CX P w) 6 f fd ["dials_here", "modulus_here"] (SpF ad f__law_list_right) := by
  have sc : FnScope ["dials_here", "modulus_here", "due", "found", "size_here", "item", "kept_here", "one", "other"] ["dials_here", "modulus_here"] (defScope s__law_list_right) := ⟨rfl, rfl, rfl, by decide +kernel, rfl, by decide +kernel, by decide +kernel⟩
  refine F.okX sc (fun vs H Q E h => ?_) (fun cdv A outer s H vs Q E hr h => ?_)
  · obtain ⟨G, ds, r, _, hv, e, _⟩ := h
    unfold f__law_list_right at e
    exact hv.len.trans (guard_len e)
  · obtain ⟨G, ds, r, wf, hv, e, k⟩ := h
    unfold f__law_list_right at e
    refine ⟨_, (pss_cons (ps_par (i := 2) (j := 3) (by rfl) sc.nd rfl rfl (by decide) rfl rfl (pa_cons pe_int (pa_cons (pe_cal C_weighings (hr.mono (by decide)) (passes_call (E := E) (W := fun c d _ H => E c d H) (takes_of rfl rfl rfl rfl) (fun _ _ _ _ h => h)) (pa_cons (pv 0) (pa_cons (pv 1) pa_nil))) pa_nil)) (by rfl)) (pss_cons (ps_for (passes_of rfl) rfl (pi_tup (pv 0)) (pg_name (i := 4) sc.nd rfl (Or.inl rfl)) (pss_one (ps_set (i := 2) sc.nd rfl (Or.inl rfl) (pe_op op_mul (pv 2) (pe_cal C__law_gcd (hr.mono (by decide)) pass0 (pa_cons (pv 1) (pa_cons (pv 4) pa_nil))))))) (pss_cons (ps_if (PW.pt (pw_or (pt_not (pt_val (pe_callB (r := rIsiY K) call_isiY (by rfl) Z.isinstance (by decide +kernel) (pa_cons (pv 3) (pa_cons (pe_bltn (v := .ty "list") (u := .type "list") (by rfl) Z.list (by decide +kernel) rfl) pa_nil))))) (pw_or1 (pt_cmpR op_ne (pe_callB (r := rLenA K) call_len_seq (by rfl) Z.len PySem.boot_len (pa_cons (pv 3) pa_nil)) (pv 2) (nomark _))))) (pss_one (ps_ret pe_bl)) pss_nil) (pss_cons (ps_if (pt_cmpR (r := rNeD K) (op_neD hr.units) (pe_lc (own := [("item", 5)]) (g := gName 5) (tt := _) (by rfl) sc.nd (pi_list (pv 3)) (blkOk_by (N := ["dials_here", "modulus_here", "due", "found", "size_here", "item", "kept_here", "one", "other"]) (sc := defScope s__law_list_right) (by decide +kernel)) (fun _ _ _ _ _ => (pg_name (i := 5) sc.nd rfl (Or.inl rfl))) (fun _ _ _ _ _ => (pts_one (PW.pt (pw_or (pt_not (pt_val (pe_cal C__law_is_weighing (hr.mono (by decide)) pass0 (pa_cons (pv 0) (pa_cons (pv 5) pa_nil))))) (pw_or1 (pt_cmpR op_ne (pe_ix (r := rIxT K) ix_tup (pv 5) pe_int (fun _ _ => rfl)) (pv 1) (nomark _))))))) (fun _ _ _ _ _ => pe_int)) (pe_lst pa_nil) (nomark _)) (pss_one (ps_ret pe_bl)) pss_nil) (pss_cons (ps_set (i := 6) sc.nd rfl (Or.inl rfl) (pe_callTy (r := rListOf K) call_list_of (by rfl) Z.list (by decide +kernel) (pa_cons (pv 3) pa_nil))) (pss_cons (ps_expr (pe_bm0 PySem.F.plainAttrs_list PySem.F.slot_list_clear PySem.F.type_list_clear mt_clear (pv 3))) (pss_cons (ps_set (i := 3) sc.nd rfl (Or.inl rfl) (pe_calp (is := [1, 0]) CP_weighings__modulus__dials (hr.mono (by decide)) (passes_call (E := E) (W := fun c d _ H => E c d H) (takes_of rfl rfl rfl rfl) (fun _ _ _ _ h => h)) (pk_cons (pv 1) (pk_cons (pv 0) pk_nil)))) (pss_one (ps_ret (pe_and (pe_cmpR (r := rEqD K) (op_eqD hr.units) (pv 3) (pv 6) (nomark _)) (pe_one (pe_cmpR (r := rEqD K) (op_eqD hr.units) (pe_lc (own := [("one", 7), ("other", 8)]) (g := gTup K 2 (gCons (gName 7) (gCons (gName 8) gNil))) (tt := _) (by rfl) sc.nd (pi_zip2 true true (by rfl) Z.zip (pa_cons (pv 3) (pa_cons (pe_slice (r := rSlL K) sl_list (pv 3) (po_some pe_int) po_none) pa_nil))) (blkOk_by (N := ["dials_here", "modulus_here", "due", "found", "size_here", "item", "kept_here", "one", "other"]) (sc := defScope s__law_list_right) (by decide +kernel)) (fun _ _ _ _ _ => (pg_tup rfl (pgs_cons (pg_name (i := 7) sc.nd rfl (Or.inl rfl)) (pgs_cons (pg_name (i := 8) sc.nd rfl (Or.inl rfl)) pgs_nil)))) (fun _ _ _ _ _ => (pts_one (pt_not (pt_cmpR (r := rLtD K) (op_ltD (room65 hr)) (pv 7) (pv 8) (nomark _))))) (fun _ _ _ _ _ => pe_int)) (pe_lst pa_nil) (nomark _))))))))))))), ?_⟩
    exact body_start (k := 2) (n := 7) rfl (hv.len.trans (guard_len e)) (show Ss E ad _ b__law_list_right from (u_seq (u_par (m1 := false) (m2 := true) (u_c fun _ => .int 1) (m_callN (u_cons u_var (u_cons u_var u_nil)))) (u_seq (u_for (i_tup u_var) g_name (u_asg (u_op os_mul u_var (u_call0 (u_cons u_var (u_cons u_var u_nil)))) g_name)) (u_seq (u_ifS (u_lkB (u_tOr (u_tNot (u_tB (u_isi (c := "list") (by decide) u_var))) (u_test (u_op os_neA (u_cb cs_len (u_cons u_var u_nil)) u_var)))) (u_ret (u_c fun _ => .bl false)) u_next) (u_seq (u_ifS (u_lkB (u_test (u_op os_ne (u_lc (i_list u_var) g_name (u_tOr (u_tNot (u_tB (u_call0 (u_cons u_var (u_cons u_var u_nil))))) (u_test (u_op os_neA (u_op os_ixT u_var (u_c fun _ => .int 0)) u_var))) (u_c fun _ => .int 1) (by decide)) (u_lst u_nil)))) (u_ret (u_c fun _ => .bl false)) u_next) (u_seq (u_asgM (m_lk (m_cb cm_list (u_cons u_var u_nil)))) (u_seq u_clr (u_seq (u_asgM (m_callPN (u_cons u_var (u_cons u_var u_nil)))) (u_ret (u_and (u_op os_eq u_var u_var) (u_op os_eq (u_lc (i_zip2 (u_cons u_var (u_cons (u_sl (k := true) u_var (p_some (E := E) (ad := ad) (u_c fun _ => .int 1)) p_none) u_nil))) (g_tup (g_cons g_name (g_cons g_name g_nil))) (u_tNot (u_test (u_op os_ltD u_var u_var))) (u_c fun _ => .int 1) (by decide)) (u_lst u_nil)))))))))))) wf hv (guard_get e) k
abbrev s__law_otherwise : Stmt := top 52
def F__law_otherwise : WS := (wSeq (pws 0 (fAsg (fVar 2) (sTup 2 (sCons (sName 3) (sCons (sName 4) sNil))))) (wSeq (wAsg (wDraw W__law_draw (wCons (pw (fCb oLen (fCons (fVar 4) fNil))) wNil)) (sName 5)) (wSeq (wAsg (wOp oMod (wCb oInt (wCons (wOp oAdd (pw (fOp oAdd (fOp oIxT (fVar 4) (fVar 5)) (fC (.int 1)))) (wDraw W__law_draw (wCons (pw (fOp oSub (fVar 3) (fC (.int 1)))) wNil))) wNil)) (pw (fVar 3))) (sName 6)) (wSeq (pws 0 (fAsgM (fLc (iL (fLst (fCons (fVar 6) (fCons (fVar 6) (fCons (fC .none) fNil))))) (sName 8) (fC (.bool true)) (fTup (fCons (fVar 3) (fCons (fOp oCatT (fOp oCatT (fSl false (fVar 4) pNone (pSome (fVar 5))) (fTup (fCons (fVar 8) fNil))) (fSl false (fVar 4) (pSome (fOp oAdd (fVar 5) (fC (.int 1)))) pNone)) fNil))) [8]) 7)) (wSeq (pws 0 (fApp 7 (fTup (fCons (fVar 3) (fCons (fCb oTuple (fCons (fLc (iT (fVar 4)) (sName 9) (fC (.bool true)) (fIf (fT (fOp oLt (fVar 9) (fC (.int 2)))) (fOp oEqA (fVar 9) (fC (.int 1))) (fVar 9)) [9]) fNil)) fNil))))) (wSeq (pws 0 (fAsgM (fLkM (fOp oCat (fVar 7) (fLst (fCons (fTup (fCons (fOp oAdd (fVar 3) (fC (.int 1))) (fCons (fVar 4) fNil))) (fCons (fTup (fCons (fC (.int 1)) (fCons (fOp oRepT (fTup (fCons (fC (.int 0)) fNil)) (fCb oLen (fCons (fVar 4) fNil))) fNil))) (fCons (fTup (fCons (fC (.int 25)) (fCons (fOp oRepT (fTup (fCons (fC (.int 0)) fNil)) (fCb oLen (fCons (fVar 4) fNil))) fNil))) fNil)))))) 7)) (wSeq (pws 0 (fFrz (fun i => Nat.beq i 7) (fAsgM (fOp oCat (fVar 7) (fLst (fCons (fTup (fCons (fVar 3) (fCons (fCb oList (fCons (fVar 4) fNil)) fNil))) (fCons (fCb oList (fCons (fVar 2) fNil)) (fCons (fTup (fCons (fVar 3) (fCons (fSl false (fVar 4) pNone (pSome (fUn oNeg (fC (.int 1))))) fNil))) (fCons (fTup (fCons (fVar 3) fNil)) (fCons (fVar 4) fNil))))))) 7))) (wSeq (pws 0 (fApp 7 (fTup (fCons (fVar 3) (fCons (fCb oTuple (fCons (fLc (iT (fVar 4)) (sName 9) (fC (.bool true)) (fOp oMod (fCb oInt (fCons (fOp oSub (fVar 3) (fVar 9)) fNil)) (fVar 3)) [9]) fNil)) fNil))))) (wSeq (pws 0 (fApp 7 (fTup (fCons (fOp oMul (fC (.int 2)) (fVar 3)) (fCons (fOp oCatT (fOp oCatT (fSl false (fVar 4) pNone (pSome (fVar 5))) (fTup (fCons (fOp oAdd (fOp oIxT (fVar 4) (fVar 5)) (fVar 3)) fNil))) (fSl false (fVar 4) (pSome (fOp oAdd (fVar 5) (fC (.int 1)))) pNone)) fNil))))) (wFrz (fun i => Nat.beq i 7) (wRet (wDraw W__law_pick (wCons (pw (fOp oCat (fVar 7) (fLst (fCons (fTup (fCons (fC (.bool true)) (fCons (fVar 4) fNil))) (fCons (fTup (fCons (fVar 3) (fCons (fC .none) fNil))) (fCons (fOp oCatT (fVar 2) (fTup (fCons (fC (.int 0)) fNil))) fNil)))))) wNil)))))))))))))
def W__law_otherwise : List D → Int → (D → Int → Prop) → Prop := bodyW F__law_otherwise 2 7
theorem ok__law_otherwise {f : Addr} {fd : FuncData} (Z : Zs mg) (C__law_draw : Cal P w K mg base CX0 1 "_law_draw" ["state", "size_here"] (SpW TL W__law_draw)) (C__law_pick : Cal P w K mg base CX0 2 "_law_pick" ["state", "several"] (SpW TL W__law_pick)) (F : Fun K "_law_otherwise" "_law_otherwise" s__law_otherwise f fd) : FnOk P w K mg base CX0 3 f fd ["state", "dials_here", "told"] (SpW TL W__law_otherwise) := by
  have sc : FnScope ["state", "dials_here", "told", "modulus_here", "weights_here", "spot", "near_here", "some", "item", "weight"] ["state", "dials_here", "told"] (defScope s__law_otherwise) := ⟨rfl, rfl, rfl, by decide +kernel, rfl, by decide +kernel, by decide +kernel⟩
  refine F.ok sc (fun vs H Q E h => ?_) (fun cdv A outer s0 H vs Q E hr h => ?_)
  · obtain ⟨G, s, l, c, T, vs2, ds, post, rfl, hv, _, _, _, hb, _⟩ := h
    rw [List.length_cons, hv.len, hb.1]; rfl
  · obtain ⟨G, s, l, c, T, vs2, ds, post, rfl, hv, wd, nt, tb, hb, k⟩ := h
    refine ⟨_, (pss_cons (ps_asg (pv 2) (pg_tup rfl (pgs_cons (pg_name (i := 3) sc.nd rfl (Or.inr rfl)) (pgs_cons (pg_name (i := 4) sc.nd rfl (Or.inr rfl)) pgs_nil)))) (pss_cons (ps_set (i := 5) sc.nd rfl (Or.inr rfl) (pe_cal C__law_draw (hr.mono (by decide)) pass0 (pa_cons (pv 0) (pa_cons (pe_callB (r := rLenA K) call_len_seq (by rfl) Z.len PySem.boot_len (pa_cons (pv 4) pa_nil)) pa_nil)))) (pss_cons (ps_set (i := 6) sc.nd rfl (Or.inl rfl) (pe_op op_mod (pe_callTy call_int1 (by rfl) Z.int (by decide +kernel) (pa_cons (pe_op op_add (pe_op op_add (pe_ix (r := rIxT K) ix_tup (pv 4) (pv 5) (fun _ _ => rfl)) pe_int) (pe_cal C__law_draw (hr.mono (by decide)) pass0 (pa_cons (pv 0) (pa_cons (pe_op op_sub (pv 3) pe_int) pa_nil)))) pa_nil)) (pv 3))) (pss_cons (ps_setLc (i := 7) (own := [("item", 8)]) (g := gName 8) (tt := tYes) (by rfl) sc.nd rfl rfl (sw_true rfl rfl rfl (by decide +kernel)) (pi_list (pe_lst (pa_cons (pv 6) (pa_cons (pv 6) (pa_cons pe_non pa_nil))))) (blkOk_by (N := ["state", "dials_here", "told", "modulus_here", "weights_here", "spot", "near_here", "some", "item", "weight"]) (sc := defScope s__law_otherwise) (by decide +kernel)) (fun _ _ _ _ _ => (pg_name (i := 8) sc.nd rfl (Or.inl rfl))) (fun _ _ _ _ _ => pts_nil) (fun _ _ _ _ _ => (pe_tup (pa_cons (pv 3) (pa_cons (pe_op (r := rCatA K) op_catA (pe_op (r := rCatA K) op_catA (pe_slice (r := rSlA K) sl_tupA (pv 4) po_none (po_some (pv 5))) (pe_tup (pa_cons (pv 8) pa_nil))) (pe_slice (r := rSlA K) sl_tupA (pv 4) (po_some (pe_op op_add (pv 5) pe_int)) po_none)) pa_nil))))) (pss_cons (ps_expr (pe_bm PySem.F.plainAttrs_list PySem.F.slot_list_append PySem.F.type_list_append mt_append (pv 7) (pa_cons (pe_tup (pa_cons (pv 3) (pa_cons (pe_callTy (r := rTupOf K) call_tuple_of (by rfl) Z.tuple (by decide +kernel) (pa_cons (pe_lc (own := [("weight", 9)]) (g := gName 9) (tt := tYes) (by rfl) sc.nd (pi_tup (pv 4)) (blkOk_by (N := ["state", "dials_here", "told", "modulus_here", "weights_here", "spot", "near_here", "some", "item", "weight"]) (sc := defScope s__law_otherwise) (by decide +kernel)) (fun _ _ _ _ _ => (pg_name (i := 9) sc.nd rfl (Or.inl rfl))) (fun _ _ _ _ _ => pts_nil) (fun _ _ _ _ _ => (pe_ifExp (pt_cmpR op_lt (pv 9) pe_int (nomark _)) (pe_cmpR op_eq (pv 9) pe_int (nomark _)) (pv 9)))) pa_nil)) pa_nil))) pa_nil))) (pss_cons (ps_set (i := 7) sc.nd rfl (Or.inl rfl) (pe_op op_cat (pv 7) (pe_lst (pa_cons (pe_tup (pa_cons (pe_op op_add (pv 3) pe_int) (pa_cons (pv 4) pa_nil))) (pa_cons (pe_tup (pa_cons pe_int (pa_cons (pe_op (r := rRepA K) op_repA (pe_tup (pa_cons pe_int pa_nil)) (pe_callB (r := rLenA K) call_len_seq (by rfl) Z.len PySem.boot_len (pa_cons (pv 4) pa_nil))) pa_nil))) (pa_cons (pe_tup (pa_cons pe_int (pa_cons (pe_op (r := rRepA K) op_repA (pe_tup (pa_cons pe_int pa_nil)) (pe_callB (r := rLenA K) call_len_seq (by rfl) Z.len PySem.boot_len (pa_cons (pv 4) pa_nil))) pa_nil))) pa_nil)))))) (pss_cons (ps_set (i := 7) sc.nd rfl (Or.inl rfl) (pe_op op_cat (pv 7) (pe_lst (pa_cons (pe_tup (pa_cons (pv 3) (pa_cons (pe_callTy (r := rListOf K) call_list_of (by rfl) Z.list (by decide +kernel) (pa_cons (pv 4) pa_nil)) pa_nil))) (pa_cons (pe_callTy (r := rListOf K) call_list_of (by rfl) Z.list (by decide +kernel) (pa_cons (pv 2) pa_nil)) (pa_cons (pe_tup (pa_cons (pv 3) (pa_cons (pe_slice (r := rSlA K) sl_tupA (pv 4) po_none (po_some (pe_un un_neg pe_int))) pa_nil))) (pa_cons (pe_tup (pa_cons (pv 3) pa_nil)) (pa_cons (pv 4) pa_nil)))))))) (pss_cons (ps_expr (pe_bm PySem.F.plainAttrs_list PySem.F.slot_list_append PySem.F.type_list_append mt_append (pv 7) (pa_cons (pe_tup (pa_cons (pv 3) (pa_cons (pe_callTy (r := rTupOf K) call_tuple_of (by rfl) Z.tuple (by decide +kernel) (pa_cons (pe_lc (own := [("weight", 9)]) (g := gName 9) (tt := tYes) (by rfl) sc.nd (pi_tup (pv 4)) (blkOk_by (N := ["state", "dials_here", "told", "modulus_here", "weights_here", "spot", "near_here", "some", "item", "weight"]) (sc := defScope s__law_otherwise) (by decide +kernel)) (fun _ _ _ _ _ => (pg_name (i := 9) sc.nd rfl (Or.inl rfl))) (fun _ _ _ _ _ => pts_nil) (fun _ _ _ _ _ => (pe_op op_mod (pe_callTy call_int1 (by rfl) Z.int (by decide +kernel) (pa_cons (pe_op op_sub (pv 3) (pv 9)) pa_nil)) (pv 3)))) pa_nil)) pa_nil))) pa_nil))) (pss_cons (ps_expr (pe_bm PySem.F.plainAttrs_list PySem.F.slot_list_append PySem.F.type_list_append mt_append (pv 7) (pa_cons (pe_tup (pa_cons (pe_op op_mul pe_int (pv 3)) (pa_cons (pe_op (r := rCatA K) op_catA (pe_op (r := rCatA K) op_catA (pe_slice (r := rSlA K) sl_tupA (pv 4) po_none (po_some (pv 5))) (pe_tup (pa_cons (pe_op op_add (pe_ix (r := rIxT K) ix_tup (pv 4) (pv 5) (fun _ _ => rfl)) (pv 3)) pa_nil))) (pe_slice (r := rSlA K) sl_tupA (pv 4) (po_some (pe_op op_add (pv 5) pe_int)) po_none)) pa_nil))) pa_nil))) (pss_one (ps_ret (pe_cal C__law_pick (hr.mono (by decide)) pass0 (pa_cons (pv 0) (pa_cons (pe_op op_cat (pv 7) (pe_lst (pa_cons (pe_tup (pa_cons pe_bl (pa_cons (pv 4) pa_nil))) (pa_cons (pe_tup (pa_cons (pv 3) (pa_cons pe_non pa_nil))) (pa_cons (pe_op (r := rCatA K) op_catA (pv 2) (pe_tup (pa_cons pe_int pa_nil))) pa_nil))))) pa_nil)))))))))))))), ?_⟩
    exact startW (k := 2) (n := 7) rfl (show Sws (X0 TL) _ F__law_otherwise from (w_seq (w_stmt (E := fun _ _ _ => False) (ad := fun _ => 0) (u_asg u_var (g_tup (g_cons g_name (g_cons g_name g_nil))))) (w_seq (w_asg (w_draw (w_cons (w_pure (E := fun _ _ _ => False) (ad := fun _ => 0) (u_cb cs_len (u_cons u_var u_nil))) w_nil)) g_name (show (0 : Nat) ∉ _ from by decide)) (w_seq (w_asg (w_op os_mod (w_cb cs_int (w_cons (w_op os_add (w_pure (E := fun _ _ _ => False) (ad := fun _ => 0) (u_op os_add (u_op os_ixT u_var u_var) (u_c fun _ => .int 1))) (w_draw (w_cons (w_pure (E := fun _ _ _ => False) (ad := fun _ => 0) (u_op os_sub u_var (u_c fun _ => .int 1))) w_nil))) w_nil)) (w_pure (E := fun _ _ _ => False) (ad := fun _ => 0) u_var)) g_name (show (0 : Nat) ∉ _ from by decide)) (w_seq (w_stmt (E := fun _ _ _ => False) (ad := fun _ => 0) (u_asgM (m_lc (i_list (u_lst (u_cons u_var (u_cons u_var (u_cons (u_c fun _ => .non) u_nil))))) g_name u_yes (u_tup (u_cons u_var (u_cons (u_op os_catT (u_op os_catT (u_sl (k := false) u_var p_none (p_some (E := E) (ad := fun _ => 0) u_var)) (u_tup (u_cons u_var u_nil))) (u_sl (k := false) u_var (p_some (E := E) (ad := fun _ => 0) (u_op os_add u_var (u_c fun _ => .int 1))) p_none)) u_nil))) (by decide)))) (w_seq (w_stmt (E := fun _ _ _ => False) (ad := fun _ => 0) (u_app (u_tup (u_cons u_var (u_cons (u_cb cs_tuple (u_cons (u_lc (i_tup u_var) g_name u_yes (u_if (u_test (u_op os_lt u_var (u_c fun _ => .int 2))) (u_op os_eqA u_var (u_c fun _ => .int 1)) u_var) (by decide)) u_nil)) u_nil))))) (w_seq (w_stmt (E := fun _ _ _ => False) (ad := fun _ => 0) (u_asgM (m_lk (m_cat u_var (u_lst (u_cons (u_tup (u_cons (u_op os_add u_var (u_c fun _ => .int 1)) (u_cons u_var u_nil))) (u_cons (u_tup (u_cons (u_c fun _ => .int 1) (u_cons (u_op os_repT (u_tup (u_cons (u_c fun _ => .int 0) u_nil)) (u_cb cs_len (u_cons u_var u_nil))) u_nil))) (u_cons (u_tup (u_cons (u_c fun _ => .int 25) (u_cons (u_op os_repT (u_tup (u_cons (u_c fun _ => .int 0) u_nil)) (u_cb cs_len (u_cons u_var u_nil))) u_nil))) u_nil)))))))) (w_seq (w_stmt (E := fun _ _ _ => False) (ad := fun _ => 0) (u_frz (fun i => Nat.beq i 7) (u_asgM (m_cat u_var (u_lst (u_cons (u_tup (u_cons u_var (u_cons (u_cb cs_list (u_cons u_var u_nil)) u_nil))) (u_cons (u_cb cs_list (u_cons u_var u_nil)) (u_cons (u_tup (u_cons u_var (u_cons (u_sl (k := false) u_var p_none (p_some (E := E) (ad := fun _ => 0) (u_un us_neg (u_c fun _ => .int 1)))) u_nil))) (u_cons (u_tup (u_cons u_var u_nil)) (u_cons u_var u_nil)))))))))) (w_seq (w_stmt (E := fun _ _ _ => False) (ad := fun _ => 0) (u_app (u_tup (u_cons u_var (u_cons (u_cb cs_tuple (u_cons (u_lc (i_tup u_var) g_name u_yes (u_op os_mod (u_cb cs_int (u_cons (u_op os_sub u_var u_var) u_nil)) u_var) (by decide)) u_nil)) u_nil))))) (w_seq (w_stmt (E := fun _ _ _ => False) (ad := fun _ => 0) (u_app (u_tup (u_cons (u_op os_mul (u_c fun _ => .int 2) u_var) (u_cons (u_op os_catT (u_op os_catT (u_sl (k := false) u_var p_none (p_some (E := E) (ad := fun _ => 0) u_var)) (u_tup (u_cons (u_op os_add (u_op os_ixT u_var u_var) u_var) u_nil))) (u_sl (k := false) u_var (p_some (E := E) (ad := fun _ => 0) (u_op os_add u_var (u_c fun _ => .int 1))) p_none)) u_nil))))) (w_frz (fun i => Nat.beq i 7) (w_ret (w_draw (w_cons (w_pure (E := fun _ _ _ => False) (ad := fun _ => 0) (u_op os_cat u_var (u_lst (u_cons (u_tup (u_cons (u_c fun _ => .bl true) (u_cons u_var u_nil))) (u_cons (u_tup (u_cons u_var (u_cons (u_c fun _ => .non) u_nil))) (u_cons (u_op os_catT u_var (u_tup (u_cons (u_c fun _ => .int 0) u_nil))) u_nil)))))) w_nil)))))))))))))) hv wd nt tb hb k
abbrev s__law_weighed_right : Stmt := top 53
def F__law_weighed_right : WS := (wSeq (wAsg (wLcD (wR1 (wCons (wDraw W__law_draw (wCons (pw (fC (.int 13))) wNil)) wNil)) (sName 4) (pwb (fC (.bool true))) (wDraw W__law_place (wCons (pw (fVar 1)) wNil)) [4]) (sName 3)) (wSeq (pws 0 (fAsg (fTup (fCons (fCall0 f__law_led (fCons (fVar 1) (fCons (fOp oIxT (fVar 2) (fC (.int 1))) fNil))) (fCons (fCb oList (fCons (fVar 3) fNil)) fNil))) (sTup 2 (sCons (sName 5) (sCons (sName 6) sNil))))) (wSeq (pws 0 (fAsg (fOp oMod (fCb oInt (fCons (fCb oSum (fCons (fLc (iL (fVar 3)) (sName 8) (fC (.bool true)) (fDGet (fVar 5) (fVar 8)) [8]) fNil)) fNil)) (fOp oIxT (fVar 2) (fC (.int 0)))) (sName 7))) (wSeq (pws 0 (fAsg (fLst (fCons (fCall f_weighed (fCons (fVar 1) (fCons (fVar 2) (fCons (fVar 3) fNil)))) (fCons (fCallP [2, 1, 0] 3 f_weighed (fCons (fCb oTuple (fCons (fVar 3) fNil)) (fCons (fVar 2) (fCons (fVar 1) fNil)))) fNil))) (sName 9))) (pws 0 (fRet (fAnd (fOp oEqA (fCb oRepr (fCons (fVar 9) fNil)) (fCb oRepr (fCons (fLst (fCons (fVar 7) (fCons (fVar 7) fNil))) fNil))) (fAnd (fOp oEq (fVar 3) (fVar 6)) (fOp oEqA (fCb oRepr (fCons (fCall f_weighed (fCons (fVar 1) (fCons (fVar 2) (fCons (fLst fNil) fNil)))) fNil)) (fC (.str "0")))))))))))
def W__law_weighed_right : List D → Int → (D → Int → Prop) → Prop := bodyW F__law_weighed_right 2 7
theorem ok__law_weighed_right {f : Addr} {fd : FuncData} (Z : Zs mg) (Z_sum : mg "sum" = none) (C__law_place : Cal P w K mg base CX0 2 "_law_place" ["state", "dials_here"] (SpW TL W__law_place)) (C__law_led : Cal P w K mg base CX0 2 "_law_led" ["dials_here", "told"] (SpF ad f__law_led)) (C_weighed : Cal P w K mg base (L2.CX P w) 6 "weighed" ["dials", "weighing", "several"] (SpF ad f_weighed)) (CP_weighed__several__weighing__dials : CalP P w K mg base (L2.CX P w) 6 "weighed" ["several", "weighing", "dials"] ["dials", "weighing", "several"] [2, 1, 0] (SpF ad f_weighed)) (C__law_draw : Cal P w K mg base CX0 1 "_law_draw" ["state", "size_here"] (SpW TL W__law_draw)) (F : Fun K "_law_weighed_right" "_law_weighed_right" s__law_weighed_right f fd) : FnG P w K mg base CX0 7 f fd ["state", "dials_here", "told"] (SpW TL W__law_weighed_right) := by
  have sc : FnScope ["state", "dials_here", "told", "some", "lap", "led", "kept_here", "due", "item", "found"] ["state", "dials_here", "told"] (defScope s__law_weighed_right) := ⟨rfl, rfl, rfl, by decide +kernel, rfl, by decide +kernel, by decide +kernel⟩
  refine fun_okG F sc (fun vs H Q E h => ?_) (fun cdv A outer s0 H vs Q E hgd hr h => ?_)
  · obtain ⟨G, s, l, c, T, vs2, ds, post, rfl, hv, _, _, _, hb, _⟩ := h
    rw [List.length_cons, hv.len, hb.1]; rfl
  · obtain ⟨G, s, l, c, T, vs2, ds, post, rfl, hv, wd, nt, tb, hb, k⟩ := h
    have hun : (A.deeper (PyProof.Rows.envOfC "_law_weighed_right" (defScope s__law_weighed_right) s0.heap.objs.size f cdv)).units + 66 < cLine := by have := hr.un; omega
    have hu := hu_of hr
    refine ⟨_, (pss_cons (ps_setLc (i := 3) (own := [("lap", 4)]) (g := gName 4) (tt := tYes) (by rfl) sc.nd rfl rfl (sw_true rfl rfl rfl (by decide +kernel)) (pi_range1 (by rfl) Z.range (pa_cons (pe_cal C__law_draw (hr.mono (by decide)) pass0 (pa_cons (pv 0) (pa_cons pe_int pa_nil))) pa_nil)) (blkOk_by (N := ["state", "dials_here", "told", "some", "lap", "led", "kept_here", "due", "item", "found"]) (sc := defScope s__law_weighed_right) (by decide +kernel)) (fun _ _ _ _ _ => (pg_name (i := 4) sc.nd rfl (Or.inl rfl))) (fun _ _ _ _ _ => pts_nil) (fun _ _ _ _ _ => (pe_cal C__law_place (hr.mono (by decide)) pass0 (pa_cons (pv 0) (pa_cons (pv 1) pa_nil))))) (pss_cons (ps_asg (pe_tup (pa_cons (pe_cal C__law_led (hr.mono (by decide)) pass0 (pa_cons (pv 1) (pa_cons (pe_ix (r := rIxT K) ix_tup (pv 2) pe_int (fun _ _ => rfl)) pa_nil))) (pa_cons (pe_callTy (r := rListOf K) call_list_of (by rfl) Z.list (by decide +kernel) (pa_cons (pv 3) pa_nil)) pa_nil))) (pg_tup rfl (pgs_cons (pg_name (i := 5) sc.nd rfl (Or.inr rfl)) (pgs_cons (pg_name (i := 6) sc.nd rfl (Or.inl rfl)) pgs_nil)))) (pss_cons (ps_set (i := 7) sc.nd rfl (Or.inl rfl) (pe_op op_mod (pe_callTy call_int1 (by rfl) Z.int (by decide +kernel) (pa_cons (pe_callB (r := rSum K) (cr_sum (by rfl)) (by rfl) Z_sum (by decide +kernel) (pa_cons (pe_lc (own := [("item", 8)]) (g := gName 8) (tt := tYes) (by rfl) sc.nd (pi_list (pv 3)) (blkOk_by (N := ["state", "dials_here", "told", "some", "lap", "led", "kept_here", "due", "item", "found"]) (sc := defScope s__law_weighed_right) (by decide +kernel)) (fun _ _ _ _ _ => (pg_name (i := 8) sc.nd rfl (Or.inl rfl))) (fun _ _ _ _ _ => pts_nil) (fun _ _ _ _ _ => (pe_dget hu (pv 5) (pv 8) (fun _ _ => rfl)))) pa_nil)) pa_nil)) (pe_ix (r := rIxT K) ix_tup (pv 2) pe_int (fun _ _ => rfl)))) (pss_cons (ps_set (i := 9) sc.nd rfl (Or.inl rfl) (pe_lst (pa_cons (pe_cal C_weighed (hr.mono (by decide)) passF (pa_cons (pv 1) (pa_cons (pv 2) (pa_cons (pv 3) pa_nil)))) (pa_cons (pe_calp (is := [2, 1, 0]) CP_weighed__several__weighing__dials (hr.mono (by decide)) passF (pk_cons (pe_callTy (r := rTupOf K) call_tuple_of (by rfl) Z.tuple (by decide +kernel) (pa_cons (pv 3) pa_nil)) (pk_cons (pv 2) (pk_cons (pv 1) pk_nil)))) pa_nil)))) (pss_one (ps_ret (pe_and (pe_cmpR op_eq (pe_callB (r := rReprV K) (call_reprV hgd hun) (by rfl) Z.repr (by decide +kernel) (pa_cons (pv 9) pa_nil)) (pe_callB (r := rReprV K) (call_reprV hgd hun) (by rfl) Z.repr (by decide +kernel) (pa_cons (pe_lst (pa_cons (pv 7) (pa_cons (pv 7) pa_nil))) pa_nil)) (nomark _)) (pe_and (pe_cmpR (r := rEqD K) (op_eqD hr.units) (pv 3) (pv 6) (nomark _)) (pe_one (pe_cmpR op_eq (pe_callB (r := rReprV K) (call_reprV hgd hun) (by rfl) Z.repr (by decide +kernel) (pa_cons (pe_cal C_weighed (hr.mono (by decide)) passF (pa_cons (pv 1) (pa_cons (pv 2) (pa_cons (pe_lst pa_nil) pa_nil)))) pa_nil)) pe_str (nomark _))))))))))), ?_⟩
    exact startW (k := 2) (n := 7) rfl (show Sws (X0 TL) _ F__law_weighed_right from (w_seq (w_asg (w_lcD (w_rng1 (w_cons (w_draw (w_cons (w_pure (E := fun _ _ _ => False) (ad := ad) (u_c fun _ => .int 13)) w_nil)) w_nil)) g_name (w_pureb (E := fun _ _ _ => False) (ad := ad) u_yes) (w_draw (w_cons (w_pure (E := fun _ _ _ => False) (ad := ad) u_var) w_nil)) (by decide) (show (0 : Nat) ∉ _ from by decide)) g_name (show (0 : Nat) ∉ _ from by decide)) (w_seq (w_stmt (E := fun _ _ _ => False) (ad := ad) (u_asg (u_tup (u_cons (u_call0 (u_cons u_var (u_cons (u_op os_ixT u_var (u_c fun _ => .int 1)) u_nil))) (u_cons (u_cb cs_list (u_cons u_var u_nil)) u_nil))) (g_tup (g_cons g_name (g_cons g_name g_nil))))) (w_seq (w_stmt (E := fun _ _ _ => False) (ad := ad) (u_asg (u_op os_mod (u_cb cs_int (u_cons (u_cb cs_sum (u_cons (u_lc (i_list u_var) g_name u_yes (u_dget u_var u_var) (by decide)) u_nil)) u_nil)) (u_op os_ixT u_var (u_c fun _ => .int 0))) g_name)) (w_seq (w_stmt (E := fun _ _ _ => False) (ad := ad) (u_asg (u_lst (u_cons (u_call (u_cons u_var (u_cons u_var (u_cons u_var u_nil)))) (u_cons (u_callP (u_cons (u_cb cs_tuple (u_cons u_var u_nil)) (u_cons u_var (u_cons u_var u_nil)))) u_nil))) g_name)) (w_stmt (E := fun _ _ _ => False) (ad := ad) (u_ret (u_and (u_op os_eqA (u_cb cs_repr (u_cons u_var u_nil)) (u_cb cs_repr (u_cons (u_lst (u_cons u_var (u_cons u_var u_nil))) u_nil))) (u_and (u_op os_eq u_var u_var) (u_op os_eqA (u_cb cs_repr (u_cons (u_call (u_cons u_var (u_cons u_var (u_cons (u_lst u_nil) u_nil)))) u_nil)) (u_c fun _ => .str "0"))))))))))) hv wd nt tb hb k
abbrev s__law_refused_right : Stmt := top 54
def F__law_refused_right : WS := (wSeq (wAsg (wTup (wCons (wDraw W__law_bad_dials wNil) (wCons (wDraw W__law_pick (wCons (pw (fLst (fCons (fC (.int 1)) (fCons (fC (.int 25)) (fCons (fC (.int 0)) (fCons (fUn oNeg (fC (.int 2))) (fCons (fC .none) (fCons (fC (.bool true)) (fCons (fC (.str "2")) (fCons (fTup (fCons (fC (.int 2)) fNil)) (fCons (fLst fNil) (fCons (fC (.int 999999999)) fNil)))))))))))) wNil)) wNil))) (sTup 2 (sCons (sName 3) (sCons (sName 4) sNil)))) (wSeq (wAsg (wDraw W__law_pick (wCons (pw (fLst (fCons (fC .none) (fCons (fTup fNil) (fCons (fTup (fCons (fC (.int 2)) fNil)) (fCons (fTup (fCons (fC (.int 2)) (fCons (fTup fNil) fNil))) (fCons (fLst (fCons (fOp oIxT (fVar 2) (fC (.int 0))) (fCons (fOp oIxT (fVar 2) (fC (.int 1))) fNil))) (fCons (fTup (fCons (fOp oIxT (fVar 2) (fC (.int 0))) (fCons (fOp oCatT (fOp oIxT (fVar 2) (fC (.int 1))) (fTup (fCons (fC (.int 0)) fNil))) fNil))) (fCons (fTup (fCons (fOp oAdd (fOp oIxT (fVar 2) (fC (.int 0))) (fC (.int 24))) (fCons (fOp oIxT (fVar 2) (fC (.int 1))) fNil))) fNil))))))))) wNil)) (sName 5)) (wSeq (wAsg (wDraw W__law_pick (wCons (wLst (wCons (pw (fC .none)) (wCons (pw (fC (.int 5))) (wCons (wLst (wCons (wDraw W__law_bad_place (wCons (pw (fVar 1)) wNil)) wNil)) (wCons (wDraw W__law_place (wCons (pw (fVar 1)) wNil)) (wCons (pw (fC (.dict [(.none, .none)]))) (wCons (pw (fC (.str "several"))) wNil))))))) wNil)) (sName 6)) (wSeq (wAsgL 7 (wCons (wCau "BadDials" f_weighings (fCons (fVar 3) (fCons (fVar 4) fNil))) (wCons (wCau "BadDials" f_is_weighing (fCons (fVar 3) (fCons (fVar 2) fNil))) wNil))) (wSeq (wApp 7 (wCau "BadDials" f_weighed (fCons (fVar 3) (fCons (fVar 5) (fCons (fVar 6) fNil))))) (wSeq (wApp 7 (wCau "BadModulus" f_weighings (fCons (fVar 1) (fCons (fVar 4) fNil)))) (wSeq (wApp 7 (wCau "BadWeighing" f_weighed (fCons (fVar 1) (fCons (fVar 5) (fCons (fVar 6) fNil))))) (wSeq (wApp 7 (wCau "BadSeveral" f_weighed (fCons (fVar 1) (fCons (fVar 2) (fCons (fVar 6) fNil))))) (pws 0 (fRet (fOp (oIn true) (fC (.bool false)) (fVar 7))))))))))))
def W__law_refused_right : List D → Int → (D → Int → Prop) → Prop := bodyW F__law_refused_right 2 5
theorem okL__law_refused_right {f g c Pt C0 : Addr} {fdc : FuncData} {oc kV doc pm ct : Value} {od an : Option Addr} {osl : Array (Option Value)} (Z : Zs mg) (C__law_pick : Cal P w K mg base CX0 2 "_law_pick" ["state", "several"] (SpW TL W__law_pick)) (C__law_bad_dials : Cal P w K mg base CX0 3 "_law_bad_dials" ["state"] (SpW TL W__law_bad_dials)) (C__law_place : Cal P w K mg base CX0 2 "_law_place" ["state", "dials_here"] (SpW TL W__law_place)) (C__law_bad_place : Cal P w K mg base CX0 4 "_law_bad_place" ["state", "dials_here"] (SpW TL W__law_bad_place)) (C_weighings : Cal P w K mg base (L2.CX P w) 5 "weighings" ["dials", "modulus"] (SpF ad f_weighings)) (C_is_weighing : Cal P w K mg base (L2.CX P w) 5 "is_weighing" ["dials", "thing"] (SpF ad f_is_weighing)) (C_weighed : Cal P w K mg base (L2.CX P w) 6 "weighed" ["dials", "weighing", "several"] (SpF ad f_weighed)) (B_BadDials : ErrC K mg C0 "BadDials" (ad "BadDials")) (B_BadModulus : ErrC K mg C0 "BadModulus" (ad "BadModulus")) (B_BadSeveral : ErrC K mg C0 "BadSeveral" (ad "BadSeveral")) (B_BadWeighing : ErrC K mg C0 "BadWeighing" (ad "BadWeighing")) (Fc : Fun K "_law_caught" "_law_caught" s__law_caught g fdc) (m_c : mg "_law_caught" = some (.ref g)) (m_C0 : mg "MoveError" = some (.ref C0)) (TB : TabB base mg c Pt) (hmT : (Pt, ("_law_refused_right.<locals>.<lambda>" : Str)) ∈ TL) (huT : ∀ p ∈ TL, p.1 = Pt → p.2 = ("_law_refused_right.<locals>.<lambda>" : Str)) (lk : K.lookup f = some ⟨oc, od, .func (PySem.W.fnOf "_law_refused_right" "_law_refused_right" (defArgs s__law_refused_right) (defBody s__law_refused_right) (defScope s__law_refused_right) .none kV doc pm an (.ref c) ct), osl⟩) (hcd : PySem.W.codeIn K (.ref c) "_law_refused_right" = true) : FnOk P w K mg base CX0 33 f (PySem.W.fnOf "_law_refused_right" "_law_refused_right" (defArgs s__law_refused_right) (defBody s__law_refused_right) (defScope s__law_refused_right) .none kV doc pm an (.ref c) ct) ["state", "dials_here", "told"] (SpW TL W__law_refused_right) := by
  have sc : FnScope ["state", "dials_here", "told", "wrong", "odd", "bent", "bad", "due"] ["state", "dials_here", "told"] (defScope s__law_refused_right) := ⟨rfl, rfl, rfl, by decide +kernel, rfl, by decide +kernel, by decide +kernel⟩
  have scc : FnScope ["work", "caught", "error"] ["work"] (defScope s__law_caught) := ⟨rfl, rfl, rfl, by decide +kernel, rfl, by decide +kernel, by decide +kernel⟩
  obtain ⟨occ, odc, kVc, docc, pmc, anc, cdc, ctc, oslc, rfl, lkc, hcdc⟩ := Fc.ex
  refine fn_of (k := 32) (N := ["state", "dials_here", "told", "wrong", "odd", "bent", "bad", "due"]) lk hcd sc (fun vs H Q E h => by obtain ⟨G, s, l, c, T, vs2, ds, post, rfl, hv, _, _, _, hb, _⟩ := h; rw [List.length_cons, hv.len, hb.1]; rfl) fun A outer sh H vs Q E hr hsp => ?_
  obtain ⟨G, s, l, c', T, vs2, ds, post, rfl, hv, wd, nt, tb, hb, k⟩ := hsp
  suffices hh : ∃ t, PSs (cxOf CX0 P w K mg base ["state", "dials_here", "told", "wrong", "odd", "bent", "bad", "due"] "_law_refused_right" (defScope s__law_refused_right) f (.ref c) A outer sh H E).nox (defBody s__law_refused_right) t ∧ t { nx := fun _ H' => Q .non H', rt := Q } (L2.start ["state", "dials_here", "told", "wrong", "odd", "bent", "bad", "due"] (.ref s :: vs2)) H from
    hh.elim fun t h => ⟨t, h.1.nox, h.2⟩
  refine ⟨_, (pss_cons (ps_asg (pe_tup (pa_cons (pe_cal C__law_bad_dials (hr.mono (by decide)) pass0 (pa_cons (pv 0) pa_nil)) (pa_cons (pe_cal C__law_pick (hr.mono (by decide)) pass0 (pa_cons (pv 0) (pa_cons (pe_lst (pa_cons pe_int (pa_cons pe_int (pa_cons pe_int (pa_cons (pe_un un_neg pe_int) (pa_cons pe_non (pa_cons pe_bl (pa_cons pe_str (pa_cons (pe_tup (pa_cons pe_int pa_nil)) (pa_cons (pe_lst pa_nil) (pa_cons pe_int pa_nil))))))))))) pa_nil))) pa_nil))) (pg_tup rfl (pgs_cons (pg_name (i := 3) sc.nd rfl (Or.inr rfl)) (pgs_cons (pg_name (i := 4) sc.nd rfl (Or.inr rfl)) pgs_nil)))) (pss_cons (ps_set (i := 5) sc.nd rfl (Or.inr rfl) (pe_cal C__law_pick (hr.mono (by decide)) pass0 (pa_cons (pv 0) (pa_cons (pe_lst (pa_cons pe_non (pa_cons (pe_tup pa_nil) (pa_cons (pe_tup (pa_cons pe_int pa_nil)) (pa_cons (pe_tup (pa_cons pe_int (pa_cons (pe_tup pa_nil) pa_nil))) (pa_cons (pe_lst (pa_cons (pe_ix (r := rIxT K) ix_tup (pv 2) pe_int (fun _ _ => rfl)) (pa_cons (pe_ix (r := rIxT K) ix_tup (pv 2) pe_int (fun _ _ => rfl)) pa_nil))) (pa_cons (pe_tup (pa_cons (pe_ix (r := rIxT K) ix_tup (pv 2) pe_int (fun _ _ => rfl)) (pa_cons (pe_op (r := rCatA K) op_catA (pe_ix (r := rIxT K) ix_tup (pv 2) pe_int (fun _ _ => rfl)) (pe_tup (pa_cons pe_int pa_nil))) pa_nil))) (pa_cons (pe_tup (pa_cons (pe_op op_add (pe_ix (r := rIxT K) ix_tup (pv 2) pe_int (fun _ _ => rfl)) pe_int) (pa_cons (pe_ix (r := rIxT K) ix_tup (pv 2) pe_int (fun _ _ => rfl)) pa_nil))) pa_nil)))))))) pa_nil)))) (pss_cons (ps_set (i := 6) sc.nd rfl (Or.inr rfl) (pe_cal C__law_pick (hr.mono (by decide)) pass0 (pa_cons (pv 0) (pa_cons (pe_lst (pa_cons pe_non (pa_cons pe_int (pa_cons (pe_lst (pa_cons (pe_cal C__law_bad_place (hr.mono (by decide)) pass0 (pa_cons (pv 0) (pa_cons (pv 1) pa_nil))) pa_nil)) (pa_cons (pe_cal C__law_place (hr.mono (by decide)) pass0 (pa_cons (pv 0) (pa_cons (pv 1) pa_nil))) (pa_cons pe_dnewK (pa_cons pe_str pa_nil))))))) pa_nil)))) (pss_cons (ps_set (i := 7) sc.nd rfl (Or.inl rfl) (pe_lst (pa_cons (pe_callB (r := rIsK K (ad "BadDials")) (call_isK B_BadDials.i) (by rfl) Z.isinstance (by decide +kernel) (pa_cons (LamX.pe_lamcall (k := 30) (P := Pt) (c := c) (a := "work") (T := TL) (TT := TTc K C0) (t := fun E => tCall (SpF ad f_weighings) [] E (tCons (tVar 3) (tCons (tVar 4) tNil))) (by rfl) m_c Fc.kp lkc hcdc (.all fun us hl => match us, hl with | [_], _ => rfl) scc rfl (Or.inl rfl) (caught_gives m_C0) TB rfl hmT huT (hr.mono (by decide)) (lamS_by (sc := defScope s__law_refused_right) (by decide +kernel)) rfl (fun _ _ _ _ _ => rfl) (fun A outer s H E f c' hr2 => (pe_cal C_weighings (hr2.mono (by decide)) (passes_call (takes_of rfl rfl rfl rfl) (fun _ _ _ _ h => h)) (pa_cons (pv 3) (pa_cons (pv 4) pa_nil))))) (pa_cons (pe_glob (v := .ref (ad "BadDials")) (u := .ref (ad "BadDials")) (by rfl) B_BadDials.m rfl) pa_nil))) (pa_cons (pe_callB (r := rIsK K (ad "BadDials")) (call_isK B_BadDials.i) (by rfl) Z.isinstance (by decide +kernel) (pa_cons (LamX.pe_lamcall (k := 30) (P := Pt) (c := c) (a := "work") (T := TL) (TT := TTc K C0) (t := fun E => tCall (SpF ad f_is_weighing) [] E (tCons (tVar 3) (tCons (tVar 2) tNil))) (by rfl) m_c Fc.kp lkc hcdc (.all fun us hl => match us, hl with | [_], _ => rfl) scc rfl (Or.inl rfl) (caught_gives m_C0) TB rfl hmT huT (hr.mono (by decide)) (lamS_by (sc := defScope s__law_refused_right) (by decide +kernel)) rfl (fun _ _ _ _ _ => rfl) (fun A outer s H E f c' hr2 => (pe_cal C_is_weighing (hr2.mono (by decide)) (passes_call (takes_of rfl rfl rfl rfl) (fun _ _ _ _ h => h)) (pa_cons (pv 3) (pa_cons (pv 2) pa_nil))))) (pa_cons (pe_glob (v := .ref (ad "BadDials")) (u := .ref (ad "BadDials")) (by rfl) B_BadDials.m rfl) pa_nil))) pa_nil)))) (pss_cons (ps_expr (pe_bm PySem.F.plainAttrs_list PySem.F.slot_list_append PySem.F.type_list_append mt_append (pv 7) (pa_cons (pe_callB (r := rIsK K (ad "BadDials")) (call_isK B_BadDials.i) (by rfl) Z.isinstance (by decide +kernel) (pa_cons (LamX.pe_lamcall (k := 30) (P := Pt) (c := c) (a := "work") (T := TL) (TT := TTc K C0) (t := fun E => tCall (SpF ad f_weighed) [] E (tCons (tVar 3) (tCons (tVar 5) (tCons (tVar 6) tNil)))) (by rfl) m_c Fc.kp lkc hcdc (.all fun us hl => match us, hl with | [_], _ => rfl) scc rfl (Or.inl rfl) (caught_gives m_C0) TB rfl hmT huT (hr.mono (by decide)) (lamS_by (sc := defScope s__law_refused_right) (by decide +kernel)) rfl (fun _ _ _ _ _ => rfl) (fun A outer s H E f c' hr2 => (pe_cal C_weighed (hr2.mono (by decide)) (passes_call (takes_of rfl rfl rfl rfl) (fun _ _ _ _ h => h)) (pa_cons (pv 3) (pa_cons (pv 5) (pa_cons (pv 6) pa_nil)))))) (pa_cons (pe_glob (v := .ref (ad "BadDials")) (u := .ref (ad "BadDials")) (by rfl) B_BadDials.m rfl) pa_nil))) pa_nil))) (pss_cons (ps_expr (pe_bm PySem.F.plainAttrs_list PySem.F.slot_list_append PySem.F.type_list_append mt_append (pv 7) (pa_cons (pe_callB (r := rIsK K (ad "BadModulus")) (call_isK B_BadModulus.i) (by rfl) Z.isinstance (by decide +kernel) (pa_cons (LamX.pe_lamcall (k := 30) (P := Pt) (c := c) (a := "work") (T := TL) (TT := TTc K C0) (t := fun E => tCall (SpF ad f_weighings) [] E (tCons (tVar 1) (tCons (tVar 4) tNil))) (by rfl) m_c Fc.kp lkc hcdc (.all fun us hl => match us, hl with | [_], _ => rfl) scc rfl (Or.inl rfl) (caught_gives m_C0) TB rfl hmT huT (hr.mono (by decide)) (lamS_by (sc := defScope s__law_refused_right) (by decide +kernel)) rfl (fun _ _ _ _ _ => rfl) (fun A outer s H E f c' hr2 => (pe_cal C_weighings (hr2.mono (by decide)) (passes_call (takes_of rfl rfl rfl rfl) (fun _ _ _ _ h => h)) (pa_cons (pv 1) (pa_cons (pv 4) pa_nil))))) (pa_cons (pe_glob (v := .ref (ad "BadModulus")) (u := .ref (ad "BadModulus")) (by rfl) B_BadModulus.m rfl) pa_nil))) pa_nil))) (pss_cons (ps_expr (pe_bm PySem.F.plainAttrs_list PySem.F.slot_list_append PySem.F.type_list_append mt_append (pv 7) (pa_cons (pe_callB (r := rIsK K (ad "BadWeighing")) (call_isK B_BadWeighing.i) (by rfl) Z.isinstance (by decide +kernel) (pa_cons (LamX.pe_lamcall (k := 30) (P := Pt) (c := c) (a := "work") (T := TL) (TT := TTc K C0) (t := fun E => tCall (SpF ad f_weighed) [] E (tCons (tVar 1) (tCons (tVar 5) (tCons (tVar 6) tNil)))) (by rfl) m_c Fc.kp lkc hcdc (.all fun us hl => match us, hl with | [_], _ => rfl) scc rfl (Or.inl rfl) (caught_gives m_C0) TB rfl hmT huT (hr.mono (by decide)) (lamS_by (sc := defScope s__law_refused_right) (by decide +kernel)) rfl (fun _ _ _ _ _ => rfl) (fun A outer s H E f c' hr2 => (pe_cal C_weighed (hr2.mono (by decide)) (passes_call (takes_of rfl rfl rfl rfl) (fun _ _ _ _ h => h)) (pa_cons (pv 1) (pa_cons (pv 5) (pa_cons (pv 6) pa_nil)))))) (pa_cons (pe_glob (v := .ref (ad "BadWeighing")) (u := .ref (ad "BadWeighing")) (by rfl) B_BadWeighing.m rfl) pa_nil))) pa_nil))) (pss_cons (ps_expr (pe_bm PySem.F.plainAttrs_list PySem.F.slot_list_append PySem.F.type_list_append mt_append (pv 7) (pa_cons (pe_callB (r := rIsK K (ad "BadSeveral")) (call_isK B_BadSeveral.i) (by rfl) Z.isinstance (by decide +kernel) (pa_cons (LamX.pe_lamcall (k := 30) (P := Pt) (c := c) (a := "work") (T := TL) (TT := TTc K C0) (t := fun E => tCall (SpF ad f_weighed) [] E (tCons (tVar 1) (tCons (tVar 2) (tCons (tVar 6) tNil)))) (by rfl) m_c Fc.kp lkc hcdc (.all fun us hl => match us, hl with | [_], _ => rfl) scc rfl (Or.inl rfl) (caught_gives m_C0) TB rfl hmT huT (hr.mono (by decide)) (lamS_by (sc := defScope s__law_refused_right) (by decide +kernel)) rfl (fun _ _ _ _ _ => rfl) (fun A outer s H E f c' hr2 => (pe_cal C_weighed (hr2.mono (by decide)) (passes_call (takes_of rfl rfl rfl rfl) (fun _ _ _ _ h => h)) (pa_cons (pv 1) (pa_cons (pv 2) (pa_cons (pv 6) pa_nil)))))) (pa_cons (pe_glob (v := .ref (ad "BadSeveral")) (u := .ref (ad "BadSeveral")) (by rfl) B_BadSeveral.m rfl) pa_nil))) pa_nil))) (pss_one (ps_ret (pe_cmpR (r := rInA K true) (op_notInA (room65 hr)) pe_bl (pv 7) (by rfl)))))))))))), ?_⟩
  exact startW (k := 2) (n := 5) rfl (show Sws (X0 TL) _ F__law_refused_right from (w_seq (w_asg (w_tup (w_cons (w_draw w_nil) (w_cons (w_draw (w_cons (w_pure (E := fun _ _ _ => False) (ad := ad) (u_lst (u_cons (u_c fun _ => .int 1) (u_cons (u_c fun _ => .int 25) (u_cons (u_c fun _ => .int 0) (u_cons (u_un us_neg (u_c fun _ => .int 2)) (u_cons (u_c fun _ => .non) (u_cons (u_c fun _ => .bl true) (u_cons (u_c fun _ => .str "2") (u_cons (u_tup (u_cons (u_c fun _ => .int 2) u_nil)) (u_cons (u_lst u_nil) (u_cons (u_c fun _ => .int 999999999) u_nil)))))))))))) w_nil)) w_nil))) (g_tup (g_cons g_name (g_cons g_name g_nil))) (show (0 : Nat) ∉ _ from by decide)) (w_seq (w_asg (w_draw (w_cons (w_pure (E := fun _ _ _ => False) (ad := ad) (u_lst (u_cons (u_c fun _ => .non) (u_cons (u_tup u_nil) (u_cons (u_tup (u_cons (u_c fun _ => .int 2) u_nil)) (u_cons (u_tup (u_cons (u_c fun _ => .int 2) (u_cons (u_tup u_nil) u_nil))) (u_cons (u_lst (u_cons (u_op os_ixT u_var (u_c fun _ => .int 0)) (u_cons (u_op os_ixT u_var (u_c fun _ => .int 1)) u_nil))) (u_cons (u_tup (u_cons (u_op os_ixT u_var (u_c fun _ => .int 0)) (u_cons (u_op os_catT (u_op os_ixT u_var (u_c fun _ => .int 1)) (u_tup (u_cons (u_c fun _ => .int 0) u_nil))) u_nil))) (u_cons (u_tup (u_cons (u_op os_add (u_op os_ixT u_var (u_c fun _ => .int 0)) (u_c fun _ => .int 24)) (u_cons (u_op os_ixT u_var (u_c fun _ => .int 1)) u_nil))) u_nil))))))))) w_nil)) g_name (show (0 : Nat) ∉ _ from by decide)) (w_seq (w_asg (w_draw (w_cons (w_lst (w_cons (w_pure (E := fun _ _ _ => False) (ad := ad) (u_c fun _ => .non)) (w_cons (w_pure (E := fun _ _ _ => False) (ad := ad) (u_c fun _ => .int 5)) (w_cons (w_lst (w_cons (w_draw (w_cons (w_pure (E := fun _ _ _ => False) (ad := ad) u_var) w_nil)) w_nil)) (w_cons (w_draw (w_cons (w_pure (E := fun _ _ _ => False) (ad := ad) u_var) w_nil)) (w_cons (w_pure (E := fun _ _ _ => False) (ad := ad) u_emp) (w_cons (w_pure (E := fun _ _ _ => False) (ad := ad) (u_c fun _ => .str "several")) w_nil))))))) w_nil)) g_name (show (0 : Nat) ∉ _ from by decide)) (w_seq (w_asgL (w_cons (w_cau (C0 := C0) B_BadDials fun E => (u_cons u_var (u_cons u_var u_nil))) (w_cons (w_cau (C0 := C0) B_BadDials fun E => (u_cons u_var (u_cons u_var u_nil))) w_nil)) (show (0 : Nat) ≠ _ from by decide)) (w_seq (w_app (w_cau (C0 := C0) B_BadDials fun E => (u_cons u_var (u_cons u_var (u_cons u_var u_nil)))) (show (0 : Nat) ≠ _ from by decide)) (w_seq (w_app (w_cau (C0 := C0) B_BadModulus fun E => (u_cons u_var (u_cons u_var u_nil))) (show (0 : Nat) ≠ _ from by decide)) (w_seq (w_app (w_cau (C0 := C0) B_BadWeighing fun E => (u_cons u_var (u_cons u_var (u_cons u_var u_nil)))) (show (0 : Nat) ≠ _ from by decide)) (w_seq (w_app (w_cau (C0 := C0) B_BadSeveral fun E => (u_cons u_var (u_cons u_var (u_cons u_var u_nil)))) (show (0 : Nat) ≠ _ from by decide)) (w_stmt (E := fun _ _ _ => False) (ad := ad) (u_ret (u_op os_in (u_c fun _ => .bl false) u_var)))))))))))) hv wd nt tb hb k
end
end Mv
namespace Mv
open PySem L2 Evl
section
variable {n a b : List Int} {M : Rows}
theorem lcount_v (hn : n ∈ fewD) : f__law_count [dI n] = some (.val (.int (prod n))) := few_V (f := fun n => f__law_count [dI n]) (g := fun n => .int (prod n)) (by decide +kernel) hn
theorem lplaces_v (hn : n ∈ fewD) : f__law_places [dI n] = some (.val (dL (placesOf n))) := few_V (f := fun n => f__law_places [dI n]) (g := fun n => dL (placesOf n)) (by decide +kernel) hn
theorem lplus_go (X Y Z : Ce) : ∀ {n a b : List Int}, a.length = n.length → b.length = n.length → (∀ s ∈ n, 0 < s) →
    lcGo (sTup 3 (sCons (sName 3) (sCons (sName 4) (sCons (sName 5) sNil)))) (fC (.bool true)) (fOp oMod (fCb oInt (fCons (fOp oAdd (fVar 3) (fVar 4)) fNil)) (fVar 5)) [X, Y, Z, .un, .un, .un] (zipT3 (a.map .int) (b.map .int) (n.map .int)) = some ((addP n a b).map .int)
  | [], [], [], _, _, _ => rfl
  | s :: n, x :: a, y :: b, h1, h2, h3 => by
    have ih := lplus_go X Y Z (n := n) (a := a) (b := b) (by simpa using h1) (by simpa using h2) (fun s hs => h3 s (List.mem_cons_of_mem _ hs))
    have hs : 0 < s := h3 s (List.mem_cons_self ..)
    have e : (fOp oMod (fCb oInt (fCons (fOp oAdd (fVar 3) (fVar 4)) fNil)) (fVar 5)) [X, Y, Z, .d (.int x), .d (.int y), .d (.int s)] = some (.val (.int ((x + y) % s))) := by
      show (match oIc cMod (fun i j => PyData.int (i % j)) (.int (x + y)) (.int s) with | some z => some (Ou.val z) | none => none) = _
      simp [oIc, cMod, hs]
    have e0 : sTup 3 (sCons (sName 3) (sCons (sName 4) (sCons (sName 5) sNil))) (.tuple [.int x, .int y, .int s]) [X, Y, Z, .un, .un, .un] = some [X, Y, Z, .d (.int x), .d (.int y), .d (.int s)] := rfl
    simp only [List.map_cons, zipT3, addP]
    unfold lcGo
    rw [e0]; dsimp only [fC]
    rw [if_pos rfl, e, ih]
theorem lplus_v (hn : n ∈ fewD) (h1 : a.length = n.length) (h2 : b.length = n.length) : f__law_plus [dI n, dI a, dI b] = some (.val (dI (addP n a b))) := by
  refine (guard_of rfl).trans (bodyD_rt (fRet_val ?_))
  rw [fCb_one (fLc_of (as := zipT3 (a.map PyData.int) (b.map .int) (n.map .int)) rfl (zipT3_small (by have := few_l4 hn; omega)) (lplus_go _ _ _ h1 h2 (few_pos hn)))]
  rfl
theorem lwhole_v (d : D) : f__law_is_whole [d] = some (.val (.bool (isNum d))) := by cases d <;> rfl
theorem fine_ones (k : Nat) : fine (.list (List.replicate k (.int 1))) = true := by
  have e : List.replicate k (PyData.int 1) = (List.replicate k (1 : Int)).map PyData.int := by rw [List.map_replicate]
  rw [e]
  unfold fine
  rw [flat_lI, shaped_lI]; rfl
theorem ones_eq {α : Type} (l : List α) : l.map (fun _ => PyData.int 1) = List.replicate l.length (.int 1) := List.map_const' ..
theorem onesNe_v {α : Type} (l : List α) : oNe (.list (l.map fun _ => .int 1)) (.list []) = some (.bool (!l.isEmpty)) := by
  unfold oNe
  rw [ones_eq, if_pos (by rw [fine_ones]; rfl), eqv_nilD]
  cases l <;> rfl
theorem eqL_v (P Q : Rows) : oEq (dL P) (dL Q) = some (.bool (decide (P = Q))) := by
  unfold oEq
  have f : ∀ P : Rows, fine (dL P) = true := fun P => by
    unfold fine
    rw [show flatD (dL P) = true from flat_rows P, show SeqAt.shaped (dL P) = true from shaped_rowsL P]; rfl
  rw [if_pos (by rw [f, f]; rfl)]
  show some (PyData.bool (PyData.eqvAll (P.map dI) (Q.map dI))) = _
  rw [eqv_rows]
end
end Mv
namespace Mv
open PySem L2 Evl
section
variable {n a b : List Int} {T : Int} {post : D → Int → Prop}
theorem ixL_nat (as : List D) (i : Nat) : oIxL (.list as) (.int (i : Int)) = as[i]? := by
  show (ixD as (i : Int)) = _
  unfold ixD
  rw [if_pos (by omega)]; rfl
theorem ixT_nat (as : List D) (i : Nat) : oIxT (.tuple as) (.int (i : Int)) = as[i]? := by
  show (ixD as (i : Int)) = _
  unfold ixD
  rw [if_pos (by omega)]; rfl
theorem wpick_v {as : List D} (h0 : as ≠ []) (hl : as.length < 1000000) (hT : T < 1000000000000) (h : ∀ d ∈ as, post d (T + 1)) : W__law_pick [.list as] T post := by
  refine bodyW_of rfl fun s => ?_
  have e : oLen [.list as] = some (.int (as.length : Nat)) := rfl
  have p0 : 0 < as.length := List.length_pos_iff.mpr h0
  simp only [F__law_pick, wSeq, wRet, wOp, wAsg, wTup, wLst, wCons, wNil, wDraw, wCb, wIf, wT, wAnd, wOr, wNot, wSl, wIfS, wNext, wDrop, wFrz, wApp, wAsgL, wCall, wOrV, wAndV, wNotV, wR1, wIL, wIT, wZ2, pw, pwb, pwa, guardN, bodyD, fSeq, fAsg, fAsgM, fApp, fRet, fRetN, fDrop, fIfS, fNext, fRaise, fIf, fAnd, fOr, fNot, fT, bo, bnd, bndA, rB, fCall0, noEx, fCall, fCallP, permL, fCons, fNil, fTup, fLst, lim, fCb, ret, fOp, fUn, fVar, fC, fIsi, fIsiLT, isLT, fChain, fLk, fLkB, fLkM, fRevL, fSet2, fFrz, lockL, lockG, lkC, sName, sTup, sCons, sNil, wipeC, List.map_cons, List.map_nil, List.replicate_succ, List.replicate_zero, List.cons_append, List.nil_append, List.getElem?_cons_zero, List.getElem?_cons_succ, List.set_cons_zero, List.set_cons_succ, List.length_cons, List.length_nil, Nat.beq_refl, Nat.reduceAdd, Nat.reduceLeDiff, Nat.reduceEqDiff, Nat.zero_add, if_true, if_false, Bool.false_eq_true, reduceIte, Bool.not_true, Bool.not_false, small_few0, small_few1, small_few2, small_few3, e]
  refine draw_of (by omega) (by omega) hT fun r hr => ?_
  rw [ixL_nat, List.getElem?_eq_getElem (by omega)]
  exact h _ (List.getElem_mem _)
theorem menu_in {n : List Int} (h : n ∈ menuD) : n ∈ fewD := by
  have := List.all_eq_true.mp menu_few n h
  exact List.contains_iff_mem.mp this
theorem menu_two : ∃ n, n ∈ menuD ∧ prod n = 2 := ⟨[2], by decide +kernel, by decide +kernel⟩
theorem menu_len : menuD.length = 41 := by decide +kernel
theorem wdials_v {m : Int} (hm : 2 ≤ m) (hT : T < 1000000000000) (h : ∀ n, n ∈ fewD → prod n ≤ m → post (dI n) (T + 1)) : W__law_dials [.int m] T post := by
  refine bodyW_of rfl fun s => ?_
  have hf := flc_of (src := iL (fVar 2)) (st := sName 3) (ft := fT (fOp oLe (fCall0 f__law_count (fCons (fVar 3) fNil)) (fVar 1))) (fe := fVar 3) (vs := [3]) (Γ := [.fx (.ref s), .d (.int m), .d (dL menuD), .un]) dI (fun n => decide (prod n ≤ m)) dI menuD rfl (by rw [menu_len]; decide) fun n hn => by
    refine ⟨_, rfl, ?_, fun _ => rfl⟩
    have hc := lcount_v (menu_in hn)
    show fT _ [.fx (.ref s), .d (.int m), .d (dL menuD), .d (dI n)] = _
    simp only [guardN, bodyD, fSeq, fAsg, fAsgM, fApp, fRet, fRetN, fDrop, fIfS, fNext, fRaise, fIf, fAnd, fOr, fNot, fT, bo, bnd, bndA, rB, fCall0, noEx, fCall, fCallP, permL, fCons, fNil, fTup, fLst, lim, fCb, ret, fOp, fUn, fVar, fC, fIsi, fIsiLT, isLT, fChain, fLk, fLkB, fLkM, fRevL, fSet2, fFrz, lockL, lockG, lkC, sName, sTup, sCons, sNil, wipeC, List.map_cons, List.map_nil, List.replicate_succ, List.replicate_zero, List.cons_append, List.nil_append, List.getElem?_cons_zero, List.getElem?_cons_succ, List.set_cons_zero, List.set_cons_succ, List.length_cons, List.length_nil, Nat.beq_refl, Nat.reduceAdd, Nat.reduceLeDiff, Nat.reduceEqDiff, Nat.zero_add, if_true, if_false, Bool.false_eq_true, reduceIte, Bool.not_true, Bool.not_false, small_few0, small_few1, small_few2, small_few3, hc, oLe, oI]
  unfold F__law_dials
  refine wSeq_of (pws_nx (Γ' := [.fx (.ref s), .d (.int m), .d (dL (menuD.take 16)), .un]) rfl rfl ?_)
  refine wSeq_of (pws_nx (Γ' := [.fx (.ref s), .d (.int m), .d (dL (menuD.take 30)), .un]) rfl rfl ?_)
  refine wSeq_of (pws_nx (Γ' := [.fx (.ref s), .d (.int m), .d (dL menuD), .un]) rfl rfl ?_)
  refine wRet_of (wDraw_of (wCons_of (pw_of hf (wNil_of ?_))))
  refine wpick_v ?_ ?_ hT ?_
  · intro z
    obtain ⟨n, h1, h2⟩ := menu_two
    have : dI n ∈ (menuD.filter fun n => decide (prod n ≤ m)).map dI := List.mem_map.mpr ⟨n, List.mem_filter.mpr ⟨h1, decide_eq_true (by omega)⟩, rfl⟩
    rw [z] at this; cases this
  · rw [List.length_map]
    have := List.length_filter_le (fun n => decide (prod n ≤ m)) menuD
    rw [menu_len] at this; omega
  · intro d hd
    obtain ⟨n, hn, rfl⟩ := List.mem_map.mp hd
    have := List.mem_filter.mp hn
    exact h n (menu_in this.1) (of_decide_eq_true this.2)
theorem lin_all : ∀ (k : Nat) (n : List Int), n.length = k → (∀ s ∈ n, 2 ≤ s ∧ s ≤ 24) → prod n ≤ 24 → n ∈ linF k
  | 0, n, h, _, _ => by
    cases n with
    | nil => exact List.mem_singleton.mpr rfl
    | cons _ _ => cases h
  | k + 1, n, h, hs, hp => by
    have hne : n ≠ [] := fun z => by rw [z] at h; cases h
    have e := List.dropLast_concat_getLast hne
    have hl := hs _ (List.getLast_mem hne)
    have pe : prod n = prod n.dropLast * n.getLast hne := by
      conv => lhs; rw [← e]
      unfold prod
      rw [List.foldl_append]; rfl
    have p1 : 1 ≤ prod n.dropLast := prod_mono (fun s hs' => (hs s (List.dropLast_subset _ hs')).1) 1 (by decide)
    have p2 : prod n.dropLast ≤ 24 := by
      have : prod n.dropLast * 1 ≤ prod n.dropLast * n.getLast hne := Int.mul_le_mul_of_nonneg_left (by omega) (by omega)
      omega
    have ih := lin_all k n.dropLast (by rw [List.length_dropLast, h]; rfl) (fun s hs' => hs s (List.dropLast_subset _ hs')) p2
    unfold linF stepF
    refine List.mem_flatMap.mpr ⟨_, ih, List.mem_map.mpr ⟨(n.getLast hne - 2).toNat, List.mem_filter.mpr ⟨List.mem_range.mpr (by omega), decide_eq_true ?_⟩, ?_⟩⟩
    · rw [show (2 : Int) + ((n.getLast hne - 2).toNat : Int) = n.getLast hne from by omega, ← pe]; omega
    · rw [show (2 : Int) + ((n.getLast hne - 2).toNat : Int) = n.getLast hne from by omega]; exact e
theorem fnd_lin (m : Nat) : ∀ k, 1 ≤ k → k ≤ m → ∀ n ∈ linF k, n ∈ fndF m := by
  induction m with
  | zero => intro k h1 h2; omega
  | succ m ih =>
    intro k h1 h2 n hn
    unfold fndF
    by_cases e : k = m + 1
    · rw [e] at hn; exact List.mem_append_right _ hn
    · exact List.mem_append_left _ (ih k h1 (by omega) n hn)
theorem okd_few (h : OkD n) : n ∈ fewD := fnd_lin 4 n.length h.lo h.hi n (lin_all n.length n rfl h.sz h.pr)
theorem prod_perm {n m : List Int} (h : n.Perm m) : prod n = prod m := by
  unfold prod
  exact h.foldl_eq' (fun x _ y _ z => by rw [Int.mul_assoc, Int.mul_assoc, Int.mul_comm x y]) 1
theorem few_perm (hn : n ∈ fewD) {m : List Int} (h : m.Perm n) : m ∈ fewD := by
  have o := few_okd hn
  exact okd_few ⟨by rw [h.length_eq]; exact o.lo, by rw [h.length_eq]; exact o.hi, fun s hs => o.sz s (h.mem_iff.mp hs), by rw [prod_perm h]; exact o.pr⟩
theorem perm_ints {n : List Int} {bs : List D} (h : bs.Perm (n.map PyData.int)) : ∃ m : List Int, bs = m.map PyData.int ∧ m.Perm n := by
  have e : bs = (bs.map fun d => match d with | .int i => i | _ => 0).map PyData.int := by
    rw [List.map_map]
    conv => lhs; rw [← List.map_id bs]
    refine List.map_congr_left fun d hd => ?_
    obtain ⟨i, _, rfl⟩ := List.mem_map.mp (h.mem_iff.mp hd)
    rfl
  refine ⟨_, e, ?_⟩
  have := h.map (fun d : D => match d with | .int i => i | _ => 0)
  rw [List.map_map] at this
  exact this.trans (by rw [show (List.map ((fun d : D => match d with | .int i => i | _ => 0) ∘ PyData.int) n) = n from List.map_id n])
theorem wturned_v {m : Int} (hm : 2 ≤ m) (hT : T < 100000000000) (h : ∀ n T', n ∈ fewD → prod n ≤ m → T ≤ T' → T' ≤ T + 10 → post (dI n) T') : W__law_turned_dials [.int m] T post := by
  refine bodyW_of rfl fun s => ?_
  simp only [F__law_turned_dials, wSeq, wRet, wOp, wAsg, wTup, wLst, wCons, wNil, wDraw, wCb, wIf, wT, wAnd, wOr, wNot, wSl, wIfS, wNext, wDrop, wFrz, wApp, wAsgL, wCall, wOrV, wAndV, wNotV, wR1, wIL, wIT, wZ2, pw, pwb, pwa, guardN, bodyD, fSeq, fAsg, fAsgM, fApp, fRet, fRetN, fDrop, fIfS, fNext, fRaise, fIf, fAnd, fOr, fNot, fT, bo, bnd, bndA, rB, fCall0, noEx, fCall, fCallP, permL, fCons, fNil, fTup, fLst, lim, fCb, ret, fOp, fUn, fVar, fC, fIsi, fIsiLT, isLT, fChain, fLk, fLkB, fLkM, fRevL, fSet2, fFrz, lockL, lockG, lkC, sName, sTup, sCons, sNil, wipeC, List.map_cons, List.map_nil, List.replicate_succ, List.replicate_zero, List.cons_append, List.nil_append, List.getElem?_cons_zero, List.getElem?_cons_succ, List.set_cons_zero, List.set_cons_succ, List.length_cons, List.length_nil, Nat.beq_refl, Nat.reduceAdd, Nat.reduceLeDiff, Nat.reduceEqDiff, Nat.zero_add, if_true, if_false, Bool.false_eq_true, reduceIte, Bool.not_true, Bool.not_false, small_few0, small_few1, small_few2, small_few3]
  refine wdials_v hm (by omega) fun n hn hp => ?_
  show W__law_mixed [.list (n.map PyData.int)] (T + 1) _
  have l4 := few_l4 hn
  refine ⟨n.map PyData.int, true, rfl, shaped_lI n, flat_lI n, by rw [List.length_map]; omega, by rw [List.length_map]; omega, fun bs hb => ?_⟩
  obtain ⟨k, rfl, hk⟩ := perm_ints hb
  exact h k _ (few_perm hn hk) (by rw [prod_perm hk]; exact hp) (by omega) (by rw [List.length_map]; omega)
def badD : List D := [.none, .tuple [], .list [.int 2, .int 3], .tuple [.int 1, .int 3], .tuple [.int 0], .tuple [.int 25], .tuple [.int 5, .int 5], .tuple [.int 2, .int 2, .int 2, .int 2, .int 2], .tuple [.bool true, .int 3], .str "23", .int 6, .tuple [.int (-2)], .dict [(.none, .none)]]
theorem wbadDials_v (hT : T < 1000000000000) (h : ∀ d ∈ badD, post d (T + 1)) : W__law_bad_dials [] T post := by
  refine bodyW_of rfl fun s => ?_
  unfold F__law_bad_dials
  refine wRet_of (wDraw_of (wCons_of (pw_of (d := .list badD) rfl (wNil_of ?_))))
  exact wpick_v (by intro z; cases z) (by decide) hT h
theorem bad_chk {d : D} (h : d ∈ badD) : f_check_dials [d] = some (.exc "BadDials") := by
  have : (badD.all fun d => isX (f_check_dials [d]) "BadDials") = true := by decide +kernel
  exact isX_eq (List.all_eq_true.mp this d h)
theorem place_go (s : Addr) (z : D) : ∀ (n : List Int) (T : Int) (post : List D → Int → Prop), (∀ x ∈ n, 0 < x ∧ x ≤ 1000) → T + n.length < 1000000000000 → (∀ p, InP p n → post (p.map PyData.int) (T + n.length)) →
    lcW (sName 2) (pwb (fC (.bool true))) (wDraw W__law_draw (wCons (pw (fVar 2)) wNil)) [.fx (.ref s), .d z, .un] (n.map PyData.int) T post
  | [], T, post, _, _, h => by have := h [] .nil; simpa [lcW] using this
  | x :: n, T, post, hx, hT, h => by
    have hx0 := hx x (List.mem_cons_self ..)
    rw [List.length_cons] at hT
    rw [List.map_cons]
    refine (show W__law_draw [.int x] T (fun d T2 => lcW (sName 2) (pwb (fC (.bool true))) (wDraw W__law_draw (wCons (pw (fVar 2)) wNil)) [.fx (.ref s), .d z, .un] (n.map PyData.int) T2 fun ds T3 => post (d :: ds) T3) from ?_)
    refine draw_of hx0.1 (by omega) (by omega) fun r hr => ?_
    refine place_go s z n (T + 1) _ (fun y hy => hx y (List.mem_cons_of_mem _ hy)) (by omega) fun p hp => ?_
    have := h ((r : Int) :: p) (.cons (by omega) hr hp)
    rw [List.length_cons] at this
    rw [show T + 1 + (n.length : Int) = T + ((n.length + 1 : Nat) : Int) from by omega]
    exact this
theorem wplace_v (hn : n ∈ fewD) (hT : T < 100000000000) (h : ∀ p T', p ∈ placesOf n → T ≤ T' → T' ≤ T + 10 → post (dI p) T') : W__law_place [dI n] T post := by
  refine bodyW_of rfl fun s => ?_
  have l4 := few_l4 hn
  unfold F__law_place
  refine wRet_of (wCb_of (wCons_of (wLc_of (as := n.map PyData.int) rfl ?_ ?_)))
  · rw [List.length_map]; omega
  · refine place_go s (dI n) n T _ (fun x hx => by have := (few_okd hn).sz x hx; omega) (by omega) fun p hp => ?_
    exact h p _ hp.mem (by omega) (by omega)
end
end Mv
namespace Mv
open PySem L2 Evl
section
variable {n a b : List Int} {P : Rows} {f g : List Int → List Int}
theorem nodup_map {α β : Type} {f : α → β} : ∀ {l : List α}, l.Nodup → (∀ x ∈ l, ∀ y ∈ l, f x = f y → x = y) → (l.map f).Nodup
  | [], _, _ => List.nodup_nil
  | x :: l, h, hf => by
    obtain ⟨h1, h2⟩ := (List.nodup_cons.mp h)
    (rw [List.map_cons, List.nodup_cons])
    refine ⟨fun z => ?_, nodup_map h2 fun y hy w hw => hf y (.tail _ hy) w (.tail _ hw)⟩
    obtain ⟨y, hy, e⟩ := List.mem_map.mp z
    have := hf y (.tail _ hy) x (.head _) e
    exact h1 (this ▸ hy)
theorem zeros_mem (hn : n ∈ fewD) : zeros n ∈ placesOf n := (zeros_in (few_pos hn)).mem
def e2 (q : List Int × List Int) : D := .tuple [dI q.1, dI q.2]
end
end Mv
namespace Mv
open PySem L2 Evl
section
variable {n c e : List Int} {m : Int} {w : List Int → Int}
def unitsOf (n : List Int) : Rows := (List.range n.length).map fun i => (List.range n.length).map fun j => if Nat.beq i j then (1 : Int) else 0
theorem few_unit : (fewD.all fun n => (unitsOf n).all (fun u => decide (u ∈ placesOf n)) && !(unitsOf n).isEmpty && decide ((placesOf n).getD 0 [] = zeros n) && (List.range (placesOf n).length).all fun i => Nat.beq i 0 || (unitsOf n).any fun u => ((placesOf n).take i).any fun q => decide (addP n q u = (placesOf n).getD i [])) = true := by decide +kernel
structure UnitsOk (n : List Int) : Prop where
  inn : ∀ u ∈ unitsOf n, u ∈ placesOf n
  ne : unitsOf n ≠ []
  zero : (placesOf n).getD 0 [] = zeros n
  step : ∀ i, i < (placesOf n).length → i ≠ 0 → ∃ u ∈ unitsOf n, ∃ j, j < i ∧ j < (placesOf n).length ∧ addP n ((placesOf n).getD j []) u = (placesOf n).getD i []
theorem few_units (hn : n ∈ fewD) : UnitsOk n := by
  have h := List.all_eq_true.mp few_unit n hn
  simp only [Bool.and_eq_true] at h
  obtain ⟨⟨⟨h1, h2⟩, h3⟩, h4⟩ := (h)
  refine ⟨fun u hu => of_decide_eq_true (List.all_eq_true.mp h1 u hu), (fun z => by rw [z] at h2; cases h2), of_decide_eq_true h3, fun i hi i0 => ?_⟩
  have := List.all_eq_true.mp h4 i (List.mem_range.mpr hi)
  rw [Bool.or_eq_true] at this
  rcases this with b | b
  · exact absurd (Nat.eq_of_beq_eq_true b) i0
  · obtain ⟨u, hu, b⟩ := List.any_eq_true.mp b
    obtain ⟨q, hq, b⟩ := List.any_eq_true.mp b
    obtain ⟨j, hj⟩ := List.getElem?_of_mem hq
    have lj := (List.getElem?_eq_some_iff.mp hj).1
    rw [List.length_take] at lj
    rw [List.getElem?_take] at hj
    rw [if_pos (by omega)] at hj
    refine ⟨u, hu, j, by omega, by omega, ?_⟩
    rw [show (placesOf n).getD j [] = q by rw [List.getD_eq_getElem?_getD, hj]; rfl]
    exact of_decide_eq_true b
theorem addP_assoc (n a b c : List Int) : addP n (addP n a b) c = addP n a (addP n b c) := by
  rw [addP_comm n a b, add_swap, addP_comm n (addP n b c) a]
structure WIn (n : List Int) (m : Int) (w : List Int → Int) : Prop where
  m2 : 2 ≤ m
  lo : ∀ p ∈ placesOf n, 0 ≤ w p
  hi : ∀ p ∈ placesOf n, w p < m
def addAllB (n : List Int) (m : Int) (w : List Int → Int) : Bool := (placesOf n).all fun p => (placesOf n).all fun q => decide (w (addP n p q) = (w p + w q) % m)
def addUnB (n : List Int) (m : Int) (w : List Int → Int) : Bool := (placesOf n).all fun p => (unitsOf n).all fun u => decide ((w p + w u) % m = w (addP n p u))
theorem addAll_iff : addAllB n m w = true ↔ ∀ p ∈ placesOf n, ∀ q ∈ placesOf n, w (addP n p q) = (w p + w q) % m := by
  unfold addAllB
  simp only [List.all_eq_true, decide_eq_true_iff]
theorem addUn_iff : addUnB n m w = true ↔ ∀ p ∈ placesOf n, ∀ u ∈ unitsOf n, (w p + w u) % m = w (addP n p u) := by
  unfold addUnB
  simp only [List.all_eq_true, decide_eq_true_iff]
theorem add_z (hn : n ∈ fewD) {p : List Int} (h : p ∈ placesOf n) : addP n p (zeros n) = p := by rw [addP_comm]; exact zero_add hn h
theorem addIn (hn : n ∈ fewD) {p q : List Int} (hp : p ∈ placesOf n) (hq : q ∈ placesOf n) : addP n p q ∈ placesOf n := (addP_inP (few_inP hn hp) (few_inP hn hq)).mem
theorem all_units (hn : n ∈ fewD) (wi : WIn n m w) : addUnB n m w = addAllB n m w := by
  have uo := few_units hn
  rw [Bool.eq_iff_iff, addUn_iff, addAll_iff]
  constructor
  · intro h
    have z0 := zeros_mem hn
    have w0 : w (zeros n) = 0 := by
      obtain ⟨u, hu⟩ := List.exists_mem_of_ne_nil _ uo.ne
      have e := h _ z0 u hu
      rw [zero_add hn (uo.inn u hu)] at e
      have a1 := wi.lo _ z0
      have a2 := wi.hi _ z0
      have b1 := wi.lo _ (uo.inn u hu)
      have b2 := wi.hi _ (uo.inn u hu)
      by_cases l : w (zeros n) + w u < m
      · rw [Int.emod_eq_of_lt (by omega) l] at e; omega
      · rw [← Int.sub_emod_right, Int.emod_eq_of_lt (by omega) (by omega)] at e; omega
    have key : ∀ i, i < (placesOf n).length → ∀ p ∈ placesOf n, w (addP n p ((placesOf n).getD i [])) = (w p + w ((placesOf n).getD i [])) % m := by
      intro i
      induction i using Nat.strongRecOn with
      | ind i ih =>
        intro hi p hp
        by_cases i0 : i = 0
        · subst i0
          rw [uo.zero, add_z hn hp, w0, Int.add_zero, Int.emod_eq_of_lt (wi.lo p hp) (wi.hi p hp)]
        · obtain ⟨u, hu, j, hj, lj, e⟩ := uo.step i hi i0
          have mj : (placesOf n).getD j [] ∈ placesOf n := by
            rw [List.getD_eq_getElem?_getD, List.getElem?_eq_getElem lj]; exact List.getElem_mem lj
          rw [← e, ← addP_assoc, ← h _ (addIn hn hp mj) u hu, ih j hj lj p hp, ← h _ mj u hu, Int.emod_add_emod, Int.add_emod_emod, Int.add_assoc]
    intro p hp q hq
    obtain ⟨i, hi⟩ := List.getElem?_of_mem hq
    have li := (List.getElem?_eq_some_iff.mp hi).1
    have := key i li p hp
    rw [show (placesOf n).getD i [] = q by rw [List.getD_eq_getElem?_getD, hi]; rfl] at this
    exact this
  · intro h p hp u hu
    exact (h p hp u (uo.inn u hu)).symm
def dotI : List Int → List Int → Int
  | x :: p, y :: c => x * y + dotI p c
  | _, _ => 0
inductive ChOk (m : Int) : List Int → List Int → Prop
  | nil : ChOk m [] []
  | cons {s y : Int} {n c : List Int} : s * y % m = 0 → 0 ≤ y → y < m → ChOk m n c → ChOk m (s :: n) (y :: c)
theorem ChOk.len (h : ChOk m n c) : c.length = n.length := by
  induction h with
  | nil => rfl
  | cons _ _ _ _ ih => rw [List.length_cons, List.length_cons, ih]
theorem emod_same {a b m : Int} (h : m ∣ a - b) : a % m = b % m := Int.emod_eq_emod_iff_emod_sub_eq_zero.mpr (Int.emod_eq_zero_of_dvd h)
theorem dot_dvd (h : ChOk m n c) : ∀ {p q : List Int}, p.length = n.length → q.length = n.length → m ∣ dotI (addP n p q) c - (dotI p c + dotI q c) := by
  induction h with
  | nil =>
    intro p q hp hq
    rw [List.eq_nil_of_length_eq_zero hp, List.eq_nil_of_length_eq_zero hq]
    exact ⟨0, by show (0 : Int) - (0 + 0) = m * 0; omega⟩
  | @cons s y n c h1 _ _ _ ih =>
    intro p q hp hq
    cases p with
    | nil => cases hp
    | cons a p =>
      cases q with
      | nil => cases hq
      | cons b q =>
        obtain ⟨k, hk⟩ := ih (p := p) (q := q) (by simpa using hp) (by simpa using hq)
        obtain ⟨j, hj⟩ := Int.dvd_of_emod_eq_zero h1
        refine ⟨k - j * ((a + b) / s), ?_⟩
        show (a + b) % s * y + dotI (addP n p q) c - (a * y + dotI p c + (b * y + dotI q c)) = _
        have e : (a + b) % s = a + b - s * ((a + b) / s) := by have := Int.emod_add_mul_ediv (a + b) s; omega
        have e2 : (a + b) % s * y = a * y + b * y - m * (j * ((a + b) / s)) := by
          rw [e, Int.sub_mul, Int.add_mul, Int.mul_right_comm, hj, Int.mul_assoc]
        rw [e2, Int.mul_sub, ← hk]
        omega
theorem dot_add (h : ChOk m n c) {p q : List Int} (hp : p.length = n.length) (hq : q.length = n.length) : dotI (addP n p q) c % m = (dotI p c % m + dotI q c % m) % m := by
  rw [← Int.add_emod]
  exact emod_same (dot_dvd h hp hq)
theorem dot_weighs (hn : n ∈ fewD) (h : ChOk m n c) : addAllB n m (fun p => dotI p c % m) = true := addAll_iff.mpr fun p hp q hq => dot_add h (in_len hn hp) (in_len hn hq)
theorem dot_in (hm : 2 ≤ m) : WIn n m (fun p => dotI p c % m) := ⟨hm, fun p _ => Int.emod_nonneg _ (by omega), fun p _ => Int.emod_lt_of_pos _ (by omega)⟩
theorem dot_rep : ∀ (k : Nat) (c : List Int), dotI (List.replicate k 0) c = 0
  | 0, _ => rfl
  | _ + 1, [] => rfl
  | k + 1, y :: c => by
    show 0 * y + dotI (List.replicate k 0) c = 0
    rw [dot_rep k c]; omega
theorem inP_rep : ∀ {n : List Int}, (∀ s ∈ n, 2 ≤ s) → InP (List.replicate n.length 0) n
  | [], _ => .nil
  | s :: n, h => .cons (Int.le_refl _) (by have := h s (.head _); omega) (inP_rep fun x hx => h x (.tail _ hx))
theorem dot_inj (h : ChOk m n c) : ∀ {e : List Int}, ChOk m n e → (∀ s ∈ n, 2 ≤ s) → (∀ p, InP p n → dotI p c % m = dotI p e % m) → c = e := by
  induction h with
  | nil => intro e he _ _; cases he; rfl
  | @cons s y n c h1 y1 y2 _ ih =>
    intro e he hs hp
    cases he with
    | @cons _ z _ e g1 z1 z2 he =>
      have q1 := hp (1 :: List.replicate n.length 0) (.cons (by omega) (by have := hs s (.head _); omega) (inP_rep fun x hx => hs x (.tail _ hx)))
      have q2 : y = z := by
        have q1 : (1 * y + dotI (List.replicate n.length 0) c) % m = (1 * z + dotI (List.replicate n.length 0) e) % m := q1
        rw [dot_rep, dot_rep, Int.one_mul, Int.one_mul, Int.add_zero, Int.add_zero, Int.emod_eq_of_lt y1 y2, Int.emod_eq_of_lt z1 z2] at q1
        exact q1
      subst q2
      rw [ih he (fun x hx => hs x (.tail _ hx)) fun p ip => by
        have q3 : (0 * y + dotI p c) % m = (0 * y + dotI p e) % m := hp (0 :: p) (.cons (Int.le_refl _) (by have := hs s (.head _); omega) ip)
        rw [Int.zero_mul, Int.zero_add, Int.zero_add] at q3
        exact q3]
def fitsM (m s : Int) : List Int := (((List.range m.toNat).map fun (i : Nat) => (i : Int)).filter fun x => decide (s * x % m = 0))
def growM (m : Int) (found : Rows) (s : Int) : Rows := found.flatMap fun b => (fitsM m s).map fun x => b ++ [x]
def choicesOf (m : Int) (n : List Int) : Rows := n.foldl (growM m) [[]]
theorem fits_mem {m s x : Int} (h : x ∈ fitsM m s) : s * x % m = 0 ∧ 0 ≤ x ∧ x < m := by
  unfold fitsM at h
  obtain ⟨h1, h2⟩ := List.mem_filter.mp h
  obtain ⟨i, hi, rfl⟩ := List.mem_map.mp h1
  have := List.mem_range.mp hi
  exact ⟨of_decide_eq_true h2, by omega, by omega⟩
theorem range_int_nodup (k : Nat) : ((List.range k).map fun (i : Nat) => (i : Int)).Nodup := nodup_map List.nodup_range fun x _ y _ e => by omega
theorem fits_nodup (m s : Int) : (fitsM m s).Nodup := (range_int_nodup _).sublist List.filter_sublist
theorem grown_mem : ∀ {n : List Int} {F : Rows} {c : List Int}, c ∈ n.foldl (growM m) F → ∃ b ∈ F, ∃ e, c = b ++ e ∧ ChOk m n e
  | [], F, c, h => ⟨c, h, [], (List.append_nil c).symm, .nil⟩
  | s :: n, F, c, h => by
    obtain ⟨b, hb, e, rfl, he⟩ := grown_mem (n := n) (F := growM m F s) h
    obtain ⟨a, ha, hb⟩ := List.mem_flatMap.mp hb
    obtain ⟨x, hx, rfl⟩ := List.mem_map.mp hb
    obtain ⟨x1, x2, x3⟩ := fits_mem hx
    exact ⟨a, ha, x :: e, by rw [List.append_assoc]; rfl, .cons x1 x2 x3 he⟩
theorem choices_ok (h : c ∈ choicesOf m n) : ChOk m n c := by
  obtain ⟨b, hb, e, rfl, he⟩ := grown_mem h
  rw [List.mem_singleton.mp hb]; exact he
theorem growM_nodup {s : Int} : ∀ {F : Rows}, F.Nodup → (growM m F s).Nodup
  | [], _ => List.nodup_nil
  | b :: F, h => by
    obtain ⟨h1, h2⟩ := (List.nodup_cons.mp h)
    show (((fitsM m s).map fun x => b ++ [x]) ++ growM m F s).Nodup
    refine List.nodup_append.mpr ⟨nodup_map (fits_nodup m s) fun x _ y _ e => by simpa using e, growM_nodup h2, fun x hx y hy e => ?_⟩
    subst e
    obtain ⟨x1, _, rfl⟩ := List.mem_map.mp hx
    obtain ⟨d, hd, hy⟩ := List.mem_flatMap.mp hy
    obtain ⟨x2, _, e⟩ := List.mem_map.mp hy
    have := (List.append_inj' e rfl).1
    exact h1 (this ▸ hd)
theorem grows_nodup : ∀ {n : List Int} {F : Rows}, F.Nodup → (n.foldl (growM m) F).Nodup
  | [], _, h => h
  | s :: n, _, h => grows_nodup (n := n) (growM_nodup h)
theorem choices_nodup : (choicesOf m n).Nodup := grows_nodup (List.nodup_cons.mpr ⟨(fun z => by cases z), List.nodup_nil⟩)
theorem growM_len {s : Int} : ∀ F : Rows, (growM m F s).length = F.length * (fitsM m s).length
  | [] => by rw [List.length_nil, Nat.zero_mul]; rfl
  | b :: F => by
    show (((fitsM m s).map fun x => b ++ [x]) ++ growM m F s).length = _
    rw [List.length_append, List.length_map, growM_len F, List.length_cons, Nat.add_mul, Nat.one_mul, Nat.add_comm]
theorem grows_len : ∀ (n : List Int) (F : Rows), (n.foldl (growM m) F).length = n.foldl (fun a s => a * (fitsM m s).length) F.length
  | [], _ => rfl
  | s :: n, F => by
    show (n.foldl (growM m) (growM m F s)).length = _
    rw [grows_len n, growM_len]; rfl
theorem choices_len : (choicesOf m n).length = n.foldl (fun a s => a * (fitsM m s).length) 1 := grows_len n _
end
end Mv
namespace Mv
open PySem L2 Evl
section
variable {n a b : List Int}
end
end Mv
namespace Mv
open PySem L2 Evl
section
variable {n p : List Int} {T : Int} {post : D → Int → Prop} {Γ : En} {fe : En → Re} {fl fh : En → Option (Option Int)} {k : Bool} {ds : List D}
theorem sqOf_sq (k : Bool) (ds : List D) : sqOf k (sq k ds) = some ds := by cases k <;> rfl
theorem sl_lo (j : Nat) (h : fe Γ = some (.val (sq k ds))) (hh : fh Γ = some (some (j : Int))) (hj : j ≤ ds.length) : fSl k fe pNone fh Γ = some (.val (sq k (ds.take j))) := by
  unfold fSl
  rw [h]; dsimp only
  rw [sqOf_sq, hh]
  show some (Ou.val (sq k (cutD ds none (some (j : Int))))) = _
  rw [cut_lo j hj]
theorem sl_hi (j : Nat) (h : fe Γ = some (.val (sq k ds))) (hl : fl Γ = some (some (j : Int))) (hj : j ≤ ds.length) : fSl k fe fl pNone Γ = some (.val (sq k (ds.drop j))) := by
  unfold fSl
  rw [h]; dsimp only
  rw [sqOf_sq, hl]
  show some (Ou.val (sq k (cutD ds (some (j : Int)) none))) = _
  rw [cut_hi j hj]
def enI : Int → List Int → List (Int × Int)
  | _, [] => []
  | i, x :: l => (i, x) :: enI (i + 1) l
theorem enI_T : ∀ (i : Int) (l : List Int), enumT i (l.map PyData.int) = (enI i l).map fun q => .tuple [.int q.1, .int q.2]
  | _, [] => rfl
  | i, x :: l => by simp only [List.map_cons, enumT, enI, enI_T (i + 1) l]
theorem enI_mem : ∀ {i : Int} {l : List Int} {q : Int × Int}, q ∈ enI i l → ∃ j : Nat, q.1 = i + j ∧ l[j]? = some q.2
  | i, x :: l, q, h => by
    rcases (List.mem_cons.mp h) with rfl | h
    · exact ⟨0, by simp, rfl⟩
    · obtain ⟨j, h1, h2⟩ := enI_mem h
      exact ⟨j + 1, by rw [h1]; omega, by simpa using h2⟩
theorem enI_len : ∀ (i : Int) (l : List Int), (enI i l).length = l.length
  | _, [] => rfl
  | i, x :: l => by simp only [enI, List.length_cons, enI_len (i + 1) l]
theorem ints_nil (l : List Int) : oEq (.list (l.map PyData.int)) (.list []) = some (.bool l.isEmpty) := by
  unfold oEq
  rw [if_pos (by unfold fine; rw [flat_lI, shaped_lI]; rfl), eqv_nilD]
  cases l <;> rfl
theorem put_no {r : Nat} {s : Int} {d : D} (hp : r < p.length) (hs : n[r]? = some s) (hd : btw 0 (s - 1) d = false) : isPlace n (.tuple ((p.map PyData.int).take r ++ [d] ++ (p.map PyData.int).drop (r + 1))) = false :=
  noPlace_at (put_at (by rw [List.length_map]; exact hp)) hs hd
theorem last_no (hn : n ∈ fewD) (hp : p.length = n.length) : isPlace n (.tuple (cutD (p.map PyData.int) none (some (-1)))) = false := by
  have l1 := few_l1 hn
  refine noPlace_len ?_
  rw [cut_last (by rw [List.length_map]; omega), List.length_map]; omega
theorem cat_v {xs ys : List D} (h : xs.length + ys.length ≤ 1000) : oCatT (.tuple xs) (.tuple ys) = some (.tuple (xs ++ ys)) := by
  show (if small (xs.length + ys.length) = true then some (PyData.tuple (xs ++ ys)) else none) = _
  rw [if_pos (small_of h)]
theorem eqInt_v (x y : Int) : ∃ b, oEq (.int x) (.int y) = some (.bool b) ∧ oEqA (.int x) (.int y) = some (.bool b) := ⟨PyData.eqv (.int x) (.int y), by unfold oEq; rw [if_pos (show (fine (PyData.int x) && fine (PyData.int y)) = true from rfl)], by
  show some (PyData.bool (decide (x = y))) = _
  congr 2⟩
theorem wbool_v (hn : n ∈ fewD) (hp : p.length = n.length) (hT : T < 1000000000000) (h : ∀ d T', isPlace n d = false → T ≤ T' → T' ≤ T + 1 → post d T') : W__law_bool_place [dI p] T post := by
  refine bodyW_of rfl fun s => ?_
  have l4 := few_l4 hn
  have hf := flc_of (src := iEn false (fCons (fVar 1) fNil)) (st := sTup 2 (sCons (sName 3) (sCons (sName 4) sNil))) (ft := fT (fOp oLt (fVar 4) (fC (.int 2)))) (fe := fVar 3) (vs := [3, 4]) (Γ := [.fx (.ref s), .d (dI p), .un, .un, .un]) (fun q : Int × Int => .tuple [.int q.1, .int q.2]) (fun q => decide (q.2 < 2)) (fun q => .int q.1) (enI 0 p)
    (by show some (Oa.vals (enumT 0 (p.map PyData.int))) = _; rw [enI_T]) (by rw [enI_len]; omega) fun q hq => ⟨_, rfl, rfl, fun _ => rfl⟩
  generalize hL : (enI 0 p).filter (fun q => decide (q.2 < 2)) = L at hf
  have hLm : ∀ q ∈ L, ∃ j : Nat, q.1 = j ∧ p[j]? = some q.2 := fun q hq => by
    rw [← hL] at hq
    obtain ⟨j, h1, h2⟩ := enI_mem (List.mem_filter.mp hq).1
    exact ⟨j, by omega, h2⟩
  have hLl : L.length ≤ 4 := by
    rw [← hL]
    have := List.length_filter_le (fun q : Int × Int => decide (q.2 < 2)) (enI 0 p)
    rw [enI_len] at this; omega
  have e1 : L.map (fun q => PyData.int q.1) = (L.map (·.1)).map PyData.int := by rw [List.map_map]; rfl
  unfold F__law_bool_place
  refine wSeq_of (pws_nx (Γ' := [.fx (.ref s), .d (dI p), .d (.list (L.map fun q => .int q.1)), .un, .un]) ?_ rfl ?_)
  · show fAsg _ _ [.fx (.ref s), .d (dI p), .un, .un, .un] = _
    simp only [guardN, bodyD, fSeq, fAsg, fAsgM, fApp, fRet, fRetN, fDrop, fIfS, fNext, fRaise, fIf, fAnd, fOr, fNot, fT, bo, bnd, bndA, rB, fCall0, noEx, fCall, fCallP, permL, fCons, fNil, fTup, fLst, lim, fCb, ret, fOp, fUn, fVar, fC, fIsi, fIsiLT, isLT, fChain, fLk, fLkB, fLkM, fRevL, fSet2, fFrz, lockL, lockG, lkC, sName, sTup, sCons, sNil, wipeC, List.map_cons, List.map_nil, List.replicate_succ, List.replicate_zero, List.cons_append, List.nil_append, List.getElem?_cons_zero, List.getElem?_cons_succ, List.set_cons_zero, List.set_cons_succ, List.length_cons, List.length_nil, Nat.beq_refl, Nat.reduceAdd, Nat.reduceLeDiff, Nat.reduceEqDiff, Nat.zero_add, if_true, if_false, Bool.false_eq_true, reduceIte, Bool.not_true, Bool.not_false, small_few0, small_few1, small_few2, small_few3, hf]
  have hq := ints_nil (L.map (·.1))
  rw [← e1] at hq
  by_cases hz : L = []
  · subst hz
    refine wSeq_of (pws_rt (d := .tuple (cutD (p.map PyData.int) none (some (-1)))) rfl ?_)
    exact h _ _ (last_no hn hp) (by omega) (by omega)
  · have he : (L.map (·.1)).isEmpty = false := by cases L with | nil => exact absurd rfl hz | cons _ _ => rfl
    rw [he] at hq
    refine wSeq_of (pws_nx (Γ' := [.fx (.ref s), .d (dI p), .d (.list (L.map fun q => .int q.1)), .un, .un]) ?_ rfl ?_)
    · simp only [guardN, bodyD, fSeq, fAsg, fAsgM, fApp, fRet, fRetN, fDrop, fIfS, fNext, fRaise, fIf, fAnd, fOr, fNot, fT, bo, bnd, bndA, rB, fCall0, noEx, fCall, fCallP, permL, fCons, fNil, fTup, fLst, lim, fCb, ret, fOp, fUn, fVar, fC, fIsi, fIsiLT, isLT, fChain, fLk, fLkB, fLkM, fRevL, fSet2, fFrz, lockL, lockG, lkC, sName, sTup, sCons, sNil, wipeC, List.map_cons, List.map_nil, List.replicate_succ, List.replicate_zero, List.cons_append, List.nil_append, List.getElem?_cons_zero, List.getElem?_cons_succ, List.set_cons_zero, List.set_cons_succ, List.length_cons, List.length_nil, Nat.beq_refl, Nat.reduceAdd, Nat.reduceLeDiff, Nat.reduceEqDiff, Nat.zero_add, if_true, if_false, Bool.false_eq_true, reduceIte, Bool.not_true, Bool.not_false, small_few0, small_few1, small_few2, small_few3, hq]
    refine wSeq_of (wAsg_of (wDraw_of (wCons_of (pw_of rfl (wNil_of ?_)))))
    refine wpick_v (fun z => hz (List.map_eq_nil_iff.mp z)) (by rw [List.length_map]; omega) hT fun d hd => ?_
    obtain ⟨q, hq, rfl⟩ := (List.mem_map.mp hd)
    obtain ⟨j, hj, hx⟩ := hLm q hq
    have jl : j < p.length := (List.getElem?_eq_some_iff.mp hx).1
    obtain ⟨b, hb, hb'⟩ := eqInt_v q.2 1
    obtain ⟨sz, hs⟩ : ∃ sz, n[j]? = some sz := ⟨_, List.getElem?_eq_getElem (by omega)⟩
    refine (pws_rt (i0 := 0) (Γ := [.fx (.ref s), .d (dI p), .d (.list (L.map fun q => .int q.1)), .d (.int q.1), .un]) (d := .tuple ((p.map PyData.int).take j ++ [.bool b] ++ (p.map PyData.int).drop (j + 1))) ?_ ?_)
    · have h1 := sl_lo (k := false) (ds := p.map PyData.int) (Γ := [.fx (.ref s), .d (dI p), .d (.list (L.map fun q => .int q.1)), .d (.int q.1), .un]) (fe := fVar 1) (fh := pSome (fVar 3)) j rfl (by rw [← hj]; rfl) (by rw [List.length_map]; omega)
      have h2 := sl_hi (k := false) (ds := p.map PyData.int) (Γ := [.fx (.ref s), .d (dI p), .d (.list (L.map fun q => .int q.1)), .d (.int q.1), .un]) (fe := fVar 1) (fl := pSome (fOp oAdd (fVar 3) (fC (.int 1)))) (j + 1) rfl (by
        show some (some (q.1 + 1)) = _
        rw [hj]; rfl) (by rw [List.length_map]; omega)
      have h3 : oIxT (dI p) (.int q.1) = some (.int q.2) := by
        rw [hj]
        show oIxT (.tuple (p.map PyData.int)) _ = _
        rw [ixT_nat, List.getElem?_map, hx]; rfl
      have c1 := cat_v (xs := (p.map PyData.int).take j) (ys := [.bool b]) (by rw [List.length_take, List.length_map]; simp; omega)
      have c2 := cat_v (xs := (p.map PyData.int).take j ++ [.bool b]) (ys := (p.map PyData.int).drop (j + 1)) (by rw [List.length_append, List.length_take, List.length_drop, List.length_map]; simp; omega)
      show fRet _ [.fx (.ref s), .d (dI p), .d (.list (L.map fun q => .int q.1)), .d (.int q.1), .un] = _
      simp only [guardN, bodyD, fSeq, fAsg, fAsgM, fApp, fRet, fRetN, fDrop, fIfS, fNext, fRaise, fIf, fAnd, fOr, fNot, fT, bo, bnd, bndA, rB, fCall0, noEx, fCall, fCallP, permL, fCons, fNil, fTup, fLst, lim, fCb, ret, fOp, fUn, fVar, fC, fIsi, fIsiLT, isLT, fChain, fLk, fLkB, fLkM, fRevL, fSet2, fFrz, lockL, lockG, lkC, sName, sTup, sCons, sNil, wipeC, List.map_cons, List.map_nil, List.replicate_succ, List.replicate_zero, List.cons_append, List.nil_append, List.getElem?_cons_zero, List.getElem?_cons_succ, List.set_cons_zero, List.set_cons_succ, List.length_cons, List.length_nil, Nat.beq_refl, Nat.reduceAdd, Nat.reduceLeDiff, Nat.reduceEqDiff, Nat.zero_add, if_true, if_false, Bool.false_eq_true, reduceIte, Bool.not_true, Bool.not_false, small_few0, small_few1, small_few2, small_few3, h1, h2, h3, hb, hb', sq, c1, c2]
    · exact h _ _ (put_no jl hs rfl) (by omega) (by omega)
theorem wbadPlace_v (hn : n ∈ fewD) (hT : T < 100000000000) (h : ∀ d T', isPlace n d = false → T ≤ T' → T' ≤ T + 20 → post d T') : W__law_bad_place [dI n] T post := by
  refine bodyW_of rfl fun s => ?_
  have l4 := few_l4 hn
  have l1 := few_l1 hn
  have hl : oLen [dI n] = some (.int (n.length : Nat)) := by show some (PyData.int ((n.map PyData.int).length : Nat)) = _; rw [List.length_map]
  unfold F__law_bad_place
  refine wSeq_of (wAsg_of (wTup_of (wCons_of (wDraw_of (wCons_of (pw_of rfl (wNil_of ?_)))))))
  refine wplace_v hn hT fun p T1 hp t1 t2 => ?_
  have pl := in_len hn hp
  refine wCons_of (wDraw_of (wCons_of (pw_of (d := .int (n.length : Nat)) (by simp only [guardN, bodyD, fSeq, fAsg, fAsgM, fApp, fRet, fRetN, fDrop, fIfS, fNext, fRaise, fIf, fAnd, fOr, fNot, fT, bo, bnd, bndA, rB, fCall0, noEx, fCall, fCallP, permL, fCons, fNil, fTup, fLst, lim, fCb, ret, fOp, fUn, fVar, fC, fIsi, fIsiLT, isLT, fChain, fLk, fLkB, fLkM, fRevL, fSet2, fFrz, lockL, lockG, lkC, sName, sTup, sCons, sNil, wipeC, List.map_cons, List.map_nil, List.replicate_succ, List.replicate_zero, List.cons_append, List.nil_append, List.getElem?_cons_zero, List.getElem?_cons_succ, List.set_cons_zero, List.set_cons_succ, List.length_cons, List.length_nil, Nat.beq_refl, Nat.reduceAdd, Nat.reduceLeDiff, Nat.reduceEqDiff, Nat.zero_add, if_true, if_false, Bool.false_eq_true, reduceIte, Bool.not_true, Bool.not_false, small_few0, small_few1, small_few2, small_few3, hl]) (wNil_of ?_))))
  refine draw_of (by omega) (by omega) (by omega) fun r hr => ?_
  have rn : r < n.length := by omega
  have hs : n[r]? = some n[r] := List.getElem?_eq_getElem rn
  generalize hsz : n[r] = sz at hs
  have h1 := fun x y => sl_lo (k := false) (ds := p.map PyData.int) (Γ := [.fx (.ref s), .d (dI n), .d (dI p), .d (.int (r : Int)), x, y]) (fe := fVar 2) (fh := pSome (fVar 3)) r rfl rfl (by rw [List.length_map]; omega)
  have h2 := fun x y => sl_hi (k := false) (ds := p.map PyData.int) (Γ := [.fx (.ref s), .d (dI n), .d (dI p), .d (.int (r : Int)), x, y]) (fe := fVar 2) (fl := pSome (fOp oAdd (fVar 3) (fC (.int 1)))) (r + 1) rfl rfl (by rw [List.length_map]; omega)
  have h3 : oIxT (dI n) (.int (r : Int)) = some (.int sz) := by
    show oIxT (.tuple (n.map PyData.int)) _ = _
    rw [ixT_nat, List.getElem?_map, hs]; rfl
  have hf := flc_map (src := iL (fLst (fCons (fUn oNeg (fC (.int 1))) (fCons (fOp oIxT (fVar 1) (fVar 3)) (fCons (fC .none) (fCons (fC (.str "0")) fNil)))))) (st := sName 5) (ft := fC (.bool true)) (fe := fOp oCatT (fOp oCatT (fSl false (fVar 2) pNone (pSome (fVar 3))) (fTup (fCons (fVar 5) fNil))) (fSl false (fVar 2) (pSome (fOp oAdd (fVar 3) (fC (.int 1)))) pNone)) (vs := [5])
    (Γ := [.fx (.ref s), .d (dI n), .d (dI p), .d (.int (r : Int)), .un, .un]) id (fun d => .tuple ((p.map PyData.int).take r ++ [d] ++ (p.map PyData.int).drop (r + 1))) [.int (-1), .int sz, .none, .str "0"]
    (by simp only [iL, guardN, bodyD, fSeq, fAsg, fAsgM, fApp, fRet, fRetN, fDrop, fIfS, fNext, fRaise, fIf, fAnd, fOr, fNot, fT, bo, bnd, bndA, rB, fCall0, noEx, fCall, fCallP, permL, fCons, fNil, fTup, fLst, lim, fCb, ret, fOp, fUn, fVar, fC, fIsi, fIsiLT, isLT, fChain, fLk, fLkB, fLkM, fRevL, fSet2, fFrz, lockL, lockG, lkC, sName, sTup, sCons, sNil, wipeC, List.map_cons, List.map_nil, List.replicate_succ, List.replicate_zero, List.cons_append, List.nil_append, List.getElem?_cons_zero, List.getElem?_cons_succ, List.set_cons_zero, List.set_cons_succ, List.length_cons, List.length_nil, Nat.beq_refl, Nat.reduceAdd, Nat.reduceLeDiff, Nat.reduceEqDiff, Nat.zero_add, if_true, if_false, Bool.false_eq_true, reduceIte, Bool.not_true, Bool.not_false, small_few0, small_few1, small_few2, small_few3, h3, oNeg, List.map_id]; rfl) (by simp) fun d hd => by
      refine ⟨_, rfl, rfl, ?_⟩
      have c1 := cat_v (xs := (p.map PyData.int).take r) (ys := [d]) (by rw [List.length_take, List.length_map]; simp; omega)
      have c2 := cat_v (xs := (p.map PyData.int).take r ++ [d]) (ys := (p.map PyData.int).drop (r + 1)) (by rw [List.length_append, List.length_take, List.length_drop, List.length_map]; simp; omega)
      show fOp _ _ _ [.fx (.ref s), .d (dI n), .d (dI p), .d (.int (r : Int)), .un, .d d] = _
      simp only [guardN, bodyD, fSeq, fAsg, fAsgM, fApp, fRet, fRetN, fDrop, fIfS, fNext, fRaise, fIf, fAnd, fOr, fNot, fT, bo, bnd, bndA, rB, fCall0, noEx, fCall, fCallP, permL, fCons, fNil, fTup, fLst, lim, fCb, ret, fOp, fUn, fVar, fC, fIsi, fIsiLT, isLT, fChain, fLk, fLkB, fLkM, fRevL, fSet2, fFrz, lockL, lockG, lkC, sName, sTup, sCons, sNil, wipeC, List.map_cons, List.map_nil, List.replicate_succ, List.replicate_zero, List.cons_append, List.nil_append, List.getElem?_cons_zero, List.getElem?_cons_succ, List.set_cons_zero, List.set_cons_succ, List.length_cons, List.length_nil, Nat.beq_refl, Nat.reduceAdd, Nat.reduceLeDiff, Nat.reduceEqDiff, Nat.zero_add, if_true, if_false, Bool.false_eq_true, reduceIte, Bool.not_true, Bool.not_false, small_few0, small_few1, small_few2, small_few3, h1, h2, sq, c1, c2]
  refine wNil_of ⟨rfl, ?_⟩
  refine (wSeq_of (Γ := [.fx (.ref s), .d (dI n), .d (dI p), .d (.int (r : Int)), .un, .un]) (pws_nx (Γ' := [.fx (.ref s), .d (dI n), .d (dI p), .d (.int (r : Int)), .d (.list ([.int (-1), .int sz, .none, .str "0"].map fun d => .tuple ((p.map PyData.int).take r ++ [d] ++ (p.map PyData.int).drop (r + 1)))), .un]) ?_ rfl ?_))
  · simp only [fAsg, hf]; rfl
  refine wRet_of (wDraw_of (wCons_of (wOp_of (pw_of rfl (wLst_of ?_)))))
  have cl : (PyData.tuple (cutD (p.map PyData.int) none (some (-1)))) = .tuple (cutD (p.map PyData.int) none (some (-1))) := rfl
  have c0 := cat_v (xs := p.map PyData.int) (ys := [.int 0]) (by rw [List.length_map]; simp; omega)
  refine wCons_of (pw_of (d := .list (p.map PyData.int)) rfl ?_)
  refine wCons_of (pw_of (d := .tuple (cutD (p.map PyData.int) none (some (-1)))) rfl ?_)
  refine wCons_of (pw_of (d := .tuple (p.map PyData.int ++ [.int 0])) (by simp only [guardN, bodyD, fSeq, fAsg, fAsgM, fApp, fRet, fRetN, fDrop, fIfS, fNext, fRaise, fIf, fAnd, fOr, fNot, fT, bo, bnd, bndA, rB, fCall0, noEx, fCall, fCallP, permL, fCons, fNil, fTup, fLst, lim, fCb, ret, fOp, fUn, fVar, fC, fIsi, fIsiLT, isLT, fChain, fLk, fLkB, fLkM, fRevL, fSet2, fFrz, lockL, lockG, lkC, sName, sTup, sCons, sNil, wipeC, List.map_cons, List.map_nil, List.replicate_succ, List.replicate_zero, List.cons_append, List.nil_append, List.getElem?_cons_zero, List.getElem?_cons_succ, List.set_cons_zero, List.set_cons_succ, List.length_cons, List.length_nil, Nat.beq_refl, Nat.reduceAdd, Nat.reduceLeDiff, Nat.reduceEqDiff, Nat.zero_add, if_true, if_false, Bool.false_eq_true, reduceIte, Bool.not_true, Bool.not_false, small_few0, small_few1, small_few2, small_few3]; exact congrArg ret c0) ?_)
  refine wCons_of (pw_of (d := .none) rfl ?_)
  refine wCons_of (pw_of (d := .int 5) rfl ?_)
  refine wCons_of (wDraw_of (wCons_of (pw_of (d := dI p) rfl (wNil_of ?_))))
  refine wbool_v hn pl (by omega) fun bad T2 hbad t3 t4 => ?_
  refine wNil_of ⟨rfl, ?_⟩
  have hall : ∀ d ∈ ([.int (-1), .int sz, .none, .str "0"].map fun d => PyData.tuple ((p.map PyData.int).take r ++ [d] ++ (p.map PyData.int).drop (r + 1))) ++ [.list (p.map PyData.int), .tuple (cutD (p.map PyData.int) none (some (-1))), .tuple (p.map PyData.int ++ [.int 0]), .none, .int 5, bad], isPlace n d = false := fun d hd => by
    rcases List.mem_append.mp hd with hd | hd
    · obtain ⟨x, hx, rfl⟩ := List.mem_map.mp hd
      refine put_no (by omega) hs ?_
      simp only [List.mem_cons, List.not_mem_nil, or_false] at hx
      rcases hx with rfl | rfl | rfl | rfl
      · rfl
      · simp [btw]; omega
      · rfl
      · rfl
    · simp only [List.mem_cons, List.not_mem_nil, or_false] at hd
      rcases hd with rfl | rfl | rfl | rfl | rfl | rfl
      · rfl
      · exact last_no hn pl
      · exact noPlace_len (by rw [List.length_append, List.length_map]; simp; omega)
      · rfl
      · rfl
      · exact hbad
  refine wNil_of ?_
  refine wpick_v (as := ([.int (-1), .int sz, .none, .str "0"].map fun d => PyData.tuple ((p.map PyData.int).take r ++ [d] ++ (p.map PyData.int).drop (r + 1))) ++ [.list (p.map PyData.int), .tuple (cutD (p.map PyData.int) none (some (-1))), .tuple (p.map PyData.int ++ [.int 0]), .none, .int 5, bad]) (T := T2) (by intro z; cases z) (by simp) (by omega) fun d hd => h d _ (hall d hd) (by omega) (by omega)
end
end Mv
namespace Mv
open PySem L2 Evl
def partB (k j : Nat) (d : D) : Bool := flatD d && d.showable && !d.hasDict && decide (d.depth ≤ j) && decide (d.shown.length ≤ k)
theorem partB_facts {k j : Nat} {d : D} (h : partB k j d = true) : flatD d = true ∧ d.showable = true ∧ d.hasDict = false ∧ d.depth ≤ j ∧ d.shown.length ≤ k := by
  unfold partB at h
  simp only [Bool.and_eq_true, decide_eq_true_eq, Bool.not_eq_true'] at h
  exact ⟨h.1.1.1.1, h.1.1.1.2, h.1.1.2, h.1.2, h.2⟩
theorem partB_of {k j : Nat} {d : D} (h : flatD d = true ∧ d.showable = true ∧ d.hasDict = false ∧ d.depth ≤ j ∧ d.shown.length ≤ k) : partB k j d = true := by
  unfold partB
  rw [h.1, h.2.1, h.2.2.1, decide_eq_true h.2.2.2.1, decide_eq_true h.2.2.2.2]; rfl
theorem partB_mono {k j k' j' : Nat} {d : D} (h : partB k j d = true) (hk : k ≤ k') (hj : j ≤ j') : partB k' j' d = true := by
  obtain ⟨h1, h2, h3, h4, h5⟩ := partB_facts h
  exact partB_of ⟨h1, h2, h3, by omega, by omega⟩
def isSeqN (d : D) : Bool := match d with | .list _ => true | .tuple _ => true | .none => true | .int i => decide (i.natAbs.log2 < 1920) | _ => false
theorem repr_of {d : D} (h : partB 1000000 64 d = true) (hk : isSeqN d = true) : oRepr [d] = some (.str d.shown) := by
  obtain ⟨h1, h2, h3, h4, h5⟩ := partB_facts h
  unfold oRepr; dsimp only
  have : reprOk d = true := by
    show (isSeqN d && flatD d && d.showable && !d.hasDict && decide (d.depth ≤ 64) && small d.shown.length) = true
    rw [hk, h1, h2, h3, decide_eq_true h4, show small d.shown.length = true from Nat.ble_eq_true_of_le h5]; rfl
  rw [if_pos this]
end Mv
namespace Mv
open PySem L2 Evl
section
variable {n : List Int} {B : Bg} {T : Int} {post : D → Int → Prop}
theorem forW_go {st : Fs} {F1 : WS} {nx : En → Int → Prop} {rt : D → Int → Prop} (I : Nat → En → Int → Prop) : ∀ (as : List D) (k : Nat) (Γ : En) (T : Int), I k Γ T → (∀ (i : Nat) (a : D) (Γ : En) (T : Int) (nx' : En → Int → Prop), as[i]? = some a → I (k + i) Γ T → (∀ Γ2 T2, I (k + i + 1) Γ2 T2 → nx' Γ2 T2) → ∃ Γ1, st a Γ = some Γ1 ∧ F1 Γ1 T nx' rt) →
    (∀ Γ T, I (k + as.length) Γ T → nx Γ T) → forWGo st F1 as Γ T nx rt
  | [], k, Γ, T, h0, _, he => he Γ T h0
  | a :: as, k, Γ, T, h0, h, he => by
    obtain ⟨Γ1, h1, h2⟩ := h 0 a Γ T (fun Γ2 T2 => forWGo st F1 as Γ2 T2 nx rt) rfl h0 fun Γ2 T2 hI => forW_go I as (k + 1) Γ2 T2 hI (fun i b Γ T nx' e hp hq => by
        refine h (i + 1) b Γ T nx' e (by rw [show k + (i + 1) = k + 1 + i from by omega]; exact hp) fun Γ2 T2 hr => hq Γ2 T2 ?_
        rw [show k + 1 + i + 1 = k + (i + 1) + 1 from by omega]; exact hr) fun Γ T hI => he Γ T (by rw [List.length_cons, show k + (as.length + 1) = k + 1 + as.length from by omega]; exact hI)
    show (match st a Γ with | some Γ1 => F1 Γ1 T (fun Γ2 T2 => forWGo st F1 as Γ2 T2 nx rt) rt | none => False)
    rw [h1]; exact h2
end
section
variable {n : List Int} {B : Bg} {Γ : En} {fe : En → Re}
end
end Mv
namespace Mv
open PySem L2 Evl
section
variable {n : List Int} {m : Int} {w : List Int → Int} {Γ Γ1 : En}
theorem seq_nx {fa fb : En → Rf} (h : fa Γ = some (.nx Γ1)) : fSeq fa fb Γ = fb Γ1 := by unfold fSeq; rw [h]
theorem dc_of {st : Fs} {ft fk fv : En → Re} (e : List Int → D) (g : List Int → D) : ∀ (as : Rows) (acc : List (KK × D)), (∀ a ∈ as, a ≠ [] ∧ ∃ Γ1, st (e a) Γ = some Γ1 ∧ ft Γ1 = some (.val (.bool true)) ∧ fk Γ1 = some (.val (dI a)) ∧ fv Γ1 = some (.val (g a))) → dcGo st ft fk fv Γ (as.map e) acc = some (as.foldl (fun es x => putD es (kI x) (g x)) acc)
  | [], acc, _ => rfl
  | a :: as, acc, h => by
    obtain ⟨ne, Γ1, h1, h2, h3, h4⟩ := h a (List.mem_cons_self ..)
    have ih := dc_of (st := st) (ft := ft) (fk := fk) (fv := fv) e g as (putD acc (kI a) (g a)) fun b hb => h b (List.mem_cons_of_mem _ hb)
    rw [List.map_cons, List.foldl_cons, ← ih]
    have hk := keyOf_dI ne
    conv => lhs; unfold dcGo
    rw [h1]; dsimp only
    rw [h2]; dsimp only
    rw [if_pos rfl, h3]; dsimp only
    rw [hk]; dsimp only
    rw [h4]
def dW (n : List Int) (w : List Int → Int) : D := .tuple ((placesOf n).map fun p => .int (w p))
def wg (n : List Int) (m : Int) (w : List Int → Int) : D := .tuple [.int m, dW n w]
def encW (n : List Int) (w : List Int → Int) : List (KK × D) := (placesOf n).map fun p => (kI p, .int (w p))
theorem lk_encW {p : List Int} : ∀ {L : Rows}, p ∈ L → lkD (L.map fun p => (kI p, PyData.int (w p))) (kI p) = some (.int (w p))
  | q :: L, h => by
    unfold lkD
    rw [List.map_cons, List.find?_cons]
    by_cases e : q = p
    · subst e
      rw [decide_eq_true rfl]; rfl
    · rw [decide_eq_false (fun z => e (kI_inj z))]
      have := lk_encW (L := L) (p := p) ((List.mem_cons.mp h).resolve_left fun z => e z.symm)
      exact this
theorem dgetW {fa fb : En → Re} {p : List Int} (h1 : fa Γ = some (.val (dctD (encW n w)))) (h2 : fb Γ = some (.val (dI p))) (h : p ∈ placesOf n) : fDGet fa fb Γ = some (.val (.int (w p))) := by
  unfold fDGet bnd
  rw [h1]; dsimp only
  rw [h2]; dsimp only
  rw [dctOf_dctD, keyOf0_dI]; dsimp only
  rw [show lkD (encW n w) (kI p) = _ from lk_encW h]; rfl
theorem made_encW (hn : n ∈ fewD) : (placesOf n).foldl (fun es x => putD es (kI x) (PyData.int (w x))) [] = encW n w := by
  have := madeD_nodup kI (fun p => PyData.int (w p)) (placesOf n) (nodup_kI (few_nodup hn))
  unfold madeD at this
  rw [List.filter_eq_self.mpr fun _ _ => rfl] at this
  exact this
theorem zipPW : ∀ P : Rows, zipT (P.map dI) (P.map fun p => PyData.int (w p)) = P.map fun p => .tuple [dI p, .int (w p)]
  | [] => rfl
  | p :: P => by rw [List.map_cons, List.map_cons, List.map_cons, zipT, zipPW P]
theorem dcW (hn : n ∈ fewD) {src : En → Ra} {i j : Nat} (hs : src Γ = some (.vals ((placesOf n).map fun p => .tuple [dI p, .int (w p)])))
    (h : ∀ p, ∃ Γ1, sTup 2 (sCons (sName i) (sCons (sName j) sNil)) (.tuple [dI p, .int (w p)]) (wipeC Γ [i, j]) = some Γ1 ∧ fVar i Γ1 = some (.val (dI p)) ∧ fVar j Γ1 = some (.val (.int (w p)))) :
    fDc src (sTup 2 (sCons (sName i) (sCons (sName j) sNil))) (fC (.bool true)) (fVar i) (fVar j) [i, j] Γ = some (.val (dctD (encW n w))) := by
  have hg := dc_of (st := sTup 2 (sCons (sName i) (sCons (sName j) sNil))) (ft := fC (.bool true)) (fk := fVar i) (fv := fVar j) (Γ := wipeC Γ [i, j]) (fun p : List Int => PyData.tuple [dI p, .int (w p)]) (fun p => .int (w p)) (placesOf n) [] fun p hp => by
    obtain ⟨Γ1, e1, e2, e3⟩ := h p
    exact ⟨inP_ne hn (few_inP hn hp), Γ1, e1, rfl, e2, e3⟩
  rw [made_encW hn] at hg
  unfold fDc
  rw [hs]; dsimp only
  rw [if_pos (small_of (by rw [List.length_map]; have := few_24 hn; omega)), hg]
theorem keysW (d : Ce → En) {fe : En → Re} (h : fe Γ = some (.val (dctD (encW n w)))) : iKy fe Γ = some (.vals ((placesOf n).map dI)) := by
  unfold iKy
  rw [h]; dsimp only
  rw [dctOf_dctD]; dsimp only
  unfold encW
  rw [List.map_map]
  congr 2
  exact List.map_congr_left fun p _ => kD_kI p
abbrev GA (n : List Int) (m : Int) (w : List Int → Int) (a b : Ce) : En := [.d (dI n), .d (.int m), .d (dW n w), .d (dctD (encW n w)), .un, .un, a, b]
theorem neI (a b : Int) : oNeA (.int a) (.int b) = some (.bool (!decide (a = b))) := rfl
theorem modI (a : Int) {b : Int} (h : 0 < b) : oMod (.int a) (.int b) = some (.int (a % b)) := if_pos (decide_eq_true h)
theorem adds_v (hn : n ∈ fewD) (wi : WIn n m w) : f_adds_up [dI n, .int m, dW n w] = some (.val (.bool (addAllB n m w))) := by
  have h0 := places_v hn
  have hm : 0 < m := by have := wi.m2; omega
  have hd := dcW (w := w) hn (src := iZ2 true false (fCons (fCall0 f_all_places (fCons (fVar 0) fNil)) (fCons (fVar 2) fNil))) (i := 4) (j := 5) (Γ := [.d (dI n), .d (.int m), .d (dW n w), .un, .un, .un, .un, .un]) (by
    simp only [iZ2, guardN, bodyD, fSeq, fAsg, fAsgM, fApp, fRet, fRetN, fDrop, fIfS, fNext, fRaise, fIf, fAnd, fOr, fNot, fT, bo, bnd, bndA, rB, fCall0, noEx, fCall, fCallP, permL, fCons, fNil, fTup, fLst, lim, fCb, ret, fOp, fUn, fVar, fC, fIsi, fIsiLT, isLT, fChain, fLk, fLkB, fLkM, fRevL, fSet2, fFrz, lockL, lockG, lkC, sName, sTup, sCons, sNil, wipeC, List.map_cons, List.map_nil, List.replicate_succ, List.replicate_zero, List.cons_append, List.nil_append, List.getElem?_cons_zero, List.getElem?_cons_succ, List.set_cons_zero, List.set_cons_succ, List.length_cons, List.length_nil, Nat.beq_refl, Nat.reduceAdd, Nat.reduceLeDiff, Nat.reduceEqDiff, Nat.zero_add, if_true, if_false, Bool.false_eq_true, reduceIte, Bool.not_true, Bool.not_false, small_few0, small_few1, small_few2, small_few3, h0]
    show some (Oa.vals (zipT ((placesOf n).map dI) ((placesOf n).map fun p => PyData.int (w p)))) = _
    rw [zipPW]) fun p => ⟨_, rfl, rfl, rfl⟩
  have inner : ∀ p ∈ placesOf n, ∀ d7, _ := fun p hp d7 => for_all (src := iKy (fVar 3)) (st := sName 7)
    (body := fIfS (fT (fOp oNeA (fDGet (fVar 3) (fCall0 f_add (fCons (fVar 0) (fCons (fVar 6) (fCons (fVar 7) fNil))))) (fOp oMod (fOp oAdd (fDGet (fVar 3) (fVar 6)) (fDGet (fVar 3) (fVar 7))) (fVar 1)))) (fRet (fC (.bool false))) fNext)
    (Γ := GA n m w (.d (dI p)) d7) dI (fun Γ => ∃ d7, Γ = GA n m w (.d (dI p)) d7) (fun q => decide (w (addP n p q) = (w p + w q) % m)) (.bool false) (placesOf n) (keysW (fun _ => []) rfl) ⟨_, rfl⟩ fun q hq Γ hJ => by
      obtain ⟨d7, rfl⟩ := hJ
      have a1 := add_v hn (in_len hn hp) (in_len hn hq)
      have e1 : fCall0 f_add (fCons (fVar 0) (fCons (fVar 6) (fCons (fVar 7) fNil))) (GA n m w (.d (dI p)) (.d (dI q))) = some (.val (dI (addP n p q))) := by simp only [guardN, bodyD, fSeq, fAsg, fAsgM, fApp, fRet, fRetN, fDrop, fIfS, fNext, fRaise, fIf, fAnd, fOr, fNot, fT, bo, bnd, bndA, rB, fCall0, noEx, fCall, fCallP, permL, fCons, fNil, fTup, fLst, lim, fCb, ret, fOp, fUn, fVar, fC, fIsi, fIsiLT, isLT, fChain, fLk, fLkB, fLkM, fRevL, fSet2, fFrz, lockL, lockG, lkC, sName, sTup, sCons, sNil, wipeC, List.map_cons, List.map_nil, List.replicate_succ, List.replicate_zero, List.cons_append, List.nil_append, List.getElem?_cons_zero, List.getElem?_cons_succ, List.set_cons_zero, List.set_cons_succ, List.length_cons, List.length_nil, Nat.beq_refl, Nat.reduceAdd, Nat.reduceLeDiff, Nat.reduceEqDiff, Nat.zero_add, if_true, if_false, Bool.false_eq_true, reduceIte, Bool.not_true, Bool.not_false, small_few0, small_few1, small_few2, small_few3, a1]
      have g1 := dgetW (Γ := GA n m w (.d (dI p)) (.d (dI q))) (fa := fVar 3) rfl e1 (addIn hn hp hq)
      have g2 := dgetW (Γ := GA n m w (.d (dI p)) (.d (dI q))) (fa := fVar 3) (fb := fVar 6) (p := p) rfl rfl hp
      have g3 := dgetW (Γ := GA n m w (.d (dI p)) (.d (dI q))) (fa := fVar 3) (fb := fVar 7) (p := q) rfl rfl hq
      have o1 : oAdd (.int (w p)) (.int (w q)) = some (.int (w p + w q)) := rfl
      have o2 := modI (w p + w q) hm
      have o3 := neI (w (addP n p q)) ((w p + w q) % m)
      refine ⟨GA n m w (.d (dI p)) (.d (dI q)), rfl, fun hf => ?_, fun ht => ⟨GA n m w (.d (dI p)) (.d (dI q)), ?_, _, rfl⟩⟩
      · rw [hf] at o3
        simp only [guardN, bodyD, fSeq, fAsg, fAsgM, fApp, fRet, fRetN, fDrop, fIfS, fNext, fRaise, fIf, fAnd, fOr, fNot, fT, bo, bnd, bndA, rB, fCall0, noEx, fCall, fCallP, permL, fCons, fNil, fTup, fLst, lim, fCb, ret, fOp, fUn, fVar, fC, fIsi, fIsiLT, isLT, fChain, fLk, fLkB, fLkM, fRevL, fSet2, fFrz, lockL, lockG, lkC, sName, sTup, sCons, sNil, wipeC, List.map_cons, List.map_nil, List.replicate_succ, List.replicate_zero, List.cons_append, List.nil_append, List.getElem?_cons_zero, List.getElem?_cons_succ, List.set_cons_zero, List.set_cons_succ, List.length_cons, List.length_nil, Nat.beq_refl, Nat.reduceAdd, Nat.reduceLeDiff, Nat.reduceEqDiff, Nat.zero_add, if_true, if_false, Bool.false_eq_true, reduceIte, Bool.not_true, Bool.not_false, small_few0, small_few1, small_few2, small_few3, g1, g2, g3, o1, o2, o3]
      · rw [ht] at o3
        simp only [guardN, bodyD, fSeq, fAsg, fAsgM, fApp, fRet, fRetN, fDrop, fIfS, fNext, fRaise, fIf, fAnd, fOr, fNot, fT, bo, bnd, bndA, rB, fCall0, noEx, fCall, fCallP, permL, fCons, fNil, fTup, fLst, lim, fCb, ret, fOp, fUn, fVar, fC, fIsi, fIsiLT, isLT, fChain, fLk, fLkB, fLkM, fRevL, fSet2, fFrz, lockL, lockG, lkC, sName, sTup, sCons, sNil, wipeC, List.map_cons, List.map_nil, List.replicate_succ, List.replicate_zero, List.cons_append, List.nil_append, List.getElem?_cons_zero, List.getElem?_cons_succ, List.set_cons_zero, List.set_cons_succ, List.length_cons, List.length_nil, Nat.beq_refl, Nat.reduceAdd, Nat.reduceLeDiff, Nat.reduceEqDiff, Nat.zero_add, if_true, if_false, Bool.false_eq_true, reduceIte, Bool.not_true, Bool.not_false, small_few0, small_few1, small_few2, small_few3, g1, g2, g3, o1, o2, o3]
  have outer := for_all (src := iKy (fVar 3)) (st := sName 6)
    (body := fFor (iKy (fVar 3)) (sName 7) (fIfS (fT (fOp oNeA (fDGet (fVar 3) (fCall0 f_add (fCons (fVar 0) (fCons (fVar 6) (fCons (fVar 7) fNil))))) (fOp oMod (fOp oAdd (fDGet (fVar 3) (fVar 6)) (fDGet (fVar 3) (fVar 7))) (fVar 1)))) (fRet (fC (.bool false))) fNext))
    (Γ := GA n m w .un .un) dI (fun Γ => ∃ d6 d7, Γ = GA n m w d6 d7) (fun p => (placesOf n).all fun q => decide (w (addP n p q) = (w p + w q) % m)) (.bool false) (placesOf n) (keysW (fun _ => []) rfl) ⟨_, _, rfl⟩ fun p hp Γ hJ => by
      obtain ⟨d6, d7, rfl⟩ := hJ
      obtain ⟨i1, i2⟩ := inner p hp d7
      refine ⟨GA n m w (.d (dI p)) d7, rfl, i1, fun ht => ?_⟩
      obtain ⟨Γ', e1, d8, rfl⟩ := i2 ht
      exact ⟨_, e1, _, _, rfl⟩
  show bodyD b_adds_up 5 [dI n, .int m, dW n w] = _
  unfold bodyD b_adds_up
  have hr : (fSeq (fFor (iKy (fVar 3)) (sName 6) (fFor (iKy (fVar 3)) (sName 7) (fIfS (fT (fOp oNeA (fDGet (fVar 3) (fCall0 f_add (fCons (fVar 0) (fCons (fVar 6) (fCons (fVar 7) fNil))))) (fOp oMod (fOp oAdd (fDGet (fVar 3) (fVar 6)) (fDGet (fVar 3) (fVar 7))) (fVar 1)))) (fRet (fC (.bool false))) fNext))) (fRet (fC (.bool true)))) (GA n m w .un .un) = some (.rt (.bool (addAllB n m w))) := by
    have ea : addAllB n m w = (placesOf n).all fun p => (placesOf n).all fun q => decide (w (addP n p q) = (w p + w q) % m) := rfl
    cases q : addAllB n m w with
    | false =>
      rw [ea] at q
      have := outer.1 q
      unfold fSeq
      rw [this]
    | true =>
      rw [ea] at q
      obtain ⟨Γ', e1, d6, d7, rfl⟩ := outer.2 q
      unfold fSeq
      rw [e1]
      rfl
  have ha : fAsg (fDc (iZ2 true false (fCons (fCall0 f_all_places (fCons (fVar 0) fNil)) (fCons (fVar 2) fNil))) (sTup 2 (sCons (sName 4) (sCons (sName 5) sNil))) (fC (.bool true)) (fVar 4) (fVar 5) [4, 5]) (sName 3) [.d (dI n), .d (.int m), .d (dW n w), .un, .un, .un, .un, .un] = some (.nx (GA n m w .un .un)) := by
    unfold fAsg
    rw [hd]; rfl
  have hx := seq_nx (fb := (fSeq (fFor (iKy (fVar 3)) (sName 6) (fFor (iKy (fVar 3)) (sName 7) (fIfS (fT (fOp oNeA (fDGet (fVar 3) (fCall0 f_add (fCons (fVar 0) (fCons (fVar 6) (fCons (fVar 7) fNil))))) (fOp oMod (fOp oAdd (fDGet (fVar 3) (fVar 6)) (fDGet (fVar 3) (fVar 7))) (fVar 1)))) (fRet (fC (.bool false))) fNext))) (fRet (fC (.bool true))))) ha
  rw [hr] at hx
  rw [show ([dI n, PyData.int m, dW n w].map Ce.d ++ List.replicate 5 .un) = [.d (dI n), .d (.int m), .d (dW n w), .un, .un, .un, .un, .un] from rfl, hx]
end
end Mv
namespace Mv
open PySem L2 Evl
section
variable {n : List Int} {m : Int} {w : List Int → Int} {Γ Γ1 : En}
theorem lunits_v (hn : n ∈ fewD) : f__law_units [dI n] = some (.val (dL (unitsOf n))) := few_V (f := fun n => f__law_units [dI n]) (g := fun n => dL (unitsOf n)) (by decide +kernel) hn
theorem keysW_of : ∀ P : Rows, (∀ p ∈ P, p ≠ []) → keysOf (P.map dI) = some (P.map kI)
  | [], _ => rfl
  | p :: P, h => by
    show (match keyOf (dI p), keysOf (P.map dI) with | some k, some ks => some (k :: ks) | _, _ => none) = _
    rw [keyOf_dI (h p (List.mem_cons_self ..)), keysW_of P fun q hq => h q (List.mem_cons_of_mem _ hq)]; rfl
theorem zip_W (w : List Int → Int) : ∀ P : Rows, (P.map kI).zip (P.map fun p => PyData.int (w p)) = P.map fun p => (kI p, PyData.int (w p))
  | [] => rfl
  | p :: P => by rw [List.map_cons, List.map_cons, List.zip_cons_cons, zip_W w P]; rfl
theorem led_v (hn : n ∈ fewD) : f__law_led [dI n, dW n w] = some (.val (dctD (encW n w))) := by
  have h0 := lplaces_v hn
  have h24 := few_24 hn
  have h1 : oDictZ true false [dL (placesOf n), dW n w] = some (dctD (encW n w)) := by
    show (match keysOf ((placesOf n).map dI) with | some ks => if (Nat.beq ks.length ((placesOf n).map fun p => PyData.int (w p)).length && small ks.length) = true then some (dctD (mergeD [] (ks.zip ((placesOf n).map fun p => PyData.int (w p))))) else none | none => none) = _
    rw [keysW_of _ fun p hp => inP_ne hn (few_inP hn hp)]; dsimp only
    rw [if_pos (by rw [List.length_map, List.length_map, Nat.beq_refl, small_of (by omega)]; rfl), zip_W]
    have := made_encW (w := w) hn
    unfold mergeD
    rw [List.foldl_map]
    rw [this]
  simp only [f__law_led, b__law_led, guardN, bodyD, fSeq, fAsg, fAsgM, fApp, fRet, fRetN, fDrop, fIfS, fNext, fRaise, fIf, fAnd, fOr, fNot, fT, bo, bnd, bndA, rB, fCall0, noEx, fCall, fCallP, permL, fCons, fNil, fTup, fLst, lim, fCb, ret, fOp, fUn, fVar, fC, fIsi, fIsiLT, isLT, fChain, fLk, fLkB, fLkM, fRevL, fSet2, fFrz, lockL, lockG, lkC, sName, sTup, sCons, sNil, wipeC, List.map_cons, List.map_nil, List.replicate_succ, List.replicate_zero, List.cons_append, List.nil_append, List.getElem?_cons_zero, List.getElem?_cons_succ, List.set_cons_zero, List.set_cons_succ, List.length_cons, List.length_nil, Nat.beq_refl, Nat.reduceAdd, Nat.reduceLeDiff, Nat.reduceEqDiff, Nat.zero_add, if_true, if_false, Bool.false_eq_true, reduceIte, Bool.not_true, Bool.not_false, small_few0, small_few1, small_few2, small_few3, h0, h1]
abbrev GB (n : List Int) (d : D) (m : Int) (w : List Int → Int) (a b : Ce) : En := [.d (dI n), .d d, .d (.int m), .d (dW n w), .un, .d (dctD (encW n w)), a, b]
theorem intI (a : Int) : oInt [.int a] = some (.int a) := rfl
abbrev bLawIn : En → Rf := fIfS (fT (fOp oNeA (fOp oMod (fCb oInt (fCons (fOp oAdd (fDGet (fVar 5) (fVar 6)) (fDGet (fVar 5) (fVar 7))) fNil)) (fVar 2)) (fDGet (fVar 5) (fCall0 f__law_plus (fCons (fVar 0) (fCons (fVar 6) (fCons (fVar 7) fNil))))))) (fRet (fC (.bool false))) fNext
theorem lawAdds_v (hn : n ∈ fewD) (wi : WIn n m w) (d : D) : fSeq (fFor (iKy (fVar 5)) (sName 6) (fFor (iL (fCall0 f__law_units (fCons (fVar 0) fNil))) (sName 7) bLawIn)) (fRet (fC (.bool true))) (GB n d m w .un .un) = some (.rt (.bool (addUnB n m w))) := by
  have hu := lunits_v hn
  have uo := few_units hn
  have hm : 0 < m := by have := wi.m2; omega
  have inner : ∀ p ∈ placesOf n, ∀ d7, _ := fun p hp d7 => for_all (src := iL (fCall0 f__law_units (fCons (fVar 0) fNil))) (st := sName 7)
    (body := bLawIn) (Γ := GB n d m w (.d (dI p)) d7) dI (fun Γ => ∃ d7, Γ = GB n d m w (.d (dI p)) d7) (fun u => decide ((w p + w u) % m = w (addP n p u))) (.bool false) (unitsOf n) (by simp only [iL, guardN, bodyD, fSeq, fAsg, fAsgM, fApp, fRet, fRetN, fDrop, fIfS, fNext, fRaise, fIf, fAnd, fOr, fNot, fT, bo, bnd, bndA, rB, fCall0, noEx, fCall, fCallP, permL, fCons, fNil, fTup, fLst, lim, fCb, ret, fOp, fUn, fVar, fC, fIsi, fIsiLT, isLT, fChain, fLk, fLkB, fLkM, fRevL, fSet2, fFrz, lockL, lockG, lkC, sName, sTup, sCons, sNil, wipeC, List.map_cons, List.map_nil, List.replicate_succ, List.replicate_zero, List.cons_append, List.nil_append, List.getElem?_cons_zero, List.getElem?_cons_succ, List.set_cons_zero, List.set_cons_succ, List.length_cons, List.length_nil, Nat.beq_refl, Nat.reduceAdd, Nat.reduceLeDiff, Nat.reduceEqDiff, Nat.zero_add, if_true, if_false, Bool.false_eq_true, reduceIte, Bool.not_true, Bool.not_false, small_few0, small_few1, small_few2, small_few3, hu]; rfl) ⟨_, rfl⟩ fun q hq Γ hJ => by
      obtain ⟨d7, rfl⟩ := hJ
      have hq := uo.inn q hq
      have a1 := lplus_v hn (in_len hn hp) (in_len hn hq)
      have e1 : fCall0 f__law_plus (fCons (fVar 0) (fCons (fVar 6) (fCons (fVar 7) fNil))) (GB n d m w (.d (dI p)) (.d (dI q))) = some (.val (dI (addP n p q))) := by simp only [guardN, bodyD, fSeq, fAsg, fAsgM, fApp, fRet, fRetN, fDrop, fIfS, fNext, fRaise, fIf, fAnd, fOr, fNot, fT, bo, bnd, bndA, rB, fCall0, noEx, fCall, fCallP, permL, fCons, fNil, fTup, fLst, lim, fCb, ret, fOp, fUn, fVar, fC, fIsi, fIsiLT, isLT, fChain, fLk, fLkB, fLkM, fRevL, fSet2, fFrz, lockL, lockG, lkC, sName, sTup, sCons, sNil, wipeC, List.map_cons, List.map_nil, List.replicate_succ, List.replicate_zero, List.cons_append, List.nil_append, List.getElem?_cons_zero, List.getElem?_cons_succ, List.set_cons_zero, List.set_cons_succ, List.length_cons, List.length_nil, Nat.beq_refl, Nat.reduceAdd, Nat.reduceLeDiff, Nat.reduceEqDiff, Nat.zero_add, if_true, if_false, Bool.false_eq_true, reduceIte, Bool.not_true, Bool.not_false, small_few0, small_few1, small_few2, small_few3, a1]
      have g1 := dgetW (Γ := GB n d m w (.d (dI p)) (.d (dI q))) (fa := fVar 5) rfl e1 (addIn hn hp hq)
      have g2 := dgetW (Γ := GB n d m w (.d (dI p)) (.d (dI q))) (fa := fVar 5) (fb := fVar 6) (p := p) rfl rfl hp
      have g3 := dgetW (Γ := GB n d m w (.d (dI p)) (.d (dI q))) (fa := fVar 5) (fb := fVar 7) (p := q) rfl rfl hq
      have o1 : oAdd (.int (w p)) (.int (w q)) = some (.int (w p + w q)) := rfl
      have o4 := intI (w p + w q)
      have o2 := modI (w p + w q) hm
      have o3 := neI ((w p + w q) % m) (w (addP n p q))
      refine ⟨GB n d m w (.d (dI p)) (.d (dI q)), rfl, fun hf => ?_, fun ht => ⟨GB n d m w (.d (dI p)) (.d (dI q)), ?_, _, rfl⟩⟩
      · rw [hf] at o3
        simp only [guardN, bodyD, fSeq, fAsg, fAsgM, fApp, fRet, fRetN, fDrop, fIfS, fNext, fRaise, fIf, fAnd, fOr, fNot, fT, bo, bnd, bndA, rB, fCall0, noEx, fCall, fCallP, permL, fCons, fNil, fTup, fLst, lim, fCb, ret, fOp, fUn, fVar, fC, fIsi, fIsiLT, isLT, fChain, fLk, fLkB, fLkM, fRevL, fSet2, fFrz, lockL, lockG, lkC, sName, sTup, sCons, sNil, wipeC, List.map_cons, List.map_nil, List.replicate_succ, List.replicate_zero, List.cons_append, List.nil_append, List.getElem?_cons_zero, List.getElem?_cons_succ, List.set_cons_zero, List.set_cons_succ, List.length_cons, List.length_nil, Nat.beq_refl, Nat.reduceAdd, Nat.reduceLeDiff, Nat.reduceEqDiff, Nat.zero_add, if_true, if_false, Bool.false_eq_true, reduceIte, Bool.not_true, Bool.not_false, small_few0, small_few1, small_few2, small_few3, g1, g2, g3, o1, o2, o3, o4]
      · rw [ht] at o3
        simp only [guardN, bodyD, fSeq, fAsg, fAsgM, fApp, fRet, fRetN, fDrop, fIfS, fNext, fRaise, fIf, fAnd, fOr, fNot, fT, bo, bnd, bndA, rB, fCall0, noEx, fCall, fCallP, permL, fCons, fNil, fTup, fLst, lim, fCb, ret, fOp, fUn, fVar, fC, fIsi, fIsiLT, isLT, fChain, fLk, fLkB, fLkM, fRevL, fSet2, fFrz, lockL, lockG, lkC, sName, sTup, sCons, sNil, wipeC, List.map_cons, List.map_nil, List.replicate_succ, List.replicate_zero, List.cons_append, List.nil_append, List.getElem?_cons_zero, List.getElem?_cons_succ, List.set_cons_zero, List.set_cons_succ, List.length_cons, List.length_nil, Nat.beq_refl, Nat.reduceAdd, Nat.reduceLeDiff, Nat.reduceEqDiff, Nat.zero_add, if_true, if_false, Bool.false_eq_true, reduceIte, Bool.not_true, Bool.not_false, small_few0, small_few1, small_few2, small_few3, g1, g2, g3, o1, o2, o3, o4]
  have outer := for_all (src := iKy (fVar 5)) (st := sName 6) (body := fFor (iL (fCall0 f__law_units (fCons (fVar 0) fNil))) (sName 7) bLawIn)
    (Γ := GB n d m w .un .un) dI (fun Γ => ∃ d6 d7, Γ = GB n d m w d6 d7) (fun p => (unitsOf n).all fun u => decide ((w p + w u) % m = w (addP n p u))) (.bool false) (placesOf n) (keysW (fun _ => []) rfl) ⟨_, _, rfl⟩ fun p hp Γ hJ => by
      obtain ⟨d6, d7, rfl⟩ := hJ
      obtain ⟨i1, i2⟩ := inner p hp d7
      refine ⟨GB n d m w (.d (dI p)) d7, rfl, i1, fun ht => ?_⟩
      obtain ⟨Γ', e1, d8, rfl⟩ := i2 ht
      exact ⟨_, e1, _, _, rfl⟩
  have ea : addUnB n m w = (placesOf n).all fun p => (unitsOf n).all fun u => decide ((w p + w u) % m = w (addP n p u)) := rfl
  cases q : addUnB n m w with
  | false =>
    rw [ea] at q
    have := outer.1 q
    unfold fSeq
    rw [this]
  | true =>
    rw [ea] at q
    obtain ⟨Γ', e1, d6, d7, rfl⟩ := outer.2 q
    unfold fSeq
    rw [e1]
    rfl
theorem intsAll {lo hi : Int} : ∀ {xs : List D}, xs.all (btw lo hi) = true → ∃ is : List Int, xs = is.map PyData.int ∧ ∀ i ∈ is, lo ≤ i ∧ i ≤ hi
  | [], _ => ⟨[], rfl, fun _ h => by cases h⟩
  | d :: xs, h => by
    rw [List.all_cons, Bool.and_eq_true] at h
    obtain ⟨is, rfl, hi⟩ := intsAll h.2
    cases d with
    | int i =>
      have h1 := h.1
      simp only [btw, Bool.and_eq_true, decide_eq_true_iff] at h1
      exact ⟨i :: is, rfl, fun j hj => by
        rcases List.mem_cons.mp hj with rfl | hj
        · exact h1
        · exact hi j hj⟩
    | _ => exact absurd h.1 Bool.false_ne_true
theorem ints_fn : ∀ {P : Rows} {is : List Int}, P.Nodup → is.length = P.length → ∃ w : List Int → Int, is = P.map w
  | [], is, _, h => ⟨fun _ => 0, List.eq_nil_of_length_eq_zero h⟩
  | p :: P, [], _, h => by cases h
  | p :: P, i :: is, nd, h => by
    obtain ⟨h1, h2⟩ := List.nodup_cons.mp nd
    obtain ⟨w, rfl⟩ := ints_fn h2 (by simpa using h)
    refine ⟨fun q => if q = p then i else w q, ?_⟩
    rw [List.map_cons, if_pos rfl]
    congr 1
    exact List.map_congr_left fun q hq => by rw [if_neg (fun z : q = p => h1 (by rw [← z]; exact hq))]
theorem wg_of (hn : n ∈ fewD) {xs : List D} (hl : xs.length = (placesOf n).length) (h : xs.all (btw 0 (m - 1)) = true) (m2 : 2 ≤ m) : ∃ w, .tuple xs = dW n w ∧ WIn n m w := by
  obtain ⟨is, rfl, hi⟩ := intsAll h
  obtain ⟨w, rfl⟩ := ints_fn (few_nodup hn) (by simpa using hl)
  refine ⟨w, by unfold dW; rw [List.map_map]; rfl, m2, fun p hp => ?_, fun p hp => ?_⟩
  · exact (hi _ (List.mem_map.mpr ⟨p, hp, rfl⟩)).1
  · have := (hi _ (List.mem_map.mpr ⟨p, hp, rfl⟩)).2
    omega
theorem range_W (wi : WIn n m w) : ((placesOf n).map fun p => PyData.int (w p)).all (btw 0 (m - 1)) = true := by
  rw [List.all_eq_true]
  intro d hd
  obtain ⟨p, hp, rfl⟩ := List.mem_map.mp hd
  have a := wi.lo p hp
  have b := wi.hi p hp
  simp only [btw, Bool.and_eq_true, decide_eq_true_iff]
  omega
theorem isTup2 {e : D} (h : isTup e 2 = true) : ∃ x y, e = .tuple [x, y] := by
  cases e with
  | tuple xs =>
    have hx : ((xs.length : Nat) : Int) = 2 := of_decide_eq_true h
    match xs, hx with
    | [x, y], _ => exact ⟨x, y, rfl⟩
    | [], z => exact absurd z (by decide)
    | [_], z => exact absurd z (by simp)
    | _ :: _ :: _ :: xs, z => simp at z; omega
  | _ => exact absurd h Bool.false_ne_true
theorem isTup_any {e : D} {k : Int} (h : isTup e k = true) : ∃ xs, e = .tuple xs ∧ (xs.length : Int) = k := by
  cases e with
  | tuple xs => exact ⟨xs, rfl, of_decide_eq_true h⟩
  | _ => exact absurd h Bool.false_ne_true
theorem byP_no2 (hn : n ∈ fewD) {d : D} (h : isTup d 2 = false) : f_is_weighed_by [dI n, d] = some (.val (.bool false)) := by
  have h0 := tupleOf_v d 2
  rw [h] at h0
  simp only [f_is_weighed_by, b_is_weighed_by, guardN, bodyD, fSeq, fAsg, fAsgM, fApp, fRet, fRetN, fDrop, fIfS, fNext, fRaise, fIf, fAnd, fOr, fNot, fT, bo, bnd, bndA, rB, fCall0, noEx, fCall, fCallP, permL, fCons, fNil, fTup, fLst, lim, fCb, ret, fOp, fUn, fVar, fC, fIsi, fIsiLT, isLT, fChain, fLk, fLkB, fLkM, fRevL, fSet2, fFrz, lockL, lockG, lkC, sName, sTup, sCons, sNil, wipeC, List.map_cons, List.map_nil, List.replicate_succ, List.replicate_zero, List.cons_append, List.nil_append, List.getElem?_cons_zero, List.getElem?_cons_succ, List.set_cons_zero, List.set_cons_succ, List.length_cons, List.length_nil, Nat.beq_refl, Nat.reduceAdd, Nat.reduceLeDiff, Nat.reduceEqDiff, Nat.zero_add, if_true, if_false, Bool.false_eq_true, reduceIte, Bool.not_true, Bool.not_false, small_few0, small_few1, small_few2, small_few3, h0]
theorem byP_mod (hn : n ∈ fewD) {x y : D} (h : btw 2 24 x = false) : f_is_weighed_by [dI n, .tuple [x, y]] = some (.val (.bool false)) := by
  have h0 := tupleOf_v (.tuple [x, y]) 2
  rw [show isTup (.tuple [x, y]) 2 = true from rfl] at h0
  have h1 := between_v x 2 24
  rw [h] at h1
  have x0 : oIxT (.tuple [x, y]) (.int 0) = some x := rfl
  simp only [f_is_weighed_by, b_is_weighed_by, guardN, bodyD, fSeq, fAsg, fAsgM, fApp, fRet, fRetN, fDrop, fIfS, fNext, fRaise, fIf, fAnd, fOr, fNot, fT, bo, bnd, bndA, rB, fCall0, noEx, fCall, fCallP, permL, fCons, fNil, fTup, fLst, lim, fCb, ret, fOp, fUn, fVar, fC, fIsi, fIsiLT, isLT, fChain, fLk, fLkB, fLkM, fRevL, fSet2, fFrz, lockL, lockG, lkC, sName, sTup, sCons, sNil, wipeC, List.map_cons, List.map_nil, List.replicate_succ, List.replicate_zero, List.cons_append, List.nil_append, List.getElem?_cons_zero, List.getElem?_cons_succ, List.set_cons_zero, List.set_cons_succ, List.length_cons, List.length_nil, Nat.beq_refl, Nat.reduceAdd, Nat.reduceLeDiff, Nat.reduceEqDiff, Nat.zero_add, if_true, if_false, Bool.false_eq_true, reduceIte, Bool.not_true, Bool.not_false, small_few0, small_few1, small_few2, small_few3, h0, x0, h1]
theorem byP_len (hn : n ∈ fewD) {y : D} (h0 : btw 2 24 (.int m) = true) (h : isTup y (prod n) = false) : f_is_weighed_by [dI n, .tuple [.int m, y]] = some (.val (.bool false)) := by
  have h1 := tupleOf_v (.tuple [.int m, y]) 2
  rw [show isTup (.tuple [.int m, y]) 2 = true from rfl] at h1
  have h2 := between_v (.int m) 2 24
  rw [h0] at h2
  have x0 : oIxT (.tuple [.int m, y]) (.int 0) = some (.int m) := rfl
  have h3 := count_v hn
  have h4 := tupleOf_v y (prod n)
  rw [h] at h4
  simp only [f_is_weighed_by, b_is_weighed_by, guardN, bodyD, fSeq, fAsg, fAsgM, fApp, fRet, fRetN, fDrop, fIfS, fNext, fRaise, fIf, fAnd, fOr, fNot, fT, bo, bnd, bndA, rB, fCall0, noEx, fCall, fCallP, permL, fCons, fNil, fTup, fLst, lim, fCb, ret, fOp, fUn, fVar, fC, fIsi, fIsiLT, isLT, fChain, fLk, fLkB, fLkM, fRevL, fSet2, fFrz, lockL, lockG, lkC, sName, sTup, sCons, sNil, wipeC, List.map_cons, List.map_nil, List.replicate_succ, List.replicate_zero, List.cons_append, List.nil_append, List.getElem?_cons_zero, List.getElem?_cons_succ, List.set_cons_zero, List.set_cons_succ, List.length_cons, List.length_nil, Nat.beq_refl, Nat.reduceAdd, Nat.reduceLeDiff, Nat.reduceEqDiff, Nat.zero_add, if_true, if_false, Bool.false_eq_true, reduceIte, Bool.not_true, Bool.not_false, small_few0, small_few1, small_few2, small_few3, h1, x0, h2, h3, h4, List.length_cons, List.length_nil]
theorem byP_rng (hn : n ∈ fewD) {xs : List D} (h0 : btw 2 24 (.int m) = true) (hl : xs.length = (placesOf n).length) (h : xs.all (btw 0 (m - 1)) = false) : f_is_weighed_by [dI n, .tuple [.int m, .tuple xs]] = some (.val (.bool false)) := by
  have h1 := tupleOf_v (.tuple [.int m, .tuple xs]) 2
  rw [show isTup (.tuple [.int m, .tuple xs]) 2 = true from rfl] at h1
  have h2 := between_v (.int m) 2 24
  rw [h0] at h2
  have x0 : oIxT (.tuple [.int m, .tuple xs]) (.int 0) = some (.int m) := rfl
  have h3 := count_v hn
  have h4 := tupleOf_v (.tuple xs) (prod n)
  rw [show isTup (.tuple xs) (prod n) = true from decide_eq_true (by rw [prod_len hn, hl])] at h4
  have hp := flc_map (src := iT (fVar 3)) (st := sName 4) (ft := fC (.bool true)) (fe := fCall0 f_is_between (fCons (fVar 4) (fCons (fC (.int 0)) (fCons (fOp oSub (fVar 2) (fC (.int 1))) fNil)))) (vs := [4])
    (Γ := [.d (dI n), .d (.tuple [.int m, .tuple xs]), .d (.int m), .d (.tuple xs), .un]) (fun d : D => d) (fun d => .bool (btw 0 (m - 1) d)) xs (by show some (Oa.vals xs) = _; rw [List.map_id']) (by have := few_24 hn; omega) fun d hd => by
      refine ⟨_, rfl, rfl, ?_⟩
      have o := between_v d 0 (m - 1)
      have o2 : oSub (.int m) (.int 1) = some (.int (m - 1)) := rfl
      simp only [guardN, bodyD, fSeq, fAsg, fAsgM, fApp, fRet, fRetN, fDrop, fIfS, fNext, fRaise, fIf, fAnd, fOr, fNot, fT, bo, bnd, bndA, rB, fCall0, noEx, fCall, fCallP, permL, fCons, fNil, fTup, fLst, lim, fCb, ret, fOp, fUn, fVar, fC, fIsi, fIsiLT, isLT, fChain, fLk, fLkB, fLkM, fRevL, fSet2, fFrz, lockL, lockG, lkC, sName, sTup, sCons, sNil, wipeC, List.map_cons, List.map_nil, List.replicate_succ, List.replicate_zero, List.cons_append, List.nil_append, List.getElem?_cons_zero, List.getElem?_cons_succ, List.set_cons_zero, List.set_cons_succ, List.length_cons, List.length_nil, Nat.beq_refl, Nat.reduceAdd, Nat.reduceLeDiff, Nat.reduceEqDiff, Nat.zero_add, if_true, if_false, Bool.false_eq_true, reduceIte, Bool.not_true, Bool.not_false, small_few0, small_few1, small_few2, small_few3, o, o2]
  simp only [f_is_weighed_by, b_is_weighed_by, guardN, bodyD, fSeq, fAsg, fAsgM, fApp, fRet, fRetN, fDrop, fIfS, fNext, fRaise, fIf, fAnd, fOr, fNot, fT, bo, bnd, bndA, rB, fCall0, noEx, fCall, fCallP, permL, fCons, fNil, fTup, fLst, lim, fCb, ret, fOp, fUn, fVar, fC, fIsi, fIsiLT, isLT, fChain, fLk, fLkB, fLkM, fRevL, fSet2, fFrz, lockL, lockG, lkC, sName, sTup, sCons, sNil, wipeC, List.map_cons, List.map_nil, List.replicate_succ, List.replicate_zero, List.cons_append, List.nil_append, List.getElem?_cons_zero, List.getElem?_cons_succ, List.set_cons_zero, List.set_cons_succ, List.length_cons, List.length_nil, Nat.beq_refl, Nat.reduceAdd, Nat.reduceLeDiff, Nat.reduceEqDiff, Nat.zero_add, if_true, if_false, Bool.false_eq_true, reduceIte, Bool.not_true, Bool.not_false, small_few0, small_few1, small_few2, small_few3, h1, x0, h2, h3, h4, hp, all_bools, h]
theorem byP_good (hn : n ∈ fewD) (h0 : btw 2 24 (.int m) = true) (wi : WIn n m w) : f_is_weighed_by [dI n, wg n m w] = some (.val (.bool (addAllB n m w))) := by
  have h1 := tupleOf_v (wg n m w) 2
  rw [show isTup (wg n m w) 2 = true from rfl] at h1
  have h2 := between_v (.int m) 2 24
  rw [h0] at h2
  have x0 : oIxT (wg n m w) (.int 0) = some (.int m) := rfl
  have h3 := count_v hn
  have h4 := tupleOf_v (dW n w) (prod n)
  rw [show isTup (dW n w) (prod n) = true from decide_eq_true (by rw [prod_len hn, List.length_map])] at h4
  have hp := flc_map (src := iT (fVar 3)) (st := sName 4) (ft := fC (.bool true)) (fe := fCall0 f_is_between (fCons (fVar 4) (fCons (fC (.int 0)) (fCons (fOp oSub (fVar 2) (fC (.int 1))) fNil)))) (vs := [4])
    (Γ := [.d (dI n), .d (wg n m w), .d (.int m), .d (dW n w), .un]) (fun d : D => d) (fun d => .bool (btw 0 (m - 1) d)) ((placesOf n).map fun p => PyData.int (w p)) (by show some (Oa.vals ((placesOf n).map fun p => PyData.int (w p))) = _; rw [List.map_id']) (by have := few_24 hn; rw [List.length_map]; omega) fun d hd => by
      refine ⟨_, rfl, rfl, ?_⟩
      have o := between_v d 0 (m - 1)
      have o2 : oSub (.int m) (.int 1) = some (.int (m - 1)) := rfl
      simp only [guardN, bodyD, fSeq, fAsg, fAsgM, fApp, fRet, fRetN, fDrop, fIfS, fNext, fRaise, fIf, fAnd, fOr, fNot, fT, bo, bnd, bndA, rB, fCall0, noEx, fCall, fCallP, permL, fCons, fNil, fTup, fLst, lim, fCb, ret, fOp, fUn, fVar, fC, fIsi, fIsiLT, isLT, fChain, fLk, fLkB, fLkM, fRevL, fSet2, fFrz, lockL, lockG, lkC, sName, sTup, sCons, sNil, wipeC, List.map_cons, List.map_nil, List.replicate_succ, List.replicate_zero, List.cons_append, List.nil_append, List.getElem?_cons_zero, List.getElem?_cons_succ, List.set_cons_zero, List.set_cons_succ, List.length_cons, List.length_nil, Nat.beq_refl, Nat.reduceAdd, Nat.reduceLeDiff, Nat.reduceEqDiff, Nat.zero_add, if_true, if_false, Bool.false_eq_true, reduceIte, Bool.not_true, Bool.not_false, small_few0, small_few1, small_few2, small_few3, o, o2]
  have h5 := range_W wi
  have h6 := adds_v hn wi
  have s2 : sTup 2 (sCons (sName 2) (sCons (sName 3) sNil)) (wg n m w) [.d (dI n), .d (wg n m w), .un, .un, .un] = some [.d (dI n), .d (wg n m w), .d (.int m), .d (dW n w), .un] := rfl
  show bodyD b_is_weighed_by 3 [dI n, wg n m w] = _
  unfold bodyD b_is_weighed_by
  rw [show ([dI n, wg n m w].map Ce.d ++ List.replicate 3 .un) = [.d (dI n), .d (wg n m w), .un, .un, .un] from rfl]
  rw [seq_nx (Γ1 := [.d (dI n), .d (wg n m w), .un, .un, .un]) (by simp only [guardN, bodyD, fSeq, fAsg, fAsgM, fApp, fRet, fRetN, fDrop, fIfS, fNext, fRaise, fIf, fAnd, fOr, fNot, fT, bo, bnd, bndA, rB, fCall0, noEx, fCall, fCallP, permL, fCons, fNil, fTup, fLst, lim, fCb, ret, fOp, fUn, fVar, fC, fIsi, fIsiLT, isLT, fChain, fLk, fLkB, fLkM, fRevL, fSet2, fFrz, lockL, lockG, lkC, sName, sTup, sCons, sNil, wipeC, List.map_cons, List.map_nil, List.replicate_succ, List.replicate_zero, List.cons_append, List.nil_append, List.getElem?_cons_zero, List.getElem?_cons_succ, List.set_cons_zero, List.set_cons_succ, List.length_cons, List.length_nil, Nat.beq_refl, Nat.reduceAdd, Nat.reduceLeDiff, Nat.reduceEqDiff, Nat.zero_add, if_true, if_false, Bool.false_eq_true, reduceIte, Bool.not_true, Bool.not_false, small_few0, small_few1, small_few2, small_few3, h1, x0, h2])]
  rw [seq_nx (Γ1 := [.d (dI n), .d (wg n m w), .d (.int m), .d (dW n w), .un]) rfl]
  rw [seq_nx (Γ1 := [.d (dI n), .d (wg n m w), .d (.int m), .d (dW n w), .un]) (by simp only [guardN, bodyD, fSeq, fAsg, fAsgM, fApp, fRet, fRetN, fDrop, fIfS, fNext, fRaise, fIf, fAnd, fOr, fNot, fT, bo, bnd, bndA, rB, fCall0, noEx, fCall, fCallP, permL, fCons, fNil, fTup, fLst, lim, fCb, ret, fOp, fUn, fVar, fC, fIsi, fIsiLT, isLT, fChain, fLk, fLkB, fLkM, fRevL, fSet2, fFrz, lockL, lockG, lkC, sName, sTup, sCons, sNil, wipeC, List.map_cons, List.map_nil, List.replicate_succ, List.replicate_zero, List.cons_append, List.nil_append, List.getElem?_cons_zero, List.getElem?_cons_succ, List.set_cons_zero, List.set_cons_succ, List.length_cons, List.length_nil, Nat.beq_refl, Nat.reduceAdd, Nat.reduceLeDiff, Nat.reduceEqDiff, Nat.zero_add, if_true, if_false, Bool.false_eq_true, reduceIte, Bool.not_true, Bool.not_false, small_few0, small_few1, small_few2, small_few3, h3, h4])]
  rw [seq_nx (Γ1 := [.d (dI n), .d (wg n m w), .d (.int m), .d (dW n w), .un]) (by simp only [guardN, bodyD, fSeq, fAsg, fAsgM, fApp, fRet, fRetN, fDrop, fIfS, fNext, fRaise, fIf, fAnd, fOr, fNot, fT, bo, bnd, bndA, rB, fCall0, noEx, fCall, fCallP, permL, fCons, fNil, fTup, fLst, lim, fCb, ret, fOp, fUn, fVar, fC, fIsi, fIsiLT, isLT, fChain, fLk, fLkB, fLkM, fRevL, fSet2, fFrz, lockL, lockG, lkC, sName, sTup, sCons, sNil, wipeC, List.map_cons, List.map_nil, List.replicate_succ, List.replicate_zero, List.cons_append, List.nil_append, List.getElem?_cons_zero, List.getElem?_cons_succ, List.set_cons_zero, List.set_cons_succ, List.length_cons, List.length_nil, Nat.beq_refl, Nat.reduceAdd, Nat.reduceLeDiff, Nat.reduceEqDiff, Nat.zero_add, if_true, if_false, Bool.false_eq_true, reduceIte, Bool.not_true, Bool.not_false, small_few0, small_few1, small_few2, small_few3, hp, all_bools, h5])]
  simp only [guardN, bodyD, fSeq, fAsg, fAsgM, fApp, fRet, fRetN, fDrop, fIfS, fNext, fRaise, fIf, fAnd, fOr, fNot, fT, bo, bnd, bndA, rB, fCall0, noEx, fCall, fCallP, permL, fCons, fNil, fTup, fLst, lim, fCb, ret, fOp, fUn, fVar, fC, fIsi, fIsiLT, isLT, fChain, fLk, fLkB, fLkM, fRevL, fSet2, fFrz, lockL, lockG, lkC, sName, sTup, sCons, sNil, wipeC, List.map_cons, List.map_nil, List.replicate_succ, List.replicate_zero, List.cons_append, List.nil_append, List.getElem?_cons_zero, List.getElem?_cons_succ, List.set_cons_zero, List.set_cons_succ, List.length_cons, List.length_nil, Nat.beq_refl, Nat.reduceAdd, Nat.reduceLeDiff, Nat.reduceEqDiff, Nat.zero_add, if_true, if_false, Bool.false_eq_true, reduceIte, Bool.not_true, Bool.not_false, small_few0, small_few1, small_few2, small_few3, h6]
theorem byL_no2 (hn : n ∈ fewD) {d : D} (h : isTup d 2 = false) : f__law_is_weighing [dI n, d] = some (.val (.bool false)) := by
  cases d with
  | tuple xs =>
    have hx : ((xs.length : Nat) : Int) ≠ 2 := fun z => by have : isTup (.tuple xs) 2 = true := decide_eq_true z; rw [this] at h; cases h
    have t0 : isD (.tuple xs) "tuple" = true := rfl
    have t1 : oLen [.tuple xs] = some (.int (xs.length : Nat)) := rfl
    have t2 := neI (xs.length : Nat) 2
    rw [decide_eq_false hx] at t2
    simp only [f__law_is_weighing, b__law_is_weighing, guardN, bodyD, fSeq, fAsg, fAsgM, fApp, fRet, fRetN, fDrop, fIfS, fNext, fRaise, fIf, fAnd, fOr, fNot, fT, bo, bnd, bndA, rB, fCall0, noEx, fCall, fCallP, permL, fCons, fNil, fTup, fLst, lim, fCb, ret, fOp, fUn, fVar, fC, fIsi, fIsiLT, isLT, fChain, fLk, fLkB, fLkM, fRevL, fSet2, fFrz, lockL, lockG, lkC, sName, sTup, sCons, sNil, wipeC, List.map_cons, List.map_nil, List.replicate_succ, List.replicate_zero, List.cons_append, List.nil_append, List.getElem?_cons_zero, List.getElem?_cons_succ, List.set_cons_zero, List.set_cons_succ, List.length_cons, List.length_nil, Nat.beq_refl, Nat.reduceAdd, Nat.reduceLeDiff, Nat.reduceEqDiff, Nat.zero_add, if_true, if_false, Bool.false_eq_true, reduceIte, Bool.not_true, Bool.not_false, small_few0, small_few1, small_few2, small_few3, t0, t1, t2]
  | _ => rfl
theorem le_I (a b : Int) : oLe (.int a) (.int b) = some (.bool (decide (a ≤ b))) := rfl
theorem lt_I (a b : Int) : oLt (.int a) (.int b) = some (.bool (decide (a < b))) := rfl
theorem byL_mod (hn : n ∈ fewD) {x y : D} (h : btw 2 24 x = false) : f__law_is_weighing [dI n, .tuple [x, y]] = some (.val (.bool false)) := by
  have t0 : isD (.tuple [x, y]) "tuple" = true := rfl
  have t1 : oLen [.tuple [x, y]] = some (.int 2) := rfl
  have t2 := neI 2 2
  rw [decide_eq_true rfl] at t2
  have x0 : oIxT (.tuple [x, y]) (.int 0) = some x := rfl
  have t3 := lwhole_v x
  cases x with
  | int i =>
    rw [show isNum (.int i) = true from rfl] at t3
    have l1 := le_I 2 i
    have l2 := le_I i 24
    have hb : (decide (2 ≤ i) && decide (i ≤ 24)) = false := h
    cases q : decide (2 ≤ i) with
    | false =>
      rw [q] at l1
      simp only [f__law_is_weighing, b__law_is_weighing, guardN, bodyD, fSeq, fAsg, fAsgM, fApp, fRet, fRetN, fDrop, fIfS, fNext, fRaise, fIf, fAnd, fOr, fNot, fT, bo, bnd, bndA, rB, fCall0, noEx, fCall, fCallP, permL, fCons, fNil, fTup, fLst, lim, fCb, ret, fOp, fUn, fVar, fC, fIsi, fIsiLT, isLT, fChain, fLk, fLkB, fLkM, fRevL, fSet2, fFrz, lockL, lockG, lkC, sName, sTup, sCons, sNil, wipeC, List.map_cons, List.map_nil, List.replicate_succ, List.replicate_zero, List.cons_append, List.nil_append, List.getElem?_cons_zero, List.getElem?_cons_succ, List.set_cons_zero, List.set_cons_succ, List.length_cons, List.length_nil, Nat.beq_refl, Nat.reduceAdd, Nat.reduceLeDiff, Nat.reduceEqDiff, Nat.zero_add, if_true, if_false, Bool.false_eq_true, reduceIte, Bool.not_true, Bool.not_false, small_few0, small_few1, small_few2, small_few3, t0, t1, t2, x0, t3, l1]
    | true =>
      rw [q] at l1 hb
      rw [show decide (i ≤ 24) = false from by simpa using hb] at l2
      simp only [f__law_is_weighing, b__law_is_weighing, guardN, bodyD, fSeq, fAsg, fAsgM, fApp, fRet, fRetN, fDrop, fIfS, fNext, fRaise, fIf, fAnd, fOr, fNot, fT, bo, bnd, bndA, rB, fCall0, noEx, fCall, fCallP, permL, fCons, fNil, fTup, fLst, lim, fCb, ret, fOp, fUn, fVar, fC, fIsi, fIsiLT, isLT, fChain, fLk, fLkB, fLkM, fRevL, fSet2, fFrz, lockL, lockG, lkC, sName, sTup, sCons, sNil, wipeC, List.map_cons, List.map_nil, List.replicate_succ, List.replicate_zero, List.cons_append, List.nil_append, List.getElem?_cons_zero, List.getElem?_cons_succ, List.set_cons_zero, List.set_cons_succ, List.length_cons, List.length_nil, Nat.beq_refl, Nat.reduceAdd, Nat.reduceLeDiff, Nat.reduceEqDiff, Nat.zero_add, if_true, if_false, Bool.false_eq_true, reduceIte, Bool.not_true, Bool.not_false, small_few0, small_few1, small_few2, small_few3, t0, t1, t2, x0, t3, l1, l2]
  | _ =>
    rw [show isNum _ = false from rfl] at t3
    simp only [f__law_is_weighing, b__law_is_weighing, guardN, bodyD, fSeq, fAsg, fAsgM, fApp, fRet, fRetN, fDrop, fIfS, fNext, fRaise, fIf, fAnd, fOr, fNot, fT, bo, bnd, bndA, rB, fCall0, noEx, fCall, fCallP, permL, fCons, fNil, fTup, fLst, lim, fCb, ret, fOp, fUn, fVar, fC, fIsi, fIsiLT, isLT, fChain, fLk, fLkB, fLkM, fRevL, fSet2, fFrz, lockL, lockG, lkC, sName, sTup, sCons, sNil, wipeC, List.map_cons, List.map_nil, List.replicate_succ, List.replicate_zero, List.cons_append, List.nil_append, List.getElem?_cons_zero, List.getElem?_cons_succ, List.set_cons_zero, List.set_cons_succ, List.length_cons, List.length_nil, Nat.beq_refl, Nat.reduceAdd, Nat.reduceLeDiff, Nat.reduceEqDiff, Nat.zero_add, if_true, if_false, Bool.false_eq_true, reduceIte, Bool.not_true, Bool.not_false, small_few0, small_few1, small_few2, small_few3, t0, t1, t2, x0, t3]
theorem head_L (hn : n ∈ fewD) {y : D} (h0 : btw 2 24 (.int m) = true) : (fIfS (fOr (fNot (fT (fIsi "tuple" (fVar 1)))) (fOr (fT (fOp oNeA (fCb oLen (fCons (fVar 1) fNil)) (fC (.int 2)))) (fOr (fNot (fT (fCall0 f__law_is_whole (fCons (fOp oIxT (fVar 1) (fC (.int 0))) fNil)))) (fNot (fT (fChain oLe oLe (fC (.int 2)) (fOp oIxT (fVar 1) (fC (.int 0))) (fC (.int 24)))))))) (fRet (fC (.bool false))) fNext) [.d (dI n), .d (.tuple [.int m, y]), .un, .un, .un, .un, .un, .un] = some (.nx [.d (dI n), .d (.tuple [.int m, y]), .un, .un, .un, .un, .un, .un]) := by
  have t0 : isD (.tuple [.int m, y]) "tuple" = true := rfl
  have t1 : oLen [.tuple [.int m, y]] = some (.int 2) := rfl
  have t2 := neI 2 2
  rw [decide_eq_true rfl] at t2
  have x0 : oIxT (.tuple [.int m, y]) (.int 0) = some (.int m) := rfl
  have t3 := lwhole_v (.int m)
  rw [show isNum (.int m) = true from rfl] at t3
  have hb : (decide (2 ≤ m) && decide (m ≤ 24)) = true := h0
  rw [Bool.and_eq_true] at hb
  have l1 := le_I 2 m
  have l2 := le_I m 24
  rw [hb.1] at l1
  rw [hb.2] at l2
  simp only [guardN, bodyD, fSeq, fAsg, fAsgM, fApp, fRet, fRetN, fDrop, fIfS, fNext, fRaise, fIf, fAnd, fOr, fNot, fT, bo, bnd, bndA, rB, fCall0, noEx, fCall, fCallP, permL, fCons, fNil, fTup, fLst, lim, fCb, ret, fOp, fUn, fVar, fC, fIsi, fIsiLT, isLT, fChain, fLk, fLkB, fLkM, fRevL, fSet2, fFrz, lockL, lockG, lkC, sName, sTup, sCons, sNil, wipeC, List.map_cons, List.map_nil, List.replicate_succ, List.replicate_zero, List.cons_append, List.nil_append, List.getElem?_cons_zero, List.getElem?_cons_succ, List.set_cons_zero, List.set_cons_succ, List.length_cons, List.length_nil, Nat.beq_refl, Nat.reduceAdd, Nat.reduceLeDiff, Nat.reduceEqDiff, Nat.zero_add, if_true, if_false, Bool.false_eq_true, reduceIte, Bool.not_true, Bool.not_false, small_few0, small_few1, small_few2, small_few3, t0, t1, t2, x0, t3, l1, l2]
theorem byL_len (hn : n ∈ fewD) {y : D} (h0 : btw 2 24 (.int m) = true) (h : isTup y (prod n) = false) : f__law_is_weighing [dI n, .tuple [.int m, y]] = some (.val (.bool false)) := by
  have h1 := head_L hn (y := y) h0
  have h3 := lcount_v hn
  show bodyD b__law_is_weighing 6 [dI n, .tuple [.int m, y]] = _
  unfold bodyD b__law_is_weighing
  rw [show ([dI n, .tuple [.int m, y]].map Ce.d ++ List.replicate 6 .un) = [.d (dI n), .d (.tuple [.int m, y]), .un, .un, .un, .un, .un, .un] from rfl]
  rw [seq_nx h1, seq_nx (Γ1 := [.d (dI n), .d (.tuple [.int m, y]), .d (.int m), .d y, .un, .un, .un, .un]) rfl]
  cases y with
  | tuple xs =>
    have hx : ((xs.length : Nat) : Int) ≠ prod n := fun z => by have : isTup (.tuple xs) (prod n) = true := decide_eq_true z; rw [this] at h; cases h
    have t0 : isD (.tuple xs) "tuple" = true := rfl
    have t1 : oLen [.tuple xs] = some (.int (xs.length : Nat)) := rfl
    have t2 := neI (xs.length : Nat) (prod n)
    rw [decide_eq_false hx] at t2
    simp only [guardN, bodyD, fSeq, fAsg, fAsgM, fApp, fRet, fRetN, fDrop, fIfS, fNext, fRaise, fIf, fAnd, fOr, fNot, fT, bo, bnd, bndA, rB, fCall0, noEx, fCall, fCallP, permL, fCons, fNil, fTup, fLst, lim, fCb, ret, fOp, fUn, fVar, fC, fIsi, fIsiLT, isLT, fChain, fLk, fLkB, fLkM, fRevL, fSet2, fFrz, lockL, lockG, lkC, sName, sTup, sCons, sNil, wipeC, List.map_cons, List.map_nil, List.replicate_succ, List.replicate_zero, List.cons_append, List.nil_append, List.getElem?_cons_zero, List.getElem?_cons_succ, List.set_cons_zero, List.set_cons_succ, List.length_cons, List.length_nil, Nat.beq_refl, Nat.reduceAdd, Nat.reduceLeDiff, Nat.reduceEqDiff, Nat.zero_add, if_true, if_false, Bool.false_eq_true, reduceIte, Bool.not_true, Bool.not_false, small_few0, small_few1, small_few2, small_few3, t0, t1, t2, h3]
  | _ => rfl
theorem whole_flc (xs : List D) {d : D} : fLc (iT (fVar 3)) (sName 4) (fOr (fNot (fT (fCall0 f__law_is_whole (fCons (fVar 4) fNil)))) (fNot (fT (fChain oLe oLt (fC (.int 0)) (fVar 4) (fVar 2))))) (fC (.int 1)) [4] [.d (dI n), .d d, .d (.int m), .d (.tuple xs), .un, .un, .un, .un] = some (.val (.list ((xs.filter fun d => !btw 0 (m - 1) d).map fun _ => .int 1))) ∨ 1000000 < xs.length := by
  by_cases hl : xs.length ≤ 1000000
  · refine .inl ?_
    exact flc_of (fun d : D => d) (fun d => !btw 0 (m - 1) d) (fun _ => .int 1) xs (by show some (Oa.vals xs) = _; rw [List.map_id']) hl fun d hd => by
      refine ⟨_, rfl, ?_, fun _ => rfl⟩
      have hw := lwhole_v d
      cases d with
      | int i =>
        rw [show isNum (.int i) = true from rfl] at hw
        have l1 := le_I 0 i
        have l2 := lt_I i m
        have e2 : decide (i < m) = decide (i ≤ m - 1) := decide_eq_decide.mpr (by omega)
        have e3 : btw 0 (m - 1) (.int i) = (decide (0 ≤ i) && decide (i ≤ m - 1)) := rfl
        rw [e2] at l2
        rw [e3]
        cases q1 : decide (0 ≤ i) with
        | false =>
          rw [q1] at l1
          simp only [guardN, bodyD, fSeq, fAsg, fAsgM, fApp, fRet, fRetN, fDrop, fIfS, fNext, fRaise, fIf, fAnd, fOr, fNot, fT, bo, bnd, bndA, rB, fCall0, noEx, fCall, fCallP, permL, fCons, fNil, fTup, fLst, lim, fCb, ret, fOp, fUn, fVar, fC, fIsi, fIsiLT, isLT, fChain, fLk, fLkB, fLkM, fRevL, fSet2, fFrz, lockL, lockG, lkC, sName, sTup, sCons, sNil, wipeC, List.map_cons, List.map_nil, List.replicate_succ, List.replicate_zero, List.cons_append, List.nil_append, List.getElem?_cons_zero, List.getElem?_cons_succ, List.set_cons_zero, List.set_cons_succ, List.length_cons, List.length_nil, Nat.beq_refl, Nat.reduceAdd, Nat.reduceLeDiff, Nat.reduceEqDiff, Nat.zero_add, if_true, if_false, Bool.false_eq_true, reduceIte, Bool.not_true, Bool.not_false, small_few0, small_few1, small_few2, small_few3, hw, l1]
          rfl
        | true =>
          rw [q1] at l1
          cases q2 : decide (i ≤ m - 1) with
          | false =>
            rw [q2] at l2
            simp only [guardN, bodyD, fSeq, fAsg, fAsgM, fApp, fRet, fRetN, fDrop, fIfS, fNext, fRaise, fIf, fAnd, fOr, fNot, fT, bo, bnd, bndA, rB, fCall0, noEx, fCall, fCallP, permL, fCons, fNil, fTup, fLst, lim, fCb, ret, fOp, fUn, fVar, fC, fIsi, fIsiLT, isLT, fChain, fLk, fLkB, fLkM, fRevL, fSet2, fFrz, lockL, lockG, lkC, sName, sTup, sCons, sNil, wipeC, List.map_cons, List.map_nil, List.replicate_succ, List.replicate_zero, List.cons_append, List.nil_append, List.getElem?_cons_zero, List.getElem?_cons_succ, List.set_cons_zero, List.set_cons_succ, List.length_cons, List.length_nil, Nat.beq_refl, Nat.reduceAdd, Nat.reduceLeDiff, Nat.reduceEqDiff, Nat.zero_add, if_true, if_false, Bool.false_eq_true, reduceIte, Bool.not_true, Bool.not_false, small_few0, small_few1, small_few2, small_few3, hw, l1, l2]
            rfl
          | true =>
            rw [q2] at l2
            simp only [guardN, bodyD, fSeq, fAsg, fAsgM, fApp, fRet, fRetN, fDrop, fIfS, fNext, fRaise, fIf, fAnd, fOr, fNot, fT, bo, bnd, bndA, rB, fCall0, noEx, fCall, fCallP, permL, fCons, fNil, fTup, fLst, lim, fCb, ret, fOp, fUn, fVar, fC, fIsi, fIsiLT, isLT, fChain, fLk, fLkB, fLkM, fRevL, fSet2, fFrz, lockL, lockG, lkC, sName, sTup, sCons, sNil, wipeC, List.map_cons, List.map_nil, List.replicate_succ, List.replicate_zero, List.cons_append, List.nil_append, List.getElem?_cons_zero, List.getElem?_cons_succ, List.set_cons_zero, List.set_cons_succ, List.length_cons, List.length_nil, Nat.beq_refl, Nat.reduceAdd, Nat.reduceLeDiff, Nat.reduceEqDiff, Nat.zero_add, if_true, if_false, Bool.false_eq_true, reduceIte, Bool.not_true, Bool.not_false, small_few0, small_few1, small_few2, small_few3, hw, l1, l2]
            rfl
      | _ => rfl
  · exact .inr (by omega)
theorem mid_L (hn : n ∈ fewD) {xs : List D} (hl : xs.length = (placesOf n).length) {d : D} : (fIfS (fOr (fNot (fT (fIsi "tuple" (fVar 3)))) (fT (fOp oNeA (fCb oLen (fCons (fVar 3) fNil)) (fCall0 f__law_count (fCons (fVar 0) fNil))))) (fRet (fC (.bool false))) fNext) [.d (dI n), .d d, .d (.int m), .d (.tuple xs), .un, .un, .un, .un] = some (.nx [.d (dI n), .d d, .d (.int m), .d (.tuple xs), .un, .un, .un, .un]) := by
  have h3 := lcount_v hn
  have t0 : isD (.tuple xs) "tuple" = true := rfl
  have t1 : oLen [.tuple xs] = some (.int (xs.length : Nat)) := rfl
  have t2 := neI (xs.length : Nat) (prod n)
  rw [decide_eq_true (by rw [prod_len hn, hl])] at t2
  simp only [guardN, bodyD, fSeq, fAsg, fAsgM, fApp, fRet, fRetN, fDrop, fIfS, fNext, fRaise, fIf, fAnd, fOr, fNot, fT, bo, bnd, bndA, rB, fCall0, noEx, fCall, fCallP, permL, fCons, fNil, fTup, fLst, lim, fCb, ret, fOp, fUn, fVar, fC, fIsi, fIsiLT, isLT, fChain, fLk, fLkB, fLkM, fRevL, fSet2, fFrz, lockL, lockG, lkC, sName, sTup, sCons, sNil, wipeC, List.map_cons, List.map_nil, List.replicate_succ, List.replicate_zero, List.cons_append, List.nil_append, List.getElem?_cons_zero, List.getElem?_cons_succ, List.set_cons_zero, List.set_cons_succ, List.length_cons, List.length_nil, Nat.beq_refl, Nat.reduceAdd, Nat.reduceLeDiff, Nat.reduceEqDiff, Nat.zero_add, if_true, if_false, Bool.false_eq_true, reduceIte, Bool.not_true, Bool.not_false, small_few0, small_few1, small_few2, small_few3, t0, t1, t2, h3]
theorem rng_iff (xs : List D) : (xs.filter fun d => !btw 0 (m - 1) d).isEmpty = xs.all (btw 0 (m - 1)) := by
  rw [Bool.eq_iff_iff]
  simp [List.isEmpty_iff, List.filter_eq_nil_iff, List.all_eq_true]
theorem rng_L (hn : n ∈ fewD) {xs : List D} (hl : xs.length = (placesOf n).length) {d : D} {b : Bool} (h : xs.all (btw 0 (m - 1)) = b) : (fIfS (fT (fOp oNe (fLc (iT (fVar 3)) (sName 4) (fOr (fNot (fT (fCall0 f__law_is_whole (fCons (fVar 4) fNil)))) (fNot (fT (fChain oLe oLt (fC (.int 0)) (fVar 4) (fVar 2))))) (fC (.int 1)) [4]) (fLst fNil))) (fRet (fC (.bool false))) fNext) [.d (dI n), .d d, .d (.int m), .d (.tuple xs), .un, .un, .un, .un] = if b = true then some (.nx [.d (dI n), .d d, .d (.int m), .d (.tuple xs), .un, .un, .un, .un]) else some (.rt (.bool false)) := by
  have hp := (whole_flc (n := n) (m := m) xs (d := d)).resolve_right (by have := few_24 hn; omega)
  have hb := onesNe_v (xs.filter fun d => !btw 0 (m - 1) d)
  rw [rng_iff, h] at hb
  cases b with
  | true => rw [if_pos rfl]; simp only [guardN, bodyD, fSeq, fAsg, fAsgM, fApp, fRet, fRetN, fDrop, fIfS, fNext, fRaise, fIf, fAnd, fOr, fNot, fT, bo, bnd, bndA, rB, fCall0, noEx, fCall, fCallP, permL, fCons, fNil, fTup, fLst, lim, fCb, ret, fOp, fUn, fVar, fC, fIsi, fIsiLT, isLT, fChain, fLk, fLkB, fLkM, fRevL, fSet2, fFrz, lockL, lockG, lkC, sName, sTup, sCons, sNil, wipeC, List.map_cons, List.map_nil, List.replicate_succ, List.replicate_zero, List.cons_append, List.nil_append, List.getElem?_cons_zero, List.getElem?_cons_succ, List.set_cons_zero, List.set_cons_succ, List.length_cons, List.length_nil, Nat.beq_refl, Nat.reduceAdd, Nat.reduceLeDiff, Nat.reduceEqDiff, Nat.zero_add, if_true, if_false, Bool.false_eq_true, reduceIte, Bool.not_true, Bool.not_false, small_few0, small_few1, small_few2, small_few3, hp, hb]
  | false => rw [if_neg Bool.false_ne_true]; simp only [guardN, bodyD, fSeq, fAsg, fAsgM, fApp, fRet, fRetN, fDrop, fIfS, fNext, fRaise, fIf, fAnd, fOr, fNot, fT, bo, bnd, bndA, rB, fCall0, noEx, fCall, fCallP, permL, fCons, fNil, fTup, fLst, lim, fCb, ret, fOp, fUn, fVar, fC, fIsi, fIsiLT, isLT, fChain, fLk, fLkB, fLkM, fRevL, fSet2, fFrz, lockL, lockG, lkC, sName, sTup, sCons, sNil, wipeC, List.map_cons, List.map_nil, List.replicate_succ, List.replicate_zero, List.cons_append, List.nil_append, List.getElem?_cons_zero, List.getElem?_cons_succ, List.set_cons_zero, List.set_cons_succ, List.length_cons, List.length_nil, Nat.beq_refl, Nat.reduceAdd, Nat.reduceLeDiff, Nat.reduceEqDiff, Nat.zero_add, if_true, if_false, Bool.false_eq_true, reduceIte, Bool.not_true, Bool.not_false, small_few0, small_few1, small_few2, small_few3, hp, hb]
theorem byL_rng (hn : n ∈ fewD) {xs : List D} (h0 : btw 2 24 (.int m) = true) (hl : xs.length = (placesOf n).length) (h : xs.all (btw 0 (m - 1)) = false) : f__law_is_weighing [dI n, .tuple [.int m, .tuple xs]] = some (.val (.bool false)) := by
  have h1 := head_L hn (y := .tuple xs) h0
  show bodyD b__law_is_weighing 6 [dI n, .tuple [.int m, .tuple xs]] = _
  unfold bodyD b__law_is_weighing
  rw [show ([dI n, .tuple [.int m, .tuple xs]].map Ce.d ++ List.replicate 6 .un) = [.d (dI n), .d (.tuple [.int m, .tuple xs]), .un, .un, .un, .un, .un, .un] from rfl]
  rw [seq_nx h1, seq_nx (Γ1 := [.d (dI n), .d (.tuple [.int m, .tuple xs]), .d (.int m), .d (.tuple xs), .un, .un, .un, .un]) rfl]
  rw [seq_nx (mid_L hn hl)]
  have := rng_L hn hl (d := .tuple [.int m, .tuple xs]) h
  rw [if_neg Bool.false_ne_true] at this
  rw [show ∀ fa fb : En → Rf, ∀ Γ, fa Γ = some (.rt (.bool false)) → fSeq fa fb Γ = some (.rt (.bool false)) from fun fa fb Γ h => by unfold fSeq; rw [h]]
  exact this
theorem byL_good (hn : n ∈ fewD) (h0 : btw 2 24 (.int m) = true) (wi : WIn n m w) : f__law_is_weighing [dI n, wg n m w] = some (.val (.bool (addAllB n m w))) := by
  have h1 := head_L hn (y := dW n w) h0
  have h2 := mid_L (m := m) hn (xs := (placesOf n).map fun p => PyData.int (w p)) (by rw [List.length_map]) (d := wg n m w)
  have h3 := rng_L (m := m) hn (xs := (placesOf n).map fun p => PyData.int (w p)) (by rw [List.length_map]) (d := wg n m w) (range_W wi)
  rw [if_pos rfl] at h3
  rw [show PyData.tuple (List.map (fun p => PyData.int (w p)) (placesOf n)) = dW n w from rfl] at h2 h3
  have h4 := led_v (w := w) hn
  have h5 := lawAdds_v hn wi (wg n m w)
  rw [all_units hn wi] at h5
  show bodyD b__law_is_weighing 6 [dI n, wg n m w] = _
  unfold bodyD b__law_is_weighing
  rw [show ([dI n, wg n m w].map Ce.d ++ List.replicate 6 .un) = [.d (dI n), .d (.tuple [.int m, dW n w]), .un, .un, .un, .un, .un, .un] from rfl]
  rw [seq_nx h1, seq_nx (Γ1 := [.d (dI n), .d (wg n m w), .d (.int m), .d (dW n w), .un, .un, .un, .un]) rfl]
  rw [seq_nx h2, seq_nx h3]
  rw [seq_nx (Γ1 := GB n (wg n m w) m w .un .un) (by simp only [guardN, bodyD, fSeq, fAsg, fAsgM, fApp, fRet, fRetN, fDrop, fIfS, fNext, fRaise, fIf, fAnd, fOr, fNot, fT, bo, bnd, bndA, rB, fCall0, noEx, fCall, fCallP, permL, fCons, fNil, fTup, fLst, lim, fCb, ret, fOp, fUn, fVar, fC, fIsi, fIsiLT, isLT, fChain, fLk, fLkB, fLkM, fRevL, fSet2, fFrz, lockL, lockG, lkC, sName, sTup, sCons, sNil, wipeC, List.map_cons, List.map_nil, List.replicate_succ, List.replicate_zero, List.cons_append, List.nil_append, List.getElem?_cons_zero, List.getElem?_cons_succ, List.set_cons_zero, List.set_cons_succ, List.length_cons, List.length_nil, Nat.beq_refl, Nat.reduceAdd, Nat.reduceLeDiff, Nat.reduceEqDiff, Nat.zero_add, if_true, if_false, Bool.false_eq_true, reduceIte, Bool.not_true, Bool.not_false, small_few0, small_few1, small_few2, small_few3, h4])]
  rw [h5]
theorem judged (hn : n ∈ fewD) (d : D) : ∃ b : Bool, f_is_weighed_by [dI n, d] = some (.val (.bool b)) ∧ f__law_is_weighing [dI n, d] = some (.val (.bool b)) := by
  cases h1 : isTup d 2 with
  | false => exact ⟨_, byP_no2 hn h1, byL_no2 hn h1⟩
  | true =>
    obtain ⟨x, y, rfl⟩ := isTup2 h1
    cases h2 : btw 2 24 x with
    | false => exact ⟨_, byP_mod hn h2, byL_mod hn h2⟩
    | true =>
      cases x with
      | int m =>
        cases h3 : isTup y (prod n) with
        | false => exact ⟨_, byP_len hn h2 h3, byL_len hn h2 h3⟩
        | true =>
          obtain ⟨xs, rfl, hl⟩ := isTup_any h3
          have hl : xs.length = (placesOf n).length := by have := prod_len hn; omega
          cases h4 : xs.all (btw 0 (m - 1)) with
          | false => exact ⟨_, byP_rng hn h2 hl h4, byL_rng hn h2 hl h4⟩
          | true =>
            have m2 : 2 ≤ m := by
              have : (decide (2 ≤ m) && decide (m ≤ 24)) = true := h2
              rw [Bool.and_eq_true] at this
              exact of_decide_eq_true this.1
            obtain ⟨w, e, wi⟩ := wg_of hn hl h4 m2
            rw [e]
            exact ⟨_, byP_good hn h2 wi, byL_good hn h2 wi⟩
      | _ => exact absurd h2 Bool.false_ne_true
end
end Mv
namespace Mv
open PySem L2 Evl
section
variable {n p : List Int} {P R L M : Rows} {k : Nat} {Γ : En}
end
end Mv
namespace Mv
open PySem L2 Evl
theorem noLs_ints : ∀ q : List Int, noLs (q.map PyData.int) = true
  | [] => rfl
  | x :: q => by rw [List.map_cons, noLs, noLs_ints q]; rfl
theorem noL_dI (q : List Int) : noL (dI q) = true := noLs_ints q
end Mv
namespace Mv
open PySem L2 Evl
section
variable {n : List Int} {m : Int} {w : List Int → Int} {Γ Γ1 : En} {R : Rows}
def wgT (m : Int) (r : List Int) : D := .tuple [.int m, dI r]
def wRow (n : List Int) (m : Int) (c : List Int) : List Int := (placesOf n).map fun p => dotI p c % m
def wRows (n : List Int) (m : Int) : Rows := sortR ((choicesOf m n).map (wRow n m))
theorem dW_dI : dW n w = dI ((placesOf n).map w) := by unfold dW dI; rw [List.map_map]; rfl
theorem wT_wg (c : List Int) : wgT m (wRow n m c) = wg n m (fun p => dotI p c % m) := by
  unfold wg wgT wRow
  rw [dW_dI]
theorem alike_wT (a b : List Int) : PySem.W.alike (wgT m a) (wgT m b) = true := by
  unfold wgT
  simp [PySem.W.alike, PySem.W.alikeAll, alike_dI]
theorem eqv_I (a : Int) : PyData.eqv (.int a) (.int a) = true := by
  have := eqv_dI [a] [a]
  simpa [dI, PyData.eqv, PyData.eqvAll] using this
theorem wT_lt (a b : List Int) : PySem.W.dataLt (wgT m a) (wgT m b) = HT.lexLt a b := by
  unfold wgT
  rw [PySem.W.dataLt_pair (by simp [PySem.W.alike]) (alike_dI a b), if_pos (eqv_I m), eqv_dI]
  by_cases e : a = b
  · subst e
    rw [if_pos (decide_eq_true rfl), lex_irr]
  · rw [if_neg (by simpa using e), lex_is]
theorem sort_wT (P : Rows) : sortD (P.map (wgT m)) = (sortR P).map (wgT m) := by
  refine sort_is ((isort_perm P).symm.map (wgT m)) ?_ ?_
  · rw [List.pairwise_map]
    exact (isort_pair rows_total P).imp fun {a b} h => by rw [ord_is, wT_lt]; exact h
  · rintro a b ha hb h1 h2
    obtain ⟨p, _, rfl⟩ := List.mem_map.mp ha
    obtain ⟨q, _, rfl⟩ := List.mem_map.mp hb
    rw [ord_is, wT_lt] at h1 h2
    exact congrArg (wgT m) (lex_eq (by simpa using h2) (by simpa using h1))
theorem flat_wT (r : List Int) : flatD (wgT m r) = true := by
  show flatDs [.int m, dI r] = true
  rw [flatDs, flatDs, flat_dI]; rfl
theorem flat_wTs : ∀ P : Rows, flatDs (P.map (wgT m)) = true
  | [] => rfl
  | p :: P => by rw [List.map_cons, flatDs, flat_wT, flat_wTs P]; rfl
theorem dep_wT (r : List Int) : PyData.depth (wgT m r) ≤ 4 := by
  have := dep_dI r
  unfold wgT
  (simp only [PyData.depth, PyData.depthAll])
  omega
theorem lay_wT (r : List Int) : PyData.canLay0 (wgT m r) = true := by
  unfold wgT
  simp [PyData.canLay0, PyData.canLayAll0, lay_dI]
theorem lay_wTs : ∀ P : Rows, PyData.canLayAll0 (P.map (wgT m)) = true
  | [] => by simp [PyData.canLayAll0]
  | p :: P => by rw [List.map_cons, PyData.canLayAll0, lay_wT, lay_wTs P]; rfl
theorem dep_wTs : ∀ P : Rows, PyData.depthAll (P.map (wgT m)) ≤ 4
  | [] => by simp [PyData.depthAll]
  | p :: P => by rw [List.map_cons, PyData.depthAll]; have := dep_wT (m := m) p; have := dep_wTs P; omega
theorem fine_wTs (P : Rows) : fine (.list (P.map (wgT m))) = true := by
  have h3 := dep_wTs (m := m) P
  unfold fine SeqAt.shaped
  rw [show flatD (.list (P.map (wgT m))) = true from flat_wTs P, PyData.canLay0, lay_wTs, PyData.depth]
  simp; omega
theorem sorted_wT (P : Rows) : oSorted [.list (P.map (wgT m))] = some (.list ((sortR P).map (wgT m))) := by
  have h1 : ((P.map (wgT m)).all fun d => (P.map (wgT m)).all fun e => PySem.W.alike d e) = true := by
    simp only [List.all_map, List.all_eq_true, Function.comp_apply]
    exact fun p _ q _ => alike_wT p q
  have h2 : (P.map (wgT m)).all isTupC = true := by
    simp only [List.all_map, List.all_eq_true, Function.comp_apply]
    exact fun p _ => rfl
  have h3 : ((P.map (wgT m)).all fun d => Nat.ble d.depth 60) = true := by
    simp only [List.all_map, List.all_eq_true, Function.comp_apply]
    exact fun p _ => Nat.ble_eq_true_of_le (by have := dep_wT (m := m) p; omega)
  show (if sortable (P.map (wgT m)) = true then some (PyData.list (isortD (P.map (wgT m)))) else none) = _
  rw [if_pos (by unfold sortable; rw [flat_wTs, h1, h2, h3]; rfl), ← isortD_eq, sort_wT]
theorem noLs_wT : ∀ P : Rows, noLs (P.map (wgT m)) = true
  | [] => rfl
  | p :: P => by
    rw [List.map_cons, noLs, noLs_wT P, show noL (wgT m p) = true from by show noLs [PyData.int m, dI p] = true; rw [noLs, noLs, noL_dI]; rfl]; rfl
theorem newRe_wT (P : Rows) : newRe true (some (.val (.list (P.map (wgT m))))) = some (.val (.list (P.map (wgT m)))) := by
  show (if (true && noLs (P.map (wgT m))) = true then _ else none) = _
  rw [noLs_wT]; rfl
theorem eqvAll_wT : ∀ P : Rows, PyData.eqvAll (P.map (wgT m)) (P.map (wgT m)) = true
  | [] => rfl
  | p :: P => by
    rw [List.map_cons, PyData.eqvAll, eqvAll_wT P]
    unfold wgT
    simp [PyData.eqv, PyData.eqvAll, eqv_I, eqv_dI]
theorem eq_wTs (P : Rows) : oEq (.list (P.map (wgT m))) (.list (P.map (wgT m))) = some (.bool true) := by
  unfold oEq
  rw [if_pos (by rw [fine_wTs]; rfl)]
  show some (PyData.bool (PyData.eqvAll (P.map (wgT m)) (P.map (wgT m)))) = _
  rw [eqvAll_wT]
theorem lt_wT (a b : List Int) : oLtD (wgT m a) (wgT m b) = some (.bool (HT.lexLt a b)) := by
  unfold oLtD
  rw [flat_wT, flat_wT, alike_wT, if_pos (by rw [show notNone (wgT m a) = true from rfl, Nat.ble_eq_true_of_le (by have := dep_wT (m := m) a; omega)]; rfl), wT_lt]
theorem rise_pairs (nd : R.Nodup) : ∀ q ∈ (sortR R).zip ((sortR R).drop 1), HT.lexLt q.1 q.2 = true := by
  have h1 : (sortR R).Pairwise fun a b => (!HT.lexLt b a) = true := isort_pair rows_total R
  have nd' : (sortR R).Nodup := (isort_perm (lt := HT.lexLt) R).nodup_iff.mpr nd
  have h2 : (sortR R).Pairwise fun a b => HT.lexLt a b = true := by
    refine List.Pairwise.imp₂ (fun a b hab hne => ?_) h1 nd'
    cases q : HT.lexLt a b with
    | true => rfl
    | false => exact (hne (lex_eq q (by simpa using hab))).elim
  have key : ∀ l : Rows, (l.Pairwise fun a b => HT.lexLt a b = true) → ∀ q ∈ l.zip (l.drop 1), HT.lexLt q.1 q.2 = true := fun l => by
    induction l with
    | nil => intro _ q hq; cases hq
    | cons x l ih =>
      intro h q hq
      obtain ⟨k1, k2⟩ := List.pairwise_cons.mp h
      cases l with
      | nil => cases hq
      | cons y l =>
        rcases List.mem_cons.mp (show q ∈ (x, y) :: (y :: l).zip ((y :: l).drop 1) from hq) with rfl | hq
        · exact k1 y (List.mem_cons_self ..)
        · exact ih k2 q hq
  exact key _ h2
theorem rows_nodup (hn : n ∈ fewD) (m2 : 2 ≤ m) : ((choicesOf m n).map (wRow n m)).Nodup := nodup_map choices_nodup fun c hc e he h => by
  refine dot_inj (choices_ok hc) (choices_ok he) (fun s hs => ((few_okd hn).sz s hs).1) fun p ip => ?_
  have hp := ip.mem
  unfold wRow at h
  obtain ⟨i, hi⟩ := List.getElem?_of_mem hp
  have h1 := congrArg (fun l => l[i]?) h
  simp only [List.getElem?_map, hi, Option.map_some, Option.some.injEq] at h1
  exact h1
theorem rows_mem {r : List Int} (h : r ∈ wRows n m) : ∃ c, ChOk m n c ∧ r = wRow n m c := by
  have := (isort_perm (lt := HT.lexLt) ((choicesOf m n).map (wRow n m))).mem_iff.mp h
  obtain ⟨c, hc, rfl⟩ := List.mem_map.mp this
  exact ⟨c, choices_ok hc, rfl⟩
theorem rows_len : (wRows n m).length = n.foldl (fun a s => a * (fitsM m s).length) 1 := by
  rw [show (wRows n m).length = _ from (isort_perm (lt := HT.lexLt) ((choicesOf m n).map (wRow n m))).length_eq, List.length_map, choices_len]
theorem fits_le (m s : Int) (h : m ≤ 24) : (fitsM m s).length ≤ 24 := by
  refine Nat.le_trans (List.length_filter_le _ _) ?_
  (rw [List.length_map, List.length_range])
  omega
theorem fold_le (h : m ≤ 24) : ∀ (l : List Int) (a : Nat), l.foldl (fun a s => a * (fitsM m s).length) a ≤ a * 24 ^ l.length
  | [], a => by simp
  | s :: l, a => by
    refine Nat.le_trans (fold_le h l (a * (fitsM m s).length)) ?_
    rw [List.length_cons, Nat.pow_succ, Nat.mul_comm (24 ^ l.length) 24, ← Nat.mul_assoc]
    exact Nat.mul_le_mul_right _ (Nat.mul_le_mul_left _ (fits_le m s h))
theorem prefix_le (hn : n ∈ fewD) (h : m ≤ 24) (k : Nat) : ((n.take k).foldl (growM m) [[]]).length ≤ 331776 := by
  rw [grows_len]
  refine Nat.le_trans (fold_le h _ _) ?_
  have l4 := few_l4 hn
  have : (n.take k).length ≤ 4 := by rw [List.length_take]; omega
  calc 1 * 24 ^ (n.take k).length ≤ 1 * 24 ^ 4 := Nat.mul_le_mul_left _ (Nat.pow_le_pow_right (by omega) this)
    _ = 331776 := by decide
theorem mulI (a b : Int) (h : 0 ≤ b) (h2 : b ≤ 1000) : oMul (.int a) (.int b) = some (.int (a * b)) := by
  show oIc cMul (fun i j => PyData.int (i * j)) (.int a) (.int b) = _
  unfold oIc
  dsimp only
  rw [if_pos (show cMul a b = true from by unfold cMul; simp only [Bool.or_eq_true, Bool.and_eq_true, decide_eq_true_eq]; omega)]
theorem zipII : ∀ p c : List Int, zipT (p.map PyData.int) (c.map PyData.int) = (p.zip c).map fun q => .tuple [.int q.1, .int q.2]
  | [], c => by cases c <;> rfl
  | _ :: _, [] => rfl
  | x :: p, y :: c => by rw [List.map_cons, List.map_cons, zipT, zipII p c]; rfl
theorem sum_dot : ∀ p c : List Int, ((p.zip c).map fun q => q.1 * q.2).sum = dotI p c
  | [], c => by cases c <;> rfl
  | _ :: _, [] => rfl
  | x :: p, y :: c => by rw [List.zip_cons_cons, List.map_cons, List.sum_cons, sum_dot p c]; rfl
theorem sumI (is : List Int) : oSum [.list (is.map PyData.int)] = some (.int is.sum) := by
  show (match intsOf (is.map PyData.int) with | some bs => some (PyData.int bs.sum) | none => none) = _
  rw [of_ints]
theorem weightBy_v (hn : n ∈ fewD) (m0 : 0 < m) (m24 : m ≤ 24) {c p : List Int} (hc : ChOk m n c) (hp : p ∈ placesOf n) : f_weight_by [.int m, dI c, dI p] = some (.val (.int (dotI p c % m))) := by
  have hbd : ∀ {n c : List Int}, ChOk m n c → ∀ y ∈ c, 0 ≤ y ∧ y ≤ 1000 := fun h => by
    induction h with
    | nil => intro y hy; cases hy
    | cons _ a b _ ih =>
      intro y hy
      rcases (List.mem_cons.mp hy) with rfl | hy
      · exact ⟨a, by omega⟩
      · exact ih y hy
  have hl := flc_map (src := iZ2 false false (fCons (fVar 2) (fCons (fVar 1) fNil))) (st := sTup 2 (sCons (sName 3) (sCons (sName 4) sNil))) (ft := fC (.bool true)) (fe := fOp oMul (fVar 3) (fVar 4)) (vs := [3, 4])
    (Γ := [.d (.int m), .d (dI c), .d (dI p), .un, .un]) (fun q : Int × Int => .tuple [.int q.1, .int q.2]) (fun q => .int (q.1 * q.2)) (p.zip c) (by
      show some (Oa.vals (zipT (p.map PyData.int) (c.map PyData.int))) = _
      rw [zipII]) (by rw [List.length_zip]; have := in_len hn hp; have := few_l4 hn; omega) fun q hq => by
      refine ⟨_, rfl, rfl, ?_⟩
      have := hbd hc q.2 (List.of_mem_zip hq).2
      have e := mulI q.1 q.2 this.1 this.2
      show fOp oMul (fVar 3) (fVar 4) [.d (.int m), .d (dI c), .d (dI p), .d (.int q.1), .d (.int q.2)] = _
      generalize oMul = o at e ⊢
      simp only [guardN, bodyD, fSeq, fAsg, fAsgM, fApp, fRet, fRetN, fDrop, fIfS, fNext, fRaise, fIf, fAnd, fOr, fNot, fT, bo, bnd, bndA, rB, fCall0, noEx, fCall, fCallP, permL, fCons, fNil, fTup, fLst, lim, fCb, ret, fOp, fUn, fVar, fC, fIsi, fIsiLT, isLT, fChain, fLk, fLkB, fLkM, fRevL, fSet2, fFrz, lockL, lockG, lkC, sName, sTup, sCons, sNil, wipeC, List.map_cons, List.map_nil, List.replicate_succ, List.replicate_zero, List.cons_append, List.nil_append, List.getElem?_cons_zero, List.getElem?_cons_succ, List.set_cons_zero, List.set_cons_succ, List.length_cons, List.length_nil, Nat.beq_refl, Nat.reduceAdd, Nat.reduceLeDiff, Nat.reduceEqDiff, Nat.zero_add, if_true, if_false, Bool.false_eq_true, reduceIte, Bool.not_true, Bool.not_false, small_few0, small_few1, small_few2, small_few3, e]
  have e0 : ((p.zip c).map fun q => PyData.int (q.1 * q.2)) = ((p.zip c).map fun q => q.1 * q.2).map PyData.int := by rw [List.map_map]; rfl
  rw [e0] at hl
  have h1 := sumI ((p.zip c).map fun q => q.1 * q.2)
  rw [sum_dot] at h1
  have h2 := modI (dotI p c) m0
  simp only [f_weight_by, b_weight_by, guardN, bodyD, fSeq, fAsg, fAsgM, fApp, fRet, fRetN, fDrop, fIfS, fNext, fRaise, fIf, fAnd, fOr, fNot, fT, bo, bnd, bndA, rB, fCall0, noEx, fCall, fCallP, permL, fCons, fNil, fTup, fLst, lim, fCb, ret, fOp, fUn, fVar, fC, fIsi, fIsiLT, isLT, fChain, fLk, fLkB, fLkM, fRevL, fSet2, fFrz, lockL, lockG, lkC, sName, sTup, sCons, sNil, wipeC, List.map_cons, List.map_nil, List.replicate_succ, List.replicate_zero, List.cons_append, List.nil_append, List.getElem?_cons_zero, List.getElem?_cons_succ, List.set_cons_zero, List.set_cons_succ, List.length_cons, List.length_nil, Nat.beq_refl, Nat.reduceAdd, Nat.reduceLeDiff, Nat.reduceEqDiff, Nat.zero_add, if_true, if_false, Bool.false_eq_true, reduceIte, Bool.not_true, Bool.not_false, small_few0, small_few1, small_few2, small_few3, hl, h1, h2]
end
end Mv
namespace Mv
open PySem L2 Evl
section
variable {n : List Int} {m : Int} {w : List Int → Int} {Γ Γ1 : En} {R F : Rows}
theorem upFrom_int : ∀ (k : Nat) (i : Int), upFrom i k = (List.range k).map fun (j : Nat) => PyData.int (i + j)
  | 0, _ => rfl
  | k + 1, i => by
    (rw [List.range_succ_eq_map, List.map_cons, List.map_map])
    show PyData.int i :: upFrom (i + 1) k = _
    rw [upFrom_int k (i + 1)]
    congr 1
    · simp
    · refine List.map_congr_left fun j _ => ?_
      simp only [Function.comp_apply]
      congr 1
      omega
theorem range_m (m0 : 0 ≤ m) (h : m ≤ 24) {fe : En → Re} (e : fe Γ = some (.val (.int m))) : iR1 (fCons fe fNil) Γ = some (.vals ((List.range m.toNat).map fun (i : Nat) => PyData.int i)) := by
  unfold iR1 fCons fNil
  rw [e]
  dsimp only
  show (if small m.toNat = true ∧ -1000000 ≤ m then some (Oa.vals (upFrom 0 m.toNat)) else none) = _
  rw [if_pos ⟨small_of (by omega), by omega⟩, upFrom_int]
  congr 2
  exact List.map_congr_left fun j _ => by rw [Int.zero_add]
abbrev GL (n : List Int) (m : Int) (F : Rows) (c3 c4 c5 : Ce) : En := [.d (dI n), .d (.int m), .d (dL F), c3, c4, c5, .un, .un, .un, .un]
abbrev fFits : En → Re := fT (fOp oEqA (fOp oMod (fOp oMul (fVar 3) (fVar 5)) (fVar 1)) (fC (.int 0)))
abbrev fMore : En → Re := fOp oCatT (fVar 4) (fTup (fCons (fVar 5) fNil))
theorem eqI (a b : Int) : oEqA (.int a) (.int b) = some (.bool (decide (a = b))) := rfl
theorem grow_in (m2 : 2 ≤ m) (h : m ≤ 24) {s : Int} {b : List Int} (lb : b.length ≤ 4) : lcGo (sName 5) fFits fMore (GL n m F (.d (.int s)) (.d (dI b)) .un) ((List.range m.toNat).map fun (i : Nat) => PyData.int i) = some (((fitsM m s).map fun x => b ++ [x]).map dI) := by
  have := lc_of (st := sName 5) (ft := fFits) (fe := fMore) (Γ := GL n m F (.d (.int s)) (.d (dI b)) .un) (fun i : Nat => PyData.int i) (fun i : Nat => decide (s * (i : Int) % m = 0)) (fun i : Nat => dI (b ++ [(i : Int)])) (List.range m.toNat) fun i hi => by
    have hi := List.mem_range.mp hi
    refine ⟨GL n m F (.d (.int s)) (.d (dI b)) (.d (.int i)), rfl, ?_, fun _ => ?_⟩
    · have e1 := mulI s i (by omega) (by omega)
      have e2 := modI (s * i) (b := m) (by omega)
      have e3 := eqI (s * i % m) 0
      show fT (fOp oEqA (fOp oMod (fOp oMul (fVar 3) (fVar 5)) (fVar 1)) (fC (.int 0))) _ = _
      generalize oMul = o at e1 ⊢
      simp only [guardN, bodyD, fSeq, fAsg, fAsgM, fApp, fRet, fRetN, fDrop, fIfS, fNext, fRaise, fIf, fAnd, fOr, fNot, fT, bo, bnd, bndA, rB, fCall0, noEx, fCall, fCallP, permL, fCons, fNil, fTup, fLst, lim, fCb, ret, fOp, fUn, fVar, fC, fIsi, fIsiLT, isLT, fChain, fLk, fLkB, fLkM, fRevL, fSet2, fFrz, lockL, lockG, lkC, sName, sTup, sCons, sNil, wipeC, List.map_cons, List.map_nil, List.replicate_succ, List.replicate_zero, List.cons_append, List.nil_append, List.getElem?_cons_zero, List.getElem?_cons_succ, List.set_cons_zero, List.set_cons_succ, List.length_cons, List.length_nil, Nat.beq_refl, Nat.reduceAdd, Nat.reduceLeDiff, Nat.reduceEqDiff, Nat.zero_add, if_true, if_false, Bool.false_eq_true, reduceIte, Bool.not_true, Bool.not_false, small_few0, small_few1, small_few2, small_few3, e1, e2, e3]
    · have e1 : oCatT (dI b) (.tuple [.int i]) = some (dI (b ++ [(i : Int)])) := by
        show (if small ((b.map PyData.int).length + 1) = true then some (PyData.tuple (b.map PyData.int ++ [.int i])) else none) = _
        rw [if_pos (small_of (by rw [List.length_map]; omega))]
        unfold dI
        rw [List.map_append]; rfl
      simp only [guardN, bodyD, fSeq, fAsg, fAsgM, fApp, fRet, fRetN, fDrop, fIfS, fNext, fRaise, fIf, fAnd, fOr, fNot, fT, bo, bnd, bndA, rB, fCall0, noEx, fCall, fCallP, permL, fCons, fNil, fTup, fLst, lim, fCb, ret, fOp, fUn, fVar, fC, fIsi, fIsiLT, isLT, fChain, fLk, fLkB, fLkM, fRevL, fSet2, fFrz, lockL, lockG, lkC, sName, sTup, sCons, sNil, wipeC, List.map_cons, List.map_nil, List.replicate_succ, List.replicate_zero, List.cons_append, List.nil_append, List.getElem?_cons_zero, List.getElem?_cons_succ, List.set_cons_zero, List.set_cons_succ, List.length_cons, List.length_nil, Nat.beq_refl, Nat.reduceAdd, Nat.reduceLeDiff, Nat.reduceEqDiff, Nat.zero_add, if_true, if_false, Bool.false_eq_true, reduceIte, Bool.not_true, Bool.not_false, small_few0, small_few1, small_few2, small_few3, e1]
  rw [this]
  unfold fitsM
  rw [List.filter_map, List.map_map, List.map_map]
  rfl
theorem grow_go (m2 : 2 ≤ m) (h : m ≤ 24) {s : Int} : ∀ L : Rows, (∀ b ∈ L, b.length ≤ 4) → lc2Go (sName 4) (fC (.bool true)) (iR1 (fCons (fVar 1) fNil)) (sName 5) fFits fMore [5] (GL n m F (.d (.int s)) .un .un) (L.map dI) = some ((growM m L s).map dI)
  | [], _ => rfl
  | b :: L, hb => by
    have ih := grow_go m2 h (s := s) L fun c hc => hb c (List.mem_cons_of_mem _ hc)
    have h1 := range_m (Γ := GL n m F (.d (.int s)) (.d (dI b)) .un) (m := m) (fe := fVar 1) (by omega) h rfl
    have h2 := grow_in (n := n) (F := F) m2 h (s := s) (hb b (List.mem_cons_self ..))
    rw [List.map_cons]
    unfold lc2Go
    rw [show sName 4 (dI b) (GL n m F (.d (.int s)) .un .un) = some (GL n m F (.d (.int s)) (.d (dI b)) .un) from rfl]; dsimp only
    rw [show fC (.bool true) (GL n m F (.d (.int s)) (.d (dI b)) .un) = some (.val (.bool true)) from rfl]; dsimp only
    rw [if_pos rfl, h1]; dsimp only
    rw [if_pos (small_of (by rw [List.length_map, List.length_range]; omega))]
    rw [show wipeC (GL n m F (.d (.int s)) (.d (dI b)) .un) [5] = GL n m F (.d (.int s)) (.d (dI b)) .un from rfl, h2]; dsimp only
    rw [ih]; dsimp only
    rw [← List.map_append]; rfl
theorem small_big {k : Nat} (h : k ≤ 1000000) : small k = true := by unfold small; exact Nat.ble_eq_true_of_le h
theorem grow_v (m2 : 2 ≤ m) (h : m ≤ 24) {s : Int} (lF : ∀ b ∈ F, b.length ≤ 4) (few : (growM m F s).length ≤ 1000000) : fLc2 (iL (fVar 2)) (sName 4) (fC (.bool true)) (iR1 (fCons (fVar 1) fNil)) (sName 5) fFits fMore [4, 5] [5] (GL n m F (.d (.int s)) .un .un) = some (.val (dL (growM m F s))) := by
  have := grow_go (n := n) (F := F) m2 h (s := s) F lF
  unfold fLc2
  rw [show iL (fVar 2) (GL n m F (.d (.int s)) .un .un) = some (.vals (F.map dI)) from rfl]; dsimp only
  rw [show wipeC (GL n m F (.d (.int s)) .un .un) [4, 5] = GL n m F (.d (.int s)) .un .un from rfl, this]; dsimp only
  rw [if_pos (small_big (by rw [List.length_map]; exact few))]; rfl
abbrev GM (n : List Int) (m : Int) (L : Rows) (c3 : Ce) (F : Rows) (c7 c8 : Ce) : En := [.d (dI n), .d (.int m), .d (dL L), c3, .un, .un, .ml (F.map (wgT m)), c7, c8, .un]
theorem listW_v (hn : n ∈ fewD) (m2 : 2 ≤ m) (h : m ≤ 24) : f_list_weighings [dI n, .int m] = some (.val (.list ((wRows n m).map (wgT m)))) := by
  obtain ⟨Γ', hf, c3, e3⟩ := ffor_inv (src := iT (fVar 0)) (st := sName 3) (body := fAsg (fLc2 (iL (fVar 2)) (sName 4) (fC (.bool true)) (iR1 (fCons (fVar 1) fNil)) (sName 5) fFits fMore [4, 5] [5]) (sName 2)) (Γ := GL n m [[]] .un .un .un) (as := n.map PyData.int)
    (fun i Γ => ∃ c3, Γ = GL n m ((n.take i).foldl (growM m) [[]]) c3 .un .un) rfl ⟨_, rfl⟩ fun i a Γ ha hP => by
      obtain ⟨c3, rfl⟩ := hP
      rw [List.getElem?_map] at ha
      obtain ⟨s, hs, rfl⟩ := Option.map_eq_some_iff.mp ha
      have li := (List.getElem?_eq_some_iff.mp hs).1
      have et : (n.take (i + 1)).foldl (growM m) [[]] = growM m ((n.take i).foldl (growM m) [[]]) s := by
        rw [List.take_add_one, hs, List.foldl_append]; rfl
      refine ⟨GL n m ((n.take i).foldl (growM m) [[]]) (.d (.int s)) .un .un, rfl, GL n m ((n.take (i + 1)).foldl (growM m) [[]]) (.d (.int s)) .un .un, ?_, _, rfl⟩
      have hg := grow_v (n := n) (F := (n.take i).foldl (growM m) [[]]) m2 h (s := s) (fun b hb => by
        obtain ⟨z, hz, e, rfl, he⟩ := grown_mem hb
        rw [List.mem_singleton.mp hz, List.nil_append, he.len, List.length_take]
        have := few_l4 hn
        omega) (by rw [← et]; have := prefix_le hn h (i + 1); omega)
      rw [← et] at hg
      unfold fAsg
      rw [hg]; rfl
  rw [List.length_map, List.take_length] at e3
  have el : n.foldl (growM m) [[]] = choicesOf m n := rfl
  rw [el] at e3
  subst e3
  have h0 := places_v hn
  have len : (choicesOf m n).length ≤ 331776 := by
    have := prefix_le hn h n.length
    rw [List.take_length] at this
    exact this
  obtain ⟨Γ', hf2, c7, c8, e4⟩ := ffor_inv (src := iL (fVar 2)) (st := sName 7) (body := fSeq (fAsg (fCb oTuple (fCons (fLc (iL (fCall0 f_all_places (fCons (fVar 0) fNil))) (sName 9) (fC (.bool true)) (fCall0 f_weight_by (fCons (fVar 1) (fCons (fVar 7) (fCons (fVar 9) fNil)))) [9]) fNil)) (sName 8)) (fApp 6 (fTup (fCons (fVar 1) (fCons (fVar 8) fNil)))))
    (Γ := GM n m (choicesOf m n) c3 [] .un .un) (as := (choicesOf m n).map dI) (fun i Γ => ∃ c7 c8, Γ = GM n m (choicesOf m n) c3 (((choicesOf m n).take i).map (wRow n m)) c7 c8) rfl ⟨_, _, rfl⟩ fun i a Γ ha hP => by
      obtain ⟨c7, c8, rfl⟩ := hP
      rw [List.getElem?_map] at ha
      obtain ⟨c, hc, rfl⟩ := Option.map_eq_some_iff.mp ha
      have li := (List.getElem?_eq_some_iff.mp hc).1
      have ok := choices_ok (List.mem_of_getElem? hc)
      have hl := flc_map (src := iL (fCall0 f_all_places (fCons (fVar 0) fNil))) (st := sName 9) (ft := fC (.bool true)) (fe := fCall0 f_weight_by (fCons (fVar 1) (fCons (fVar 7) (fCons (fVar 9) fNil)))) (vs := [9])
        (Γ := GM n m (choicesOf m n) c3 (((choicesOf m n).take i).map (wRow n m)) (.d (dI c)) c8) dI (fun p => .int (dotI p c % m)) (placesOf n) (by simp only [iL, guardN, bodyD, fSeq, fAsg, fAsgM, fApp, fRet, fRetN, fDrop, fIfS, fNext, fRaise, fIf, fAnd, fOr, fNot, fT, bo, bnd, bndA, rB, fCall0, noEx, fCall, fCallP, permL, fCons, fNil, fTup, fLst, lim, fCb, ret, fOp, fUn, fVar, fC, fIsi, fIsiLT, isLT, fChain, fLk, fLkB, fLkM, fRevL, fSet2, fFrz, lockL, lockG, lkC, sName, sTup, sCons, sNil, wipeC, List.map_cons, List.map_nil, List.replicate_succ, List.replicate_zero, List.cons_append, List.nil_append, List.getElem?_cons_zero, List.getElem?_cons_succ, List.set_cons_zero, List.set_cons_succ, List.length_cons, List.length_nil, Nat.beq_refl, Nat.reduceAdd, Nat.reduceLeDiff, Nat.reduceEqDiff, Nat.zero_add, if_true, if_false, Bool.false_eq_true, reduceIte, Bool.not_true, Bool.not_false, small_few0, small_few1, small_few2, small_few3, h0]; rfl) (by have := few_24 hn; omega) fun p hp => by
          refine ⟨_, rfl, rfl, ?_⟩
          have := weightBy_v hn (by omega) h ok hp
          show fCall0 f_weight_by (fCons (fVar 1) (fCons (fVar 7) (fCons (fVar 9) fNil))) [.d (dI n), .d (.int m), .d (dL (choicesOf m n)), c3, .un, .un, .ml ((((choicesOf m n).take i).map (wRow n m)).map (wgT m)), .d (dI c), c8, .d (dI p)] = _
          simp only [guardN, bodyD, fSeq, fAsg, fAsgM, fApp, fRet, fRetN, fDrop, fIfS, fNext, fRaise, fIf, fAnd, fOr, fNot, fT, bo, bnd, bndA, rB, fCall0, noEx, fCall, fCallP, permL, fCons, fNil, fTup, fLst, lim, fCb, ret, fOp, fUn, fVar, fC, fIsi, fIsiLT, isLT, fChain, fLk, fLkB, fLkM, fRevL, fSet2, fFrz, lockL, lockG, lkC, sName, sTup, sCons, sNil, wipeC, List.map_cons, List.map_nil, List.replicate_succ, List.replicate_zero, List.cons_append, List.nil_append, List.getElem?_cons_zero, List.getElem?_cons_succ, List.set_cons_zero, List.set_cons_succ, List.length_cons, List.length_nil, Nat.beq_refl, Nat.reduceAdd, Nat.reduceLeDiff, Nat.reduceEqDiff, Nat.zero_add, if_true, if_false, Bool.false_eq_true, reduceIte, Bool.not_true, Bool.not_false, small_few0, small_few1, small_few2, small_few3, this]
      have hl : fLc (iL (fCall0 f_all_places (fCons (fVar 0) fNil))) (sName 9) (fC (.bool true)) (fCall0 f_weight_by (fCons (fVar 1) (fCons (fVar 7) (fCons (fVar 9) fNil)))) [9] (GM n m (choicesOf m n) c3 (((choicesOf m n).take i).map (wRow n m)) (.d (dI c)) c8) = some (.val (.list ((wRow n m c).map PyData.int))) := by
        rw [hl]; unfold wRow; rw [List.map_map]; rfl
      have ho : oTuple [.list ((wRow n m c).map PyData.int)] = some (dI (wRow n m c)) := rfl
      refine ⟨GM n m (choicesOf m n) c3 (((choicesOf m n).take i).map (wRow n m)) (.d (dI c)) c8, rfl, GM n m (choicesOf m n) c3 (((choicesOf m n).take (i + 1)).map (wRow n m)) (.d (dI c)) (.d (dI (wRow n m c))), ?_, _, _, rfl⟩
      have sm : small ((((choicesOf m n).take i).map (wRow n m)).map (wgT m)).length = true := small_big (by rw [List.length_map, List.length_map, List.length_take]; omega)
      rw [seq_nx (Γ1 := GM n m (choicesOf m n) c3 (((choicesOf m n).take i).map (wRow n m)) (.d (dI c)) (.d (dI (wRow n m c)))) (by
        have : fCb oTuple (fCons (fLc (iL (fCall0 f_all_places (fCons (fVar 0) fNil))) (sName 9) (fC (.bool true)) (fCall0 f_weight_by (fCons (fVar 1) (fCons (fVar 7) (fCons (fVar 9) fNil)))) [9]) fNil) (GM n m (choicesOf m n) c3 (((choicesOf m n).take i).map (wRow n m)) (.d (dI c)) c8) = some (.val (dI (wRow n m c))) := by
          simp only [guardN, bodyD, fSeq, fAsg, fAsgM, fApp, fRet, fRetN, fDrop, fIfS, fNext, fRaise, fIf, fAnd, fOr, fNot, fT, bo, bnd, bndA, rB, fCall0, noEx, fCall, fCallP, permL, fCons, fNil, fTup, fLst, lim, fCb, ret, fOp, fUn, fVar, fC, fIsi, fIsiLT, isLT, fChain, fLk, fLkB, fLkM, fRevL, fSet2, fFrz, lockL, lockG, lkC, sName, sTup, sCons, sNil, wipeC, List.map_cons, List.map_nil, List.replicate_succ, List.replicate_zero, List.cons_append, List.nil_append, List.getElem?_cons_zero, List.getElem?_cons_succ, List.set_cons_zero, List.set_cons_succ, List.length_cons, List.length_nil, Nat.beq_refl, Nat.reduceAdd, Nat.reduceLeDiff, Nat.reduceEqDiff, Nat.zero_add, if_true, if_false, Bool.false_eq_true, reduceIte, Bool.not_true, Bool.not_false, small_few0, small_few1, small_few2, small_few3, hl, ho]
        unfold fAsg
        rw [this]; rfl)]
      have et : (((choicesOf m n).take (i + 1)).map (wRow n m)).map (wgT m) = (((choicesOf m n).take i).map (wRow n m)).map (wgT m) ++ [wgT m (wRow n m c)] := by
        rw [List.take_add_one, hc, List.map_append, List.map_append]; rfl
      show fApp 6 _ _ = some (.nx [.d (dI n), .d (.int m), .d (dL (choicesOf m n)), c3, .un, .un, .ml ((((choicesOf m n).take (i + 1)).map (wRow n m)).map (wgT m)), .d (dI c), .d (dI (wRow n m c)), .un])
      rw [et]
      unfold fApp
      show (if small ((((choicesOf m n).take i).map (wRow n m)).map (wgT m)).length = true then _ else none) = _
      rw [if_pos sm]; rfl
  rw [List.length_map, List.take_length] at e4
  subst e4
  have hs := sorted_wT (m := m) ((choicesOf m n).map (wRow n m))
  show bodyD b_list_weighings 8 [dI n, .int m] = _
  unfold bodyD b_list_weighings
  rw [show ([dI n, PyData.int m].map Ce.d ++ List.replicate 8 .un) = [.d (dI n), .d (.int m), .un, .un, .un, .un, .un, .un, .un, .un] from rfl]
  rw [seq_nx (Γ1 := GL n m [[]] .un .un .un) rfl, seq_nx hf, seq_nx (Γ1 := GM n m (choicesOf m n) c3 [] .un .un) rfl, seq_nx hf2]
  have hr : fRet (fCb oSorted (fCons (fVar 6) fNil)) (GM n m (choicesOf m n) c3 ((choicesOf m n).map (wRow n m)) c7 c8) = some (.rt (.list ((wRows n m).map (wgT m)))) := by
    have hv : (fCons (fVar 6) fNil) (lockL (fun _ => true) (GM n m (choicesOf m n) c3 ((choicesOf m n).map (wRow n m)) c7 c8)) = some (.vals [.list (((choicesOf m n).map (wRow n m)).map (wgT m))]) := rfl
    unfold fRet fCb
    rw [hv]
    show (match (match oSorted [.list (((choicesOf m n).map (wRow n m)).map (wgT m))] with | some d => some (Ou.val d) | none => none) with | some (.val d) => some (Fl.rt d) | some (.exc x) => some (Fl.ex x) | none => none) = _
    rw [hs]; rfl
  rw [hr]
theorem weighings_v (hn : n ∈ fewD) (m2 : 2 ≤ m) (h : m ≤ 24) : f_weighings [dI n, .int m] = some (.val (.list ((wRows n m).map (wgT m)))) := by
  have h0 := chkDials_v hn
  have h1 := between_v (.int m) 2 24
  rw [show btw 2 24 (.int m) = true from by simp only [btw, Bool.and_eq_true, decide_eq_true_iff]; exact ⟨m2, h⟩] at h1
  have h2 := listW_v hn m2 h
  simp only [f_weighings, b_weighings, guardN, bodyD, fSeq, fAsg, fAsgM, fApp, fRet, fRetN, fDrop, fIfS, fNext, fRaise, fIf, fAnd, fOr, fNot, fT, bo, bnd, bndA, rB, fCall0, noEx, fCall, fCallP, permL, fCons, fNil, fTup, fLst, lim, fCb, ret, fOp, fUn, fVar, fC, fIsi, fIsiLT, isLT, fChain, fLk, fLkB, fLkM, fRevL, fSet2, fFrz, lockL, lockG, lkC, sName, sTup, sCons, sNil, wipeC, List.map_cons, List.map_nil, List.replicate_succ, List.replicate_zero, List.cons_append, List.nil_append, List.getElem?_cons_zero, List.getElem?_cons_succ, List.set_cons_zero, List.set_cons_succ, List.length_cons, List.length_nil, Nat.beq_refl, Nat.reduceAdd, Nat.reduceLeDiff, Nat.reduceEqDiff, Nat.zero_add, if_true, if_false, Bool.false_eq_true, reduceIte, Bool.not_true, Bool.not_false, small_few0, small_few1, small_few2, small_few3, h0, h1, h2]
end
end Mv
namespace Mv
open PySem L2 Evl
section
variable {n : List Int} {m : Int} {w : List Int → Int} {Γ Γ1 : En} {R F : Rows}
def gcdD (d : Re) (k : Nat) : Bool := match d with
  | some (.val (.int i)) => decide (i = (k : Int))
  | _ => false
theorem gcd_all : ((List.range 23).all fun i => (List.range 23).all fun j => gcdD (f__law_gcd [.int ((i : Int) + 2), .int ((j : Int) + 2)]) (fitsM ((i : Int) + 2) ((j : Int) + 2)).length) = true := by decide +kernel
theorem gcd_v {s : Int} (m2 : 2 ≤ m) (m24 : m ≤ 24) (s2 : 2 ≤ s) (s24 : s ≤ 24) : f__law_gcd [.int m, .int s] = some (.val (.int ((fitsM m s).length : Nat))) := by
  have h := List.all_eq_true.mp (List.all_eq_true.mp gcd_all (m - 2).toNat (List.mem_range.mpr (by omega))) (s - 2).toNat (List.mem_range.mpr (by omega))
  rw [show (((m - 2).toNat : Nat) : Int) + 2 = m by omega, show (((s - 2).toNat : Nat) : Int) + 2 = s by omega] at h
  unfold gcdD at h
  split at h
  · rename_i i e
    rw [e, of_decide_eq_true h]
  · cases h
end
end Mv
namespace Mv
open PySem L2 Evl
section
variable {n : List Int} {m : Int} {w : List Int → Int} {Γ Γ1 : En} {R F : Rows}
abbrev GR (n : List Int) (m : Int) (d : Int) (R : Rows) (c4 c5 c6 : Ce) : En := [.d (dI n), .d (.int m), .d (.int d), .ml (R.map (wgT m)), c4, c5, c6, .un, .un]
def dueN (m : Int) (n : List Int) : Nat := n.foldl (fun a s => a * (fitsM m s).length) 1
theorem due_step {o : D → D → Option D} {a k s : Int} {c5 c6 : Ce} (hm : o (.int a) (.int k) = some (.int (a * k))) (hg : f__law_gcd [.int m, .int s] = some (.val (.int k))) : fAsg (fOp o (fVar 2) (fCall0 f__law_gcd (fCons (fVar 1) (fCons (fVar 4) fNil)))) (sName 2) (GR n m a R (.d (.int s)) c5 c6) = some (.nx (GR n m (a * k) R (.d (.int s)) c5 c6)) := by
  simp only [guardN, bodyD, fSeq, fAsg, fAsgM, fApp, fRet, fRetN, fDrop, fIfS, fNext, fRaise, fIf, fAnd, fOr, fNot, fT, bo, bnd, bndA, rB, fCall0, noEx, fCall, fCallP, permL, fCons, fNil, fTup, fLst, lim, fCb, ret, fOp, fUn, fVar, fC, fIsi, fIsiLT, isLT, fChain, fLk, fLkB, fLkM, fRevL, fSet2, fFrz, lockL, lockG, lkC, sName, sTup, sCons, sNil, wipeC, List.map_cons, List.map_nil, List.replicate_succ, List.replicate_zero, List.cons_append, List.nil_append, List.getElem?_cons_zero, List.getElem?_cons_succ, List.set_cons_zero, List.set_cons_succ, List.length_cons, List.length_nil, Nat.beq_refl, Nat.reduceAdd, Nat.reduceLeDiff, Nat.reduceEqDiff, Nat.zero_add, if_true, if_false, Bool.false_eq_true, reduceIte, Bool.not_true, Bool.not_false, small_few0, small_few1, small_few2, small_few3, hg, hm]
theorem due_for (hn : n ∈ fewD) (m2 : 2 ≤ m) (h : m ≤ 24) : ∃ c4, fFor (iT (fVar 0)) (sName 4) (fAsg (fOp oMul (fVar 2) (fCall0 f__law_gcd (fCons (fVar 1) (fCons (fVar 4) fNil)))) (sName 2)) (GR n m 1 R .un .un .un) = some (.nx (GR n m (dueN m n : Nat) R c4 .un .un)) := by
  obtain ⟨Γ', hf, c4, e⟩ := ffor_inv (src := iT (fVar 0)) (st := sName 4) (body := fAsg (fOp oMul (fVar 2) (fCall0 f__law_gcd (fCons (fVar 1) (fCons (fVar 4) fNil)))) (sName 2)) (Γ := GR n m 1 R .un .un .un) (as := n.map PyData.int)
    (fun i Γ => ∃ c4, Γ = GR n m ((n.take i).foldl (fun a s => a * (fitsM m s).length) 1 : Nat) R c4 .un .un) rfl ⟨_, rfl⟩ fun i a Γ ha hP => by
      obtain ⟨c4, rfl⟩ := hP
      rw [List.getElem?_map] at ha
      obtain ⟨s, hs, rfl⟩ := Option.map_eq_some_iff.mp ha
      have et : (n.take (i + 1)).foldl (fun a s => a * (fitsM m s).length) 1 = (n.take i).foldl (fun a s => a * (fitsM m s).length) 1 * (fitsM m s).length := by
        rw [List.take_add_one, hs, List.foldl_append]; rfl
      have sz := (few_okd hn).sz s (List.mem_of_getElem? hs)
      have hg := gcd_v m2 h sz.1 sz.2
      have fl := fits_le m s h
      have hm := mulI ((n.take i).foldl (fun a s => a * (fitsM m s).length) 1 : Nat) ((fitsM m s).length : Nat) (by omega) (by omega)
      refine ⟨GR n m ((n.take i).foldl (fun a s => a * (fitsM m s).length) 1 : Nat) R (.d (.int s)) .un .un, rfl, GR n m ((n.take (i + 1)).foldl (fun a s => a * (fitsM m s).length) 1 : Nat) R (.d (.int s)) .un .un, ?_, _, rfl⟩
      rw [et, Int.natCast_mul]
      exact due_step hm hg
  rw [List.length_map, List.take_length] at e
  exact ⟨c4, by rw [hf, e]; rfl⟩
theorem rows_judged (hn : n ∈ fewD) (m2 : 2 ≤ m) (h : m ≤ 24) {r : List Int} (hr : r ∈ wRows n m) : f__law_is_weighing [dI n, wgT m r] = some (.val (.bool true)) := by
  obtain ⟨c, hc, rfl⟩ := rows_mem hr
  rw [wT_wg, byL_good hn (by simp only [btw, Bool.and_eq_true, decide_eq_true_iff]; exact ⟨m2, h⟩) (dot_in m2), dot_weighs hn hc]
theorem rows_few (hn : n ∈ fewD) (h : m ≤ 24) : (wRows n m).length ≤ 331776 := by
  have := prefix_le hn h n.length
  rw [List.take_length] at this
  rw [rows_len, ← choices_len]
  exact this
theorem zip_wgT (P Q : Rows) : zipT (P.map (wgT m)) (Q.map (wgT m)) = (P.zip Q).map fun q => .tuple [wgT m q.1, wgT m q.2] := by
  induction P generalizing Q with
  | nil => cases Q <;> rfl
  | cons p P ih =>
    cases Q with
    | nil => rfl
    | cons q Q => rw [List.map_cons, List.map_cons, zipT, ih Q]; rfl
theorem ne_key (f : En → Re) (Γ : En) (h : f Γ = some (.val (.list []))) : fT (fOp oNe f (fLst fNil)) Γ = some (.val (.bool false)) := by unfold fT fOp; rw [h]; rfl
theorem eq_key (f : En → Re) (Γ : En) (h : f Γ = some (.val (.list []))) : fOp oEq f (fLst fNil) Γ = some (.val (.bool true)) := by unfold fOp; rw [h]; rfl
theorem and_key {fa fb : En → Re} (h1 : fa Γ = some (.val (.bool true))) (h2 : fb Γ = some (.val (.bool true))) : fAnd fa fb Γ = some (.val (.bool true)) := by unfold fAnd; rw [h1]; show bo (fb Γ) rB = _; rw [h2]; rfl
theorem ret_key {fe : En → Re} {d : D} (h : fe (lockL (fun _ => true) Γ) = some (.val d)) : fRet fe Γ = some (.rt d) := by unfold fRet; rw [h]
theorem lawList_v (hn : n ∈ fewD) (m2 : 2 ≤ m) (h : m ≤ 24) : f__law_list_right [dI n, .int m] = some (.val (.bool true)) := by
  have hw := weighings_v hn m2 h
  have nw := newRe_wT (m := m) (wRows n m)
  have nl : noLs [dI n, PyData.int m] = true := by rw [noLs, noLs, noL_dI]; rfl
  have len := rows_few hn h
  obtain ⟨c4, hd⟩ := due_for (R := wRows n m) hn m2 h
  have hl : oLen [.list ((wRows n m).map (wgT m))] = some (.int (dueN m n : Nat)) := by
    show some (PyData.int (((wRows n m).map (wgT m)).length : Nat)) = _
    rw [List.length_map, rows_len]; rfl
  have hne := neI (dueN m n : Nat) (dueN m n : Nat)
  rw [decide_eq_true rfl] at hne
  have e1 : fPar false true 2 3 (fC (.int 1)) (fCallN f_weighings (fCons (fVar 0) (fCons (fVar 1) fNil))) [.d (dI n), .d (.int m), .un, .un, .un, .un, .un, .un, .un] = some (.nx (GR n m 1 (wRows n m) .un .un .un)) := by
    have : fCallN f_weighings (fCons (fVar 0) (fCons (fVar 1) fNil)) [.d (dI n), .d (.int m), .un, .un, .un, .un, .un, .un, .un] = some (.val (.list ((wRows n m).map (wgT m)))) := by
      simp only [guardN, bodyD, fSeq, fAsg, fAsgM, fApp, fRet, fRetN, fDrop, fIfS, fNext, fRaise, fIf, fAnd, fOr, fNot, fT, bo, bnd, bndA, rB, fCall0, noEx, fCall, fCallP, permL, fCons, fNil, fTup, fLst, lim, fCb, ret, fOp, fUn, fVar, fC, fIsi, fIsiLT, isLT, fChain, fLk, fLkB, fLkM, fRevL, fSet2, fFrz, lockL, lockG, lkC, sName, sTup, sCons, sNil, wipeC, List.map_cons, List.map_nil, List.replicate_succ, List.replicate_zero, List.cons_append, List.nil_append, List.getElem?_cons_zero, List.getElem?_cons_succ, List.set_cons_zero, List.set_cons_succ, List.length_cons, List.length_nil, Nat.beq_refl, Nat.reduceAdd, Nat.reduceLeDiff, Nat.reduceEqDiff, Nat.zero_add, if_true, if_false, Bool.false_eq_true, reduceIte, Bool.not_true, Bool.not_false, small_few0, small_few1, small_few2, small_few3, fCallN, nl, hw, nw]
    unfold fPar
    rw [this]; rfl
  have e3 : (fIfS (fLkB (fOr (fNot (fT (fIsi "list" (fVar 3)))) (fT (fOp oNeA (fCb oLen (fCons (fVar 3) fNil)) (fVar 2))))) (fRet (fC (.bool false))) fNext) (GR n m (dueN m n : Nat) (wRows n m) c4 .un .un) = some (.nx (GR n m (dueN m n : Nat) (wRows n m) c4 .un .un)) := by
    have t0 : isD (.list ((wRows n m).map (wgT m))) "list" = true := rfl
    have t1 : fOr (fNot (fT (fIsi "list" (fVar 3)))) (fT (fOp oNeA (fCb oLen (fCons (fVar 3) fNil)) (fVar 2))) (lockL (fun _ => true) (GR n m (dueN m n : Nat) (wRows n m) c4 .un .un)) = some (.val (.bool false)) := by
      simp only [guardN, bodyD, fSeq, fAsg, fAsgM, fApp, fRet, fRetN, fDrop, fIfS, fNext, fRaise, fIf, fAnd, fOr, fNot, fT, bo, bnd, bndA, rB, fCall0, noEx, fCall, fCallP, permL, fCons, fNil, fTup, fLst, lim, fCb, ret, fOp, fUn, fVar, fC, fIsi, fIsiLT, isLT, fChain, fLk, fLkB, fLkM, fRevL, fSet2, fFrz, lockL, lockG, lkC, sName, sTup, sCons, sNil, wipeC, List.map_cons, List.map_nil, List.replicate_succ, List.replicate_zero, List.cons_append, List.nil_append, List.getElem?_cons_zero, List.getElem?_cons_succ, List.set_cons_zero, List.set_cons_succ, List.length_cons, List.length_nil, Nat.beq_refl, Nat.reduceAdd, Nat.reduceLeDiff, Nat.reduceEqDiff, Nat.zero_add, if_true, if_false, Bool.false_eq_true, reduceIte, Bool.not_true, Bool.not_false, small_few0, small_few1, small_few2, small_few3, t0, hl, hne]
    unfold fIfS fLkB
    rw [t1]; rfl
  have jd : fLc (iL (fVar 3)) (sName 5) (fOr (fNot (fT (fCall0 f__law_is_weighing (fCons (fVar 0) (fCons (fVar 5) fNil))))) (fT (fOp oNeA (fOp oIxT (fVar 5) (fC (.int 0))) (fVar 1)))) (fC (.int 1)) [5] (lockL (fun _ => true) (GR n m (dueN m n : Nat) (wRows n m) c4 .un .un)) = some (.val (.list [])) := by
    have := flc_of (src := iL (fVar 3)) (st := sName 5) (ft := fOr (fNot (fT (fCall0 f__law_is_weighing (fCons (fVar 0) (fCons (fVar 5) fNil))))) (fT (fOp oNeA (fOp oIxT (fVar 5) (fC (.int 0))) (fVar 1)))) (fe := fC (.int 1)) (vs := [5])
      (Γ := lockL (fun _ => true) (GR n m (dueN m n : Nat) (wRows n m) c4 .un .un)) (wgT m) (fun _ => false) (fun _ => .int 1) (wRows n m) rfl (by omega) fun r hr => by
        have j := rows_judged hn m2 h hr
        have x0 : oIxT (wgT m r) (.int 0) = some (.int m) := rfl
        have n0 := neI m m
        rw [decide_eq_true rfl] at n0
        refine ⟨_, rfl, ?_, fun z => by cases z⟩
        simp only [guardN, bodyD, fSeq, fAsg, fAsgM, fApp, fRet, fRetN, fDrop, fIfS, fNext, fRaise, fIf, fAnd, fOr, fNot, fT, bo, bnd, bndA, rB, fCall0, noEx, fCall, fCallP, permL, fCons, fNil, fTup, fLst, lim, fCb, ret, fOp, fUn, fVar, fC, fIsi, fIsiLT, isLT, fChain, fLk, fLkB, fLkM, fRevL, fSet2, fFrz, lockL, lockG, lkC, sName, sTup, sCons, sNil, wipeC, List.map_cons, List.map_nil, List.replicate_succ, List.replicate_zero, List.cons_append, List.nil_append, List.getElem?_cons_zero, List.getElem?_cons_succ, List.set_cons_zero, List.set_cons_succ, List.length_cons, List.length_nil, Nat.beq_refl, Nat.reduceAdd, Nat.reduceLeDiff, Nat.reduceEqDiff, Nat.zero_add, if_true, if_false, Bool.false_eq_true, reduceIte, Bool.not_true, Bool.not_false, small_few0, small_few1, small_few2, small_few3, j, x0, n0]
    rw [this]
    rw [show (wRows n m).filter (fun _ => false) = [] from List.filter_eq_nil_iff.mpr fun _ _ z => by cases z]; rfl
  have e4 : (fIfS (fLkB (fT (fOp oNe (fLc (iL (fVar 3)) (sName 5) (fOr (fNot (fT (fCall0 f__law_is_weighing (fCons (fVar 0) (fCons (fVar 5) fNil))))) (fT (fOp oNeA (fOp oIxT (fVar 5) (fC (.int 0))) (fVar 1)))) (fC (.int 1)) [5]) (fLst fNil)))) (fRet (fC (.bool false))) fNext) (GR n m (dueN m n : Nat) (wRows n m) c4 .un .un) = some (.nx (GR n m (dueN m n : Nat) (wRows n m) c4 .un .un)) := by
    have t2 : oNe (.list []) (.list []) = some (.bool false) := rfl
    have t1 : fT (fOp oNe (fLc (iL (fVar 3)) (sName 5) (fOr (fNot (fT (fCall0 f__law_is_weighing (fCons (fVar 0) (fCons (fVar 5) fNil))))) (fT (fOp oNeA (fOp oIxT (fVar 5) (fC (.int 0))) (fVar 1)))) (fC (.int 1)) [5]) (fLst fNil)) (lockL (fun _ => true) (GR n m (dueN m n : Nat) (wRows n m) c4 .un .un)) = some (.val (.bool false)) := by
      exact ne_key _ _ jd
    unfold fIfS fLkB
    rw [t1]; rfl
  have e5 : fAsgM (fLkM (fCb oList (fCons (fVar 3) fNil))) 6 (GR n m (dueN m n : Nat) (wRows n m) c4 .un .un) = some (.nx (GR n m (dueN m n : Nat) (wRows n m) c4 .un (.ml ((wRows n m).map (wgT m))))) := by
    have t1 : fLkM (fCb oList (fCons (fVar 3) fNil)) (GR n m (dueN m n : Nat) (wRows n m) c4 .un .un) = some (.val (.list ((wRows n m).map (wgT m)))) := by
      show (if noLs ((wRows n m).map (wgT m)) = true then _ else none) = _
      rw [if_pos (noLs_wT _)]
    unfold fAsgM
    rw [t1]; rfl
  have e7 : fAsgM (fCallPN [1, 0] 2 f_weighings (fCons (fVar 1) (fCons (fVar 0) fNil))) 3 (GR n m (dueN m n : Nat) [] c4 .un (.ml ((wRows n m).map (wgT m)))) = some (.nx (GR n m (dueN m n : Nat) (wRows n m) c4 .un (.ml ((wRows n m).map (wgT m))))) := by
    have t1 : fCallPN [1, 0] 2 f_weighings (fCons (fVar 1) (fCons (fVar 0) fNil)) (GR n m (dueN m n : Nat) [] c4 .un (.ml ((wRows n m).map (wgT m)))) = some (.val (.list ((wRows n m).map (wgT m)))) := by
      show (if Nat.beq 2 2 = true then newRe (noLs [dI n, PyData.int m]) (f_weighings [dI n, PyData.int m]) else none) = _
      rw [if_pos (show Nat.beq 2 2 = true from rfl), nl, hw, nw]
    unfold fAsgM
    rw [t1]; rfl
  have cz : cutD ((wRows n m).map (wgT m)) (some 1) none = ((wRows n m).drop 1).map (wgT m) := by
    rw [cut1, List.map_drop, List.drop_one]
  have pz : fLc (iZ2 true true (fCons (fVar 3) (fCons (fSl true (fVar 3) (pSome (fC (.int 1))) pNone) fNil))) (sTup 2 (sCons (sName 7) (sCons (sName 8) sNil))) (fNot (fT (fOp oLtD (fVar 7) (fVar 8)))) (fC (.int 1)) [7, 8] (lockL (fun _ => true) (GR n m (dueN m n : Nat) (wRows n m) c4 .un (.ml ((wRows n m).map (wgT m))))) = some (.val (.list [])) := by
    have := flc_of (src := iZ2 true true (fCons (fVar 3) (fCons (fSl true (fVar 3) (pSome (fC (.int 1))) pNone) fNil))) (st := sTup 2 (sCons (sName 7) (sCons (sName 8) sNil))) (ft := fNot (fT (fOp oLtD (fVar 7) (fVar 8)))) (fe := fC (.int 1)) (vs := [7, 8])
      (Γ := lockL (fun _ => true) (GR n m (dueN m n : Nat) (wRows n m) c4 .un (.ml ((wRows n m).map (wgT m))))) (fun q : List Int × List Int => .tuple [wgT m q.1, wgT m q.2]) (fun _ => false) (fun _ => .int 1) ((wRows n m).zip ((wRows n m).drop 1)) (by
        show some (Oa.vals (zipT ((wRows n m).map (wgT m)) (cutD ((wRows n m).map (wgT m)) (some 1) none))) = _
        rw [cz, zip_wgT]) (by rw [List.length_zip]; omega) fun q hq => by
        have l := rise_pairs (rows_nodup hn m2) q hq
        have t := lt_wT (m := m) q.1 q.2
        rw [l] at t
        refine ⟨_, rfl, ?_, fun z => by cases z⟩
        simp only [guardN, bodyD, fSeq, fAsg, fAsgM, fApp, fRet, fRetN, fDrop, fIfS, fNext, fRaise, fIf, fAnd, fOr, fNot, fT, bo, bnd, bndA, rB, fCall0, noEx, fCall, fCallP, permL, fCons, fNil, fTup, fLst, lim, fCb, ret, fOp, fUn, fVar, fC, fIsi, fIsiLT, isLT, fChain, fLk, fLkB, fLkM, fRevL, fSet2, fFrz, lockL, lockG, lkC, sName, sTup, sCons, sNil, wipeC, List.map_cons, List.map_nil, List.replicate_succ, List.replicate_zero, List.cons_append, List.nil_append, List.getElem?_cons_zero, List.getElem?_cons_succ, List.set_cons_zero, List.set_cons_succ, List.length_cons, List.length_nil, Nat.beq_refl, Nat.reduceAdd, Nat.reduceLeDiff, Nat.reduceEqDiff, Nat.zero_add, if_true, if_false, Bool.false_eq_true, reduceIte, Bool.not_true, Bool.not_false, small_few0, small_few1, small_few2, small_few3, t]
    rw [this]
    rw [show ((wRows n m).zip ((wRows n m).drop 1)).filter (fun _ => false) = [] from List.filter_eq_nil_iff.mpr fun _ _ z => by cases z]; rfl
  have e8 : fRet (fAnd (fOp oEq (fVar 3) (fVar 6)) (fOp oEq (fLc (iZ2 true true (fCons (fVar 3) (fCons (fSl true (fVar 3) (pSome (fC (.int 1))) pNone) fNil))) (sTup 2 (sCons (sName 7) (sCons (sName 8) sNil))) (fNot (fT (fOp oLtD (fVar 7) (fVar 8)))) (fC (.int 1)) [7, 8]) (fLst fNil))) (GR n m (dueN m n : Nat) (wRows n m) c4 .un (.ml ((wRows n m).map (wgT m)))) = some (.rt (.bool true)) := by
    have t1 : fOp oEq (fVar 3) (fVar 6) (lockL (fun _ => true) (GR n m (dueN m n : Nat) (wRows n m) c4 .un (.ml ((wRows n m).map (wgT m))))) = some (.val (.bool true)) := by
      have := eq_wTs (m := m) (wRows n m)
      simp only [guardN, bodyD, fSeq, fAsg, fAsgM, fApp, fRet, fRetN, fDrop, fIfS, fNext, fRaise, fIf, fAnd, fOr, fNot, fT, bo, bnd, bndA, rB, fCall0, noEx, fCall, fCallP, permL, fCons, fNil, fTup, fLst, lim, fCb, ret, fOp, fUn, fVar, fC, fIsi, fIsiLT, isLT, fChain, fLk, fLkB, fLkM, fRevL, fSet2, fFrz, lockL, lockG, lkC, sName, sTup, sCons, sNil, wipeC, List.map_cons, List.map_nil, List.replicate_succ, List.replicate_zero, List.cons_append, List.nil_append, List.getElem?_cons_zero, List.getElem?_cons_succ, List.set_cons_zero, List.set_cons_succ, List.length_cons, List.length_nil, Nat.beq_refl, Nat.reduceAdd, Nat.reduceLeDiff, Nat.reduceEqDiff, Nat.zero_add, if_true, if_false, Bool.false_eq_true, reduceIte, Bool.not_true, Bool.not_false, small_few0, small_few1, small_few2, small_few3, this]
    have t2 : fOp oEq (fLc (iZ2 true true (fCons (fVar 3) (fCons (fSl true (fVar 3) (pSome (fC (.int 1))) pNone) fNil))) (sTup 2 (sCons (sName 7) (sCons (sName 8) sNil))) (fNot (fT (fOp oLtD (fVar 7) (fVar 8)))) (fC (.int 1)) [7, 8]) (fLst fNil) (lockL (fun _ => true) (GR n m (dueN m n : Nat) (wRows n m) c4 .un (.ml ((wRows n m).map (wgT m))))) = some (.val (.bool true)) := by
      exact eq_key _ _ pz
    exact ret_key (and_key t1 t2)
  show bodyD b__law_list_right 7 [dI n, .int m] = _
  unfold bodyD b__law_list_right
  rw [show ([dI n, PyData.int m].map Ce.d ++ List.replicate 7 .un) = [.d (dI n), .d (.int m), .un, .un, .un, .un, .un, .un, .un] from rfl]
  rw [seq_nx e1, seq_nx hd, seq_nx e3, seq_nx e4, seq_nx e5, seq_nx (Γ1 := GR n m (dueN m n : Nat) [] c4 .un (.ml ((wRows n m).map (wgT m)))) rfl, seq_nx e7, e8]
end
end Mv
namespace Mv
open PySem L2 Evl
section
variable {n : List Int} {m : Int} {w : List Int → Int} {Γ Γ1 : En} {R S : Rows} {d x y z : D}
theorem weighed_dials (h : f_check_dials [d] = some (.exc "BadDials")) : f_weighed [d, x, y] = some (.exc "BadDials") := by
  show (if isLstAt 2 [d, x, y] = true then bodyD b_weighed_list 5 [d, x, y] else bodyD b_weighed_tup 5 [d, x, y]) = _
  split
  · simp only [b_weighed_list, guardN, bodyD, fSeq, fAsg, fAsgM, fApp, fRet, fRetN, fDrop, fIfS, fNext, fRaise, fIf, fAnd, fOr, fNot, fT, bo, bnd, bndA, rB, fCall0, noEx, fCall, fCallP, permL, fCons, fNil, fTup, fLst, lim, fCb, ret, fOp, fUn, fVar, fC, fIsi, fIsiLT, isLT, fChain, fLk, fLkB, fLkM, fRevL, fSet2, fFrz, lockL, lockG, lkC, sName, sTup, sCons, sNil, wipeC, List.map_cons, List.map_nil, List.replicate_succ, List.replicate_zero, List.cons_append, List.nil_append, List.getElem?_cons_zero, List.getElem?_cons_succ, List.set_cons_zero, List.set_cons_succ, List.length_cons, List.length_nil, Nat.beq_refl, Nat.reduceAdd, Nat.reduceLeDiff, Nat.reduceEqDiff, Nat.zero_add, if_true, if_false, Bool.false_eq_true, reduceIte, Bool.not_true, Bool.not_false, small_few0, small_few1, small_few2, small_few3, h]
  · simp only [b_weighed_tup, guardN, bodyD, fSeq, fAsg, fAsgM, fApp, fRet, fRetN, fDrop, fIfS, fNext, fRaise, fIf, fAnd, fOr, fNot, fT, bo, bnd, bndA, rB, fCall0, noEx, fCall, fCallP, permL, fCons, fNil, fTup, fLst, lim, fCb, ret, fOp, fUn, fVar, fC, fIsi, fIsiLT, isLT, fChain, fLk, fLkB, fLkM, fRevL, fSet2, fFrz, lockL, lockG, lkC, sName, sTup, sCons, sNil, wipeC, List.map_cons, List.map_nil, List.replicate_succ, List.replicate_zero, List.cons_append, List.nil_append, List.getElem?_cons_zero, List.getElem?_cons_succ, List.set_cons_zero, List.set_cons_succ, List.length_cons, List.length_nil, Nat.beq_refl, Nat.reduceAdd, Nat.reduceLeDiff, Nat.reduceEqDiff, Nat.zero_add, if_true, if_false, Bool.false_eq_true, reduceIte, Bool.not_true, Bool.not_false, small_few0, small_few1, small_few2, small_few3, h]
theorem weighings_dials (h : f_check_dials [d] = some (.exc "BadDials")) : f_weighings [d, x] = some (.exc "BadDials") := by
  simp only [f_weighings, b_weighings, guardN, bodyD, fSeq, fAsg, fAsgM, fApp, fRet, fRetN, fDrop, fIfS, fNext, fRaise, fIf, fAnd, fOr, fNot, fT, bo, bnd, bndA, rB, fCall0, noEx, fCall, fCallP, permL, fCons, fNil, fTup, fLst, lim, fCb, ret, fOp, fUn, fVar, fC, fIsi, fIsiLT, isLT, fChain, fLk, fLkB, fLkM, fRevL, fSet2, fFrz, lockL, lockG, lkC, sName, sTup, sCons, sNil, wipeC, List.map_cons, List.map_nil, List.replicate_succ, List.replicate_zero, List.cons_append, List.nil_append, List.getElem?_cons_zero, List.getElem?_cons_succ, List.set_cons_zero, List.set_cons_succ, List.length_cons, List.length_nil, Nat.beq_refl, Nat.reduceAdd, Nat.reduceLeDiff, Nat.reduceEqDiff, Nat.zero_add, if_true, if_false, Bool.false_eq_true, reduceIte, Bool.not_true, Bool.not_false, small_few0, small_few1, small_few2, small_few3, h]
theorem isW_dials (h : f_check_dials [d] = some (.exc "BadDials")) : f_is_weighing [d, x] = some (.exc "BadDials") := by
  simp only [f_is_weighing, b_is_weighing, guardN, bodyD, fSeq, fAsg, fAsgM, fApp, fRet, fRetN, fDrop, fIfS, fNext, fRaise, fIf, fAnd, fOr, fNot, fT, bo, bnd, bndA, rB, fCall0, noEx, fCall, fCallP, permL, fCons, fNil, fTup, fLst, lim, fCb, ret, fOp, fUn, fVar, fC, fIsi, fIsiLT, isLT, fChain, fLk, fLkB, fLkM, fRevL, fSet2, fFrz, lockL, lockG, lkC, sName, sTup, sCons, sNil, wipeC, List.map_cons, List.map_nil, List.replicate_succ, List.replicate_zero, List.cons_append, List.nil_append, List.getElem?_cons_zero, List.getElem?_cons_succ, List.set_cons_zero, List.set_cons_succ, List.length_cons, List.length_nil, Nat.beq_refl, Nat.reduceAdd, Nat.reduceLeDiff, Nat.reduceEqDiff, Nat.zero_add, if_true, if_false, Bool.false_eq_true, reduceIte, Bool.not_true, Bool.not_false, small_few0, small_few1, small_few2, small_few3, h]
theorem isW_v (hn : n ∈ fewD) {b : Bool} (h : f_is_weighed_by [dI n, d] = some (.val (.bool b))) : f_is_weighing [dI n, d] = some (.val (.bool b)) := by
  have h0 := chkDials_v hn
  simp only [f_is_weighing, b_is_weighing, guardN, bodyD, fSeq, fAsg, fAsgM, fApp, fRet, fRetN, fDrop, fIfS, fNext, fRaise, fIf, fAnd, fOr, fNot, fT, bo, bnd, bndA, rB, fCall0, noEx, fCall, fCallP, permL, fCons, fNil, fTup, fLst, lim, fCb, ret, fOp, fUn, fVar, fC, fIsi, fIsiLT, isLT, fChain, fLk, fLkB, fLkM, fRevL, fSet2, fFrz, lockL, lockG, lkC, sName, sTup, sCons, sNil, wipeC, List.map_cons, List.map_nil, List.replicate_succ, List.replicate_zero, List.cons_append, List.nil_append, List.getElem?_cons_zero, List.getElem?_cons_succ, List.set_cons_zero, List.set_cons_succ, List.length_cons, List.length_nil, Nat.beq_refl, Nat.reduceAdd, Nat.reduceLeDiff, Nat.reduceEqDiff, Nat.zero_add, if_true, if_false, Bool.false_eq_true, reduceIte, Bool.not_true, Bool.not_false, small_few0, small_few1, small_few2, small_few3, h0, h]
theorem weighings_mod (hn : n ∈ fewD) (h : btw 2 24 x = false) : f_weighings [dI n, x] = some (.exc "BadModulus") := by
  have h0 := chkDials_v hn
  have h1 := between_v x 2 24
  rw [h] at h1
  simp only [f_weighings, b_weighings, guardN, bodyD, fSeq, fAsg, fAsgM, fApp, fRet, fRetN, fDrop, fIfS, fNext, fRaise, fIf, fAnd, fOr, fNot, fT, bo, bnd, bndA, rB, fCall0, noEx, fCall, fCallP, permL, fCons, fNil, fTup, fLst, lim, fCb, ret, fOp, fUn, fVar, fC, fIsi, fIsiLT, isLT, fChain, fLk, fLkB, fLkM, fRevL, fSet2, fFrz, lockL, lockG, lkC, sName, sTup, sCons, sNil, wipeC, List.map_cons, List.map_nil, List.replicate_succ, List.replicate_zero, List.cons_append, List.nil_append, List.getElem?_cons_zero, List.getElem?_cons_succ, List.set_cons_zero, List.set_cons_succ, List.length_cons, List.length_nil, Nat.beq_refl, Nat.reduceAdd, Nat.reduceLeDiff, Nat.reduceEqDiff, Nat.zero_add, if_true, if_false, Bool.false_eq_true, reduceIte, Bool.not_true, Bool.not_false, small_few0, small_few1, small_few2, small_few3, h0, h1]
theorem weighed_bent (hn : n ∈ fewD) (h : f_is_weighed_by [dI n, x] = some (.val (.bool false))) : f_weighed [dI n, x, y] = some (.exc "BadWeighing") := by
  have h0 := chkDials_v hn
  show (if isLstAt 2 [dI n, x, y] = true then bodyD b_weighed_list 5 [dI n, x, y] else bodyD b_weighed_tup 5 [dI n, x, y]) = _
  split
  · simp only [b_weighed_list, guardN, bodyD, fSeq, fAsg, fAsgM, fApp, fRet, fRetN, fDrop, fIfS, fNext, fRaise, fIf, fAnd, fOr, fNot, fT, bo, bnd, bndA, rB, fCall0, noEx, fCall, fCallP, permL, fCons, fNil, fTup, fLst, lim, fCb, ret, fOp, fUn, fVar, fC, fIsi, fIsiLT, isLT, fChain, fLk, fLkB, fLkM, fRevL, fSet2, fFrz, lockL, lockG, lkC, sName, sTup, sCons, sNil, wipeC, List.map_cons, List.map_nil, List.replicate_succ, List.replicate_zero, List.cons_append, List.nil_append, List.getElem?_cons_zero, List.getElem?_cons_succ, List.set_cons_zero, List.set_cons_succ, List.length_cons, List.length_nil, Nat.beq_refl, Nat.reduceAdd, Nat.reduceLeDiff, Nat.reduceEqDiff, Nat.zero_add, if_true, if_false, Bool.false_eq_true, reduceIte, Bool.not_true, Bool.not_false, small_few0, small_few1, small_few2, small_few3, h0, h]
  · simp only [b_weighed_tup, guardN, bodyD, fSeq, fAsg, fAsgM, fApp, fRet, fRetN, fDrop, fIfS, fNext, fRaise, fIf, fAnd, fOr, fNot, fT, bo, bnd, bndA, rB, fCall0, noEx, fCall, fCallP, permL, fCons, fNil, fTup, fLst, lim, fCb, ret, fOp, fUn, fVar, fC, fIsi, fIsiLT, isLT, fChain, fLk, fLkB, fLkM, fRevL, fSet2, fFrz, lockL, lockG, lkC, sName, sTup, sCons, sNil, wipeC, List.map_cons, List.map_nil, List.replicate_succ, List.replicate_zero, List.cons_append, List.nil_append, List.getElem?_cons_zero, List.getElem?_cons_succ, List.set_cons_zero, List.set_cons_succ, List.length_cons, List.length_nil, Nat.beq_refl, Nat.reduceAdd, Nat.reduceLeDiff, Nat.reduceEqDiff, Nat.zero_add, if_true, if_false, Bool.false_eq_true, reduceIte, Bool.not_true, Bool.not_false, small_few0, small_few1, small_few2, small_few3, h0, h]
theorem weighed_bad (hn : n ∈ fewD) (h : f_is_weighed_by [dI n, x] = some (.val (.bool true))) (h2 : f_are_places [dI n, y] = some (.val (.bool false))) : f_weighed [dI n, x, y] = some (.exc "BadSeveral") := by
  have h0 := chkDials_v hn
  have h3 : f_check_several [dI n, y] = some (.exc "BadSeveral") := by simp only [f_check_several, b_check_several, guardN, bodyD, fSeq, fAsg, fAsgM, fApp, fRet, fRetN, fDrop, fIfS, fNext, fRaise, fIf, fAnd, fOr, fNot, fT, bo, bnd, bndA, rB, fCall0, noEx, fCall, fCallP, permL, fCons, fNil, fTup, fLst, lim, fCb, ret, fOp, fUn, fVar, fC, fIsi, fIsiLT, isLT, fChain, fLk, fLkB, fLkM, fRevL, fSet2, fFrz, lockL, lockG, lkC, sName, sTup, sCons, sNil, wipeC, List.map_cons, List.map_nil, List.replicate_succ, List.replicate_zero, List.cons_append, List.nil_append, List.getElem?_cons_zero, List.getElem?_cons_succ, List.set_cons_zero, List.set_cons_succ, List.length_cons, List.length_nil, Nat.beq_refl, Nat.reduceAdd, Nat.reduceLeDiff, Nat.reduceEqDiff, Nat.zero_add, if_true, if_false, Bool.false_eq_true, reduceIte, Bool.not_true, Bool.not_false, small_few0, small_few1, small_few2, small_few3, h2]
  show (if isLstAt 2 [dI n, x, y] = true then bodyD b_weighed_list 5 [dI n, x, y] else bodyD b_weighed_tup 5 [dI n, x, y]) = _
  split
  · simp only [b_weighed_list, guardN, bodyD, fSeq, fAsg, fAsgM, fApp, fRet, fRetN, fDrop, fIfS, fNext, fRaise, fIf, fAnd, fOr, fNot, fT, bo, bnd, bndA, rB, fCall0, noEx, fCall, fCallP, permL, fCons, fNil, fTup, fLst, lim, fCb, ret, fOp, fUn, fVar, fC, fIsi, fIsiLT, isLT, fChain, fLk, fLkB, fLkM, fRevL, fSet2, fFrz, lockL, lockG, lkC, sName, sTup, sCons, sNil, wipeC, List.map_cons, List.map_nil, List.replicate_succ, List.replicate_zero, List.cons_append, List.nil_append, List.getElem?_cons_zero, List.getElem?_cons_succ, List.set_cons_zero, List.set_cons_succ, List.length_cons, List.length_nil, Nat.beq_refl, Nat.reduceAdd, Nat.reduceLeDiff, Nat.reduceEqDiff, Nat.zero_add, if_true, if_false, Bool.false_eq_true, reduceIte, Bool.not_true, Bool.not_false, small_few0, small_few1, small_few2, small_few3, h0, h, h3]
  · simp only [b_weighed_tup, guardN, bodyD, fSeq, fAsg, fAsgM, fApp, fRet, fRetN, fDrop, fIfS, fNext, fRaise, fIf, fAnd, fOr, fNot, fT, bo, bnd, bndA, rB, fCall0, noEx, fCall, fCallP, permL, fCons, fNil, fTup, fLst, lim, fCb, ret, fOp, fUn, fVar, fC, fIsi, fIsiLT, isLT, fChain, fLk, fLkB, fLkM, fRevL, fSet2, fFrz, lockL, lockG, lkC, sName, sTup, sCons, sNil, wipeC, List.map_cons, List.map_nil, List.replicate_succ, List.replicate_zero, List.cons_append, List.nil_append, List.getElem?_cons_zero, List.getElem?_cons_succ, List.set_cons_zero, List.set_cons_succ, List.length_cons, List.length_nil, Nat.beq_refl, Nat.reduceAdd, Nat.reduceLeDiff, Nat.reduceEqDiff, Nat.zero_add, if_true, if_false, Bool.false_eq_true, reduceIte, Bool.not_true, Bool.not_false, small_few0, small_few1, small_few2, small_few3, h0, h, h3]
theorem areP_L (hn : n ∈ fewD) {xs : List D} (hx : xs.length ≤ 1000000) : f_are_places [dI n, .list xs] = some (.val (.bool (xs.all (isPlace n)))) := by
  have hp := flc_map (src := iL (fVar 1)) (st := sName 2) (ft := fC (.bool true)) (fe := fCall0 f_is_place (fCons (fVar 0) (fCons (fVar 2) fNil))) (vs := [2])
    (Γ := [.d (dI n), .d (.list xs), .un]) (fun d : D => d) (fun d => .bool (isPlace n d)) xs (by show some (Oa.vals xs) = _; rw [List.map_id']) hx fun d hd => by
      refine ⟨_, rfl, rfl, ?_⟩
      have := isPlace_v hn d
      simp only [guardN, bodyD, fSeq, fAsg, fAsgM, fApp, fRet, fRetN, fDrop, fIfS, fNext, fRaise, fIf, fAnd, fOr, fNot, fT, bo, bnd, bndA, rB, fCall0, noEx, fCall, fCallP, permL, fCons, fNil, fTup, fLst, lim, fCb, ret, fOp, fUn, fVar, fC, fIsi, fIsiLT, isLT, fChain, fLk, fLkB, fLkM, fRevL, fSet2, fFrz, lockL, lockG, lkC, sName, sTup, sCons, sNil, wipeC, List.map_cons, List.map_nil, List.replicate_succ, List.replicate_zero, List.cons_append, List.nil_append, List.getElem?_cons_zero, List.getElem?_cons_succ, List.set_cons_zero, List.set_cons_succ, List.length_cons, List.length_nil, Nat.beq_refl, Nat.reduceAdd, Nat.reduceLeDiff, Nat.reduceEqDiff, Nat.zero_add, if_true, if_false, Bool.false_eq_true, reduceIte, Bool.not_true, Bool.not_false, small_few0, small_few1, small_few2, small_few3, this]
  have h0 := listed_v (.list xs)
  simp only [isLT] at h0
  show bodyD b_are_places_list 1 [dI n, .list xs] = _
  simp only [b_are_places_list, guardN, bodyD, fSeq, fAsg, fAsgM, fApp, fRet, fRetN, fDrop, fIfS, fNext, fRaise, fIf, fAnd, fOr, fNot, fT, bo, bnd, bndA, rB, fCall0, noEx, fCall, fCallP, permL, fCons, fNil, fTup, fLst, lim, fCb, ret, fOp, fUn, fVar, fC, fIsi, fIsiLT, isLT, fChain, fLk, fLkB, fLkM, fRevL, fSet2, fFrz, lockL, lockG, lkC, sName, sTup, sCons, sNil, wipeC, List.map_cons, List.map_nil, List.replicate_succ, List.replicate_zero, List.cons_append, List.nil_append, List.getElem?_cons_zero, List.getElem?_cons_succ, List.set_cons_zero, List.set_cons_succ, List.length_cons, List.length_nil, Nat.beq_refl, Nat.reduceAdd, Nat.reduceLeDiff, Nat.reduceEqDiff, Nat.zero_add, if_true, if_false, Bool.false_eq_true, reduceIte, Bool.not_true, Bool.not_false, small_few0, small_few1, small_few2, small_few3, h0, hp, all_bools]
theorem areP_T (hn : n ∈ fewD) {xs : List D} (hx : xs.length ≤ 1000000) : f_are_places [dI n, .tuple xs] = some (.val (.bool (xs.all (isPlace n)))) := by
  have hp := flc_map (src := iT (fVar 1)) (st := sName 2) (ft := fC (.bool true)) (fe := fCall0 f_is_place (fCons (fVar 0) (fCons (fVar 2) fNil))) (vs := [2])
    (Γ := [.d (dI n), .d (.tuple xs), .un]) (fun d : D => d) (fun d => .bool (isPlace n d)) xs (by show some (Oa.vals xs) = _; rw [List.map_id']) hx fun d hd => by
      refine ⟨_, rfl, rfl, ?_⟩
      have := isPlace_v hn d
      simp only [guardN, bodyD, fSeq, fAsg, fAsgM, fApp, fRet, fRetN, fDrop, fIfS, fNext, fRaise, fIf, fAnd, fOr, fNot, fT, bo, bnd, bndA, rB, fCall0, noEx, fCall, fCallP, permL, fCons, fNil, fTup, fLst, lim, fCb, ret, fOp, fUn, fVar, fC, fIsi, fIsiLT, isLT, fChain, fLk, fLkB, fLkM, fRevL, fSet2, fFrz, lockL, lockG, lkC, sName, sTup, sCons, sNil, wipeC, List.map_cons, List.map_nil, List.replicate_succ, List.replicate_zero, List.cons_append, List.nil_append, List.getElem?_cons_zero, List.getElem?_cons_succ, List.set_cons_zero, List.set_cons_succ, List.length_cons, List.length_nil, Nat.beq_refl, Nat.reduceAdd, Nat.reduceLeDiff, Nat.reduceEqDiff, Nat.zero_add, if_true, if_false, Bool.false_eq_true, reduceIte, Bool.not_true, Bool.not_false, small_few0, small_few1, small_few2, small_few3, this]
  have h0 := listed_v (.tuple xs)
  simp only [isLT] at h0
  show bodyD b_are_places_tup 1 [dI n, .tuple xs] = _
  simp only [b_are_places_tup, guardN, bodyD, fSeq, fAsg, fAsgM, fApp, fRet, fRetN, fDrop, fIfS, fNext, fRaise, fIf, fAnd, fOr, fNot, fT, bo, bnd, bndA, rB, fCall0, noEx, fCall, fCallP, permL, fCons, fNil, fTup, fLst, lim, fCb, ret, fOp, fUn, fVar, fC, fIsi, fIsiLT, isLT, fChain, fLk, fLkB, fLkM, fRevL, fSet2, fFrz, lockL, lockG, lkC, sName, sTup, sCons, sNil, wipeC, List.map_cons, List.map_nil, List.replicate_succ, List.replicate_zero, List.cons_append, List.nil_append, List.getElem?_cons_zero, List.getElem?_cons_succ, List.set_cons_zero, List.set_cons_succ, List.length_cons, List.length_nil, Nat.beq_refl, Nat.reduceAdd, Nat.reduceLeDiff, Nat.reduceEqDiff, Nat.zero_add, if_true, if_false, Bool.false_eq_true, reduceIte, Bool.not_true, Bool.not_false, small_few0, small_few1, small_few2, small_few3, h0, hp, all_bools]
theorem all_dI (h : ∀ p ∈ S, p ∈ placesOf n) (hn : n ∈ fewD) : (S.map dI).all (isPlace n) = true := List.all_eq_true.mpr fun d hd => by
  obtain ⟨q, hq, rfl⟩ := (List.mem_map.mp hd)
  exact inP_place (few_inP hn (h q hq))
abbrev GW (n : List Int) (m : Int) (w : List Int → Int) (y : D) (a b : Ce) : En := [.d (dI n), .d (wg n m w), .d y, .d (.int m), .d (dW n w), .d (dctD (encW n w)), a, b]
theorem weighedL_v (hn : n ∈ fewD) (h0 : btw 2 24 (.int m) = true) (wi : WIn n m w) (ad : addAllB n m w = true) (hS : ∀ p ∈ S, p ∈ placesOf n) (lS : S.length ≤ 1000) : f_weighed [dI n, wg n m w, dL S] = some (.val (.int ((S.map w).sum % m))) := by
  have m0 : 0 < m := by have := wi.m2; omega
  have h1 := chkDials_v hn
  have h2 := byP_good hn h0 wi
  rw [ad] at h2
  have h3 := areP_L hn (xs := S.map dI) (by rw [List.length_map]; omega)
  rw [all_dI hS hn] at h3
  have h4 : f_check_several [dI n, .list (S.map dI)] = some (.val .none) := by simp only [f_check_several, b_check_several, guardN, bodyD, fSeq, fAsg, fAsgM, fApp, fRet, fRetN, fDrop, fIfS, fNext, fRaise, fIf, fAnd, fOr, fNot, fT, bo, bnd, bndA, rB, fCall0, noEx, fCall, fCallP, permL, fCons, fNil, fTup, fLst, lim, fCb, ret, fOp, fUn, fVar, fC, fIsi, fIsiLT, isLT, fChain, fLk, fLkB, fLkM, fRevL, fSet2, fFrz, lockL, lockG, lkC, sName, sTup, sCons, sNil, wipeC, List.map_cons, List.map_nil, List.replicate_succ, List.replicate_zero, List.cons_append, List.nil_append, List.getElem?_cons_zero, List.getElem?_cons_succ, List.set_cons_zero, List.set_cons_succ, List.length_cons, List.length_nil, Nat.beq_refl, Nat.reduceAdd, Nat.reduceLeDiff, Nat.reduceEqDiff, Nat.zero_add, if_true, if_false, Bool.false_eq_true, reduceIte, Bool.not_true, Bool.not_false, small_few0, small_few1, small_few2, small_few3, h3]
  have h5 := places_v hn
  have hd := dcW (w := w) hn (src := iZ2 true false (fCons (fCall0 f_all_places (fCons (fVar 0) fNil)) (fCons (fVar 4) fNil))) (i := 6) (j := 7) (Γ := [.d (dI n), .d (wg n m w), .d (dL S), .d (.int m), .d (dW n w), .un, .un, .un]) (by
    simp only [iZ2, guardN, bodyD, fSeq, fAsg, fAsgM, fApp, fRet, fRetN, fDrop, fIfS, fNext, fRaise, fIf, fAnd, fOr, fNot, fT, bo, bnd, bndA, rB, fCall0, noEx, fCall, fCallP, permL, fCons, fNil, fTup, fLst, lim, fCb, ret, fOp, fUn, fVar, fC, fIsi, fIsiLT, isLT, fChain, fLk, fLkB, fLkM, fRevL, fSet2, fFrz, lockL, lockG, lkC, sName, sTup, sCons, sNil, wipeC, List.map_cons, List.map_nil, List.replicate_succ, List.replicate_zero, List.cons_append, List.nil_append, List.getElem?_cons_zero, List.getElem?_cons_succ, List.set_cons_zero, List.set_cons_succ, List.length_cons, List.length_nil, Nat.beq_refl, Nat.reduceAdd, Nat.reduceLeDiff, Nat.reduceEqDiff, Nat.zero_add, if_true, if_false, Bool.false_eq_true, reduceIte, Bool.not_true, Bool.not_false, small_few0, small_few1, small_few2, small_few3, h5]
    show some (Oa.vals (zipT ((placesOf n).map dI) ((placesOf n).map fun p => PyData.int (w p)))) = _
    rw [zipPW]) fun p => ⟨_, rfl, rfl, rfl⟩
  have hl := flc_map (src := iL (fVar 2)) (st := sName 6) (ft := fC (.bool true)) (fe := fDGet (fVar 5) (fVar 6)) (vs := [6]) (Γ := GW n m w (dL S) .un .un) dI (fun p => .int (w p)) S rfl (by omega) fun p hp =>
    ⟨GW n m w (dL S) (.d (dI p)) .un, rfl, rfl, dgetW (p := p) rfl rfl (hS p hp)⟩
  rw [show (S.map fun p => PyData.int (w p)) = (S.map w).map PyData.int from by rw [List.map_map]; rfl] at hl
  have s1 := sumI (S.map w)
  have s2 := modI (S.map w).sum m0
  show bodyD b_weighed_list 5 [dI n, wg n m w, dL S] = _
  unfold bodyD b_weighed_list
  rw [show ([dI n, wg n m w, dL S].map Ce.d ++ List.replicate 5 .un) = [.d (dI n), .d (wg n m w), .d (dL S), .un, .un, .un, .un, .un] from rfl]
  rw [seq_nx (Γ1 := [.d (dI n), .d (wg n m w), .d (dL S), .un, .un, .un, .un, .un]) (by simp only [guardN, bodyD, fSeq, fAsg, fAsgM, fApp, fRet, fRetN, fDrop, fIfS, fNext, fRaise, fIf, fAnd, fOr, fNot, fT, bo, bnd, bndA, rB, fCall0, noEx, fCall, fCallP, permL, fCons, fNil, fTup, fLst, lim, fCb, ret, fOp, fUn, fVar, fC, fIsi, fIsiLT, isLT, fChain, fLk, fLkB, fLkM, fRevL, fSet2, fFrz, lockL, lockG, lkC, sName, sTup, sCons, sNil, wipeC, List.map_cons, List.map_nil, List.replicate_succ, List.replicate_zero, List.cons_append, List.nil_append, List.getElem?_cons_zero, List.getElem?_cons_succ, List.set_cons_zero, List.set_cons_succ, List.length_cons, List.length_nil, Nat.beq_refl, Nat.reduceAdd, Nat.reduceLeDiff, Nat.reduceEqDiff, Nat.zero_add, if_true, if_false, Bool.false_eq_true, reduceIte, Bool.not_true, Bool.not_false, small_few0, small_few1, small_few2, small_few3, h1])]
  rw [seq_nx (Γ1 := [.d (dI n), .d (wg n m w), .d (dL S), .un, .un, .un, .un, .un]) (by simp only [guardN, bodyD, fSeq, fAsg, fAsgM, fApp, fRet, fRetN, fDrop, fIfS, fNext, fRaise, fIf, fAnd, fOr, fNot, fT, bo, bnd, bndA, rB, fCall0, noEx, fCall, fCallP, permL, fCons, fNil, fTup, fLst, lim, fCb, ret, fOp, fUn, fVar, fC, fIsi, fIsiLT, isLT, fChain, fLk, fLkB, fLkM, fRevL, fSet2, fFrz, lockL, lockG, lkC, sName, sTup, sCons, sNil, wipeC, List.map_cons, List.map_nil, List.replicate_succ, List.replicate_zero, List.cons_append, List.nil_append, List.getElem?_cons_zero, List.getElem?_cons_succ, List.set_cons_zero, List.set_cons_succ, List.length_cons, List.length_nil, Nat.beq_refl, Nat.reduceAdd, Nat.reduceLeDiff, Nat.reduceEqDiff, Nat.zero_add, if_true, if_false, Bool.false_eq_true, reduceIte, Bool.not_true, Bool.not_false, small_few0, small_few1, small_few2, small_few3, h2])]
  rw [seq_nx (Γ1 := [.d (dI n), .d (wg n m w), .d (dL S), .un, .un, .un, .un, .un]) (by unfold dL; simp only [guardN, bodyD, fSeq, fAsg, fAsgM, fApp, fRet, fRetN, fDrop, fIfS, fNext, fRaise, fIf, fAnd, fOr, fNot, fT, bo, bnd, bndA, rB, fCall0, noEx, fCall, fCallP, permL, fCons, fNil, fTup, fLst, lim, fCb, ret, fOp, fUn, fVar, fC, fIsi, fIsiLT, isLT, fChain, fLk, fLkB, fLkM, fRevL, fSet2, fFrz, lockL, lockG, lkC, sName, sTup, sCons, sNil, wipeC, List.map_cons, List.map_nil, List.replicate_succ, List.replicate_zero, List.cons_append, List.nil_append, List.getElem?_cons_zero, List.getElem?_cons_succ, List.set_cons_zero, List.set_cons_succ, List.length_cons, List.length_nil, Nat.beq_refl, Nat.reduceAdd, Nat.reduceLeDiff, Nat.reduceEqDiff, Nat.zero_add, if_true, if_false, Bool.false_eq_true, reduceIte, Bool.not_true, Bool.not_false, small_few0, small_few1, small_few2, small_few3, h4])]
  rw [seq_nx (Γ1 := [.d (dI n), .d (wg n m w), .d (dL S), .d (.int m), .d (dW n w), .un, .un, .un]) rfl]
  rw [seq_nx (Γ1 := GW n m w (dL S) .un .un) (by unfold fAsg; rw [hd]; rfl)]
  simp only [guardN, bodyD, fSeq, fAsg, fAsgM, fApp, fRet, fRetN, fDrop, fIfS, fNext, fRaise, fIf, fAnd, fOr, fNot, fT, bo, bnd, bndA, rB, fCall0, noEx, fCall, fCallP, permL, fCons, fNil, fTup, fLst, lim, fCb, ret, fOp, fUn, fVar, fC, fIsi, fIsiLT, isLT, fChain, fLk, fLkB, fLkM, fRevL, fSet2, fFrz, lockL, lockG, lkC, sName, sTup, sCons, sNil, wipeC, List.map_cons, List.map_nil, List.replicate_succ, List.replicate_zero, List.cons_append, List.nil_append, List.getElem?_cons_zero, List.getElem?_cons_succ, List.set_cons_zero, List.set_cons_succ, List.length_cons, List.length_nil, Nat.beq_refl, Nat.reduceAdd, Nat.reduceLeDiff, Nat.reduceEqDiff, Nat.zero_add, if_true, if_false, Bool.false_eq_true, reduceIte, Bool.not_true, Bool.not_false, small_few0, small_few1, small_few2, small_few3, hl, s1, s2]
theorem weighedT_v (hn : n ∈ fewD) (h0 : btw 2 24 (.int m) = true) (wi : WIn n m w) (ad : addAllB n m w = true) (hS : ∀ p ∈ S, p ∈ placesOf n) (lS : S.length ≤ 1000) : f_weighed [dI n, wg n m w, dT S] = some (.val (.int ((S.map w).sum % m))) := by
  have m0 : 0 < m := by have := wi.m2; omega
  have h1 := chkDials_v hn
  have h2 := byP_good hn h0 wi
  rw [ad] at h2
  have h3 := areP_T hn (xs := S.map dI) (by rw [List.length_map]; omega)
  rw [all_dI hS hn] at h3
  have h4 : f_check_several [dI n, .tuple (S.map dI)] = some (.val .none) := by simp only [f_check_several, b_check_several, guardN, bodyD, fSeq, fAsg, fAsgM, fApp, fRet, fRetN, fDrop, fIfS, fNext, fRaise, fIf, fAnd, fOr, fNot, fT, bo, bnd, bndA, rB, fCall0, noEx, fCall, fCallP, permL, fCons, fNil, fTup, fLst, lim, fCb, ret, fOp, fUn, fVar, fC, fIsi, fIsiLT, isLT, fChain, fLk, fLkB, fLkM, fRevL, fSet2, fFrz, lockL, lockG, lkC, sName, sTup, sCons, sNil, wipeC, List.map_cons, List.map_nil, List.replicate_succ, List.replicate_zero, List.cons_append, List.nil_append, List.getElem?_cons_zero, List.getElem?_cons_succ, List.set_cons_zero, List.set_cons_succ, List.length_cons, List.length_nil, Nat.beq_refl, Nat.reduceAdd, Nat.reduceLeDiff, Nat.reduceEqDiff, Nat.zero_add, if_true, if_false, Bool.false_eq_true, reduceIte, Bool.not_true, Bool.not_false, small_few0, small_few1, small_few2, small_few3, h3]
  have h5 := places_v hn
  have hd := dcW (w := w) hn (src := iZ2 true false (fCons (fCall0 f_all_places (fCons (fVar 0) fNil)) (fCons (fVar 4) fNil))) (i := 6) (j := 7) (Γ := [.d (dI n), .d (wg n m w), .d (dT S), .d (.int m), .d (dW n w), .un, .un, .un]) (by
    simp only [iZ2, guardN, bodyD, fSeq, fAsg, fAsgM, fApp, fRet, fRetN, fDrop, fIfS, fNext, fRaise, fIf, fAnd, fOr, fNot, fT, bo, bnd, bndA, rB, fCall0, noEx, fCall, fCallP, permL, fCons, fNil, fTup, fLst, lim, fCb, ret, fOp, fUn, fVar, fC, fIsi, fIsiLT, isLT, fChain, fLk, fLkB, fLkM, fRevL, fSet2, fFrz, lockL, lockG, lkC, sName, sTup, sCons, sNil, wipeC, List.map_cons, List.map_nil, List.replicate_succ, List.replicate_zero, List.cons_append, List.nil_append, List.getElem?_cons_zero, List.getElem?_cons_succ, List.set_cons_zero, List.set_cons_succ, List.length_cons, List.length_nil, Nat.beq_refl, Nat.reduceAdd, Nat.reduceLeDiff, Nat.reduceEqDiff, Nat.zero_add, if_true, if_false, Bool.false_eq_true, reduceIte, Bool.not_true, Bool.not_false, small_few0, small_few1, small_few2, small_few3, h5]
    show some (Oa.vals (zipT ((placesOf n).map dI) ((placesOf n).map fun p => PyData.int (w p)))) = _
    rw [zipPW]) fun p => ⟨_, rfl, rfl, rfl⟩
  have hl := flc_map (src := iT (fVar 2)) (st := sName 6) (ft := fC (.bool true)) (fe := fDGet (fVar 5) (fVar 6)) (vs := [6]) (Γ := GW n m w (dT S) .un .un) dI (fun p => .int (w p)) S rfl (by omega) fun p hp =>
    ⟨GW n m w (dT S) (.d (dI p)) .un, rfl, rfl, dgetW (p := p) rfl rfl (hS p hp)⟩
  rw [show (S.map fun p => PyData.int (w p)) = (S.map w).map PyData.int from by rw [List.map_map]; rfl] at hl
  have s1 := sumI (S.map w)
  have s2 := modI (S.map w).sum m0
  show bodyD b_weighed_tup 5 [dI n, wg n m w, dT S] = _
  unfold bodyD b_weighed_tup
  rw [show ([dI n, wg n m w, dT S].map Ce.d ++ List.replicate 5 .un) = [.d (dI n), .d (wg n m w), .d (dT S), .un, .un, .un, .un, .un] from rfl]
  rw [seq_nx (Γ1 := [.d (dI n), .d (wg n m w), .d (dT S), .un, .un, .un, .un, .un]) (by simp only [guardN, bodyD, fSeq, fAsg, fAsgM, fApp, fRet, fRetN, fDrop, fIfS, fNext, fRaise, fIf, fAnd, fOr, fNot, fT, bo, bnd, bndA, rB, fCall0, noEx, fCall, fCallP, permL, fCons, fNil, fTup, fLst, lim, fCb, ret, fOp, fUn, fVar, fC, fIsi, fIsiLT, isLT, fChain, fLk, fLkB, fLkM, fRevL, fSet2, fFrz, lockL, lockG, lkC, sName, sTup, sCons, sNil, wipeC, List.map_cons, List.map_nil, List.replicate_succ, List.replicate_zero, List.cons_append, List.nil_append, List.getElem?_cons_zero, List.getElem?_cons_succ, List.set_cons_zero, List.set_cons_succ, List.length_cons, List.length_nil, Nat.beq_refl, Nat.reduceAdd, Nat.reduceLeDiff, Nat.reduceEqDiff, Nat.zero_add, if_true, if_false, Bool.false_eq_true, reduceIte, Bool.not_true, Bool.not_false, small_few0, small_few1, small_few2, small_few3, h1])]
  rw [seq_nx (Γ1 := [.d (dI n), .d (wg n m w), .d (dT S), .un, .un, .un, .un, .un]) (by simp only [guardN, bodyD, fSeq, fAsg, fAsgM, fApp, fRet, fRetN, fDrop, fIfS, fNext, fRaise, fIf, fAnd, fOr, fNot, fT, bo, bnd, bndA, rB, fCall0, noEx, fCall, fCallP, permL, fCons, fNil, fTup, fLst, lim, fCb, ret, fOp, fUn, fVar, fC, fIsi, fIsiLT, isLT, fChain, fLk, fLkB, fLkM, fRevL, fSet2, fFrz, lockL, lockG, lkC, sName, sTup, sCons, sNil, wipeC, List.map_cons, List.map_nil, List.replicate_succ, List.replicate_zero, List.cons_append, List.nil_append, List.getElem?_cons_zero, List.getElem?_cons_succ, List.set_cons_zero, List.set_cons_succ, List.length_cons, List.length_nil, Nat.beq_refl, Nat.reduceAdd, Nat.reduceLeDiff, Nat.reduceEqDiff, Nat.zero_add, if_true, if_false, Bool.false_eq_true, reduceIte, Bool.not_true, Bool.not_false, small_few0, small_few1, small_few2, small_few3, h2])]
  rw [seq_nx (Γ1 := [.d (dI n), .d (wg n m w), .d (dT S), .un, .un, .un, .un, .un]) (by unfold dT; simp only [guardN, bodyD, fSeq, fAsg, fAsgM, fApp, fRet, fRetN, fDrop, fIfS, fNext, fRaise, fIf, fAnd, fOr, fNot, fT, bo, bnd, bndA, rB, fCall0, noEx, fCall, fCallP, permL, fCons, fNil, fTup, fLst, lim, fCb, ret, fOp, fUn, fVar, fC, fIsi, fIsiLT, isLT, fChain, fLk, fLkB, fLkM, fRevL, fSet2, fFrz, lockL, lockG, lkC, sName, sTup, sCons, sNil, wipeC, List.map_cons, List.map_nil, List.replicate_succ, List.replicate_zero, List.cons_append, List.nil_append, List.getElem?_cons_zero, List.getElem?_cons_succ, List.set_cons_zero, List.set_cons_succ, List.length_cons, List.length_nil, Nat.beq_refl, Nat.reduceAdd, Nat.reduceLeDiff, Nat.reduceEqDiff, Nat.zero_add, if_true, if_false, Bool.false_eq_true, reduceIte, Bool.not_true, Bool.not_false, small_few0, small_few1, small_few2, small_few3, h4])]
  rw [seq_nx (Γ1 := [.d (dI n), .d (wg n m w), .d (dT S), .d (.int m), .d (dW n w), .un, .un, .un]) rfl]
  rw [seq_nx (Γ1 := GW n m w (dT S) .un .un) (by unfold fAsg; rw [hd]; rfl)]
  simp only [guardN, bodyD, fSeq, fAsg, fAsgM, fApp, fRet, fRetN, fDrop, fIfS, fNext, fRaise, fIf, fAnd, fOr, fNot, fT, bo, bnd, bndA, rB, fCall0, noEx, fCall, fCallP, permL, fCons, fNil, fTup, fLst, lim, fCb, ret, fOp, fUn, fVar, fC, fIsi, fIsiLT, isLT, fChain, fLk, fLkB, fLkM, fRevL, fSet2, fFrz, lockL, lockG, lkC, sName, sTup, sCons, sNil, wipeC, List.map_cons, List.map_nil, List.replicate_succ, List.replicate_zero, List.cons_append, List.nil_append, List.getElem?_cons_zero, List.getElem?_cons_succ, List.set_cons_zero, List.set_cons_succ, List.length_cons, List.length_nil, Nat.beq_refl, Nat.reduceAdd, Nat.reduceLeDiff, Nat.reduceEqDiff, Nat.zero_add, if_true, if_false, Bool.false_eq_true, reduceIte, Bool.not_true, Bool.not_false, small_few0, small_few1, small_few2, small_few3, hl, s1, s2]
end
end Mv
namespace Mv
open PySem L2 Evl
section
variable {n : List Int} {m : Int} {w : List Int → Int} {Γ Γ1 : En} {R S : Rows} {d x y z : D} {T : Int} {post : D → Int → Prop}
structure Told (n : List Int) (m : Int) (w : List Int → Int) : Prop where
  hb : btw 2 24 (.int m) = true
  wi : WIn n m w
  ad : addAllB n m w = true
theorem Told.m2 (t : Told n m w) : 2 ≤ m := t.wi.m2
theorem Told.m24 (t : Told n m w) : m ≤ 24 := by
  have h : (decide (2 ≤ m) && decide (m ≤ 24)) = true := t.hb
  rw [Bool.and_eq_true] at h
  exact of_decide_eq_true h.2
theorem Told.by (hn : n ∈ fewD) (t : Told n m w) : f_is_weighed_by [dI n, wg n m w] = some (.val (.bool true)) := by
  rw [byP_good hn t.hb t.wi, t.ad]
theorem all_rowsW {P : Rows} : ∀ {ds : List D}, (∀ d ∈ ds, ∃ p ∈ P, d = dI p) → ∃ R : Rows, ds = R.map dI ∧ ∀ p ∈ R, p ∈ P
  | [], _ => ⟨[], rfl, fun _ h => by cases h⟩
  | d :: ds, h => by
    obtain ⟨p, hp, rfl⟩ := h d (List.mem_cons_self ..)
    obtain ⟨R, rfl, hR⟩ := all_rowsW (ds := ds) fun x hx => h x (List.mem_cons_of_mem _ hx)
    exact ⟨p :: R, rfl, fun q hq => by
      rcases (List.mem_cons.mp hq) with rfl | hq
      · exact hp
      · exact hR q hq⟩
theorem eqStr (s : Str) : oEqA (.str s) (.str s) = some (.bool true) := by
  unfold oEqA
  simp
theorem rep2 : ((List.range 24).all fun i => partB 1000 4 (.list [.int (i : Int), .int (i : Int)])) = true := by decide +kernel
theorem repr2 {v : Int} (h0 : 0 ≤ v) (h1 : v < 24) : oRepr [.list [.int v, .int v]] = some (.str (PyData.list [.int v, .int v]).shown) := by
  have h := List.all_eq_true.mp rep2 v.toNat (List.mem_range.mpr (by omega))
  rw [Int.toNat_of_nonneg h0] at h
  exact repr_of (partB_mono h (by decide) (by decide)) rfl
theorem repr0 : oRepr [.int 0] = some (.str "0") := by first | rfl | decide +kernel
theorem wLcD_of {FS : WA} {st : Fs} {FT : WB} {Fe : WE} {vs : List Nat} (h : FS Γ T fun as T1 => small as.length = true ∧ lcW st FT Fe (wipeC Γ vs) as T1 fun ds T' => post (.list ds) T') : wLcD FS st FT Fe vs Γ T post := h
theorem wAsgL_of {FA : WA} {i : Nat} {nx : En → Int → Prop} {rt : D → Int → Prop} (h : FA Γ T fun ds T1 => small ds.length = true ∧ nx (Γ.set i (.ml ds)) T1) : wAsgL i FA Γ T nx rt := h
theorem wR1_of {FA : WA} {post : List D → Int → Prop} (h : FA Γ T fun ds T1 => match ds with | [.int j] => small j.toNat = true ∧ -1000000 ≤ j ∧ post (upFrom 0 j.toNat) T1 | _ => False) : wR1 FA Γ T post := by
  unfold wR1
  refine (show FA Γ T _ from ?_)
  exact h
theorem wweighed_v (hn : n ∈ fewD) (t : Told n m w) (hT : T < 10000000000) (h : ∀ T', T ≤ T' → T' ≤ T + 200 → post (.bool true) T') : W__law_weighed_right [dI n, wg n m w] T post := by
  have m0 : 0 < m := by have := t.m2; omega
  refine bodyW_of rfl fun s => ?_
  unfold F__law_weighed_right
  refine wSeq_of (wAsg_of (wLcD_of (wR1_of (wCons_of (wDraw_of (wCons_of (pw_of (d := .int 13) rfl (wNil_of ?_))))))))
  refine draw_of (by decide) (by decide) (by omega) fun r hr => wNil_of ?_
  refine ⟨small_of (by omega), by omega, ?_⟩
  refine ⟨small_of (by rw [upFrom_len]; omega), ?_⟩
  refine lcW_all (Pv := fun d => ∃ p ∈ placesOf n, d = dI p) (c := 10) _ (T + 1) _ (fun a ha T' q q1 q2 q3 => ?_) (by decide) (fun ds T' r1 r2 r3 r4 => ?_) (fun Γ1 T p q h1 h2 => h2 _ _ h1)
  · rw [upFrom_len] at q2
    refine ⟨_, rfl, ?_⟩
    refine pwb_of (b := true) rfl ?_
    rw [if_pos rfl]
    refine wDraw_of (wCons_of (pw_of (d := dI n) rfl (wNil_of ?_)))
    refine wplace_v hn (by omega) fun p T2 hp t1 t2 => ?_
    exact q3 _ _ ⟨p, hp, rfl⟩ (by omega) (by omega)
  · rw [upFrom_len] at r2 r4
    obtain ⟨S, rfl, hS⟩ := all_rowsW r1
    rw [List.length_map] at r2
    have lS : S.length ≤ 1000 := by omega
    refine (show wSeq _ _ [.fx (.ref s), .d (dI n), .d (wg n m w), .d (dL S), .un, .un, .un, .un, .un, .un] T' _ _ from ?_)
    have x1 : oIxT (wg n m w) (.int 1) = some (dW n w) := rfl
    have x0 : oIxT (wg n m w) (.int 0) = some (.int m) := rfl
    have ld := led_v (w := w) hn
    have ol : oList [dL S] = some (dL S) := rfl
    refine wSeq_of (pws_nx (Γ' := [.fx (.ref s), .d (dI n), .d (wg n m w), .d (dL S), .un, .d (dctD (encW n w)), .d (dL S), .un, .un, .un]) (fAsg_of (d := .tuple [dctD (encW n w), dL S]) (by simp only [guardN, bodyD, fSeq, fAsg, fAsgM, fApp, fRet, fRetN, fDrop, fIfS, fNext, fRaise, fIf, fAnd, fOr, fNot, fT, bo, bnd, bndA, rB, fCall0, noEx, fCall, fCallP, permL, fCons, fNil, fTup, fLst, lim, fCb, ret, fOp, fUn, fVar, fC, fIsi, fIsiLT, isLT, fChain, fLk, fLkB, fLkM, fRevL, fSet2, fFrz, lockL, lockG, lkC, sName, sTup, sCons, sNil, wipeC, List.map_cons, List.map_nil, List.replicate_succ, List.replicate_zero, List.cons_append, List.nil_append, List.getElem?_cons_zero, List.getElem?_cons_succ, List.set_cons_zero, List.set_cons_succ, List.length_cons, List.length_nil, Nat.beq_refl, Nat.reduceAdd, Nat.reduceLeDiff, Nat.reduceEqDiff, Nat.zero_add, if_true, if_false, Bool.false_eq_true, reduceIte, Bool.not_true, Bool.not_false, small_few0, small_few1, small_few2, small_few3, x1, ld, ol]) rfl) rfl ?_)
    have hl := flc_map (src := iL (fVar 3)) (st := sName 8) (ft := fC (.bool true)) (fe := fDGet (fVar 5) (fVar 8)) (vs := [8]) (Γ := [.fx (.ref s), .d (dI n), .d (wg n m w), .d (dL S), .un, .d (dctD (encW n w)), .d (dL S), .un, .un, .un]) dI (fun p => .int (w p)) S rfl (by omega) fun p hp =>
      ⟨[.fx (.ref s), .d (dI n), .d (wg n m w), .d (dL S), .un, .d (dctD (encW n w)), .d (dL S), .un, .d (dI p), .un], rfl, rfl, dgetW (p := p) rfl rfl (hS p hp)⟩
    rw [show (S.map fun p => PyData.int (w p)) = (S.map w).map PyData.int from by rw [List.map_map]; rfl] at hl
    have s1 := sumI (S.map w)
    have s2 := modI (S.map w).sum m0
    have s3 := intI (S.map w).sum
    obtain ⟨v, ev⟩ : ∃ v, v = (S.map w).sum % m := ⟨_, rfl⟩
    have v0 : 0 ≤ v := by rw [ev]; exact Int.emod_nonneg _ (by omega)
    have v1 : v < 24 := by have : v < m := by rw [ev]; exact Int.emod_lt_of_pos _ m0
                           have := t.m24; omega
    rw [← ev] at s2
    refine wSeq_of (pws_nx (Γ' := [.fx (.ref s), .d (dI n), .d (wg n m w), .d (dL S), .un, .d (dctD (encW n w)), .d (dL S), .d (.int v), .un, .un]) (fAsg_of (d := .int v) (by simp only [guardN, bodyD, fSeq, fAsg, fAsgM, fApp, fRet, fRetN, fDrop, fIfS, fNext, fRaise, fIf, fAnd, fOr, fNot, fT, bo, bnd, bndA, rB, fCall0, noEx, fCall, fCallP, permL, fCons, fNil, fTup, fLst, lim, fCb, ret, fOp, fUn, fVar, fC, fIsi, fIsiLT, isLT, fChain, fLk, fLkB, fLkM, fRevL, fSet2, fFrz, lockL, lockG, lkC, sName, sTup, sCons, sNil, wipeC, List.map_cons, List.map_nil, List.replicate_succ, List.replicate_zero, List.cons_append, List.nil_append, List.getElem?_cons_zero, List.getElem?_cons_succ, List.set_cons_zero, List.set_cons_succ, List.length_cons, List.length_nil, Nat.beq_refl, Nat.reduceAdd, Nat.reduceLeDiff, Nat.reduceEqDiff, Nat.zero_add, if_true, if_false, Bool.false_eq_true, reduceIte, Bool.not_true, Bool.not_false, small_few0, small_few1, small_few2, small_few3, hl, s1, s2, s3, x0]) rfl) rfl ?_)
    have wl := weighedL_v hn t.hb t.wi t.ad hS lS
    have wt := weighedT_v hn t.hb t.wi t.ad hS lS
    have w0 := weighedL_v (S := []) hn t.hb t.wi t.ad (fun p hp => by cases hp) (by decide)
    rw [show ((([] : Rows).map w).sum % m : Int) = 0 from Int.zero_emod m] at w0
    rw [← ev] at wl wt
    have ot : oTuple [dL S] = some (dT S) := rfl
    have hpl : permL [2, 1, 0] [dT S, wg n m w, dI n] = [dI n, wg n m w, dT S] := rfl
    have e4 : (fLst (fCons (fCall f_weighed (fCons (fVar 1) (fCons (fVar 2) (fCons (fVar 3) fNil)))) (fCons (fCallP [2, 1, 0] 3 f_weighed (fCons (fCb oTuple (fCons (fVar 3) fNil)) (fCons (fVar 2) (fCons (fVar 1) fNil)))) fNil))) [.fx (.ref s), .d (dI n), .d (wg n m w), .d (dL S), .un, .d (dctD (encW n w)), .d (dL S), .d (.int v), .un, .un] = some (.val (.list [.int v, .int v])) := by
      have a1 : fCall f_weighed (fCons (fVar 1) (fCons (fVar 2) (fCons (fVar 3) fNil))) [.fx (.ref s), .d (dI n), .d (wg n m w), .d (dL S), .un, .d (dctD (encW n w)), .d (dL S), .d (.int v), .un, .un] = some (.val (.int v)) := by simp only [guardN, bodyD, fSeq, fAsg, fAsgM, fApp, fRet, fRetN, fDrop, fIfS, fNext, fRaise, fIf, fAnd, fOr, fNot, fT, bo, bnd, bndA, rB, fCall0, noEx, fCall, fCallP, permL, fCons, fNil, fTup, fLst, lim, fCb, ret, fOp, fUn, fVar, fC, fIsi, fIsiLT, isLT, fChain, fLk, fLkB, fLkM, fRevL, fSet2, fFrz, lockL, lockG, lkC, sName, sTup, sCons, sNil, wipeC, List.map_cons, List.map_nil, List.replicate_succ, List.replicate_zero, List.cons_append, List.nil_append, List.getElem?_cons_zero, List.getElem?_cons_succ, List.set_cons_zero, List.set_cons_succ, List.length_cons, List.length_nil, Nat.beq_refl, Nat.reduceAdd, Nat.reduceLeDiff, Nat.reduceEqDiff, Nat.zero_add, if_true, if_false, Bool.false_eq_true, reduceIte, Bool.not_true, Bool.not_false, small_few0, small_few1, small_few2, small_few3, wl]
      have a2 : fCallP [2, 1, 0] 3 f_weighed (fCons (fCb oTuple (fCons (fVar 3) fNil)) (fCons (fVar 2) (fCons (fVar 1) fNil))) [.fx (.ref s), .d (dI n), .d (wg n m w), .d (dL S), .un, .d (dctD (encW n w)), .d (dL S), .d (.int v), .un, .un] = some (.val (.int v)) := by
        show (if Nat.beq 3 3 = true then f_weighed (permL [2, 1, 0] [dT S, wg n m w, dI n]) else none) = _
        rw [if_pos (show Nat.beq 3 3 = true from rfl), hpl, wt]
      exact fLst_of (fCons_of a1 (fCons_of a2 rfl)) (by simp)
    refine wSeq_of (pws_nx (Γ' := [.fx (.ref s), .d (dI n), .d (wg n m w), .d (dL S), .un, .d (dctD (encW n w)), .d (dL S), .d (.int v), .un, .d (.list [.int v, .int v])]) (fAsg_of e4 rfl) rfl ?_)
    have rr := repr2 v0 v1
    have q1 := eqStr (PyData.list [.int v, .int v]).shown
    have q2 := eqL_v S S
    rw [decide_eq_true rfl] at q2
    have q3 := eqStr "0"
    have q0 := repr0
    have dn : PyData.list [] = dL [] := rfl
    refine pws_rt (d := .bool true) ?_ (h _ (by omega) (by omega))
    rw [← dn] at w0
    simp only [guardN, bodyD, fSeq, fAsg, fAsgM, fApp, fRet, fRetN, fDrop, fIfS, fNext, fRaise, fIf, fAnd, fOr, fNot, fT, bo, bnd, bndA, rB, fCall0, noEx, fCall, fCallP, permL, fCons, fNil, fTup, fLst, lim, fCb, ret, fOp, fUn, fVar, fC, fIsi, fIsiLT, isLT, fChain, fLk, fLkB, fLkM, fRevL, fSet2, fFrz, lockL, lockG, lkC, sName, sTup, sCons, sNil, wipeC, List.map_cons, List.map_nil, List.replicate_succ, List.replicate_zero, List.cons_append, List.nil_append, List.getElem?_cons_zero, List.getElem?_cons_succ, List.set_cons_zero, List.set_cons_succ, List.length_cons, List.length_nil, Nat.beq_refl, Nat.reduceAdd, Nat.reduceLeDiff, Nat.reduceEqDiff, Nat.zero_add, if_true, if_false, Bool.false_eq_true, reduceIte, Bool.not_true, Bool.not_false, small_few0, small_few1, small_few2, small_few3, rr, q1, q2, w0, q0, q3]
def oddM : List D := [.int 1, .int 25, .int 0, .int (-2), .none, .bool true, .str "2", .tuple [.int 2], .list [], .int 999999999]
theorem oddM_btw (h : d ∈ oddM) : btw 2 24 d = false := by
  have := List.all_eq_true.mp (show (oddM.all fun d => !btw 2 24 d) = true by decide +kernel) d h
  simpa using this
def bentL (n : List Int) (m : Int) (w : List Int → Int) : List D := [.none, .tuple [], .tuple [.int 2], .tuple [.int 2, .tuple []], .list [.int m, dW n w], .tuple [.int m, .tuple ((placesOf n).map (fun p => PyData.int (w p)) ++ [.int 0])], .tuple [.int (m + 24), dW n w]]
theorem two_len (hn : n ∈ fewD) : 2 ≤ (placesOf n).length := of_decide_eq_true (List.all_eq_true.mp few_two n hn)
theorem bent_no (hn : n ∈ fewD) (t : Told n m w) (h : d ∈ bentL n m w) : f_is_weighed_by [dI n, d] = some (.val (.bool false)) := by
  have l2 := two_len hn
  have pl := prod_len hn
  unfold bentL at h
  simp only [List.mem_cons, List.not_mem_nil, or_false] at h
  rcases h with rfl | rfl | rfl | rfl | rfl | rfl | rfl
  · exact byP_no2 hn rfl
  · exact byP_no2 hn rfl
  · exact byP_no2 hn rfl
  · exact byP_len hn (by decide) (decide_eq_false (by rw [pl]; simp; omega))
  · exact byP_no2 hn rfl
  · exact byP_len hn t.hb (decide_eq_false (by rw [pl]; simp; omega))
  · exact byP_mod hn (by have := t.m2; show (decide (2 ≤ m + 24) && decide (m + 24 ≤ 24)) = false; rw [decide_eq_false (show ¬ m + 24 ≤ 24 by omega), Bool.and_false])
theorem catW (hn : n ∈ fewD) : oCatT (dW n w) (.tuple [.int 0]) = some (.tuple ((placesOf n).map (fun p => PyData.int (w p)) ++ [.int 0])) := cat_v (by have := few_24 hn; rw [List.length_map]; simp; omega)
theorem bad_no (hn : n ∈ fewD) (h : d = .none ∨ d = .int 5 ∨ (∃ b, d = .list [b] ∧ isPlace n b = false) ∨ (∃ p ∈ placesOf n, d = dI p) ∨ d = .dict [(.none, .none)] ∨ d = .str "several") : f_are_places [dI n, d] = some (.val (.bool false)) := by
  rcases h with rfl | rfl | ⟨b, rfl, hb⟩ | ⟨p, hp, rfl⟩ | rfl | rfl
  · rfl
  · rfl
  · rw [areP_L hn (by simp)]
    simp [hb]
  · have ne := inP_ne hn (few_inP hn hp)
    have h4 := in_len hn hp
    have l4 := few_l4 hn
    cases p with
    | nil => exact (ne rfl).elim
    | cons x p =>
      rw [show dI (x :: p) = .tuple (.int x :: p.map PyData.int) from rfl, areP_T hn (by rw [List.length_cons, List.length_map]; simp at h4; omega)]
      rfl
  · rfl
  · rfl
theorem wrefused_v (hn : n ∈ fewD) (t : Told n m w) (hT : T < 10000000000) (h : ∀ T', T ≤ T' → T' ≤ T + 200 → post (.bool true) T') : W__law_refused_right [dI n, wg n m w] T post := by
  refine bodyW_of rfl fun s => ?_
  unfold F__law_refused_right
  refine wSeq_of (wAsg_of (wTup_of (wCons_of (wDraw_of (wNil_of (wbadDials_v (by omega) fun wr hwr => ?_))))))
  refine wCons_of (wDraw_of (wCons_of (pw_of (d := .list oddM) rfl (wNil_of (wpick_v (by simp [oddM]) (by decide) (by omega) fun od hod => wNil_of ?_)))))
  refine ⟨(show small 2 = true by decide), ?_⟩
  have cw := bad_chk hwr
  have co := oddM_btw hod
  have x1 : oIxT (wg n m w) (.int 1) = some (dW n w) := rfl
  have x0 : oIxT (wg n m w) (.int 0) = some (.int m) := rfl
  have ca := catW (w := w) hn
  have o24 : oAdd (.int m) (.int 24) = some (.int (m + 24)) := rfl
  refine (show wSeq _ _ [.fx (.ref s), .d (dI n), .d (wg n m w), .d wr, .d od, .un, .un, .un] (T + 1 + 1) _ _ from ?_)
  refine wSeq_of (wAsg_of (wDraw_of (wCons_of (pw_of (d := .list (bentL n m w)) (by simp only [guardN, bodyD, fSeq, fAsg, fAsgM, fApp, fRet, fRetN, fDrop, fIfS, fNext, fRaise, fIf, fAnd, fOr, fNot, fT, bo, bnd, bndA, rB, fCall0, noEx, fCall, fCallP, permL, fCons, fNil, fTup, fLst, lim, fCb, ret, fOp, fUn, fVar, fC, fIsi, fIsiLT, isLT, fChain, fLk, fLkB, fLkM, fRevL, fSet2, fFrz, lockL, lockG, lkC, sName, sTup, sCons, sNil, wipeC, List.map_cons, List.map_nil, List.replicate_succ, List.replicate_zero, List.cons_append, List.nil_append, List.getElem?_cons_zero, List.getElem?_cons_succ, List.set_cons_zero, List.set_cons_succ, List.length_cons, List.length_nil, Nat.beq_refl, Nat.reduceAdd, Nat.reduceLeDiff, Nat.reduceEqDiff, Nat.zero_add, if_true, if_false, Bool.false_eq_true, reduceIte, Bool.not_true, Bool.not_false, small_few0, small_few1, small_few2, small_few3, x1, x0, ca, o24]; rfl) (wNil_of (wpick_v (by simp [bentL]) (by simp [bentL]) (by omega) fun bt hbt => ?_))))))
  have cb := bent_no hn t hbt
  refine (show wSeq _ _ [.fx (.ref s), .d (dI n), .d (wg n m w), .d wr, .d od, .d bt, .un, .un] (T + 1 + 1 + 1) _ _ from ?_)
  refine wSeq_of (wAsg_of (wDraw_of (wCons_of (wLst_of (wCons_of (pw_of (d := .none) rfl (wCons_of (pw_of (d := .int 5) rfl ?_))))))))
  refine wCons_of (wLst_of (wCons_of (wDraw_of (wCons_of (pw_of (d := dI n) rfl (wNil_of (wbadPlace_v hn (by omega) fun bp T1 hbp t1 t2 => wNil_of ?_)))))))
  refine ⟨(show small 1 = true by decide), ?_⟩
  refine wCons_of (wDraw_of (wCons_of (pw_of (d := dI n) rfl (wNil_of (wplace_v hn (by omega) fun pp T2 hpp t3 t4 => ?_)))))
  refine wCons_of (pw_of (d := .dict [(.none, .none)]) rfl (wCons_of (pw_of (d := .str "several") rfl (wNil_of ?_))))
  refine ⟨(show small 6 = true by decide), wNil_of ?_⟩
  refine wpick_v (by simp) (by simp) (by omega) fun bd hbd => ?_
  have ha := bad_no hn (d := bd) (by
    simp only [List.mem_cons, List.not_mem_nil, or_false] at hbd
    rcases hbd with rfl | rfl | rfl | rfl | rfl | rfl
    · exact .inl rfl
    · exact .inr (.inl rfl)
    · exact .inr (.inr (.inl ⟨bp, rfl, hbp⟩))
    · exact .inr (.inr (.inr (.inl ⟨pp, hpp, rfl⟩)))
    · exact .inr (.inr (.inr (.inr (.inl rfl))))
    · exact .inr (.inr (.inr (.inr (.inr rfl)))))
  refine (show wSeq _ _ [.fx (.ref s), .d (dI n), .d (wg n m w), .d wr, .d od, .d bt, .d bd, .un] (T2 + 1) _ _ from ?_)
  refine wSeq_of (wAsgL_of (wCons_of (wCau_of (raises_of (ds := [wr, od]) rfl (weighings_dials cw)) (wCons_of (wCau_of (raises_of (ds := [wr, wg n m w]) rfl (isW_dials cw)) (wNil_of ⟨(show small 2 = true by decide), ?_⟩))))))
  refine (show wSeq _ _ [.fx (.ref s), .d (dI n), .d (wg n m w), .d wr, .d od, .d bt, .d bd, .ml [.bool true, .bool true]] (T2 + 1) _ _ from ?_)
  refine wSeq_of (wApp_of (ds := [.bool true, .bool true]) rfl (wCau_of (raises_of (ds := [wr, bt, bd]) rfl (weighed_dials cw)) ⟨(show small 2 = true by decide), ?_⟩))
  refine (show wSeq _ _ [.fx (.ref s), .d (dI n), .d (wg n m w), .d wr, .d od, .d bt, .d bd, .ml [.bool true, .bool true, .bool true]] (T2 + 1) _ _ from ?_)
  refine wSeq_of (wApp_of (ds := [.bool true, .bool true, .bool true]) rfl (wCau_of (raises_of (ds := [dI n, od]) rfl (weighings_mod hn co)) ⟨(show small 3 = true by decide), ?_⟩))
  refine (show wSeq _ _ [.fx (.ref s), .d (dI n), .d (wg n m w), .d wr, .d od, .d bt, .d bd, .ml [.bool true, .bool true, .bool true, .bool true]] (T2 + 1) _ _ from ?_)
  refine wSeq_of (wApp_of (ds := [.bool true, .bool true, .bool true, .bool true]) rfl (wCau_of (raises_of (ds := [dI n, bt, bd]) rfl (weighed_bent hn cb)) ⟨(show small 4 = true by decide), ?_⟩))
  refine (show wSeq _ _ [.fx (.ref s), .d (dI n), .d (wg n m w), .d wr, .d od, .d bt, .d bd, .ml [.bool true, .bool true, .bool true, .bool true, .bool true]] (T2 + 1) _ _ from ?_)
  refine wSeq_of (wApp_of (ds := [.bool true, .bool true, .bool true, .bool true, .bool true]) rfl (wCau_of (raises_of (ds := [dI n, wg n m w, bd]) rfl (weighed_bad hn (t.by hn) ha)) ⟨(show small 5 = true by decide), ?_⟩))
  refine (show pws _ _ [.fx (.ref s), .d (dI n), .d (wg n m w), .d wr, .d od, .d bt, .d bd, .ml [.bool true, .bool true, .bool true, .bool true, .bool true, .bool true]] (T2 + 1) _ _ from ?_)
  exact pws_rt (d := .bool true) rfl (h _ (by omega) (by omega))
end
end Mv
namespace Mv
open PySem L2 Evl
section
variable {n : List Int} {m : Int} {w : List Int → Int} {Γ Γ1 : En} {R S : Rows} {d x y z : D} {T : Int} {post : D → Int → Prop}
theorem noLs_app : ∀ a b : List D, noLs (a ++ b) = (noLs a && noLs b)
  | [], b => by rw [List.nil_append, noLs, Bool.true_and]
  | x :: a, b => by rw [List.cons_append, noLs, noLs, noLs_app a b, Bool.and_assoc]
theorem noL_T (xs : List D) : noL (.tuple xs) = noLs xs := by rw [noL]
def wW (n : List Int) (w : List Int → Int) : List D := (placesOf n).map fun p => PyData.int (w p)
theorem wW_len (n : List Int) (w : List Int → Int) : (wW n w).length = (placesOf n).length := List.length_map _
theorem wW_ints (n : List Int) (w : List Int → Int) : wW n w = ((placesOf n).map w).map PyData.int := by unfold wW; rw [List.map_map]; rfl
theorem noLs_W (n : List Int) (w : List Int → Int) : noLs (wW n w) = true := by rw [wW_ints]; exact noLs_ints _
theorem noLs_takeW (n : List Int) (w : List Int → Int) (k : Nat) : noLs ((wW n w).take k) = true := by rw [wW_ints, ← List.map_take]; exact noLs_ints _
theorem noLs_dropW (n : List Int) (w : List Int → Int) (k : Nat) : noLs ((wW n w).drop k) = true := by rw [wW_ints, ← List.map_drop]; exact noLs_ints _
theorem fTup_of {fas : En → Ra} {ds : List D} (h : fas Γ = some (.vals ds)) (hs : ds.length ≤ 1000) : fTup fas Γ = some (.val (.tuple ds)) := by
  unfold fTup lim bndA
  rw [h]; dsimp only
  rw [if_pos (small_of hs)]
theorem fCb_of {o : List D → Option D} {fas : En → Ra} {ds : List D} {z : D} (h : fas Γ = some (.vals ds)) (ho : o ds = some z) : fCb o fas Γ = some (.val z) := by
  unfold fCb bndA
  rw [h]; dsimp only
  rw [ho]; rfl
theorem app_of {i : Nat} {fe : En → Re} {X : List D} {v : D} (h : Γ[i]? = some (.ml X)) (hf : fe Γ = some (.val v)) (hs : X.length ≤ 1000) : fApp i fe Γ = some (.nx (Γ.set i (.ml (X ++ [v])))) := by
  unfold fApp
  rw [h]; dsimp only
  rw [hf]; dsimp only
  rw [if_pos (small_of hs)]
theorem catL_of (X Y : List D) (h : X.length + Y.length ≤ 1000) : oCat (.list X) (.list Y) = some (.list (X ++ Y)) := by
  show (if small (X.length + Y.length) = true then _ else none) = _
  rw [if_pos (small_of h)]
abbrev GO (s : Addr) (n : List Int) (m : Int) (w : List Int → Int) (r : Nat) (y : Int) (c7 c8 c9 : Ce) : En := [.fx (.ref s), .d (dI n), .d (wg n m w), .d (.int m), .d (dW n w), .d (.int (r : Int)), .d (.int y), c7, c8, c9]
def putW (n : List Int) (w : List Int → Int) (r : Nat) (d : D) : List D := (wW n w).take r ++ [d] ++ (wW n w).drop (r + 1)
theorem cutc_v (hn : n ∈ fewD) {s : Addr} {r : Nat} {y : Int} {c7 c8 c9 : Ce} {fe : En → Re} (hr : r < (placesOf n).length) (h : fe (GO s n m w r y c7 c8 c9) = some (.val d)) :
    fOp oCatT (fOp oCatT (fSl false (fVar 4) pNone (pSome (fVar 5))) (fTup (fCons fe fNil))) (fSl false (fVar 4) (pSome (fOp oAdd (fVar 5) (fC (.int 1)))) pNone) (GO s n m w r y c7 c8 c9) = some (.val (.tuple (putW n w r d))) := by
  have l24 := few_24 hn
  have lw := wW_len n w
  have a1 : fSl false (fVar 4) pNone (pSome (fVar 5)) (GO s n m w r y c7 c8 c9) = some (.val (.tuple ((wW n w).take r))) := sl_lo (k := false) (ds := wW n w) r rfl rfl (by omega)
  have a2 : fSl false (fVar 4) (pSome (fOp oAdd (fVar 5) (fC (.int 1)))) pNone (GO s n m w r y c7 c8 c9) = some (.val (.tuple ((wW n w).drop (r + 1)))) := sl_hi (k := false) (ds := wW n w) (r + 1) rfl rfl (by omega)
  have a3 : fTup (fCons fe fNil) (GO s n m w r y c7 c8 c9) = some (.val (.tuple [d])) := by
    unfold fTup fCons fNil
    rw [h]; rfl
  have b1 := cat_v (xs := (wW n w).take r) (ys := [d]) (by rw [List.length_take]; simp; omega)
  have b2 := cat_v (xs := (wW n w).take r ++ [d]) (ys := (wW n w).drop (r + 1)) (by rw [List.length_append, List.length_take, List.length_drop]; simp; omega)
  exact fOp_of (fOp_of a1 a3 b1) a2 b2
theorem noLs_put {r : Nat} (h : noL d = true) : noLs (putW n w r d) = true := by
  unfold putW
  rw [noLs_app, noLs_app, noLs_takeW, noLs_dropW]
  show (true && noLs [d]) && true = true
  rw [noLs, h]; rfl
theorem near3 (hn : n ∈ fewD) {s : Addr} {r : Nat} {y : Int} (hr : r < (placesOf n).length) : fLc (iL (fLst (fCons (fVar 6) (fCons (fVar 6) (fCons (fC .none) fNil))))) (sName 8) (fC (.bool true)) (fTup (fCons (fVar 3) (fCons (fOp oCatT (fOp oCatT (fSl false (fVar 4) pNone (pSome (fVar 5))) (fTup (fCons (fVar 8) fNil))) (fSl false (fVar 4) (pSome (fOp oAdd (fVar 5) (fC (.int 1)))) pNone)) fNil))) [8] (GO s n m w r y .un .un .un) = some (.val (.list ([PyData.int y, .int y, .none].map fun d => .tuple [.int m, .tuple (putW n w r d)]))) :=
  flc_map (fun d : D => d) (fun d => .tuple [.int m, .tuple (putW n w r d)]) [PyData.int y, .int y, .none] rfl (by simp) fun d hd => ⟨GO s n m w r y .un (.d d) .un, rfl, rfl, by
    have h := cutc_v hn (m := m) (w := w) (s := s) (r := r) (y := y) (c7 := .un) (c8 := .d d) (c9 := .un) (fe := fVar 8) (d := d) hr rfl
    exact fTup_of (fCons_of (a := .int m) (fa := fVar 3) rfl (fCons_of h (show fNil _ = some (.vals []) from rfl))) (by simp)⟩
theorem bools_v (hn : n ∈ fewD) {s : Addr} {r : Nat} {y : Int} {X : List D} : ∃ v, noL v = true ∧ (fTup (fCons (fVar 3) (fCons (fCb oTuple (fCons (fLc (iT (fVar 4)) (sName 9) (fC (.bool true)) (fIf (fT (fOp oLt (fVar 9) (fC (.int 2)))) (fOp oEqA (fVar 9) (fC (.int 1))) (fVar 9)) [9]) fNil)) fNil))) (GO s n m w r y (.ml X) .un .un) = some (.val v) := by
  have hl := flc_map (src := iT (fVar 4)) (st := sName 9) (ft := fC (.bool true)) (fe := fIf (fT (fOp oLt (fVar 9) (fC (.int 2)))) (fOp oEqA (fVar 9) (fC (.int 1))) (fVar 9)) (vs := [9]) (Γ := GO s n m w r y (.ml X) .un .un)
    (fun p => PyData.int (w p)) (fun p => if w p < 2 then PyData.bool (decide (w p = 1)) else .int (w p)) (placesOf n) rfl (by have := few_24 hn; omega) fun p hp => ⟨GO s n m w r y (.ml X) .un (.d (.int (w p))), rfl, rfl, by
      have l1 := lt_I (w p) 2
      have l2 := eqI (w p) 1
      by_cases q : w p < 2
      · rw [if_pos q]
        rw [decide_eq_true q] at l1
        simp only [guardN, bodyD, fSeq, fAsg, fAsgM, fApp, fRet, fRetN, fDrop, fIfS, fNext, fRaise, fIf, fAnd, fOr, fNot, fT, bo, bnd, bndA, rB, fCall0, noEx, fCall, fCallP, permL, fCons, fNil, fTup, fLst, lim, fCb, ret, fOp, fUn, fVar, fC, fIsi, fIsiLT, isLT, fChain, fLk, fLkB, fLkM, fRevL, fSet2, fFrz, lockL, lockG, lkC, sName, sTup, sCons, sNil, wipeC, List.map_cons, List.map_nil, List.replicate_succ, List.replicate_zero, List.cons_append, List.nil_append, List.getElem?_cons_zero, List.getElem?_cons_succ, List.set_cons_zero, List.set_cons_succ, List.length_cons, List.length_nil, Nat.beq_refl, Nat.reduceAdd, Nat.reduceLeDiff, Nat.reduceEqDiff, Nat.zero_add, if_true, if_false, Bool.false_eq_true, reduceIte, Bool.not_true, Bool.not_false, small_few0, small_few1, small_few2, small_few3, l1, l2]
      · rw [if_neg q]
        rw [decide_eq_false q] at l1
        simp only [guardN, bodyD, fSeq, fAsg, fAsgM, fApp, fRet, fRetN, fDrop, fIfS, fNext, fRaise, fIf, fAnd, fOr, fNot, fT, bo, bnd, bndA, rB, fCall0, noEx, fCall, fCallP, permL, fCons, fNil, fTup, fLst, lim, fCb, ret, fOp, fUn, fVar, fC, fIsi, fIsiLT, isLT, fChain, fLk, fLkB, fLkM, fRevL, fSet2, fFrz, lockL, lockG, lkC, sName, sTup, sCons, sNil, wipeC, List.map_cons, List.map_nil, List.replicate_succ, List.replicate_zero, List.cons_append, List.nil_append, List.getElem?_cons_zero, List.getElem?_cons_succ, List.set_cons_zero, List.set_cons_succ, List.length_cons, List.length_nil, Nat.beq_refl, Nat.reduceAdd, Nat.reduceLeDiff, Nat.reduceEqDiff, Nat.zero_add, if_true, if_false, Bool.false_eq_true, reduceIte, Bool.not_true, Bool.not_false, small_few0, small_few1, small_few2, small_few3, l1]⟩
  refine ⟨.tuple [.int m, .tuple ((placesOf n).map fun p => if w p < 2 then PyData.bool (decide (w p = 1)) else .int (w p))], ?_, ?_⟩
  · have key : ∀ P : Rows, noLs (P.map fun p => if w p < 2 then PyData.bool (decide (w p = 1)) else .int (w p)) = true := fun P => by
      induction P with
      | nil => rfl
      | cons p P ih =>
        rw [List.map_cons, noLs, ih]
        by_cases q : w p < 2
        · rw [if_pos q]; rfl
        · rw [if_neg q]; rfl
    rw [noL_T, noLs, noLs, noL_T, key]; rfl
  · have h2 : fCb oTuple (fCons (fLc (iT (fVar 4)) (sName 9) (fC (.bool true)) (fIf (fT (fOp oLt (fVar 9) (fC (.int 2)))) (fOp oEqA (fVar 9) (fC (.int 1))) (fVar 9)) [9]) fNil) (GO s n m w r y (.ml X) .un .un) = some (.val (.tuple ((placesOf n).map fun p => if w p < 2 then PyData.bool (decide (w p = 1)) else .int (w p)))) := by
      exact fCb_of (fCons_of hl (show fNil _ = some (.vals []) from rfl)) rfl
    exact fTup_of (fCons_of (a := .int m) (fa := fVar 3) rfl (fCons_of h2 (show fNil _ = some (.vals []) from rfl))) (by simp)
theorem negs_v (hn : n ∈ fewD) (m0 : 0 < m) {s : Addr} {r : Nat} {y : Int} {X : List D} : ∃ v, (fTup (fCons (fVar 3) (fCons (fCb oTuple (fCons (fLc (iT (fVar 4)) (sName 9) (fC (.bool true)) (fOp oMod (fCb oInt (fCons (fOp oSub (fVar 3) (fVar 9)) fNil)) (fVar 3)) [9]) fNil)) fNil))) (GO s n m w r y (.ml X) .un .un) = some (.val v) := by
  have hl := flc_map (src := iT (fVar 4)) (st := sName 9) (ft := fC (.bool true)) (fe := fOp oMod (fCb oInt (fCons (fOp oSub (fVar 3) (fVar 9)) fNil)) (fVar 3)) (vs := [9]) (Γ := GO s n m w r y (.ml X) .un .un)
    (fun p => PyData.int (w p)) (fun p => .int ((m - w p) % m)) (placesOf n) rfl (by have := few_24 hn; omega) fun p hp => ⟨GO s n m w r y (.ml X) .un (.d (.int (w p))), rfl, rfl, by
      have l1 : oSub (.int m) (.int (w p)) = some (.int (m - w p)) := rfl
      have l2 := intI (m - w p)
      have l3 := modI (m - w p) m0
      simp only [guardN, bodyD, fSeq, fAsg, fAsgM, fApp, fRet, fRetN, fDrop, fIfS, fNext, fRaise, fIf, fAnd, fOr, fNot, fT, bo, bnd, bndA, rB, fCall0, noEx, fCall, fCallP, permL, fCons, fNil, fTup, fLst, lim, fCb, ret, fOp, fUn, fVar, fC, fIsi, fIsiLT, isLT, fChain, fLk, fLkB, fLkM, fRevL, fSet2, fFrz, lockL, lockG, lkC, sName, sTup, sCons, sNil, wipeC, List.map_cons, List.map_nil, List.replicate_succ, List.replicate_zero, List.cons_append, List.nil_append, List.getElem?_cons_zero, List.getElem?_cons_succ, List.set_cons_zero, List.set_cons_succ, List.length_cons, List.length_nil, Nat.beq_refl, Nat.reduceAdd, Nat.reduceLeDiff, Nat.reduceEqDiff, Nat.zero_add, if_true, if_false, Bool.false_eq_true, reduceIte, Bool.not_true, Bool.not_false, small_few0, small_few1, small_few2, small_few3, l1, l2, l3]⟩
  refine ⟨.tuple [.int m, .tuple ((placesOf n).map fun p => .int ((m - w p) % m))], ?_⟩
  have h2 : fCb oTuple (fCons (fLc (iT (fVar 4)) (sName 9) (fC (.bool true)) (fOp oMod (fCb oInt (fCons (fOp oSub (fVar 3) (fVar 9)) fNil)) (fVar 3)) [9]) fNil) (GO s n m w r y (.ml X) .un .un) = some (.val (.tuple ((placesOf n).map fun p => .int ((m - w p) % m)))) := by
    exact fCb_of (fCons_of hl (show fNil _ = some (.vals []) from rfl)) rfl
  exact fTup_of (fCons_of (a := .int m) (fa := fVar 3) rfl (fCons_of h2 (show fNil _ = some (.vals []) from rfl))) (by simp)
theorem repZ {k : Nat} (h1 : 1 ≤ k) (h2 : k ≤ 1000) : ∃ v : List D, noLs v = true ∧ oRepT (.tuple [.int 0]) (.int (k : Nat)) = some (.tuple v) := by
  refine ⟨(List.replicate k [PyData.int 0]).flatten, ?_, ?_⟩
  · clear h1 h2
    induction k with
    | zero => rfl
    | succ k ih => rw [List.replicate_succ, List.flatten_cons, noLs_app, ih]; rfl
  · show (if (!([PyData.int 0] : List D).isEmpty && decide ((1 : Int) ≤ (k : Int)) && decide ((k : Int) ≤ 1000) && Nat.ble 1 1000) = true then some (PyData.tuple (List.replicate (k : Int).toNat [PyData.int 0]).flatten) else none) = _
    rw [decide_eq_true (by omega), decide_eq_true (by omega), show (!([PyData.int 0] : List D).isEmpty && true && true && Nat.ble 1 1000) = true from rfl, if_pos rfl, Int.toNat_natCast]
theorem noL_dW (n : List Int) (w : List Int → Int) : noL (dW n w) = true := by rw [show dW n w = .tuple (wW n w) from rfl, noL_T, noLs_W]
theorem wother_v (hn : n ∈ fewD) (t : Told n m w) (hT : T < 10000000000) (h : ∀ d T', T ≤ T' → T' ≤ T + 20 → post d T') : W__law_otherwise [dI n, wg n m w] T post := by
  have m2 := t.m2
  have m24 := t.m24
  have m0 : 0 < m := by omega
  have l24 := few_24 hn
  have l2 := two_len hn
  refine bodyW_of rfl fun s => ?_
  unfold F__law_otherwise
  refine wSeq_of (pws_nx (Γ' := [.fx (.ref s), .d (dI n), .d (wg n m w), .d (.int m), .d (dW n w), .un, .un, .un, .un, .un]) rfl rfl ?_)
  have ol : oLen [dW n w] = some (.int ((placesOf n).length : Nat)) := by show some (PyData.int ((wW n w).length : Nat)) = _; rw [wW_len]
  refine wSeq_of (wAsg_of (wDraw_of (wCons_of (pw_of (d := .int ((placesOf n).length : Nat)) (by simp only [guardN, bodyD, fSeq, fAsg, fAsgM, fApp, fRet, fRetN, fDrop, fIfS, fNext, fRaise, fIf, fAnd, fOr, fNot, fT, bo, bnd, bndA, rB, fCall0, noEx, fCall, fCallP, permL, fCons, fNil, fTup, fLst, lim, fCb, ret, fOp, fUn, fVar, fC, fIsi, fIsiLT, isLT, fChain, fLk, fLkB, fLkM, fRevL, fSet2, fFrz, lockL, lockG, lkC, sName, sTup, sCons, sNil, wipeC, List.map_cons, List.map_nil, List.replicate_succ, List.replicate_zero, List.cons_append, List.nil_append, List.getElem?_cons_zero, List.getElem?_cons_succ, List.set_cons_zero, List.set_cons_succ, List.length_cons, List.length_nil, Nat.beq_refl, Nat.reduceAdd, Nat.reduceLeDiff, Nat.reduceEqDiff, Nat.zero_add, if_true, if_false, Bool.false_eq_true, reduceIte, Bool.not_true, Bool.not_false, small_few0, small_few1, small_few2, small_few3, ol]) (wNil_of ?_)))))
  refine draw_of (by omega) (by omega) (by omega) fun r hr => ?_
  refine (show wSeq _ _ [.fx (.ref s), .d (dI n), .d (wg n m w), .d (.int m), .d (dW n w), .d (.int (r : Int)), .un, .un, .un, .un] (T + 1) _ _ from ?_)
  have hr : r < (placesOf n).length := by omega
  obtain ⟨q, hq⟩ : ∃ q, (placesOf n)[r]? = some q := ⟨_, List.getElem?_eq_getElem hr⟩
  have ix : oIxT (dW n w) (.int (r : Int)) = some (.int (w q)) := by
    rw [show dW n w = .tuple (wW n w) from rfl, ixT_nat]
    unfold wW
    rw [List.getElem?_map, hq]; rfl
  have ad1 : oAdd (.int (w q)) (.int 1) = some (.int (w q + 1)) := rfl
  have sb : oSub (.int m) (.int 1) = some (.int (m - 1)) := rfl
  refine wSeq_of (wAsg_of (wOp_of (wCb_of (wCons_of (wOp_of (pw_of (d := .int (w q + 1)) (by simp only [guardN, bodyD, fSeq, fAsg, fAsgM, fApp, fRet, fRetN, fDrop, fIfS, fNext, fRaise, fIf, fAnd, fOr, fNot, fT, bo, bnd, bndA, rB, fCall0, noEx, fCall, fCallP, permL, fCons, fNil, fTup, fLst, lim, fCb, ret, fOp, fUn, fVar, fC, fIsi, fIsiLT, isLT, fChain, fLk, fLkB, fLkM, fRevL, fSet2, fFrz, lockL, lockG, lkC, sName, sTup, sCons, sNil, wipeC, List.map_cons, List.map_nil, List.replicate_succ, List.replicate_zero, List.cons_append, List.nil_append, List.getElem?_cons_zero, List.getElem?_cons_succ, List.set_cons_zero, List.set_cons_succ, List.length_cons, List.length_nil, Nat.beq_refl, Nat.reduceAdd, Nat.reduceLeDiff, Nat.reduceEqDiff, Nat.zero_add, if_true, if_false, Bool.false_eq_true, reduceIte, Bool.not_true, Bool.not_false, small_few0, small_few1, small_few2, small_few3, ix, ad1]) (wDraw_of (wCons_of (pw_of (d := .int (m - 1)) (by simp only [guardN, bodyD, fSeq, fAsg, fAsgM, fApp, fRet, fRetN, fDrop, fIfS, fNext, fRaise, fIf, fAnd, fOr, fNot, fT, bo, bnd, bndA, rB, fCall0, noEx, fCall, fCallP, permL, fCons, fNil, fTup, fLst, lim, fCb, ret, fOp, fUn, fVar, fC, fIsi, fIsiLT, isLT, fChain, fLk, fLkB, fLkM, fRevL, fSet2, fFrz, lockL, lockG, lkC, sName, sTup, sCons, sNil, wipeC, List.map_cons, List.map_nil, List.replicate_succ, List.replicate_zero, List.cons_append, List.nil_append, List.getElem?_cons_zero, List.getElem?_cons_succ, List.set_cons_zero, List.set_cons_succ, List.length_cons, List.length_nil, Nat.beq_refl, Nat.reduceAdd, Nat.reduceLeDiff, Nat.reduceEqDiff, Nat.zero_add, if_true, if_false, Bool.false_eq_true, reduceIte, Bool.not_true, Bool.not_false, small_few0, small_few1, small_few2, small_few3, sb]) (wNil_of ?_))))))))))
  refine draw_of (by omega) (by omega) (by omega) fun u hu => ?_
  refine wNil_of ?_
  refine pw_of (d := .int m) rfl ?_
  have md := modI (w q + 1 + u) m0
  show (match oMod (.int (w q + 1 + (u : Int))) (.int m) with | some z => _ | none => False)
  rw [md]
  obtain ⟨y, ey⟩ : ∃ y, y = (w q + 1 + (u : Int)) % m := ⟨_, rfl⟩
  rw [← ey]
  refine (show wSeq _ _ (GO s n m w r y .un .un .un) (T + 1 + 1) _ _ from ?_)
  obtain ⟨X1, eX1⟩ : ∃ X1, X1 = [PyData.int y, .int y, .none].map fun d => PyData.tuple [.int m, .tuple (putW n w r d)] := ⟨_, rfl⟩
  have n3 := near3 hn (m := m) (w := w) (s := s) (y := y) hr
  rw [← eX1] at n3
  have lX1 : X1.length = 3 := by rw [eX1]; rfl
  have nX1 : noLs X1 = true := by
    rw [eX1]
    simp only [List.map_cons, List.map_nil, noLs, noL_T, noLs_put (n := n) (w := w) (r := r) (d := .int y) rfl, noLs_put (n := n) (w := w) (r := r) (d := .none) rfl]
    rfl
  refine wSeq_of (pws_nx (Γ' := GO s n m w r y (.ml X1) .un .un) (by unfold fAsgM; rw [n3]; rfl) rfl ?_)
  obtain ⟨v2, nv2, ev2⟩ := bools_v hn (m := m) (w := w) (s := s) (r := r) (y := y) (X := X1)
  refine wSeq_of (pws_nx (Γ' := GO s n m w r y (.ml (X1 ++ [v2])) .un .un) (app_of rfl ev2 (by omega)) rfl ?_)
  obtain ⟨X2, eX2⟩ : ∃ X2, X2 = X1 ++ [v2] := ⟨_, rfl⟩
  rw [← eX2]
  have lX2 : X2.length = 4 := by rw [eX2, List.length_append, lX1]; rfl
  have nX2 : noLs X2 = true := by rw [eX2, noLs_app, nX1, noLs, nv2]; rfl
  obtain ⟨z, nz, ez⟩ := repZ (k := (placesOf n).length) (by omega) (by omega)
  have dm1 : oAdd (.int m) (.int 1) = some (.int (m + 1)) := rfl
  have y3 : (fLst (fCons (fTup (fCons (fOp oAdd (fVar 3) (fC (.int 1))) (fCons (fVar 4) fNil))) (fCons (fTup (fCons (fC (.int 1)) (fCons (fOp oRepT (fTup (fCons (fC (.int 0)) fNil)) (fCb oLen (fCons (fVar 4) fNil))) fNil))) (fCons (fTup (fCons (fC (.int 25)) (fCons (fOp oRepT (fTup (fCons (fC (.int 0)) fNil)) (fCb oLen (fCons (fVar 4) fNil))) fNil))) fNil)))) (GO s n m w r y (.d (.list X2)) .un .un) = some (.val (.list [.tuple [.int (m + 1), dW n w], .tuple [.int 1, .tuple z], .tuple [.int 25, .tuple z]])) := by
    simp only [guardN, bodyD, fSeq, fAsg, fAsgM, fApp, fRet, fRetN, fDrop, fIfS, fNext, fRaise, fIf, fAnd, fOr, fNot, fT, bo, bnd, bndA, rB, fCall0, noEx, fCall, fCallP, permL, fCons, fNil, fTup, fLst, lim, fCb, ret, fOp, fUn, fVar, fC, fIsi, fIsiLT, isLT, fChain, fLk, fLkB, fLkM, fRevL, fSet2, fFrz, lockL, lockG, lkC, sName, sTup, sCons, sNil, wipeC, List.map_cons, List.map_nil, List.replicate_succ, List.replicate_zero, List.cons_append, List.nil_append, List.getElem?_cons_zero, List.getElem?_cons_succ, List.set_cons_zero, List.set_cons_succ, List.length_cons, List.length_nil, Nat.beq_refl, Nat.reduceAdd, Nat.reduceLeDiff, Nat.reduceEqDiff, Nat.zero_add, if_true, if_false, Bool.false_eq_true, reduceIte, Bool.not_true, Bool.not_false, small_few0, small_few1, small_few2, small_few3, dm1, ol, ez]
  obtain ⟨Y3, eY3⟩ : ∃ Y3 : List D, Y3 = [.tuple [.int (m + 1), dW n w], .tuple [.int 1, .tuple z], .tuple [.int 25, .tuple z]] := ⟨_, rfl⟩
  rw [← eY3] at y3
  have lY3 : Y3.length = 3 := by rw [eY3]; rfl
  have nY3 : noLs Y3 = true := by rw [eY3]; simp only [noLs, noL_T, noL_dW, nz]; rfl
  have c3 := catL_of X2 Y3 (by omega)
  refine wSeq_of (pws_nx (Γ' := GO s n m w r y (.ml (X2 ++ Y3)) .un .un) (by
    unfold fAsgM fLkM
    rw [show (fOp oCat (fVar 7) (fLst (fCons (fTup (fCons (fOp oAdd (fVar 3) (fC (.int 1))) (fCons (fVar 4) fNil))) (fCons (fTup (fCons (fC (.int 1)) (fCons (fOp oRepT (fTup (fCons (fC (.int 0)) fNil)) (fCb oLen (fCons (fVar 4) fNil))) fNil))) (fCons (fTup (fCons (fC (.int 25)) (fCons (fOp oRepT (fTup (fCons (fC (.int 0)) fNil)) (fCb oLen (fCons (fVar 4) fNil))) fNil))) fNil))))) (lockL (fun _ => true) (GO s n m w r y (.ml X2) .un .un)) = some (.val (.list (X2 ++ Y3))) from fOp_of (x := .list X2) rfl y3 c3]
    dsimp only
    rw [if_pos (show noLs (X2 ++ Y3) = true by rw [noLs_app, nX2, nY3]; rfl)]; rfl) rfl ?_)
  obtain ⟨X3, eX3⟩ : ∃ X3, X3 = X2 ++ Y3 := ⟨_, rfl⟩
  rw [← eX3]
  have lX3 : X3.length = 7 := by rw [eX3, List.length_append, lX2, lY3]
  have l1 : oList [dW n w] = some (.list (wW n w)) := rfl
  have l2' : oList [wg n m w] = some (.list [.int m, dW n w]) := rfl
  have y4 : (fLst (fCons (fTup (fCons (fVar 3) (fCons (fCb oList (fCons (fVar 4) fNil)) fNil))) (fCons (fCb oList (fCons (fVar 2) fNil)) (fCons (fTup (fCons (fVar 3) (fCons (fSl false (fVar 4) pNone (pSome (fUn oNeg (fC (.int 1))))) fNil))) (fCons (fTup (fCons (fVar 3) fNil)) (fCons (fVar 4) fNil)))))) (GO s n m w r y (.d (.list X3)) .un .un) = some (.val (.list [.tuple [.int m, .list (wW n w)], .list [.int m, dW n w], .tuple [.int m, .tuple (cutD (wW n w) none (some (-1)))], .tuple [.int m], dW n w])) := by
    have sl : fSl false (fVar 4) pNone (pSome (fUn oNeg (fC (.int 1)))) (GO s n m w r y (.d (.list X3)) .un .un) = some (.val (.tuple (cutD (wW n w) none (some (-1))))) := rfl
    simp only [guardN, bodyD, fSeq, fAsg, fAsgM, fApp, fRet, fRetN, fDrop, fIfS, fNext, fRaise, fIf, fAnd, fOr, fNot, fT, bo, bnd, bndA, rB, fCall0, noEx, fCall, fCallP, permL, fCons, fNil, fTup, fLst, lim, fCb, ret, fOp, fUn, fVar, fC, fIsi, fIsiLT, isLT, fChain, fLk, fLkB, fLkM, fRevL, fSet2, fFrz, lockL, lockG, lkC, sName, sTup, sCons, sNil, wipeC, List.map_cons, List.map_nil, List.replicate_succ, List.replicate_zero, List.cons_append, List.nil_append, List.getElem?_cons_zero, List.getElem?_cons_succ, List.set_cons_zero, List.set_cons_succ, List.length_cons, List.length_nil, Nat.beq_refl, Nat.reduceAdd, Nat.reduceLeDiff, Nat.reduceEqDiff, Nat.zero_add, if_true, if_false, Bool.false_eq_true, reduceIte, Bool.not_true, Bool.not_false, small_few0, small_few1, small_few2, small_few3, l1, l2', sl]
    rfl
  obtain ⟨Y4, eY4⟩ : ∃ Y4 : List D, Y4 = [.tuple [.int m, .list (wW n w)], .list [.int m, dW n w], .tuple [.int m, .tuple (cutD (wW n w) none (some (-1)))], .tuple [.int m], dW n w] := ⟨_, rfl⟩
  rw [← eY4] at y4
  have lY4 : Y4.length = 5 := by rw [eY4]; rfl
  have c4 := catL_of X3 Y4 (by omega)
  refine wSeq_of (pws_nx (Γ' := GO s n m w r y (.ml (X3 ++ Y4)) .un .un) (by
    unfold fFrz
    rw [show lockL (fun i => Nat.beq i 7) (GO s n m w r y (.ml X3) .un .un) = GO s n m w r y (.d (.list X3)) .un .un from rfl]
    unfold fAsgM
    rw [fOp_of (x := .list X3) (fa := fVar 7) rfl y4 c4]; rfl) rfl ?_)
  obtain ⟨X4, eX4⟩ : ∃ X4, X4 = X3 ++ Y4 := ⟨_, rfl⟩
  rw [← eX4]
  have lX4 : X4.length = 12 := by rw [eX4, List.length_append, lX3, lY4]
  obtain ⟨v5, ev5⟩ := negs_v hn m0 (w := w) (s := s) (r := r) (y := y) (X := X4)
  refine wSeq_of (pws_nx (Γ' := GO s n m w r y (.ml (X4 ++ [v5])) .un .un) (app_of rfl ev5 (by omega)) rfl ?_)
  obtain ⟨X5, eX5⟩ : ∃ X5, X5 = X4 ++ [v5] := ⟨_, rfl⟩
  rw [← eX5]
  have lX5 : X5.length = 13 := by rw [eX5, List.length_append, lX4]; rfl
  have mu := mulI 2 m (by omega) (by omega)
  have adm : oAdd (.int (w q)) (.int m) = some (.int (w q + m)) := rfl
  have ixc : fOp oAdd (fOp oIxT (fVar 4) (fVar 5)) (fVar 3) (GO s n m w r y (.ml X5) .un .un) = some (.val (.int (w q + m))) := fOp_of (fOp_of (x := dW n w) (fa := fVar 4) rfl (fb := fVar 5) rfl ix) (fb := fVar 3) rfl adm
  have cc := cutc_v hn (m := m) (w := w) (s := s) (r := r) (y := y) (c7 := .ml X5) (c8 := .un) (c9 := .un) hr ixc
  have e6 : (fTup (fCons (fOp oMul (fC (.int 2)) (fVar 3)) (fCons (fOp oCatT (fOp oCatT (fSl false (fVar 4) pNone (pSome (fVar 5))) (fTup (fCons (fOp oAdd (fOp oIxT (fVar 4) (fVar 5)) (fVar 3)) fNil))) (fSl false (fVar 4) (pSome (fOp oAdd (fVar 5) (fC (.int 1)))) pNone)) fNil))) (GO s n m w r y (.ml X5) .un .un) = some (.val (.tuple [.int (2 * m), .tuple (putW n w r (.int (w q + m)))])) := by
    have h1 : fOp oMul (fC (.int 2)) (fVar 3) (GO s n m w r y (.ml X5) .un .un) = some (.val (.int (2 * m))) := fOp_of (x := .int 2) (fa := fC (.int 2)) rfl (fb := fVar 3) (y := .int m) rfl mu
    exact fTup_of (fCons_of h1 (fCons_of cc (show fNil _ = some (.vals []) from rfl))) (by simp)
  obtain ⟨v6, ev6⟩ : ∃ v6, v6 = PyData.tuple [.int (2 * m), .tuple (putW n w r (.int (w q + m)))] := ⟨_, rfl⟩
  rw [← ev6] at e6
  refine wSeq_of (pws_nx (Γ' := GO s n m w r y (.ml (X5 ++ [v6])) .un .un) (app_of rfl e6 (by omega)) rfl ?_)
  obtain ⟨X6, eX6⟩ : ∃ X6, X6 = X5 ++ [v6] := ⟨_, rfl⟩
  rw [← eX6]
  have lX6 : X6.length = 14 := by rw [eX6, List.length_append, lX5]; rfl
  refine wFrz_of ?_
  rw [show lockL (fun i => Nat.beq i 7) (GO s n m w r y (.ml X6) .un .un) = GO s n m w r y (.d (.list X6)) .un .un from rfl]
  have y7 : (fLst (fCons (fTup (fCons (fC (.bool true)) (fCons (fVar 4) fNil))) (fCons (fTup (fCons (fVar 3) (fCons (fC .none) fNil))) (fCons (fOp oCatT (fVar 2) (fTup (fCons (fC (.int 0)) fNil))) fNil)))) (GO s n m w r y (.d (.list X6)) .un .un) = some (.val (.list [.tuple [.bool true, dW n w], .tuple [.int m, .none], .tuple [.int m, dW n w, .int 0]])) := rfl
  have c7 := catL_of X6 [.tuple [.bool true, dW n w], .tuple [.int m, .none], .tuple [.int m, dW n w, .int 0]] (by simp; omega)
  refine wRet_of (wDraw_of (wCons_of (pw_of (fOp_of (x := .list X6) (fa := fVar 7) rfl y7 c7) (wNil_of ?_))))
  refine wpick_v (by simp) (by simp; omega) (by omega) fun d hd => ?_
  exact h d _ (by omega) (by omega)
def oddD : List D := [.none, .bool true, .bool false, .str "0", .str "", .list [], .dict [(.none, .none)], .tuple [.none], .tuple [.str "a", .int 1], .list [.list [.int 0]], .dict [(.none, .none)], .tuple [.bool true], .int 5, .int (-1)]
theorem woddD_v (hT : T < 100000000000) (h : ∀ d, post d (T + 1)) : W__law_odd [] T post := by
  refine bodyW_of rfl fun s => ?_
  unfold F__law_odd
  refine wRet_of (wDraw_of (wCons_of (pw_of (d := .list oddD) rfl (wNil_of (wpick_v (by simp [oddD]) (by decide) (by omega) fun d hd => h d)))))
end
end Mv
namespace Mv
open PySem L2 Evl LamX
section
variable {P : Program} {w : World} {K : PySem.W.Frag} {mg : Str → Option Value} {base : Heap} {ad : Str → Addr}
abbrev s_law : Stmt := top 55
def F_law (a : Addr) (sN : Nat) : WS := (wSeq (wFor (wR1 (wCons (wOp oAdd (pw (fC (.int 2))) (wCb oMin2 (wCons (wLenS a sN) (wCons (pw (fC (.int 3))) wNil)))) wNil)) (sName 2) (wSeq (wAsg (wTup (wCons (wDraw W__law_turned_dials (wCons (pw (fIf (fT (fOp oLt (fVar 2) (fC (.int 2)))) (fC (.int 24)) (fC (.int 12)))) wNil)) (wCons (wOp oAdd (pw (fC (.int 2))) (wDraw W__law_draw (wCons (pw (fC (.int 23))) wNil))) wNil))) (sTup 2 (sCons (sName 3) (sCons (sName 4) sNil)))) (wSeq (wIfS (pwb (fT (fOp oEqA (fVar 2) (fC (.int 1))))) (wAsg (wDraw W__law_pick (wCons (pw (fLc (iT (fVar 3)) (sName 5) (fC (.bool true)) (fVar 5) [5])) wNil)) (sName 4)) wNext) (wSeq (pws 1 (fIfS (fNot (fT (fCall f__law_list_right (fCons (fVar 3) (fCons (fVar 4) fNil))))) (fRet (fC (.bool false))) fNext)) (wSeq (wAsg (wDraw W__law_pick (wCons (pw (fCall f_weighings (fCons (fVar 3) (fCons (fVar 4) fNil)))) wNil)) (sName 6)) (wSeq (wAsg (wOp oCat (wOp oCat (pw (fLst (fCons (fVar 6) fNil))) (wLc (iR1 (fCons (fC (.int 6)) fNil)) (sName 8) (pwb (fC (.bool true))) (wDraw W__law_otherwise (wCons (pw (fVar 3)) (wCons (pw (fVar 6)) wNil))) [8])) (wLst (wCons (wDraw W__law_odd wNil) wNil))) (sName 7)) (wSeq (pws 1 (fFor (iL (fVar 7)) (sName 9) (fSeq (fAsg (fCall0 f__law_is_weighing (fCons (fVar 3) (fCons (fVar 9) fNil))) (sName 10)) (fIfS (fOr (fNot (fT (fCall0 f__law_said (fCons (fCall f_is_weighing (fCons (fVar 3) (fCons (fVar 9) fNil))) (fCons (fVar 10) fNil))))) (fNot (fT (fCall0 f__law_said (fCons (fCallP [1, 0] 2 f_is_weighing (fCons (fVar 9) (fCons (fVar 3) fNil))) (fCons (fVar 10) fNil)))))) (fRet (fC (.bool false))) fNext)))) (wIfS (wOr (wNot (wT (wDraw W__law_weighed_right (wCons (pw (fVar 3)) (wCons (pw (fVar 6)) wNil))))) (wNot (wT (wDraw W__law_refused_right (wCons (pw (fVar 3)) (wCons (pw (fVar 6)) wNil)))))) (pws 1 (fRet (fC (.bool false)))) wNext)))))))) (pws 1 (fRet (fC (.bool true)))))
theorem law_run {TL : List (Addr × Str)} {f : Addr} {oc kV doc pm cd ct : Value} {od an : Option Addr} {osl : Array (Option Value)} (Z : Zs mg) (C__law_pick : Cal P w K mg base CX0 2 "_law_pick" ["state", "several"] (SpW TL W__law_pick)) (C__law_turned_dials : Cal P w K mg base CX0 4 "_law_turned_dials" ["state", "most"] (SpW TL W__law_turned_dials)) (C__law_list_right : Cal P w K mg base (L2.CX P w) 6 "_law_list_right" ["dials_here", "modulus_here"] (SpF ad f__law_list_right)) (C_weighings : Cal P w K mg base (L2.CX P w) 5 "weighings" ["dials", "modulus"] (SpF ad f_weighings)) (C__law_is_weighing : Cal P w K mg base CX0 3 "_law_is_weighing" ["dials_here", "item"] (SpF ad f__law_is_weighing)) (C__law_draw : Cal P w K mg base CX0 1 "_law_draw" ["state", "size_here"] (SpW TL W__law_draw)) (C__law_odd : Cal P w K mg base CX0 3 "_law_odd" ["state"] (SpW TL W__law_odd)) (C__law_weighed_right : CalG P w K mg base CX0 7 "_law_weighed_right" ["state", "dials_here", "told"] (SpW TL W__law_weighed_right)) (C__law_refused_right : Cal P w K mg base CX0 33 "_law_refused_right" ["state", "dials_here", "told"] (SpW TL W__law_refused_right)) (C__law_otherwise : Cal P w K mg base CX0 3 "_law_otherwise" ["state", "dials_here", "told"] (SpW TL W__law_otherwise)) (C__law_said : Cal P w K mg base CX0 1 "_law_said" ["answer", "due"] (SpF ad f__law_said)) (C_is_weighing : Cal P w K mg base (L2.CX P w) 5 "is_weighing" ["dials", "thing"] (SpF ad f_is_weighing)) (CP_is_weighing__thing__dials : CalP P w K mg base (L2.CX P w) 5 "is_weighing" ["thing", "dials"] ["dials", "thing"] [1, 0] (SpF ad f_is_weighing)) (C__law_begun : Cal P w K mg base CX0 1 "_law_begun" ["script"] (SpBegun K))
    (lk : K.lookup f = some ⟨oc, od, .func (PySem.W.fnOf "law" "law" (defArgs s_law) (defBody s_law) (defScope s_law) .none kV doc pm an cd ct), osl⟩) (hcd : PySem.W.codeIn K cd "law" = true)
    {sh : Shared} {H : Hp} {args : Args} {u : Value} {a : Addr} {ns : List Int} {Q : VK} {E : XK} (e0 : Env0 P w K mg base callerA [] sh H) (hb : BindsTo sh (PySem.W.fnOf "law" "law" (defArgs s_law) (defBody s_law) (defScope s_law) .none kV doc pm an cd ct) args [("script", u)])
    (hrel : RelV (.ref a) u) (hroom : Room 60 callerA) (hS : SqL K H a (ns.map V.int)) (hlen : ns.length ≤ 63) (hTL : ∀ p ∈ TL, H p.1 = some (.tbl #[])) (hF : ∀ s : Addr, F_law a ns.length (Ce.fx (.ref a) :: Ce.fx (.ref s) :: List.replicate 9 .un) 0 (fun _ _ => False) (fun d _ => d = .bool true)) (hQ : ∀ H', Q (.bl true) H') :
    codeAny (model P w) callerA (.call (.ref f) args) (CR CX0 [] P w H sh Q E) sh := by
  have sc : FnScope ["script", "state", "lap", "dials_here", "modulus_here", "size_here", "told", "some", "turn", "item", "due"] ["script"] (defScope s_law) := ⟨rfl, rfl, rfl, by decide +kernel, rfl, by decide +kernel, by decide +kernel⟩
  refine run_ofS (k := 59) (N := ["script", "state", "lap", "dials_here", "modulus_here", "size_here", "told", "some", "turn", "item", "due"]) (ps := ["script"]) (us := [u]) (vs := [.ref a]) lk hcd sc hroom e0 hb (.cons hrel .nil) rfl fun hr => ?_
  have hgd : (callerA.deeper (PyProof.Rows.envOfC "law" (defScope s_law) sh.heap.objs.size f cd)).guards = some [] := rfl
  have hun : (callerA.deeper (PyProof.Rows.envOfC "law" (defScope s_law) sh.heap.objs.size f cd)).units + 66 < cLine := by have := hr.un; omega
  have hseq := XL_seq (TL := TL) hS
  suffices hh : ∃ t, PSs (cxOf CX0 P w K mg base ["script", "state", "lap", "dials_here", "modulus_here", "size_here", "told", "some", "turn", "item", "due"] "law" (defScope s_law) f cd callerA [] sh H E).nox (defBody s_law) t ∧ t { nx := fun _ H' => Q .non H', rt := Q } (L2.start ["script", "state", "lap", "dials_here", "modulus_here", "size_here", "told", "some", "turn", "item", "due"] [.ref a]) H from
    hh.elim fun t h => ⟨t, h.1.nox, h.2⟩
  refine ⟨_, (pss_cons (ps_set (i := 1) sc.nd rfl (Or.inr rfl) (pe_cal C__law_begun (hr.mono (by decide)) pass0 (pa_cons (pv 0) pa_nil))) (pss_cons (ps_for PassesOwn.never rfl (pi_range1 (by rfl) Z.range (pa_cons (pe_op op_add pe_int (pe_callB (call_min2 (by rfl)) (by rfl) Z.min (by decide +kernel) (pa_cons (pe_callB (r := rLenA K) call_len_seq (by rfl) Z.len PySem.boot_len (pa_cons (pv 0) pa_nil)) (pa_cons pe_int pa_nil)))) pa_nil)) (pg_name (i := 2) sc.nd rfl (Or.inl rfl)) (pss_cons (ps_asg (pe_tup (pa_cons (pe_cal C__law_turned_dials (hr.mono (by decide)) pass0 (pa_cons (pv 1) (pa_cons (pe_ifExp (pt_cmpR op_lt (pv 2) pe_int (nomark _)) pe_int pe_int) pa_nil))) (pa_cons (pe_op op_add pe_int (pe_cal C__law_draw (hr.mono (by decide)) pass0 (pa_cons (pv 1) (pa_cons pe_int pa_nil)))) pa_nil))) (pg_tup rfl (pgs_cons (pg_name (i := 3) sc.nd rfl (Or.inr rfl)) (pgs_cons (pg_name (i := 4) sc.nd rfl (Or.inl rfl)) pgs_nil)))) (pss_cons (ps_if (pt_cmpR op_eq (pv 2) pe_int (nomark _)) (pss_one (ps_set (i := 4) sc.nd rfl (Or.inl rfl) (pe_cal C__law_pick (hr.mono (by decide)) pass0 (pa_cons (pv 1) (pa_cons (pe_lc (own := [("size_here", 5)]) (g := gName 5) (tt := tYes) (by rfl) sc.nd (pi_tup (pv 3)) (blkOk_by (N := ["script", "state", "lap", "dials_here", "modulus_here", "size_here", "told", "some", "turn", "item", "due"]) (sc := defScope s_law) (by decide +kernel)) (fun _ _ _ _ _ => (pg_name (i := 5) sc.nd rfl (Or.inl rfl))) (fun _ _ _ _ _ => pts_nil) (fun _ _ _ _ _ => (pv 5))) pa_nil))))) pss_nil) (pss_cons (ps_if (pt_not (pt_val (pe_cal C__law_list_right (hr.mono (by decide)) passF (pa_cons (pv 3) (pa_cons (pv 4) pa_nil))))) (pss_one (ps_ret pe_bl)) pss_nil) (pss_cons (ps_set (i := 6) sc.nd rfl (Or.inr rfl) (pe_cal C__law_pick (hr.mono (by decide)) pass0 (pa_cons (pv 1) (pa_cons (pe_cal C_weighings (hr.mono (by decide)) passF (pa_cons (pv 3) (pa_cons (pv 4) pa_nil))) pa_nil)))) (pss_cons (ps_set (i := 7) sc.nd rfl (Or.inl rfl) (pe_op op_cat (pe_op op_cat (pe_lst (pa_cons (pv 6) pa_nil)) (pe_lc (own := [("turn", 8)]) (g := gName 8) (tt := tYes) (by rfl) sc.nd (pi_range1 (by rfl) Z.range (pa_cons pe_int pa_nil)) (blkOk_by (N := ["script", "state", "lap", "dials_here", "modulus_here", "size_here", "told", "some", "turn", "item", "due"]) (sc := defScope s_law) (by decide +kernel)) (fun _ _ _ _ _ => (pg_name (i := 8) sc.nd rfl (Or.inl rfl))) (fun _ _ _ _ _ => pts_nil) (fun _ _ _ _ _ => (pe_cal C__law_otherwise (hr.mono (by decide)) pass0 (pa_cons (pv 1) (pa_cons (pv 3) (pa_cons (pv 6) pa_nil))))))) (pe_lst (pa_cons (pe_cal C__law_odd (hr.mono (by decide)) pass0 (pa_cons (pv 1) pa_nil)) pa_nil)))) (pss_cons (ps_for PassesOwn.never rfl (pi_list (pv 7)) (pg_name (i := 9) sc.nd rfl (Or.inl rfl)) (pss_cons (ps_set (i := 10) sc.nd rfl (Or.inl rfl) (pe_cal C__law_is_weighing (hr.mono (by decide)) pass0 (pa_cons (pv 3) (pa_cons (pv 9) pa_nil)))) (pss_one (ps_if (PW.pt (pw_or (pt_not (pt_val (pe_cal C__law_said (hr.mono (by decide)) pass0 (pa_cons (pe_cal C_is_weighing (hr.mono (by decide)) passF (pa_cons (pv 3) (pa_cons (pv 9) pa_nil))) (pa_cons (pv 10) pa_nil))))) (pw_or1 (pt_not (pt_val (pe_cal C__law_said (hr.mono (by decide)) pass0 (pa_cons (pe_calp (is := [1, 0]) CP_is_weighing__thing__dials (hr.mono (by decide)) passF (pk_cons (pv 9) (pk_cons (pv 3) pk_nil))) (pa_cons (pv 10) pa_nil)))))))) (pss_one (ps_ret pe_bl)) pss_nil)))) (pss_one (ps_if (PW.pt (pw_or (pt_not (pt_val (pe_calG hgd C__law_weighed_right (hr.mono (by decide)) pass0 (pa_cons (pv 1) (pa_cons (pv 3) (pa_cons (pv 6) pa_nil)))))) (pw_or1 (pt_not (pt_val (pe_cal C__law_refused_right (hr.mono (by decide)) pass0 (pa_cons (pv 1) (pa_cons (pv 3) (pa_cons (pv 6) pa_nil))))))))) (pss_one (ps_ret pe_bl)) pss_nil))))))))) (pss_one (ps_ret pe_bl)))), ?_⟩
  exact law_go (TL := TL) (n := 9) rfl (show Sws (XL TL H a) _ (F_law a ns.length) from (w_seq (w_for (w_rng1 (w_cons (w_op os_add (w_pure (E := fun _ _ _ => False) (ad := ad) (u_c fun _ => .int 2)) (w_cb cs_min2 (w_cons (w_lenS hseq) (w_cons (w_pure (E := fun _ _ _ => False) (ad := ad) (u_c fun _ => .int 3)) w_nil)))) w_nil)) g_name (w_seq (w_asg (w_tup (w_cons (w_draw (w_cons (w_pure (E := fun _ _ _ => False) (ad := ad) (u_if (u_test (u_op os_lt u_var (u_c fun _ => .int 2))) (u_c fun _ => .int 24) (u_c fun _ => .int 12))) w_nil)) (w_cons (w_op os_add (w_pure (E := fun _ _ _ => False) (ad := ad) (u_c fun _ => .int 2)) (w_draw (w_cons (w_pure (E := fun _ _ _ => False) (ad := ad) (u_c fun _ => .int 23)) w_nil))) w_nil))) (g_tup (g_cons g_name (g_cons g_name g_nil))) (show (1 : Nat) ∉ _ from by decide)) (w_seq (w_ifS (w_pureb (E := fun _ _ _ => False) (ad := ad) (u_test (u_op os_eqA u_var (u_c fun _ => .int 1)))) (w_asg (w_draw (w_cons (w_pure (E := fun _ _ _ => False) (ad := ad) (u_lc (i_tup u_var) g_name u_yes u_var (by decide))) w_nil)) g_name (show (1 : Nat) ∉ _ from by decide)) w_next) (w_seq (w_stmt (E := fun _ _ _ => False) (ad := ad) (u_ifS (u_tNot (u_tB (u_call (u_cons u_var (u_cons u_var u_nil))))) (u_ret (u_c fun _ => .bl false)) u_next)) (w_seq (w_asg (w_draw (w_cons (w_pure (E := fun _ _ _ => False) (ad := ad) (u_call (u_cons u_var (u_cons u_var u_nil)))) w_nil)) g_name (show (1 : Nat) ∉ _ from by decide)) (w_seq (w_asg (w_op os_cat (w_op os_cat (w_pure (E := fun _ _ _ => False) (ad := ad) (u_lst (u_cons u_var u_nil))) (w_lc (E := fun _ _ _ => False) (ad := ad) (i_rng1 (u_cons (u_c fun _ => .int 6) u_nil)) g_name (w_pureb (E := fun _ _ _ => False) (ad := ad) u_yes) (w_draw (w_cons (w_pure (E := fun _ _ _ => False) (ad := ad) u_var) (w_cons (w_pure (E := fun _ _ _ => False) (ad := ad) u_var) w_nil))) (by decide) (show (1 : Nat) ∉ _ from by decide))) (w_lst (w_cons (w_draw w_nil) w_nil))) g_name (show (1 : Nat) ∉ _ from by decide)) (w_seq (w_stmt (E := fun _ _ _ => False) (ad := ad) (u_for (i_list u_var) g_name (u_seq (u_asg (u_call0 (u_cons u_var (u_cons u_var u_nil))) g_name) (u_ifS (u_tOr (u_tNot (u_tB (u_call0 (u_cons (u_call (u_cons u_var (u_cons u_var u_nil))) (u_cons u_var u_nil))))) (u_tNot (u_tB (u_call0 (u_cons (u_callP (u_cons u_var (u_cons u_var u_nil))) (u_cons u_var u_nil)))))) (u_ret (u_c fun _ => .bl false)) u_next)))) (w_ifS (w_or (w_not (w_tB (w_draw (w_cons (w_pure (E := fun _ _ _ => False) (ad := ad) u_var) (w_cons (w_pure (E := fun _ _ _ => False) (ad := ad) u_var) w_nil))))) (w_not (w_tB (w_draw (w_cons (w_pure (E := fun _ _ _ => False) (ad := ad) u_var) (w_cons (w_pure (E := fun _ _ _ => False) (ad := ad) u_var) w_nil)))))) (w_stmt (E := fun _ _ _ => False) (ad := ad) (u_ret (u_c fun _ => .bl false))) w_next))))))) (show (1 : Nat) ∉ _ from by decide)) (w_stmt (E := fun _ _ _ => False) (ad := ad) (u_ret (u_c fun _ => .bl true))))) hS hlen hTL hF hQ
end
end Mv
namespace Mv
open PySem L2 Evl
section
variable {n : List Int} {m : Int} {w : List Int → Int} {Γ Γ1 : En} {R S : Rows} {T : Int} {post : D → Int → Prop}
theorem fits_pos {s : Int} (m2 : 2 ≤ m) : 1 ≤ (fitsM m s).length := by
  have : (0 : Int) ∈ fitsM m s := by
    unfold fitsM
    refine List.mem_filter.mpr ⟨List.mem_map.mpr ⟨0, List.mem_range.mpr (by omega), rfl⟩, ?_⟩
    rw [Int.mul_zero]
    exact decide_eq_true (Int.zero_emod m)
  exact List.length_pos_of_mem this
theorem fold_pos (m2 : 2 ≤ m) : ∀ (l : List Int) (a : Nat), 1 ≤ a → 1 ≤ l.foldl (fun a s => a * (fitsM m s).length) a
  | [], _, h => h
  | s :: l, a, h => fold_pos m2 l _ (Nat.mul_pos h (fits_pos m2))
theorem rows_ne (m2 : 2 ≤ m) : wRows n m ≠ [] := fun z => by
  have h1 := congrArg List.length z
  rw [rows_len, List.length_nil] at h1
  have := fold_pos m2 n 1 (Nat.le_refl _)
  omega
theorem told_of (hn : n ∈ fewD) (m2 : 2 ≤ m) (m24 : m ≤ 24) {r : List Int} (hr : r ∈ wRows n m) : ∃ w, wgT m r = wg n m w ∧ Told n m w := by
  obtain ⟨c, hc, rfl⟩ := rows_mem hr
  exact ⟨_, wT_wg c, by simp only [btw, Bool.and_eq_true, decide_eq_true_iff]; exact ⟨m2, m24⟩, dot_in m2, dot_weighs hn hc⟩
theorem said_v (b : Bool) : f__law_said [.bool b, .bool b] = some (.val (.bool true)) := by cases b <;> rfl
abbrev G32 (a s : Addr) (i : Nat) (n : List Int) (m : Int) (c5 c6 c7 c8 c9 c10 : Ce) : En := [.fx (.ref a), .fx (.ref s), .d (.int (i : Int)), .d (dI n), .d (.int m), c5, c6, c7, c8, c9, c10]
theorem judge_for (hn : n ∈ fewD) {a s : Addr} {i : Nat} {c5 c6 c8 e9 e10 : Ce} (X : List D) (lX : X.length ≤ 1000) : ∃ c9 c10, fFor (iL (fVar 7)) (sName 9) (fSeq (fAsg (fCall0 f__law_is_weighing (fCons (fVar 3) (fCons (fVar 9) fNil))) (sName 10)) (fIfS (fOr (fNot (fT (fCall0 f__law_said (fCons (fCall f_is_weighing (fCons (fVar 3) (fCons (fVar 9) fNil))) (fCons (fVar 10) fNil))))) (fNot (fT (fCall0 f__law_said (fCons (fCallP [1, 0] 2 f_is_weighing (fCons (fVar 9) (fCons (fVar 3) fNil))) (fCons (fVar 10) fNil)))))) (fRet (fC (.bool false))) fNext)) (G32 a s i n m c5 c6 (.d (.list X)) c8 e9 e10) = some (.nx (G32 a s i n m c5 c6 (.d (.list X)) c8 c9 c10)) := by
  obtain ⟨Γ', hf, c9, c10, e⟩ := ffor_inv (src := iL (fVar 7)) (st := sName 9) (body := (fSeq (fAsg (fCall0 f__law_is_weighing (fCons (fVar 3) (fCons (fVar 9) fNil))) (sName 10)) (fIfS (fOr (fNot (fT (fCall0 f__law_said (fCons (fCall f_is_weighing (fCons (fVar 3) (fCons (fVar 9) fNil))) (fCons (fVar 10) fNil))))) (fNot (fT (fCall0 f__law_said (fCons (fCallP [1, 0] 2 f_is_weighing (fCons (fVar 9) (fCons (fVar 3) fNil))) (fCons (fVar 10) fNil)))))) (fRet (fC (.bool false))) fNext)))
    (Γ := G32 a s i n m c5 c6 (.d (.list X)) c8 e9 e10) (as := X) (fun _ Γ => ∃ c9 c10, Γ = G32 a s i n m c5 c6 (.d (.list X)) c8 c9 c10) rfl ⟨_, _, rfl⟩ fun k d Γ hd hP => by
      obtain ⟨c9, c10, rfl⟩ := hP
      obtain ⟨b, h1, h2⟩ := judged hn d
      have h3 := isW_v hn h1
      have h4 := said_v b
      have hpl : permL [1, 0] [d, dI n] = [dI n, d] := rfl
      refine ⟨G32 a s i n m c5 c6 (.d (.list X)) c8 (.d d) c10, rfl, G32 a s i n m c5 c6 (.d (.list X)) c8 (.d d) (.d (.bool b)), ?_, _, _, rfl⟩
      rw [seq_nx (Γ1 := G32 a s i n m c5 c6 (.d (.list X)) c8 (.d d) (.d (.bool b))) (fAsg_of (d := .bool b) (by simp only [guardN, bodyD, fSeq, fAsg, fAsgM, fApp, fRet, fRetN, fDrop, fIfS, fNext, fRaise, fIf, fAnd, fOr, fNot, fT, bo, bnd, bndA, rB, fCall0, noEx, fCall, fCallP, permL, fCons, fNil, fTup, fLst, lim, fCb, ret, fOp, fUn, fVar, fC, fIsi, fIsiLT, isLT, fChain, fLk, fLkB, fLkM, fRevL, fSet2, fFrz, lockL, lockG, lkC, sName, sTup, sCons, sNil, wipeC, List.map_cons, List.map_nil, List.replicate_succ, List.replicate_zero, List.cons_append, List.nil_append, List.getElem?_cons_zero, List.getElem?_cons_succ, List.set_cons_zero, List.set_cons_succ, List.length_cons, List.length_nil, Nat.beq_refl, Nat.reduceAdd, Nat.reduceLeDiff, Nat.reduceEqDiff, Nat.zero_add, if_true, if_false, Bool.false_eq_true, reduceIte, Bool.not_true, Bool.not_false, small_few0, small_few1, small_few2, small_few3, h2]) rfl)]
      have a1 : fCall f_is_weighing (fCons (fVar 3) (fCons (fVar 9) fNil)) (G32 a s i n m c5 c6 (.d (.list X)) c8 (.d d) (.d (.bool b))) = some (.val (.bool b)) := by simp only [guardN, bodyD, fSeq, fAsg, fAsgM, fApp, fRet, fRetN, fDrop, fIfS, fNext, fRaise, fIf, fAnd, fOr, fNot, fT, bo, bnd, bndA, rB, fCall0, noEx, fCall, fCallP, permL, fCons, fNil, fTup, fLst, lim, fCb, ret, fOp, fUn, fVar, fC, fIsi, fIsiLT, isLT, fChain, fLk, fLkB, fLkM, fRevL, fSet2, fFrz, lockL, lockG, lkC, sName, sTup, sCons, sNil, wipeC, List.map_cons, List.map_nil, List.replicate_succ, List.replicate_zero, List.cons_append, List.nil_append, List.getElem?_cons_zero, List.getElem?_cons_succ, List.set_cons_zero, List.set_cons_succ, List.length_cons, List.length_nil, Nat.beq_refl, Nat.reduceAdd, Nat.reduceLeDiff, Nat.reduceEqDiff, Nat.zero_add, if_true, if_false, Bool.false_eq_true, reduceIte, Bool.not_true, Bool.not_false, small_few0, small_few1, small_few2, small_few3, h3]
      have a2 : fCallP [1, 0] 2 f_is_weighing (fCons (fVar 9) (fCons (fVar 3) fNil)) (G32 a s i n m c5 c6 (.d (.list X)) c8 (.d d) (.d (.bool b))) = some (.val (.bool b)) := by
        show (if Nat.beq 2 2 = true then f_is_weighing (permL [1, 0] [d, dI n]) else none) = _
        rw [if_pos (show Nat.beq 2 2 = true from rfl), hpl, h3]
      have b1 : fCons (fCall f_is_weighing (fCons (fVar 3) (fCons (fVar 9) fNil))) (fCons (fVar 10) fNil) (G32 a s i n m c5 c6 (.d (.list X)) c8 (.d d) (.d (.bool b))) = some (.vals [.bool b, .bool b]) := fCons_of a1 rfl
      have b2 : fCons (fCallP [1, 0] 2 f_is_weighing (fCons (fVar 9) (fCons (fVar 3) fNil))) (fCons (fVar 10) fNil) (G32 a s i n m c5 c6 (.d (.list X)) c8 (.d d) (.d (.bool b))) = some (.vals [.bool b, .bool b]) := fCons_of a2 rfl
      have d1 : fCall0 f__law_said (fCons (fCall f_is_weighing (fCons (fVar 3) (fCons (fVar 9) fNil))) (fCons (fVar 10) fNil)) (G32 a s i n m c5 c6 (.d (.list X)) c8 (.d d) (.d (.bool b))) = some (.val (.bool true)) := by
        unfold fCall0 bndA
        rw [b1]; dsimp only
        rw [h4]; rfl
      have d2 : fCall0 f__law_said (fCons (fCallP [1, 0] 2 f_is_weighing (fCons (fVar 9) (fCons (fVar 3) fNil))) (fCons (fVar 10) fNil)) (G32 a s i n m c5 c6 (.d (.list X)) c8 (.d d) (.d (.bool b))) = some (.val (.bool true)) := by
        unfold fCall0 bndA
        rw [b2]; dsimp only
        rw [h4]; rfl
      generalize fCall0 f__law_said (fCons (fCall f_is_weighing (fCons (fVar 3) (fCons (fVar 9) fNil))) (fCons (fVar 10) fNil)) = F1 at d1 ⊢
      generalize fCall0 f__law_said (fCons (fCallP [1, 0] 2 f_is_weighing (fCons (fVar 9) (fCons (fVar 3) fNil))) (fCons (fVar 10) fNil)) = F2 at d2 ⊢
      simp only [guardN, bodyD, fSeq, fAsg, fAsgM, fApp, fRet, fRetN, fDrop, fIfS, fNext, fRaise, fIf, fAnd, fOr, fNot, fT, bo, bnd, bndA, rB, fCall0, noEx, fCall, fCallP, permL, fCons, fNil, fTup, fLst, lim, fCb, ret, fOp, fUn, fVar, fC, fIsi, fIsiLT, isLT, fChain, fLk, fLkB, fLkM, fRevL, fSet2, fFrz, lockL, lockG, lkC, sName, sTup, sCons, sNil, wipeC, List.map_cons, List.map_nil, List.replicate_succ, List.replicate_zero, List.cons_append, List.nil_append, List.getElem?_cons_zero, List.getElem?_cons_succ, List.set_cons_zero, List.set_cons_succ, List.length_cons, List.length_nil, Nat.beq_refl, Nat.reduceAdd, Nat.reduceLeDiff, Nat.reduceEqDiff, Nat.zero_add, if_true, if_false, Bool.false_eq_true, reduceIte, Bool.not_true, Bool.not_false, small_few0, small_few1, small_few2, small_few3, d1, d2]
  exact ⟨c9, c10, by rw [hf, e]⟩
theorem law_math (a : Addr) (N : Nat) (h : N ≤ 63) (s : Addr) : F_law a N (Ce.fx (.ref a) :: Ce.fx (.ref s) :: List.replicate 9 .un) 0 (fun _ _ => False) (fun d _ => d = .bool true) := by
  unfold F_law
  refine wSeq_of (wFor_of ?_)
  obtain ⟨K, hK, k2⟩ : ∃ K : Nat, 2 + (if (3 : Int) < (N : Int) then (3 : Int) else (N : Int)) = (K : Int) ∧ K ≤ 5 := by
    by_cases z : (3 : Int) < (N : Int)
    · exact ⟨5, by rw [if_pos z]; rfl, by omega⟩
    · exact ⟨N + 2, by rw [if_neg z]; omega, by omega⟩
  have e0 : oMin2 [.int (N : Nat), .int 3] = some (.int (if (3 : Int) < (N : Int) then (3 : Int) else (N : Int))) := rfl
  have e1 : oAdd (.int 2) (.int (if (3 : Int) < (N : Int) then (3 : Int) else (N : Int))) = some (.int (K : Nat)) := by
    show some (PyData.int (2 + _)) = _
    rw [← hK]
  simp only [wR1, wCons, wOp, wCb, wNil, wLenS, pw, fC, e0, e1, Int.toNat_natCast]
  refine ⟨rfl, small_of (by omega), by omega, ?_⟩
  refine forW_go (fun i Γ T => (∃ c2 c3 c4 c5 c6 c7 c8 c9 c10, Γ = [.fx (.ref a), .fx (.ref s), c2, c3, c4, c5, c6, c7, c8, c9, c10]) ∧ T ≤ 20000 * (i : Int)) _ 0 _ 0 ⟨⟨_, _, _, _, _, _, _, _, _, rfl⟩, by simp⟩ (fun i x Γ T nx' hi hI hq => ?_) fun Γ T hI => ?_
  · obtain ⟨⟨c2, c3, c4, c5, c6, c7, c8, c9, c10, rfl⟩, hT⟩ := hI
    obtain ⟨ik, rfl⟩ := upFrom_at hi
    refine ⟨_, rfl, ?_⟩
    simp only [Nat.zero_add, Int.zero_add] at hT hq ⊢
    have hq' : ∀ c2 c3 c4 c5 c6 c7 c8 c9 c10 T2, T2 ≤ 20000 * ((i : Int) + 1) → nx' [.fx (.ref a), .fx (.ref s), c2, c3, c4, c5, c6, c7, c8, c9, c10] T2 := fun c2 c3 c4 c5 c6 c7 c8 c9 c10 T2 t => hq _ _ ⟨⟨_, _, _, _, _, _, _, _, _, rfl⟩, by omega⟩
    refine (show wSeq _ _ [.fx (.ref a), .fx (.ref s), .d (.int (i : Int)), c3, c4, c5, c6, c7, c8, c9, c10] T _ _ from ?_)
    obtain ⟨M, hM, eM⟩ : ∃ M : Int, 2 ≤ M ∧ fIf (fT (fOp oLt (fVar 2) (fC (.int 2)))) (fC (.int 24)) (fC (.int 12)) [.fx (.ref a), .fx (.ref s), .d (.int (i : Int)), c3, c4, c5, c6, c7, c8, c9, c10] = some (.val (.int M)) := by
      have l1 := lt_I (i : Int) 2
      cases q : decide ((i : Int) < 2) with
      | true =>
        rw [q] at l1
        exact ⟨24, by decide, by simp only [guardN, bodyD, fSeq, fAsg, fAsgM, fApp, fRet, fRetN, fDrop, fIfS, fNext, fRaise, fIf, fAnd, fOr, fNot, fT, bo, bnd, bndA, rB, fCall0, noEx, fCall, fCallP, permL, fCons, fNil, fTup, fLst, lim, fCb, ret, fOp, fUn, fVar, fC, fIsi, fIsiLT, isLT, fChain, fLk, fLkB, fLkM, fRevL, fSet2, fFrz, lockL, lockG, lkC, sName, sTup, sCons, sNil, wipeC, List.map_cons, List.map_nil, List.replicate_succ, List.replicate_zero, List.cons_append, List.nil_append, List.getElem?_cons_zero, List.getElem?_cons_succ, List.set_cons_zero, List.set_cons_succ, List.length_cons, List.length_nil, Nat.beq_refl, Nat.reduceAdd, Nat.reduceLeDiff, Nat.reduceEqDiff, Nat.zero_add, if_true, if_false, Bool.false_eq_true, reduceIte, Bool.not_true, Bool.not_false, small_few0, small_few1, small_few2, small_few3, l1]⟩
      | false =>
        rw [q] at l1
        exact ⟨12, by decide, by simp only [guardN, bodyD, fSeq, fAsg, fAsgM, fApp, fRet, fRetN, fDrop, fIfS, fNext, fRaise, fIf, fAnd, fOr, fNot, fT, bo, bnd, bndA, rB, fCall0, noEx, fCall, fCallP, permL, fCons, fNil, fTup, fLst, lim, fCb, ret, fOp, fUn, fVar, fC, fIsi, fIsiLT, isLT, fChain, fLk, fLkB, fLkM, fRevL, fSet2, fFrz, lockL, lockG, lkC, sName, sTup, sCons, sNil, wipeC, List.map_cons, List.map_nil, List.replicate_succ, List.replicate_zero, List.cons_append, List.nil_append, List.getElem?_cons_zero, List.getElem?_cons_succ, List.set_cons_zero, List.set_cons_succ, List.length_cons, List.length_nil, Nat.beq_refl, Nat.reduceAdd, Nat.reduceLeDiff, Nat.reduceEqDiff, Nat.zero_add, if_true, if_false, Bool.false_eq_true, reduceIte, Bool.not_true, Bool.not_false, small_few0, small_few1, small_few2, small_few3, l1]⟩
    refine wSeq_of (wAsg_of (wTup_of (wCons_of (wDraw_of (wCons_of (pw_of eM (wNil_of (wturned_v hM (by omega) fun n T1 hn hp t1 t2 => ?_))))))))
    refine wCons_of (wOp_of (pw_of (d := .int 2) rfl (wDraw_of (wCons_of (pw_of (d := .int 23) rfl (wNil_of ?_))))))
    refine draw_of (by decide) (by decide) (by omega) fun u hu => ?_
    show (match oAdd (.int 2) (.int (u : Int)) with | some z => _ | none => False)
    rw [show oAdd (.int 2) (.int (u : Int)) = some (.int (2 + (u : Int))) from rfl]
    refine wNil_of ⟨(show small 2 = true by decide), ?_⟩
    refine (show wSeq _ _ (G32 a s i n (2 + (u : Int)) c5 c6 c7 c8 c9 c10) (T1 + 1) _ _ from ?_)
    have n24 := few_24 hn
    have rest : ∀ (m : Int) (c5 : Ce) (T2 : Int), 2 ≤ m → m ≤ 24 → T1 ≤ T2 → T2 ≤ T1 + 10 → (wSeq (pws 1 (fIfS (fNot (fT (fCall f__law_list_right (fCons (fVar 3) (fCons (fVar 4) fNil))))) (fRet (fC (.bool false))) fNext)) (wSeq (wAsg (wDraw W__law_pick (wCons (pw (fCall f_weighings (fCons (fVar 3) (fCons (fVar 4) fNil)))) wNil)) (sName 6)) (wSeq (wAsg (wOp oCat (wOp oCat (pw (fLst (fCons (fVar 6) fNil))) (wLc (iR1 (fCons (fC (.int 6)) fNil)) (sName 8) (pwb (fC (.bool true))) (wDraw W__law_otherwise (wCons (pw (fVar 3)) (wCons (pw (fVar 6)) wNil))) [8])) (wLst (wCons (wDraw W__law_odd wNil) wNil))) (sName 7)) (wSeq (pws 1 (fFor (iL (fVar 7)) (sName 9) (fSeq (fAsg (fCall0 f__law_is_weighing (fCons (fVar 3) (fCons (fVar 9) fNil))) (sName 10)) (fIfS (fOr (fNot (fT (fCall0 f__law_said (fCons (fCall f_is_weighing (fCons (fVar 3) (fCons (fVar 9) fNil))) (fCons (fVar 10) fNil))))) (fNot (fT (fCall0 f__law_said (fCons (fCallP [1, 0] 2 f_is_weighing (fCons (fVar 9) (fCons (fVar 3) fNil))) (fCons (fVar 10) fNil)))))) (fRet (fC (.bool false))) fNext)))) (wIfS (wOr (wNot (wT (wDraw W__law_weighed_right (wCons (pw (fVar 3)) (wCons (pw (fVar 6)) wNil))))) (wNot (wT (wDraw W__law_refused_right (wCons (pw (fVar 3)) (wCons (pw (fVar 6)) wNil)))))) (pws 1 (fRet (fC (.bool false)))) wNext))))) (G32 a s i n m c5 c6 c7 c8 c9 c10) T2 nx' (fun d _ => d = .bool true) := fun m c5 T2 m2 m24 t3 t4 => by
      have lr := lawList_v hn m2 m24
      refine wSeq_of (pws_nx (Γ' := G32 a s i n m c5 c6 c7 c8 c9 c10) (by simp only [guardN, bodyD, fSeq, fAsg, fAsgM, fApp, fRet, fRetN, fDrop, fIfS, fNext, fRaise, fIf, fAnd, fOr, fNot, fT, bo, bnd, bndA, rB, fCall0, noEx, fCall, fCallP, permL, fCons, fNil, fTup, fLst, lim, fCb, ret, fOp, fUn, fVar, fC, fIsi, fIsiLT, isLT, fChain, fLk, fLkB, fLkM, fRevL, fSet2, fFrz, lockL, lockG, lkC, sName, sTup, sCons, sNil, wipeC, List.map_cons, List.map_nil, List.replicate_succ, List.replicate_zero, List.cons_append, List.nil_append, List.getElem?_cons_zero, List.getElem?_cons_succ, List.set_cons_zero, List.set_cons_succ, List.length_cons, List.length_nil, Nat.beq_refl, Nat.reduceAdd, Nat.reduceLeDiff, Nat.reduceEqDiff, Nat.zero_add, if_true, if_false, Bool.false_eq_true, reduceIte, Bool.not_true, Bool.not_false, small_few0, small_few1, small_few2, small_few3, lr]) rfl ?_)
      have wv := weighings_v hn m2 m24
      have few := rows_few hn m24
      refine wSeq_of (wAsg_of (wDraw_of (wCons_of (pw_of (d := .list ((wRows n m).map (wgT m))) (by simp only [guardN, bodyD, fSeq, fAsg, fAsgM, fApp, fRet, fRetN, fDrop, fIfS, fNext, fRaise, fIf, fAnd, fOr, fNot, fT, bo, bnd, bndA, rB, fCall0, noEx, fCall, fCallP, permL, fCons, fNil, fTup, fLst, lim, fCb, ret, fOp, fUn, fVar, fC, fIsi, fIsiLT, isLT, fChain, fLk, fLkB, fLkM, fRevL, fSet2, fFrz, lockL, lockG, lkC, sName, sTup, sCons, sNil, wipeC, List.map_cons, List.map_nil, List.replicate_succ, List.replicate_zero, List.cons_append, List.nil_append, List.getElem?_cons_zero, List.getElem?_cons_succ, List.set_cons_zero, List.set_cons_succ, List.length_cons, List.length_nil, Nat.beq_refl, Nat.reduceAdd, Nat.reduceLeDiff, Nat.reduceEqDiff, Nat.zero_add, if_true, if_false, Bool.false_eq_true, reduceIte, Bool.not_true, Bool.not_false, small_few0, small_few1, small_few2, small_few3, wv]) (wNil_of (wpick_v (fun z => rows_ne m2 (List.map_eq_nil_iff.mp z)) (by rw [List.length_map]; omega) (by omega) fun d hd => ?_))))))
      obtain ⟨r, hr, rfl⟩ := List.mem_map.mp hd
      obtain ⟨w, ew, t⟩ := told_of hn m2 m24 hr
      rw [ew]
      refine (show wSeq _ _ (G32 a s i n m c5 (.d (wg n m w)) c7 c8 c9 c10) (T2 + 1) _ _ from ?_)
      refine wSeq_of (wAsg_of (wOp_of (wOp_of (pw_of (d := .list [wg n m w]) rfl (wLc_of (as := upFrom 0 6) rfl (by decide) ?_)))))
      refine lcW_all (Pv := fun _ => True) (c := 20) _ _ _ (fun x hx T' q q1 q2 q3 => ?_) (by decide) (fun ds T3 r1 r2 r3 r4 => ?_) (fun Γ1 T p q h1 h2 => h2 _ _ h1)
      · rw [upFrom_len] at q2
        refine ⟨_, rfl, ?_⟩
        refine pwb_of (b := true) rfl ?_
        rw [if_pos rfl]
        refine wDraw_of (wCons_of (pw_of (d := dI n) rfl (wCons_of (pw_of (d := wg n m w) rfl (wNil_of ?_)))))
        exact wother_v hn t (by omega) fun d T4 t5 t6 => q3 d T4 trivial t5 t6
      · rw [upFrom_len] at r2 r4
        rw [catL_of [wg n m w] ds (by rw [r2]; simp)]
        dsimp only
        refine wLst_of (wCons_of (wDraw_of (wNil_of (woddD_v (by omega) fun od => wNil_of ⟨(show small 1 = true by decide), ?_⟩))))
        rw [catL_of ([wg n m w] ++ ds) [od] (by rw [List.length_append, r2]; simp)]
        obtain ⟨X, eX⟩ : ∃ X, X = [wg n m w] ++ ds ++ [od] := ⟨_, rfl⟩
        have lX : X.length ≤ 1000 := by rw [eX, List.length_append, List.length_append, r2]; simp
        rw [← eX]
        refine (show wSeq _ _ (G32 a s i n m c5 (.d (wg n m w)) (.d (.list X)) c8 c9 c10) (T3 + 1) _ _ from ?_)
        obtain ⟨d9, d10, hj⟩ := judge_for hn (a := a) (s := s) (i := i) (m := m) (c5 := c5) (c6 := .d (wg n m w)) (c8 := c8) (e9 := c9) (e10 := c10) X lX
        refine wSeq_of (pws_nx hj rfl ?_)
        refine wIfS_of (wOr_of (wNot_of (wT_of (wDraw_of (wCons_of (pw_of (d := dI n) rfl (wCons_of (pw_of (d := wg n m w) rfl (wNil_of (wweighed_v hn t (by omega) fun T4 t5 t6 => ?_))))))))))
        refine (show (if (!true) = true then _ else _) from ?_)
        rw [if_neg (by decide)]
        refine wNot_of (wT_of (wDraw_of (wCons_of (pw_of (d := dI n) rfl (wCons_of (pw_of (d := wg n m w) rfl (wNil_of (wrefused_v hn t (by omega) fun T5 t7 t8 => ?_))))))))
        refine (show (if (!true) = true then _ else _) from ?_)
        rw [if_neg (by decide)]
        exact wNext_of (hq' _ _ _ _ _ _ _ _ _ _ (by omega))
    refine wSeq_of (wIfS_of (pwb_of (b := decide ((i : Int) = 1)) (by have e := eqI (i : Int) 1; simp only [guardN, bodyD, fSeq, fAsg, fAsgM, fApp, fRet, fRetN, fDrop, fIfS, fNext, fRaise, fIf, fAnd, fOr, fNot, fT, bo, bnd, bndA, rB, fCall0, noEx, fCall, fCallP, permL, fCons, fNil, fTup, fLst, lim, fCb, ret, fOp, fUn, fVar, fC, fIsi, fIsiLT, isLT, fChain, fLk, fLkB, fLkM, fRevL, fSet2, fFrz, lockL, lockG, lkC, sName, sTup, sCons, sNil, wipeC, List.map_cons, List.map_nil, List.replicate_succ, List.replicate_zero, List.cons_append, List.nil_append, List.getElem?_cons_zero, List.getElem?_cons_succ, List.set_cons_zero, List.set_cons_succ, List.length_cons, List.length_nil, Nat.beq_refl, Nat.reduceAdd, Nat.reduceLeDiff, Nat.reduceEqDiff, Nat.zero_add, if_true, if_false, Bool.false_eq_true, reduceIte, Bool.not_true, Bool.not_false, small_few0, small_few1, small_few2, small_few3, e]) ?_))
    by_cases q : (i : Int) = 1
    · rw [decide_eq_true q, if_pos rfl]
      have hl : fLc (iT (fVar 3)) (sName 5) (fC (.bool true)) (fVar 5) [5] (G32 a s i n (2 + (u : Int)) c5 c6 c7 c8 c9 c10) = some (.val (.list (n.map PyData.int))) := flc_map PyData.int PyData.int n rfl (by have := few_l4 hn; omega) fun x hx => ⟨G32 a s i n (2 + (u : Int)) (.d (.int x)) c6 c7 c8 c9 c10, rfl, rfl, rfl⟩
      have l1 := few_l1 hn
      have l4 := few_l4 hn
      refine wAsg_of (wDraw_of (wCons_of (pw_of hl (wNil_of (wpick_v (fun z => by rw [List.map_eq_nil_iff.mp z] at l1; simp at l1) (by rw [List.length_map]; omega) (by omega) fun d hd => ?_)))))
      obtain ⟨sz, hs, rfl⟩ := List.mem_map.mp hd
      have ok := (few_okd hn).sz sz hs
      exact rest sz c5 (T1 + 1 + 1) ok.1 ok.2 (by omega) (by omega)
    · rw [decide_eq_false q, if_neg (by decide)]
      exact wNext_of (rest _ c5 (T1 + 1) (by omega) (by omega) (by omega) (by omega))
  · obtain ⟨⟨c2, c3, c4, c5, c6, c7, c8, c9, c10, rfl⟩, hT⟩ := hI
    exact pws_rt (d := .bool true) rfl rfl
end
end Mv
namespace Mv
open PySem LamX L2 PyProof.Rows PySem.Spec
section
variable {P : Program} {w : World} {K : PySem.W.Frag} {mg mb : Str → Option Value} {L : List (Addr × Addr)} {fa a : Addr} {s₁ : Shared} {vs : List Value} {ns : List Int}
def startH (K : PySem.W.Frag) (L : List (Addr × Addr)) (a : Addr) (vs : List Value) (ns : List Int) : Hp := fun b =>
  if b ∈ L.map (·.2) then some (.tbl #[]) else if b = a ∧ K.lookup a = none then some (.frz { cls := .type "list", data := .seq vs.toArray } (.lst (ns.map V.int))) else none
theorem start_some {b : Addr} {u : HO} (h : startH K L a vs ns b = some u) : (b ∈ L.map (·.2) ∧ u = .tbl #[]) ∨ (b = a ∧ K.lookup a = none ∧ u = .frz { cls := .type "list", data := .seq vs.toArray } (.lst (ns.map V.int))) := by
  unfold startH at h
  by_cases h1 : b ∈ L.map (·.2)
  · rw [if_pos h1] at h
    exact .inl ⟨h1, (Option.some.inj h).symm⟩
  · rw [if_neg h1] at h
    by_cases h2 : b = a ∧ K.lookup a = none
    · rw [if_pos h2] at h
      exact .inr ⟨h2.1, h2.2, (Option.some.inj h).symm⟩
    · rw [if_neg h2] at h
      cases h
theorem call_at (KX : K.In s₁.heap) (nsG : s₁.heap.Ns mainGlobals mg) (hb : s₁.heap.Ns builtinsNs mb) (boots : ∀ x : Str, x ≠ "__name__" → mb x = bootBuiltins x) (lims : s₁.heap.NoLimit) (hg : s₁.gens = #[])
    (hT : ∀ p ∈ L, s₁.heap.get? p.2 = some { cls := .none, data := .fields #[] }) (nT : ∀ p ∈ L, K.lookup p.2 = none) (cd : ∀ p ∈ L, PySem.W.CodeHd s₁.heap p.1 p.2)
    (blt : ∃ (bq : Addr) (oq : Obj), mg "__builtins__" = some (.ref bq) ∧ bq ≠ builtinsNs ∧ s₁.heap.get? bq = some oq ∧ oq.cls = .type "module" ∧ oq.dict = some builtinsNs ∧ oq.data = .plain)
    (ha : s₁.heap.get? a = some { cls := .type "list", data := .seq vs.toArray }) (hi : IntsAre vs ns) (hl : ns.length ≤ sizeLine) (sy : ∃ mm, s₁.heap.Ns sysModules mm)
    (F : ∀ base : Heap, K.In base → base.Ns mainGlobals mg → (∀ p ∈ L, TabB base mg p.1 p.2) → (∃ o, base.get? sysModules = some o) → ∀ H : Hp, Env0 P w K mg base callerA [] s₁ H → SqL K H a (ns.map V.int) → (∀ p ∈ L, H p.2 = some (.tbl #[])) → (∀ b u, H b = some u → b ∈ L.map (·.2) ∨ (b = a ∧ ∃ o x, u = .frz o x)) →
      codeAny (model P w) callerA (.call (.ref fa) ⟨[.ref a], []⟩) (CR CX0 [] P w H s₁ (fun v _ => v = .bl true) fun _ _ _ => False) s₁) :
    codeAny (model P w) callerA (.call (.ref fa) ⟨[.ref a], []⟩)
      (fun r z => r = .ok (.ret (.bool true)) ∧ OldK s₁.heap z.heap ∧ z.os = s₁.os ∧ AllBare z.gens) s₁ := by
  obtain ⟨H, hH⟩ : ∃ H : Hp, H = startH K L a vs ns := ⟨_, rfl⟩
  have rel := vals_ints hi
  have len := hi.length
  have hTm : ∀ {b : Addr}, b ∈ L.map (·.2) → s₁.heap.get? b = some { cls := .none, data := .fields #[] } := fun {b} hb => by
    obtain ⟨p, hp, rfl⟩ := List.mem_map.mp hb
    exact hT p hp
  have aPt : a ∉ L.map (·.2) := fun z => by
    rw [hTm z] at ha
    have q : Data.fields #[] = Data.seq vs.toArray _ := congrArg Obj.data (Option.some.inj ha)
    cases q
  have atT : ∀ {b : Addr}, b ∈ L.map (·.2) → H b = some (.tbl #[]) := fun hb => by rw [hH]; exact if_pos hb
  have is_ : ∀ {b : Addr} {u : HO}, H b = some u → (b ∈ L.map (·.2) ∧ u = .tbl #[]) ∨ (b = a ∧ K.lookup a = none ∧ u = .frz { cls := .type "list", data := .seq vs.toArray } (.lst (ns.map V.int))) := fun h => start_some (by rw [← hH]; exact h)
  have seq : SqL K H a (ns.map V.int) := by
    cases q : K.lookup a with
    | none =>
      refine .inl (.inr ⟨{ cls := .type "list", data := .seq vs.toArray }, ?_⟩)
      rw [hH]
      exact (if_neg aPt).trans (if_pos ⟨rfl, q⟩)
    | some o =>
      have e := KX a o q
      rw [ha] at e
      cases e
      exact .inr ⟨_, vs.toArray, _, q, rfl, rfl, rfl, by rw [List.size_toArray, len]; exact hl, by simpa using rel⟩
  have good : HOk P w H s₁.heap := fun b u e => by
    rcases is_ e with ⟨hb, rfl⟩ | ⟨rfl, _, rfl⟩
    · exact hTm hb
    · exact ⟨ha, by rw [List.length_map]; exact hl, vs, _, rel, ha⟩
  have bare : ∀ {b : Addr} {o : Obj}, s₁.heap.get? b = some o → (∀ us n, o.data ≠ .seq us n) → o.data ≠ .fields #[] → H b = none := fun {b o} e h1 h2 => by
    cases q : H b with
    | none => rfl
    | some u =>
      rcases is_ q with ⟨z, _⟩ | ⟨z, _⟩
      · rw [hTm z] at e; cases e; exact (h2 rfl).elim
      · rw [z, ha] at e; cases e; exact (h1 _ _ rfl).elim
  have below : ∀ {b : Addr} {o : Obj}, s₁.heap.get? b = some o → (∀ us n, o.data ≠ .seq us n) → o.data ≠ .fields #[] → (hidT s₁.heap H).get? b = some o := fun e h1 h2 => hidT_get e (bare e h1 h2)
  have space : ∀ {b : Addr} {m : Str → Option Value}, s₁.heap.Ns b m → (hidT s₁.heap H).Ns b m := fun ⟨o, es, ep, e, d, r⟩ => ⟨o, es, ep, below e (fun us n z => by rw [d] at z; cases z) (fun z => by rw [d] at z; cases z), d, r⟩
  have Kb : K.In (hidT s₁.heap H) := fun b o e => hidT_get (KX b o e) (by
    cases q : H b with
    | none => rfl
    | some u =>
      rcases is_ q with ⟨z, _⟩ | ⟨z, k, _⟩
      · obtain ⟨p, hp, rfl⟩ := List.mem_map.mp z
        rw [nT p hp] at e; cases e
      · rw [z, k] at e; cases e)
  have tab : ∀ p ∈ L, TabB (hidT s₁.heap H) mg p.1 p.2 := fun p hp => by
    refine ⟨?_, ?_, fun z => ?_⟩
    · obtain ⟨o, us, file, tf, flags, tg, inF, text, tt, e1, r1, r2, r3, rest⟩ := cd p hp
      refine ⟨o, us, file, tf, flags, tg, inF, text, tt, below e1 (fun us n z => by rw [r2] at z; cases z) (fun z => ?_), r1, r2, r3, rest⟩
      rw [r2] at z
      cases z
      simp at r3
    · obtain ⟨bq, oq, b1, b2, b3, b4, b5, b6⟩ := blt
      refine ⟨bq, oq, b1, b2, fun q => ?_, fun q => ?_, below b3 (fun us n z => by rw [b6] at z; cases z) (fun z => by rw [b6] at z; cases z), b4, b5, b6⟩
      · obtain ⟨o, es, ep, e, d, _⟩ := nsG
        rw [q, e] at b3
        cases b3
        rw [d] at b6
        cases b6
      · rw [q, hT p hp] at b3
        cases b3
        cases b6
    · obtain ⟨o, es, ep, e, d, _⟩ := nsG
      rw [z, hT p hp] at e
      cases e
      cases d
  have env : Env0 P w K mg (hidT s₁.heap H) callerA [] s₁ H :=
    ⟨rfl, ⟨Kb, space nsG, ⟨mb, space hb, boots⟩, lims.elim fun m h => ⟨m, space h.1, h.2⟩⟩, fun b o e => of_hidT e, Nat.le_of_eq (hidT_size _ _), trivial, fun b z => absurd (show b ∈ ([] : List Addr) from z) List.not_mem_nil, good, .of_eq hg⟩
  refine codeAny_mono (F _ Kb (space nsG) tab (let ⟨_, h⟩ := sy; let ⟨o, _, _, e, _⟩ := space h; ⟨o, e⟩) H env seq (fun p hp => atT (List.mem_map.mpr ⟨p, hp, rfl⟩)) fun b u h => (is_ h).imp (·.1) fun z => ⟨z.1, _, _, z.2.2⟩) fun r s' h => ?_
  cases r with
  | error e => exact h.elim
  | ok fl =>
    cases fl with
    | next => exact False.elim h
    | brk => exact False.elim h
    | cont => exact False.elim h
    | ret u =>
      obtain ⟨v, H', os, bareG, un, ok', rv, q⟩ := h
      obtain rfl : v = .bl true := q
      obtain rfl : u = Value.bool true := rv
      have stays : ∀ b o, b ∉ L.map (·.2) → s₁.heap.get? b = some o → s'.heap.get? b = some o := fun b o nb e => by
        cases q : H b with
        | none => exact un.keep b o e q (fun z => absurd (show b ∈ ([] : List Addr) from z) List.not_mem_nil) List.not_mem_nil
        | some u =>
          rcases is_ q with ⟨z, _⟩ | ⟨z, _, hu⟩
          · exact absurd z nb
          · rw [hu] at q
            obtain ⟨e1, _⟩ := good b _ q
            obtain ⟨e2, _⟩ := ok' b _ (un.frzs b _ _ q)
            rw [e] at e1
            cases e1
            exact e2
      have grown : ∀ {b : Addr}, b ∈ L.map (·.2) → ∃ more : Array Value, s'.heap.get? b = some { cls := .none, data := .fields (#[] ++ more) } := fun {b} hb => by
        obtain ⟨more, hm⟩ := un.tbls b #[] (atT hb)
        exact ⟨more, ok' b _ hm⟩
      refine ⟨rfl, ⟨fun b o e => ?_, fun b o e => ?_⟩, os, bareG⟩
      · by_cases z : b ∈ L.map (·.2)
        · obtain ⟨more, g⟩ := grown z
          obtain ⟨p, hp, rfl⟩ := List.mem_map.mp z
          rw [hT p hp] at e
          cases e
          exact .inr (.inl ⟨((cd p hp).tab (hT p hp)).isCodeTable, rfl, #[], more, rfl, g⟩)
        · exact .inl (stays b o z e)
      · by_cases z : b ∈ L.map (·.2)
        · obtain ⟨more, g⟩ := grown z
          exact ⟨_, g⟩
        · exact ⟨o, stays b o z e⟩
end
theorem walk_at {l : PySem.W.OpenLaw} {n : Nat} {q : Program} {loose : List Str} {XP : (Str → Option Value) → Heap → Prop} {YP : World → Heap → Prop} {d : DefRec} {K : Params → PySem.W.Frag} (hn : l.most = some n) (hn2 : n ≤ sizeLine) (hdf : d.params.defaults = [])
    (hY : ∀ (w : World) (h : Heap), YP w h → (K w.params).In h) (hin : importsNone q = true)
    (F : ∀ (w : World) (mg : Str → Option Value) (fa : Addr) (h : Heap), YP w h → (K w.params).In h → h.Ns mainGlobals mg → mg d.name = some (.ref fa) → ∃ L : List (Addr × Addr), (∀ p ∈ L, h.get? p.2 = some { cls := .none, data := .fields #[] }) ∧ (∀ p ∈ L, (K w.params).lookup p.2 = none) ∧ (∀ p ∈ L, PySem.W.CodeHd h p.1 p.2) ∧
      ∀ base : Heap, (K w.params).In base → base.Ns mainGlobals mg → (∀ p ∈ L, TabB base mg p.1 p.2) → (∃ o, base.get? sysModules = some o) → ∀ (s : Shared) (H : Hp) (a : Addr) (ns : List Int), ns.length ≤ n → Env0 l.prog w (K w.params) mg base callerA [] s H → SqL (K w.params) H a (ns.map V.int) → (∀ p ∈ L, H p.2 = some (.tbl #[])) → (∀ b u, H b = some u → b ∈ L.map (·.2) ∨ (b = a ∧ ∃ o x, u = .frz o x)) →
        codeAny (model l.prog w) callerA (.call (.ref fa) ⟨[.ref a], []⟩) (CR CX0 [] l.prog w H s (fun v _ => v = .bl true) fun _ _ _ => False) s) :
    PySem.W.WalkO q loose XP YP l.row.toRowW d []
      (fun g us => PySem.call g us) := by
  refine Att.attach_callB hn hdf fun w s₀ s₁ mg mb fa o pm cd doc a vs ns G Y _ _ _ hmg hobj hints hlen _ hg => ?_
  have KX := hY w _ Y
  obtain ⟨L, hT, nT, C, R⟩ := F w mg fa _ Y KX G.T.g hmg
  exact call_at KX G.T.g G.T.b G.T.builtins G.T.nolimit hg hT nT C G.T.bmain hobj hints (Nat.le_trans hlen hn2) (let ⟨mm, h, _⟩ := (G.T.seer hin).mods; ⟨mm, h⟩) fun base k1 k2 k3 ky H k4 k5 k6 k7 => R base k1 k2 k3 ky s₁ H a ns hlen k4 k5 k6 k7
end Mv
namespace Mv
open PySem L2 LamX Evl
theorem all_mk {P : Program} {w : World} {K : PySem.W.Frag} {h : Heap} {mg : Str → Option Value} {fa : Addr} {f0 f1 f2 f3 f4 f5 f6 f7 f8 f9 f10 f11 f12 f13 f14 f15 f16 f17 f18 f19 f20 f21 f22 f23 f24 f25 f26 f27 f28 f29 f30 f31 f32 f33 f34 f35 f36 f37 f38 f39 f40 f41 f42 f43 f44 C0 C1 C2 C3 C4 cT1 Pt1 : Addr}
  {od0 an0 od1 an1 od2 an2 od3 an3 od4 an4 od5 an5 od6 an6 od7 an7 od8 an8 od9 an9 od10 an10 od11 an11 od12 an12 od13 an13 od14 an14 od15 an15 od16 an16 od17 an17 od18 an18 od19 an19 od20 an20 od21 an21 od22 an22 od23 an23 od24 an24 od25 an25 od26 an26 od27 an27 od28 an28 od29 an29 od30 an30 od31 an31 od32 an32 od33 an33 od34 an34 od35 an35 od36 an36 od37 an37 od38 an38 od39 an39 od40 an40 od41 an41 od42 an42 od43 an43 od44 an44  odc1 : Option Addr}
  {sl0 sl1 sl2 sl3 sl4 sl5 sl6 sl7 sl8 sl9 sl10 sl11 sl12 sl13 sl14 sl15 sl16 sl17 sl18 sl19 sl20 sl21 sl22 sl23 sl24 sl25 sl26 sl27 sl28 sl29 sl30 sl31 sl32 sl33 sl34 sl35 sl36 sl37 sl38 sl39 sl40 sl41 sl42 sl43 sl44  slc1 : Array (Option Value)}
  {oc0 kV0 dc0 pm0 cd0 ct0 oc1 kV1 dc1 pm1 cd1 ct1 oc2 kV2 dc2 pm2 cd2 ct2 oc3 kV3 dc3 pm3 cd3 ct3 oc4 kV4 dc4 pm4 cd4 ct4 oc5 kV5 dc5 pm5 cd5 ct5 oc6 kV6 dc6 pm6 cd6 ct6 oc7 kV7 dc7 pm7 cd7 ct7 oc8 kV8 dc8 pm8 cd8 ct8 oc9 kV9 dc9 pm9 cd9 ct9 oc10 kV10 dc10 pm10 cd10 ct10 oc11 kV11 dc11 pm11 cd11 ct11 oc12 kV12 dc12 pm12 cd12 ct12 oc13 kV13 dc13 pm13 cd13 ct13 oc14 kV14 dc14 pm14 cd14 ct14 oc15 kV15 dc15 pm15 cd15 ct15 oc16 kV16 dc16 pm16 cd16 ct16 oc17 kV17 dc17 pm17 cd17 ct17 oc18 kV18 dc18 pm18 cd18 ct18 oc19 kV19 dc19 pm19 cd19 ct19 oc20 kV20 dc20 pm20 cd20 ct20 oc21 kV21 dc21 pm21 cd21 ct21 oc22 kV22 dc22 pm22 cd22 ct22 oc23 kV23 dc23 pm23 cd23 ct23 oc24 kV24 dc24 pm24 cd24 ct24 oc25 kV25 dc25 pm25 cd25 ct25 oc26 kV26 dc26 pm26 cd26 ct26 oc27 kV27 dc27 pm27 cd27 ct27 oc28 kV28 dc28 pm28 cd28 ct28 oc29 kV29 dc29 pm29 cd29 ct29 oc30 kV30 dc30 pm30 cd30 ct30 oc31 kV31 dc31 pm31 cd31 ct31 oc32 kV32 dc32 pm32 cd32 ct32 oc33 kV33 dc33 pm33 cd33 ct33 oc34 kV34 dc34 pm34 cd34 ct34 oc35 kV35 dc35 pm35 cd35 ct35 oc36 kV36 dc36 pm36 cd36 ct36 oc37 kV37 dc37 pm37 cd37 ct37 oc38 kV38 dc38 pm38 cd38 ct38 oc39 kV39 dc39 pm39 cd39 ct39 oc40 kV40 dc40 pm40 cd40 ct40 oc41 kV41 dc41 pm41 cd41 ct41 oc42 kV42 dc42 pm42 ct42 oc43 kV43 dc43 pm43 cd43 ct43 oc44 kV44 dc44 pm44 cd44 ct44  occ1 : Value}  (KX : K.In h) (G : h.Ns mainGlobals mg) (hfa : mg "law" = some (.ref fa))
  (a0 : PySem.W.nsIn K mainGlobals "place_count" = some (some (.ref f0))) (l0 : K.lookup f0 = some ⟨oc0, od0, .func (PySem.W.fnOf "place_count" "place_count" (defArgs s_place_count) (defBody s_place_count) (defScope s_place_count) .none kV0 dc0 pm0 an0 cd0 ct0), sl0⟩) (c0 : PySem.W.codeIn K cd0 "place_count" = true) (k0 : PySem.W.keepIn K (.ref f0) = true)
  (a1 : PySem.W.nsIn K mainGlobals "all_places" = some (some (.ref f1))) (l1 : K.lookup f1 = some ⟨oc1, od1, .func (PySem.W.fnOf "all_places" "all_places" (defArgs s_all_places) (defBody s_all_places) (defScope s_all_places) .none kV1 dc1 pm1 an1 cd1 ct1), sl1⟩) (c1 : PySem.W.codeIn K cd1 "all_places" = true) (k1 : PySem.W.keepIn K (.ref f1) = true)
  (a2 : PySem.W.nsIn K mainGlobals "add" = some (some (.ref f2))) (l2 : K.lookup f2 = some ⟨oc2, od2, .func (PySem.W.fnOf "add" "add" (defArgs s_add) (defBody s_add) (defScope s_add) .none kV2 dc2 pm2 an2 cd2 ct2), sl2⟩) (c2 : PySem.W.codeIn K cd2 "add" = true) (k2 : PySem.W.keepIn K (.ref f2) = true)
  (a3 : PySem.W.nsIn K mainGlobals "is_number" = some (some (.ref f3))) (l3 : K.lookup f3 = some ⟨oc3, od3, .func (PySem.W.fnOf "is_number" "is_number" (defArgs s_is_number) (defBody s_is_number) (defScope s_is_number) .none kV3 dc3 pm3 an3 cd3 ct3), sl3⟩) (c3 : PySem.W.codeIn K cd3 "is_number" = true) (k3 : PySem.W.keepIn K (.ref f3) = true)
  (a4 : PySem.W.nsIn K mainGlobals "is_between" = some (some (.ref f4))) (l4 : K.lookup f4 = some ⟨oc4, od4, .func (PySem.W.fnOf "is_between" "is_between" (defArgs s_is_between) (defBody s_is_between) (defScope s_is_between) .none kV4 dc4 pm4 an4 cd4 ct4), sl4⟩) (c4 : PySem.W.codeIn K cd4 "is_between" = true) (k4 : PySem.W.keepIn K (.ref f4) = true)
  (a5 : PySem.W.nsIn K mainGlobals "is_listed" = some (some (.ref f5))) (l5 : K.lookup f5 = some ⟨oc5, od5, .func (PySem.W.fnOf "is_listed" "is_listed" (defArgs s_is_listed) (defBody s_is_listed) (defScope s_is_listed) .none kV5 dc5 pm5 an5 cd5 ct5), sl5⟩) (c5 : PySem.W.codeIn K cd5 "is_listed" = true) (k5 : PySem.W.keepIn K (.ref f5) = true)
  (a6 : PySem.W.nsIn K mainGlobals "is_tuple_of" = some (some (.ref f6))) (l6 : K.lookup f6 = some ⟨oc6, od6, .func (PySem.W.fnOf "is_tuple_of" "is_tuple_of" (defArgs s_is_tuple_of) (defBody s_is_tuple_of) (defScope s_is_tuple_of) .none kV6 dc6 pm6 an6 cd6 ct6), sl6⟩) (c6 : PySem.W.codeIn K cd6 "is_tuple_of" = true) (k6 : PySem.W.keepIn K (.ref f6) = true)
  (a7 : PySem.W.nsIn K mainGlobals "is_dials" = some (some (.ref f7))) (l7 : K.lookup f7 = some ⟨oc7, od7, .func (PySem.W.fnOf "is_dials" "is_dials" (defArgs s_is_dials) (defBody s_is_dials) (defScope s_is_dials) .none kV7 dc7 pm7 an7 cd7 ct7), sl7⟩) (c7 : PySem.W.codeIn K cd7 "is_dials" = true) (k7 : PySem.W.keepIn K (.ref f7) = true)
  (a8 : PySem.W.nsIn K mainGlobals "is_place" = some (some (.ref f8))) (l8 : K.lookup f8 = some ⟨oc8, od8, .func (PySem.W.fnOf "is_place" "is_place" (defArgs s_is_place) (defBody s_is_place) (defScope s_is_place) .none kV8 dc8 pm8 an8 cd8 ct8), sl8⟩) (c8 : PySem.W.codeIn K cd8 "is_place" = true) (k8 : PySem.W.keepIn K (.ref f8) = true)
  (a9 : PySem.W.nsIn K mainGlobals "are_places" = some (some (.ref f9))) (l9 : K.lookup f9 = some ⟨oc9, od9, .func (PySem.W.fnOf "are_places" "are_places" (defArgs s_are_places) (defBody s_are_places) (defScope s_are_places) .none kV9 dc9 pm9 an9 cd9 ct9), sl9⟩) (c9 : PySem.W.codeIn K cd9 "are_places" = true) (k9 : PySem.W.keepIn K (.ref f9) = true)
  (a10 : PySem.W.nsIn K mainGlobals "check_dials" = some (some (.ref f10))) (l10 : K.lookup f10 = some ⟨oc10, od10, .func (PySem.W.fnOf "check_dials" "check_dials" (defArgs s_check_dials) (defBody s_check_dials) (defScope s_check_dials) .none kV10 dc10 pm10 an10 cd10 ct10), sl10⟩) (c10 : PySem.W.codeIn K cd10 "check_dials" = true) (k10 : PySem.W.keepIn K (.ref f10) = true)
  (a11 : PySem.W.nsIn K mainGlobals "check_several" = some (some (.ref f11))) (l11 : K.lookup f11 = some ⟨oc11, od11, .func (PySem.W.fnOf "check_several" "check_several" (defArgs s_check_several) (defBody s_check_several) (defScope s_check_several) .none kV11 dc11 pm11 an11 cd11 ct11), sl11⟩) (c11 : PySem.W.codeIn K cd11 "check_several" = true) (k11 : PySem.W.keepIn K (.ref f11) = true)
  (a12 : PySem.W.nsIn K mainGlobals "adds_up" = some (some (.ref f12))) (l12 : K.lookup f12 = some ⟨oc12, od12, .func (PySem.W.fnOf "adds_up" "adds_up" (defArgs s_adds_up) (defBody s_adds_up) (defScope s_adds_up) .none kV12 dc12 pm12 an12 cd12 ct12), sl12⟩) (c12 : PySem.W.codeIn K cd12 "adds_up" = true) (k12 : PySem.W.keepIn K (.ref f12) = true)
  (a13 : PySem.W.nsIn K mainGlobals "is_weighed_by" = some (some (.ref f13))) (l13 : K.lookup f13 = some ⟨oc13, od13, .func (PySem.W.fnOf "is_weighed_by" "is_weighed_by" (defArgs s_is_weighed_by) (defBody s_is_weighed_by) (defScope s_is_weighed_by) .none kV13 dc13 pm13 an13 cd13 ct13), sl13⟩) (c13 : PySem.W.codeIn K cd13 "is_weighed_by" = true) (k13 : PySem.W.keepIn K (.ref f13) = true)
  (a14 : PySem.W.nsIn K mainGlobals "is_weighing" = some (some (.ref f14))) (l14 : K.lookup f14 = some ⟨oc14, od14, .func (PySem.W.fnOf "is_weighing" "is_weighing" (defArgs s_is_weighing) (defBody s_is_weighing) (defScope s_is_weighing) .none kV14 dc14 pm14 an14 cd14 ct14), sl14⟩) (c14 : PySem.W.codeIn K cd14 "is_weighing" = true) (k14 : PySem.W.keepIn K (.ref f14) = true)
  (a15 : PySem.W.nsIn K mainGlobals "weight_by" = some (some (.ref f15))) (l15 : K.lookup f15 = some ⟨oc15, od15, .func (PySem.W.fnOf "weight_by" "weight_by" (defArgs s_weight_by) (defBody s_weight_by) (defScope s_weight_by) .none kV15 dc15 pm15 an15 cd15 ct15), sl15⟩) (c15 : PySem.W.codeIn K cd15 "weight_by" = true) (k15 : PySem.W.keepIn K (.ref f15) = true)
  (a16 : PySem.W.nsIn K mainGlobals "list_weighings" = some (some (.ref f16))) (l16 : K.lookup f16 = some ⟨oc16, od16, .func (PySem.W.fnOf "list_weighings" "list_weighings" (defArgs s_list_weighings) (defBody s_list_weighings) (defScope s_list_weighings) .none kV16 dc16 pm16 an16 cd16 ct16), sl16⟩) (c16 : PySem.W.codeIn K cd16 "list_weighings" = true) (k16 : PySem.W.keepIn K (.ref f16) = true)
  (a17 : PySem.W.nsIn K mainGlobals "weighings" = some (some (.ref f17))) (l17 : K.lookup f17 = some ⟨oc17, od17, .func (PySem.W.fnOf "weighings" "weighings" (defArgs s_weighings) (defBody s_weighings) (defScope s_weighings) .none kV17 dc17 pm17 an17 cd17 ct17), sl17⟩) (c17 : PySem.W.codeIn K cd17 "weighings" = true) (k17 : PySem.W.keepIn K (.ref f17) = true)
  (a18 : PySem.W.nsIn K mainGlobals "weighed" = some (some (.ref f18))) (l18 : K.lookup f18 = some ⟨oc18, od18, .func (PySem.W.fnOf "weighed" "weighed" (defArgs s_weighed) (defBody s_weighed) (defScope s_weighed) .none kV18 dc18 pm18 an18 cd18 ct18), sl18⟩) (c18 : PySem.W.codeIn K cd18 "weighed" = true) (k18 : PySem.W.keepIn K (.ref f18) = true)
  (a19 : PySem.W.nsIn K mainGlobals "_law_begun" = some (some (.ref f19))) (l19 : K.lookup f19 = some ⟨oc19, od19, .func (PySem.W.fnOf "_law_begun" "_law_begun" (defArgs s__law_begun) (defBody s__law_begun) (defScope s__law_begun) .none kV19 dc19 pm19 an19 cd19 ct19), sl19⟩) (c19 : PySem.W.codeIn K cd19 "_law_begun" = true) (k19 : PySem.W.keepIn K (.ref f19) = true)
  (a20 : PySem.W.nsIn K mainGlobals "_law_draw" = some (some (.ref f20))) (l20 : K.lookup f20 = some ⟨oc20, od20, .func (PySem.W.fnOf "_law_draw" "_law_draw" (defArgs s__law_draw) (defBody s__law_draw) (defScope s__law_draw) .none kV20 dc20 pm20 an20 cd20 ct20), sl20⟩) (c20 : PySem.W.codeIn K cd20 "_law_draw" = true) (k20 : PySem.W.keepIn K (.ref f20) = true)
  (a21 : PySem.W.nsIn K mainGlobals "_law_pick" = some (some (.ref f21))) (l21 : K.lookup f21 = some ⟨oc21, od21, .func (PySem.W.fnOf "_law_pick" "_law_pick" (defArgs s__law_pick) (defBody s__law_pick) (defScope s__law_pick) .none kV21 dc21 pm21 an21 cd21 ct21), sl21⟩) (c21 : PySem.W.codeIn K cd21 "_law_pick" = true) (k21 : PySem.W.keepIn K (.ref f21) = true)
  (a22 : PySem.W.nsIn K mainGlobals "_law_mixed" = some (some (.ref f22))) (l22 : K.lookup f22 = some ⟨oc22, od22, .func (PySem.W.fnOf "_law_mixed" "_law_mixed" (defArgs s__law_mixed) (defBody s__law_mixed) (defScope s__law_mixed) .none kV22 dc22 pm22 an22 cd22 ct22), sl22⟩) (c22 : PySem.W.codeIn K cd22 "_law_mixed" = true) (k22 : PySem.W.keepIn K (.ref f22) = true)
  (a23 : PySem.W.nsIn K mainGlobals "_law_is_whole" = some (some (.ref f23))) (l23 : K.lookup f23 = some ⟨oc23, od23, .func (PySem.W.fnOf "_law_is_whole" "_law_is_whole" (defArgs s__law_is_whole) (defBody s__law_is_whole) (defScope s__law_is_whole) .none kV23 dc23 pm23 an23 cd23 ct23), sl23⟩) (c23 : PySem.W.codeIn K cd23 "_law_is_whole" = true) (k23 : PySem.W.keepIn K (.ref f23) = true)
  (a24 : PySem.W.nsIn K mainGlobals "_law_odd" = some (some (.ref f24))) (l24 : K.lookup f24 = some ⟨oc24, od24, .func (PySem.W.fnOf "_law_odd" "_law_odd" (defArgs s__law_odd) (defBody s__law_odd) (defScope s__law_odd) .none kV24 dc24 pm24 an24 cd24 ct24), sl24⟩) (c24 : PySem.W.codeIn K cd24 "_law_odd" = true) (k24 : PySem.W.keepIn K (.ref f24) = true)
  (a25 : PySem.W.nsIn K mainGlobals "_law_count" = some (some (.ref f25))) (l25 : K.lookup f25 = some ⟨oc25, od25, .func (PySem.W.fnOf "_law_count" "_law_count" (defArgs s__law_count) (defBody s__law_count) (defScope s__law_count) .none kV25 dc25 pm25 an25 cd25 ct25), sl25⟩) (c25 : PySem.W.codeIn K cd25 "_law_count" = true) (k25 : PySem.W.keepIn K (.ref f25) = true)
  (a26 : PySem.W.nsIn K mainGlobals "_law_dials" = some (some (.ref f26))) (l26 : K.lookup f26 = some ⟨oc26, od26, .func (PySem.W.fnOf "_law_dials" "_law_dials" (defArgs s__law_dials) (defBody s__law_dials) (defScope s__law_dials) .none kV26 dc26 pm26 an26 cd26 ct26), sl26⟩) (c26 : PySem.W.codeIn K cd26 "_law_dials" = true) (k26 : PySem.W.keepIn K (.ref f26) = true)
  (a27 : PySem.W.nsIn K mainGlobals "_law_places" = some (some (.ref f27))) (l27 : K.lookup f27 = some ⟨oc27, od27, .func (PySem.W.fnOf "_law_places" "_law_places" (defArgs s__law_places) (defBody s__law_places) (defScope s__law_places) .none kV27 dc27 pm27 an27 cd27 ct27), sl27⟩) (c27 : PySem.W.codeIn K cd27 "_law_places" = true) (k27 : PySem.W.keepIn K (.ref f27) = true)
  (a28 : PySem.W.nsIn K mainGlobals "_law_plus" = some (some (.ref f28))) (l28 : K.lookup f28 = some ⟨oc28, od28, .func (PySem.W.fnOf "_law_plus" "_law_plus" (defArgs s__law_plus) (defBody s__law_plus) (defScope s__law_plus) .none kV28 dc28 pm28 an28 cd28 ct28), sl28⟩) (c28 : PySem.W.codeIn K cd28 "_law_plus" = true) (k28 : PySem.W.keepIn K (.ref f28) = true)
  (a29 : PySem.W.nsIn K mainGlobals "_law_place" = some (some (.ref f29))) (l29 : K.lookup f29 = some ⟨oc29, od29, .func (PySem.W.fnOf "_law_place" "_law_place" (defArgs s__law_place) (defBody s__law_place) (defScope s__law_place) .none kV29 dc29 pm29 an29 cd29 ct29), sl29⟩) (c29 : PySem.W.codeIn K cd29 "_law_place" = true) (k29 : PySem.W.keepIn K (.ref f29) = true)
  (a30 : PySem.W.nsIn K mainGlobals "_law_bool_place" = some (some (.ref f30))) (l30 : K.lookup f30 = some ⟨oc30, od30, .func (PySem.W.fnOf "_law_bool_place" "_law_bool_place" (defArgs s__law_bool_place) (defBody s__law_bool_place) (defScope s__law_bool_place) .none kV30 dc30 pm30 an30 cd30 ct30), sl30⟩) (c30 : PySem.W.codeIn K cd30 "_law_bool_place" = true) (k30 : PySem.W.keepIn K (.ref f30) = true)
  (a31 : PySem.W.nsIn K mainGlobals "_law_bad_place" = some (some (.ref f31))) (l31 : K.lookup f31 = some ⟨oc31, od31, .func (PySem.W.fnOf "_law_bad_place" "_law_bad_place" (defArgs s__law_bad_place) (defBody s__law_bad_place) (defScope s__law_bad_place) .none kV31 dc31 pm31 an31 cd31 ct31), sl31⟩) (c31 : PySem.W.codeIn K cd31 "_law_bad_place" = true) (k31 : PySem.W.keepIn K (.ref f31) = true)
  (a32 : PySem.W.nsIn K mainGlobals "_law_bad_dials" = some (some (.ref f32))) (l32 : K.lookup f32 = some ⟨oc32, od32, .func (PySem.W.fnOf "_law_bad_dials" "_law_bad_dials" (defArgs s__law_bad_dials) (defBody s__law_bad_dials) (defScope s__law_bad_dials) .none kV32 dc32 pm32 an32 cd32 ct32), sl32⟩) (c32 : PySem.W.codeIn K cd32 "_law_bad_dials" = true) (k32 : PySem.W.keepIn K (.ref f32) = true)
  (a33 : PySem.W.nsIn K mainGlobals "_law_turned_dials" = some (some (.ref f33))) (l33 : K.lookup f33 = some ⟨oc33, od33, .func (PySem.W.fnOf "_law_turned_dials" "_law_turned_dials" (defArgs s__law_turned_dials) (defBody s__law_turned_dials) (defScope s__law_turned_dials) .none kV33 dc33 pm33 an33 cd33 ct33), sl33⟩) (c33 : PySem.W.codeIn K cd33 "_law_turned_dials" = true) (k33 : PySem.W.keepIn K (.ref f33) = true)
  (a34 : PySem.W.nsIn K mainGlobals "_law_said" = some (some (.ref f34))) (l34 : K.lookup f34 = some ⟨oc34, od34, .func (PySem.W.fnOf "_law_said" "_law_said" (defArgs s__law_said) (defBody s__law_said) (defScope s__law_said) .none kV34 dc34 pm34 an34 cd34 ct34), sl34⟩) (c34 : PySem.W.codeIn K cd34 "_law_said" = true) (k34 : PySem.W.keepIn K (.ref f34) = true)
  (a35 : PySem.W.nsIn K mainGlobals "_law_gcd" = some (some (.ref f35))) (l35 : K.lookup f35 = some ⟨oc35, od35, .func (PySem.W.fnOf "_law_gcd" "_law_gcd" (defArgs s__law_gcd) (defBody s__law_gcd) (defScope s__law_gcd) .none kV35 dc35 pm35 an35 cd35 ct35), sl35⟩) (c35 : PySem.W.codeIn K cd35 "_law_gcd" = true) (k35 : PySem.W.keepIn K (.ref f35) = true)
  (a36 : PySem.W.nsIn K mainGlobals "_law_led" = some (some (.ref f36))) (l36 : K.lookup f36 = some ⟨oc36, od36, .func (PySem.W.fnOf "_law_led" "_law_led" (defArgs s__law_led) (defBody s__law_led) (defScope s__law_led) .none kV36 dc36 pm36 an36 cd36 ct36), sl36⟩) (c36 : PySem.W.codeIn K cd36 "_law_led" = true) (k36 : PySem.W.keepIn K (.ref f36) = true)
  (a37 : PySem.W.nsIn K mainGlobals "_law_units" = some (some (.ref f37))) (l37 : K.lookup f37 = some ⟨oc37, od37, .func (PySem.W.fnOf "_law_units" "_law_units" (defArgs s__law_units) (defBody s__law_units) (defScope s__law_units) .none kV37 dc37 pm37 an37 cd37 ct37), sl37⟩) (c37 : PySem.W.codeIn K cd37 "_law_units" = true) (k37 : PySem.W.keepIn K (.ref f37) = true)
  (a38 : PySem.W.nsIn K mainGlobals "_law_is_weighing" = some (some (.ref f38))) (l38 : K.lookup f38 = some ⟨oc38, od38, .func (PySem.W.fnOf "_law_is_weighing" "_law_is_weighing" (defArgs s__law_is_weighing) (defBody s__law_is_weighing) (defScope s__law_is_weighing) .none kV38 dc38 pm38 an38 cd38 ct38), sl38⟩) (c38 : PySem.W.codeIn K cd38 "_law_is_weighing" = true) (k38 : PySem.W.keepIn K (.ref f38) = true)
  (a39 : PySem.W.nsIn K mainGlobals "_law_list_right" = some (some (.ref f39))) (l39 : K.lookup f39 = some ⟨oc39, od39, .func (PySem.W.fnOf "_law_list_right" "_law_list_right" (defArgs s__law_list_right) (defBody s__law_list_right) (defScope s__law_list_right) .none kV39 dc39 pm39 an39 cd39 ct39), sl39⟩) (c39 : PySem.W.codeIn K cd39 "_law_list_right" = true) (k39 : PySem.W.keepIn K (.ref f39) = true)
  (a40 : PySem.W.nsIn K mainGlobals "_law_otherwise" = some (some (.ref f40))) (l40 : K.lookup f40 = some ⟨oc40, od40, .func (PySem.W.fnOf "_law_otherwise" "_law_otherwise" (defArgs s__law_otherwise) (defBody s__law_otherwise) (defScope s__law_otherwise) .none kV40 dc40 pm40 an40 cd40 ct40), sl40⟩) (c40 : PySem.W.codeIn K cd40 "_law_otherwise" = true) (k40 : PySem.W.keepIn K (.ref f40) = true)
  (a41 : PySem.W.nsIn K mainGlobals "_law_weighed_right" = some (some (.ref f41))) (l41 : K.lookup f41 = some ⟨oc41, od41, .func (PySem.W.fnOf "_law_weighed_right" "_law_weighed_right" (defArgs s__law_weighed_right) (defBody s__law_weighed_right) (defScope s__law_weighed_right) .none kV41 dc41 pm41 an41 cd41 ct41), sl41⟩) (c41 : PySem.W.codeIn K cd41 "_law_weighed_right" = true) (k41 : PySem.W.keepIn K (.ref f41) = true)
  (a42 : PySem.W.nsIn K mainGlobals "_law_refused_right" = some (some (.ref f42))) (l42 : K.lookup f42 = some ⟨oc42, od42, .func (PySem.W.fnOf "_law_refused_right" "_law_refused_right" (defArgs s__law_refused_right) (defBody s__law_refused_right) (defScope s__law_refused_right) .none kV42 dc42 pm42 an42 (.ref cT1) ct42), sl42⟩) (c42 : PySem.W.codeIn K (.ref cT1) "_law_refused_right" = true) (k42 : PySem.W.keepIn K (.ref f42) = true)
  (a43 : PySem.W.nsIn K mainGlobals "_law_caught" = some (some (.ref f43))) (l43 : K.lookup f43 = some ⟨oc43, od43, .func (PySem.W.fnOf "_law_caught" "_law_caught" (defArgs s__law_caught) (defBody s__law_caught) (defScope s__law_caught) .none kV43 dc43 pm43 an43 cd43 ct43), sl43⟩) (c43 : PySem.W.codeIn K cd43 "_law_caught" = true) (k43 : PySem.W.keepIn K (.ref f43) = true)
  (a44 : PySem.W.nsIn K mainGlobals "law" = some (some (.ref f44))) (l44 : K.lookup f44 = some ⟨oc44, od44, .func (PySem.W.fnOf "law" "law" (defArgs s_law) (defBody s_law) (defScope s_law) .none kV44 dc44 pm44 an44 cd44 ct44), sl44⟩) (c44 : PySem.W.codeIn K cd44 "law" = true) (k44 : PySem.W.keepIn K (.ref f44) = true)
  (z_len : PySem.W.nsIn K mainGlobals "len" = some none)
  (z_zip : PySem.W.nsIn K mainGlobals "zip" = some none)
  (z_tuple : PySem.W.nsIn K mainGlobals "tuple" = some none)
  (z_list : PySem.W.nsIn K mainGlobals "list" = some none)
  (z_range : PySem.W.nsIn K mainGlobals "range" = some none)
  (z_all : PySem.W.nsIn K mainGlobals "all" = some none)
  (z_int : PySem.W.nsIn K mainGlobals "int" = some none)
  (z_bool : PySem.W.nsIn K mainGlobals "bool" = some none)
  (z_isinstance : PySem.W.nsIn K mainGlobals "isinstance" = some none)
  (z_abs : PySem.W.nsIn K mainGlobals "abs" = some none)
  (z_min : PySem.W.nsIn K mainGlobals "min" = some none)
  (z_repr : PySem.W.nsIn K mainGlobals "repr" = some none)
  (z_sorted : PySem.W.nsIn K mainGlobals "sorted" = some none)
  (z_enumerate : PySem.W.nsIn K mainGlobals "enumerate" = some none)
  (z_sum : PySem.W.nsIn K mainGlobals "sum" = some none)
  (z_dict : PySem.W.nsIn K mainGlobals "dict" = some none)
  (ac0 : PySem.W.nsIn K mainGlobals "MoveError" = some (some (.ref C0)))
  (bc0 : PySem.W.subIn K (.ref C0) (.type "BaseException") = some true)
  (tc0 : PySem.W.typeIn K (.ref C0) = some (.type "type"))
  (dc0_ : PySem.W.hasDictIn K C0 = true)
  (ac1 : PySem.W.nsIn K mainGlobals "BadDials" = some (some (.ref C1)))
  (kc1 : PySem.W.keepIn K (.ref C1) = true)
  (xc1 : PySem.W.excIn K C1 [.type "ValueError", .type "Exception", .type "BaseException", .type "object"] "ValueError.__new__" = true)
  (bc1 : PySem.W.subIn K (.ref C1) (.type "BaseException") = some true)
  (tc1 : PySem.W.typeIn K (.ref C1) = some (.type "type"))
  (s10 : PySem.W.subIn K (.ref C1) (.ref C0) = some true)
  (eg1 : PySem.W.findIn K (.ref C1) "__getattribute__" = some (some (.builtin "BaseException.__getattribute__")))
  (ek1 : PySem.W.findIn K (.ref C1) "__getattr__" = some none)
  (ed1 : PySem.W.hasDictIn K C1 = true)
  (ea1 : PySem.W.findIn K (.ref C1) "__class__" = some (some (.builtin "object.__class__")))
  (em1 : PySem.W.mroIn K C1 (.type "object") = some true)
  (ac2 : PySem.W.nsIn K mainGlobals "BadModulus" = some (some (.ref C2)))
  (kc2 : PySem.W.keepIn K (.ref C2) = true)
  (xc2 : PySem.W.excIn K C2 [.type "ValueError", .type "Exception", .type "BaseException", .type "object"] "ValueError.__new__" = true)
  (bc2 : PySem.W.subIn K (.ref C2) (.type "BaseException") = some true)
  (tc2 : PySem.W.typeIn K (.ref C2) = some (.type "type"))
  (s20 : PySem.W.subIn K (.ref C2) (.ref C0) = some true)
  (eg2 : PySem.W.findIn K (.ref C2) "__getattribute__" = some (some (.builtin "BaseException.__getattribute__")))
  (ek2 : PySem.W.findIn K (.ref C2) "__getattr__" = some none)
  (ed2 : PySem.W.hasDictIn K C2 = true)
  (ea2 : PySem.W.findIn K (.ref C2) "__class__" = some (some (.builtin "object.__class__")))
  (em2 : PySem.W.mroIn K C2 (.type "object") = some true)
  (ac3 : PySem.W.nsIn K mainGlobals "BadSeveral" = some (some (.ref C3)))
  (kc3 : PySem.W.keepIn K (.ref C3) = true)
  (xc3 : PySem.W.excIn K C3 [.type "ValueError", .type "Exception", .type "BaseException", .type "object"] "ValueError.__new__" = true)
  (bc3 : PySem.W.subIn K (.ref C3) (.type "BaseException") = some true)
  (tc3 : PySem.W.typeIn K (.ref C3) = some (.type "type"))
  (s30 : PySem.W.subIn K (.ref C3) (.ref C0) = some true)
  (eg3 : PySem.W.findIn K (.ref C3) "__getattribute__" = some (some (.builtin "BaseException.__getattribute__")))
  (ek3 : PySem.W.findIn K (.ref C3) "__getattr__" = some none)
  (ed3 : PySem.W.hasDictIn K C3 = true)
  (ea3 : PySem.W.findIn K (.ref C3) "__class__" = some (some (.builtin "object.__class__")))
  (em3 : PySem.W.mroIn K C3 (.type "object") = some true)
  (ac4 : PySem.W.nsIn K mainGlobals "BadWeighing" = some (some (.ref C4)))
  (kc4 : PySem.W.keepIn K (.ref C4) = true)
  (xc4 : PySem.W.excIn K C4 [.type "ValueError", .type "Exception", .type "BaseException", .type "object"] "ValueError.__new__" = true)
  (bc4 : PySem.W.subIn K (.ref C4) (.type "BaseException") = some true)
  (tc4 : PySem.W.typeIn K (.ref C4) = some (.type "type"))
  (s40 : PySem.W.subIn K (.ref C4) (.ref C0) = some true)
  (eg4 : PySem.W.findIn K (.ref C4) "__getattribute__" = some (some (.builtin "BaseException.__getattribute__")))
  (ek4 : PySem.W.findIn K (.ref C4) "__getattr__" = some none)
  (ed4 : PySem.W.hasDictIn K C4 = true)
  (ea4 : PySem.W.findIn K (.ref C4) "__class__" = some (some (.builtin "object.__class__")))
  (em4 : PySem.W.mroIn K C4 (.type "object") = some true)
  (en : PySem.W.specialIn K (.builtin "object.__class__") "__get__" = some (some (.builtin "getset_descriptor.__get__")))
  (et : PySem.W.takesIn K (.builtin "object.__class__") = some true)
  (lc1T : K.lookup cT1 = some ⟨occ1, odc1, .fields vsc1, slc1⟩)
  (vT1 : vsc1[11]? = some (.ref Pt1))
  (hCode1 : PySem.W.codeHdIn K cT1 Pt1 = true)
  (nP1 : K.lookup Pt1 = none)
  (tP1 : h.get? Pt1 = some { cls := .none, data := .fields #[] })
  : ∃ L : List (Addr × Addr), (∀ p ∈ L, h.get? p.2 = some { cls := .none, data := .fields #[] }) ∧ (∀ p ∈ L, K.lookup p.2 = none) ∧ (∀ p ∈ L, PySem.W.CodeHd h p.1 p.2) ∧
      ∀ base : Heap, K.In base → base.Ns mainGlobals mg → (∀ p ∈ L, TabB base mg p.1 p.2) → (∃ o, base.get? sysModules = some o) → ∀ (s : Shared) (H : Hp) (a : Addr) (ns : List Int), ns.length ≤ 63 → Env0 P w K mg base callerA [] s H → SqL K H a (ns.map V.int) → (∀ p ∈ L, H p.2 = some (.tbl #[])) → (∀ b u, H b = some u → b ∈ L.map (·.2) ∨ (b = a ∧ ∃ o x, u = .frz o x)) →
        codeAny (model P w) callerA (.call (.ref fa) ⟨[.ref a], []⟩) (CR CX0 [] P w H s (fun v _ => v = .bl true) fun _ _ _ => False) s := by
  refine ⟨[(cT1, Pt1)], (fun p hp => by simp only [List.mem_cons, List.not_mem_nil, or_false] at hp; rcases hp with rfl; exact tP1), (fun p hp => by simp only [List.mem_cons, List.not_mem_nil, or_false] at hp; rcases hp with rfl; exact nP1), (fun p hp => by simp only [List.mem_cons, List.not_mem_nil, or_false] at hp; rcases hp with rfl; exact PySem.W.codeHd_of_K KX hCode1), fun base kb gb TBs hsy s H a ns hl e0 hS hPts hH0 => ?_⟩
  have TB1 : TabB base mg cT1 Pt1 := TBs (cT1, Pt1) (by simp)
  have hPt1 : H Pt1 = some (.tbl #[]) := hPts (cT1, Pt1) (by simp)
  have Z : Zs mg := ⟨PySem.W.mg_none_of KX G z_len, PySem.W.mg_none_of KX G z_zip, PySem.W.mg_none_of KX G z_tuple, PySem.W.mg_none_of KX G z_list, PySem.W.mg_none_of KX G z_range, PySem.W.mg_none_of KX G z_all, PySem.W.mg_none_of KX G z_int, PySem.W.mg_none_of KX G z_bool, PySem.W.mg_none_of KX G z_isinstance, PySem.W.mg_none_of KX G z_abs, PySem.W.mg_none_of KX G z_min, PySem.W.mg_none_of KX G z_repr⟩
  have Z_sorted := PySem.W.mg_none_of KX G z_sorted
  have Z_enumerate := PySem.W.mg_none_of KX G z_enumerate
  have Z_sum := PySem.W.mg_none_of KX G z_sum
  have Z_dict := PySem.W.mg_none_of KX G z_dict
  obtain ⟨ad, had⟩ : ∃ ad : Str → Addr, ad = fun x => (([("BadDials", C1), ("BadModulus", C2), ("BadSeveral", C3), ("BadWeighing", C4)] : List (Str × Addr)).lookup x).getD 0 := ⟨_, rfl⟩
  have ad1 : ad "BadDials" = C1 := by rw [had]; rfl
  have B_BadDials : ExcC K mg "BadDials" (ad "BadDials") := by rw [ad1]; exact ⟨xc1, PySem.W.mg_of KX G ac1, kc1, bc1, tc1⟩
  have EB_BadDials : ErrC K mg C0 "BadDials" (ad "BadDials") := by rw [ad1]; exact ⟨PySem.W.mg_of KX G ac1, ⟨eg1, ek1, bc1, ed1, ea1, en, et, em1⟩, PySem.W.exm_ref bc0 dc0_ tc0 s10, if_pos (beq_self_eq_true _)⟩
  have ad2 : ad "BadModulus" = C2 := by rw [had]; rfl
  have B_BadModulus : ExcC K mg "BadModulus" (ad "BadModulus") := by rw [ad2]; exact ⟨xc2, PySem.W.mg_of KX G ac2, kc2, bc2, tc2⟩
  have EB_BadModulus : ErrC K mg C0 "BadModulus" (ad "BadModulus") := by rw [ad2]; exact ⟨PySem.W.mg_of KX G ac2, ⟨eg2, ek2, bc2, ed2, ea2, en, et, em2⟩, PySem.W.exm_ref bc0 dc0_ tc0 s20, if_pos (beq_self_eq_true _)⟩
  have ad3 : ad "BadSeveral" = C3 := by rw [had]; rfl
  have B_BadSeveral : ExcC K mg "BadSeveral" (ad "BadSeveral") := by rw [ad3]; exact ⟨xc3, PySem.W.mg_of KX G ac3, kc3, bc3, tc3⟩
  have EB_BadSeveral : ErrC K mg C0 "BadSeveral" (ad "BadSeveral") := by rw [ad3]; exact ⟨PySem.W.mg_of KX G ac3, ⟨eg3, ek3, bc3, ed3, ea3, en, et, em3⟩, PySem.W.exm_ref bc0 dc0_ tc0 s30, if_pos (beq_self_eq_true _)⟩
  have ad4 : ad "BadWeighing" = C4 := by rw [had]; rfl
  have B_BadWeighing : ExcC K mg "BadWeighing" (ad "BadWeighing") := by rw [ad4]; exact ⟨xc4, PySem.W.mg_of KX G ac4, kc4, bc4, tc4⟩
  have EB_BadWeighing : ErrC K mg C0 "BadWeighing" (ad "BadWeighing") := by rw [ad4]; exact ⟨PySem.W.mg_of KX G ac4, ⟨eg4, ek4, bc4, ed4, ea4, en, et, em4⟩, PySem.W.exm_ref bc0 dc0_ tc0 s40, if_pos (beq_self_eq_true _)⟩
  have Fc := fun_mk (x := "_law_caught") (qual := "_law_caught") (st := s__law_caught) l43 c43 k43
  have m_c := PySem.W.mg_of KX G a43
  have m_C0 := PySem.W.mg_of KX G ac0
  have F0 := fun_mk (x := "place_count") (qual := "place_count") (st := s_place_count) l0 c0 k0
  have C_place_count : Cal P w K mg base CX0 1 "place_count" ["dials"] (SpF ad f_place_count) := ⟨f0, _, ok_place_count F0, PySem.W.mg_of KX G a0, k0, F0.binds (fun _ _ _ _ _ _ us hl => match us, hl with | [_], _ => rfl)⟩
  have F1 := fun_mk (x := "all_places") (qual := "all_places") (st := s_all_places) l1 c1 k1
  have C_all_places : Cal P w K mg base CX0 1 "all_places" ["dials"] (SpF ad f_all_places) := ⟨f1, _, ok_all_places Z F1, PySem.W.mg_of KX G a1, k1, F1.binds (fun _ _ _ _ _ _ us hl => match us, hl with | [_], _ => rfl)⟩
  have F2 := fun_mk (x := "add") (qual := "add") (st := s_add) l2 c2 k2
  have C_add : Cal P w K mg base CX0 1 "add" ["dials", "one", "other"] (SpF ad f_add) := ⟨f2, _, ok_add Z F2, PySem.W.mg_of KX G a2, k2, F2.binds (fun _ _ _ _ _ _ us hl => match us, hl with | [_, _, _], _ => rfl)⟩
  have F3 := fun_mk (x := "is_number") (qual := "is_number") (st := s_is_number) l3 c3 k3
  have C_is_number : Cal P w K mg base CX0 1 "is_number" ["thing"] (SpF ad f_is_number) := ⟨f3, _, ok_is_number Z F3, PySem.W.mg_of KX G a3, k3, F3.binds (fun _ _ _ _ _ _ us hl => match us, hl with | [_], _ => rfl)⟩
  have F4 := fun_mk (x := "is_between") (qual := "is_between") (st := s_is_between) l4 c4 k4
  have C_is_between : Cal P w K mg base CX0 2 "is_between" ["thing", "low", "high"] (SpF ad f_is_between) := ⟨f4, _, ok_is_between C_is_number F4, PySem.W.mg_of KX G a4, k4, F4.binds (fun _ _ _ _ _ _ us hl => match us, hl with | [_, _, _], _ => rfl)⟩
  have F5 := fun_mk (x := "is_listed") (qual := "is_listed") (st := s_is_listed) l5 c5 k5
  have C_is_listed : Cal P w K mg base CX0 1 "is_listed" ["thing"] (SpF ad f_is_listed) := ⟨f5, _, ok_is_listed Z F5, PySem.W.mg_of KX G a5, k5, F5.binds (fun _ _ _ _ _ _ us hl => match us, hl with | [_], _ => rfl)⟩
  have F6 := fun_mk (x := "is_tuple_of") (qual := "is_tuple_of") (st := s_is_tuple_of) l6 c6 k6
  have C_is_tuple_of : Cal P w K mg base CX0 1 "is_tuple_of" ["thing", "many"] (SpF ad f_is_tuple_of) := ⟨f6, _, ok_is_tuple_of Z F6, PySem.W.mg_of KX G a6, k6, F6.binds (fun _ _ _ _ _ _ us hl => match us, hl with | [_, _], _ => rfl)⟩
  have F7 := fun_mk (x := "is_dials") (qual := "is_dials") (st := s_is_dials) l7 c7 k7
  have C_is_dials : Cal P w K mg base CX0 3 "is_dials" ["thing"] (SpF ad f_is_dials) := ⟨f7, _, ok_is_dials Z C_place_count C_is_between F7, PySem.W.mg_of KX G a7, k7, F7.binds (fun _ _ _ _ _ _ us hl => match us, hl with | [_], _ => rfl)⟩
  have F8 := fun_mk (x := "is_place") (qual := "is_place") (st := s_is_place) l8 c8 k8
  have C_is_place : Cal P w K mg base CX0 3 "is_place" ["dials", "thing"] (SpF ad f_is_place) := ⟨f8, _, ok_is_place Z C_is_tuple_of C_is_between F8, PySem.W.mg_of KX G a8, k8, F8.binds (fun _ _ _ _ _ _ us hl => match us, hl with | [_, _], _ => rfl)⟩
  have F9 := fun_mk (x := "are_places") (qual := "are_places") (st := s_are_places) l9 c9 k9
  have C_are_places : Cal P w K mg base CX0 4 "are_places" ["dials", "thing"] (SpF ad f_are_places) := ⟨f9, _, ok_are_places Z C_is_listed C_is_place F9, PySem.W.mg_of KX G a9, k9, F9.binds (fun _ _ _ _ _ _ us hl => match us, hl with | [_, _], _ => rfl)⟩
  have F10 := fun_mk (x := "check_dials") (qual := "check_dials") (st := s_check_dials) l10 c10 k10
  have C_check_dials : Cal P w K mg base (L2.CX P w) 4 "check_dials" ["dials"] (SpF ad f_check_dials) := ⟨f10, _, ok_check_dials B_BadDials C_is_dials F10, PySem.W.mg_of KX G a10, k10, F10.binds (fun _ _ _ _ _ _ us hl => match us, hl with | [_], _ => rfl)⟩
  have F11 := fun_mk (x := "check_several") (qual := "check_several") (st := s_check_several) l11 c11 k11
  have C_check_several : Cal P w K mg base (L2.CX P w) 5 "check_several" ["dials", "several"] (SpF ad f_check_several) := ⟨f11, _, ok_check_several B_BadSeveral C_are_places F11, PySem.W.mg_of KX G a11, k11, F11.binds (fun _ _ _ _ _ _ us hl => match us, hl with | [_, _], _ => rfl)⟩
  have F12 := fun_mk (x := "adds_up") (qual := "adds_up") (st := s_adds_up) l12 c12 k12
  have C_adds_up : Cal P w K mg base CX0 2 "adds_up" ["dials", "modulus", "weights"] (SpF ad f_adds_up) := ⟨f12, _, ok_adds_up Z C_all_places C_add F12, PySem.W.mg_of KX G a12, k12, F12.binds (fun _ _ _ _ _ _ us hl => match us, hl with | [_, _, _], _ => rfl)⟩
  have F13 := fun_mk (x := "is_weighed_by") (qual := "is_weighed_by") (st := s_is_weighed_by) l13 c13 k13
  have C_is_weighed_by : Cal P w K mg base CX0 3 "is_weighed_by" ["dials", "thing"] (SpF ad f_is_weighed_by) := ⟨f13, _, ok_is_weighed_by Z C_adds_up C_is_tuple_of C_is_between C_place_count F13, PySem.W.mg_of KX G a13, k13, F13.binds (fun _ _ _ _ _ _ us hl => match us, hl with | [_, _], _ => rfl)⟩
  have F14 := fun_mk (x := "is_weighing") (qual := "is_weighing") (st := s_is_weighing) l14 c14 k14
  have C_is_weighing : Cal P w K mg base (L2.CX P w) 5 "is_weighing" ["dials", "thing"] (SpF ad f_is_weighing) := ⟨f14, _, ok_is_weighing C_check_dials C_is_weighed_by F14, PySem.W.mg_of KX G a14, k14, F14.binds (fun _ _ _ _ _ _ us hl => match us, hl with | [_, _], _ => rfl)⟩
  have CP_is_weighing__thing__dials : CalP P w K mg base (L2.CX P w) 5 "is_weighing" ["thing", "dials"] ["dials", "thing"] [1, 0] (SpF ad f_is_weighing) := ⟨f14, _, ok_is_weighing C_check_dials C_is_weighed_by F14, PySem.W.mg_of KX G a14, k14, fun ws hl => match ws, hl with | [_, _], _ => rfl⟩
  have F15 := fun_mk (x := "weight_by") (qual := "weight_by") (st := s_weight_by) l15 c15 k15
  have C_weight_by : Cal P w K mg base CX0 1 "weight_by" ["modulus", "by_dial", "place"] (SpF ad f_weight_by) := ⟨f15, _, ok_weight_by Z Z_sum F15, PySem.W.mg_of KX G a15, k15, F15.binds (fun _ _ _ _ _ _ us hl => match us, hl with | [_, _, _], _ => rfl)⟩
  have F16 := fun_mk (x := "list_weighings") (qual := "list_weighings") (st := s_list_weighings) l16 c16 k16
  have C_list_weighings : Cal P w K mg base CX0 2 "list_weighings" ["dials", "modulus"] (SpF ad f_list_weighings) := ⟨f16, _, ok_list_weighings Z Z_sorted C_weight_by C_all_places F16, PySem.W.mg_of KX G a16, k16, F16.binds (fun _ _ _ _ _ _ us hl => match us, hl with | [_, _], _ => rfl)⟩
  have F17 := fun_mk (x := "weighings") (qual := "weighings") (st := s_weighings) l17 c17 k17
  have C_weighings : Cal P w K mg base (L2.CX P w) 5 "weighings" ["dials", "modulus"] (SpF ad f_weighings) := ⟨f17, _, ok_weighings B_BadModulus C_check_dials C_list_weighings C_is_between F17, PySem.W.mg_of KX G a17, k17, F17.binds (fun _ _ _ _ _ _ us hl => match us, hl with | [_, _], _ => rfl)⟩
  have CP_weighings__modulus__dials : CalP P w K mg base (L2.CX P w) 5 "weighings" ["modulus", "dials"] ["dials", "modulus"] [1, 0] (SpF ad f_weighings) := ⟨f17, _, ok_weighings B_BadModulus C_check_dials C_list_weighings C_is_between F17, PySem.W.mg_of KX G a17, k17, fun ws hl => match ws, hl with | [_, _], _ => rfl⟩
  have F18 := fun_mk (x := "weighed") (qual := "weighed") (st := s_weighed) l18 c18 k18
  have C_weighed : Cal P w K mg base (L2.CX P w) 6 "weighed" ["dials", "weighing", "several"] (SpF ad f_weighed) := ⟨f18, _, ok_weighed Z Z_sum B_BadWeighing C_check_dials C_check_several C_is_weighed_by C_all_places F18, PySem.W.mg_of KX G a18, k18, F18.binds (fun _ _ _ _ _ _ us hl => match us, hl with | [_, _, _], _ => rfl)⟩
  have CP_weighed__several__weighing__dials : CalP P w K mg base (L2.CX P w) 6 "weighed" ["several", "weighing", "dials"] ["dials", "weighing", "several"] [2, 1, 0] (SpF ad f_weighed) := ⟨f18, _, ok_weighed Z Z_sum B_BadWeighing C_check_dials C_check_several C_is_weighed_by C_all_places F18, PySem.W.mg_of KX G a18, k18, fun ws hl => match ws, hl with | [_, _, _], _ => rfl⟩
  have F19 := fun_mk (x := "_law_begun") (qual := "_law_begun") (st := s__law_begun) l19 c19 k19
  have C__law_begun : Cal P w K mg base CX0 1 "_law_begun" ["script"] (SpBegun K) := ⟨f19, _, ok__law_begun Z F19, PySem.W.mg_of KX G a19, k19, F19.binds (fun _ _ _ _ _ _ us hl => match us, hl with | [_], _ => rfl)⟩
  have F20 := fun_mk (x := "_law_draw") (qual := "_law_draw") (st := s__law_draw) l20 c20 k20
  have D__law_draw : Cal P w K mg base CX0 1 "_law_draw" ["state", "size_here"] SpDraw := ⟨f20, _, ok__law_draw Z F20, PySem.W.mg_of KX G a20, k20, F20.binds (fun _ _ _ _ _ _ us hl => match us, hl with | [_, _], _ => rfl)⟩
  have C__law_draw : Cal P w K mg base CX0 1 "_law_draw" ["state", "size_here"] (SpW [(Pt1, ("_law_refused_right.<locals>.<lambda>" : Str))] W__law_draw) := ⟨f20, _, (ok__law_draw Z F20).imp pri_draw, PySem.W.mg_of KX G a20, k20, F20.binds (fun _ _ _ _ _ _ us hl => match us, hl with | [_, _], _ => rfl)⟩
  have F21 := fun_mk (x := "_law_pick") (qual := "_law_pick") (st := s__law_pick) l21 c21 k21
  have C__law_pick : Cal P w K mg base CX0 2 "_law_pick" ["state", "several"] (SpW [(Pt1, ("_law_refused_right.<locals>.<lambda>" : Str))] W__law_pick) := ⟨f21, _, ok__law_pick Z C__law_draw F21, PySem.W.mg_of KX G a21, k21, F21.binds (fun _ _ _ _ _ _ us hl => match us, hl with | [_, _], _ => rfl)⟩
  have F22 := fun_mk (x := "_law_mixed") (qual := "_law_mixed") (st := s__law_mixed) l22 c22 k22
  have C__law_mixed : Cal P w K mg base CX0 2 "_law_mixed" ["state", "several"] (SpW [(Pt1, ("_law_refused_right.<locals>.<lambda>" : Str))] W__law_mixed) := ⟨f22, _, (ok__law_mixed Z D__law_draw F22).imp pri_mixed, PySem.W.mg_of KX G a22, k22, F22.binds (fun _ _ _ _ _ _ us hl => match us, hl with | [_, _], _ => rfl)⟩
  have F23 := fun_mk (x := "_law_is_whole") (qual := "_law_is_whole") (st := s__law_is_whole) l23 c23 k23
  have C__law_is_whole : Cal P w K mg base CX0 1 "_law_is_whole" ["item"] (SpF ad f__law_is_whole) := ⟨f23, _, ok__law_is_whole Z F23, PySem.W.mg_of KX G a23, k23, F23.binds (fun _ _ _ _ _ _ us hl => match us, hl with | [_], _ => rfl)⟩
  have F24 := fun_mk (x := "_law_odd") (qual := "_law_odd") (st := s__law_odd) l24 c24 k24
  have C__law_odd : Cal P w K mg base CX0 3 "_law_odd" ["state"] (SpW [(Pt1, ("_law_refused_right.<locals>.<lambda>" : Str))] W__law_odd) := ⟨f24, _, ok__law_odd C__law_pick F24, PySem.W.mg_of KX G a24, k24, F24.binds (fun _ _ _ _ _ _ us hl => match us, hl with | [_], _ => rfl)⟩
  have F25 := fun_mk (x := "_law_count") (qual := "_law_count") (st := s__law_count) l25 c25 k25
  have C__law_count : Cal P w K mg base CX0 1 "_law_count" ["dials_here"] (SpF ad f__law_count) := ⟨f25, _, ok__law_count F25, PySem.W.mg_of KX G a25, k25, F25.binds (fun _ _ _ _ _ _ us hl => match us, hl with | [_], _ => rfl)⟩
  have F26 := fun_mk (x := "_law_dials") (qual := "_law_dials") (st := s__law_dials) l26 c26 k26
  have C__law_dials : Cal P w K mg base CX0 3 "_law_dials" ["state", "most"] (SpW [(Pt1, ("_law_refused_right.<locals>.<lambda>" : Str))] W__law_dials) := ⟨f26, _, ok__law_dials C__law_pick C__law_count F26, PySem.W.mg_of KX G a26, k26, F26.binds (fun _ _ _ _ _ _ us hl => match us, hl with | [_, _], _ => rfl)⟩
  have F27 := fun_mk (x := "_law_places") (qual := "_law_places") (st := s__law_places) l27 c27 k27
  have C__law_places : Cal P w K mg base CX0 1 "_law_places" ["dials_here"] (SpF ad f__law_places) := ⟨f27, _, ok__law_places Z F27, PySem.W.mg_of KX G a27, k27, F27.binds (fun _ _ _ _ _ _ us hl => match us, hl with | [_], _ => rfl)⟩
  have F28 := fun_mk (x := "_law_plus") (qual := "_law_plus") (st := s__law_plus) l28 c28 k28
  have C__law_plus : Cal P w K mg base CX0 1 "_law_plus" ["dials_here", "one", "other"] (SpF ad f__law_plus) := ⟨f28, _, ok__law_plus Z F28, PySem.W.mg_of KX G a28, k28, F28.binds (fun _ _ _ _ _ _ us hl => match us, hl with | [_, _, _], _ => rfl)⟩
  have F29 := fun_mk (x := "_law_place") (qual := "_law_place") (st := s__law_place) l29 c29 k29
  have C__law_place : Cal P w K mg base CX0 2 "_law_place" ["state", "dials_here"] (SpW [(Pt1, ("_law_refused_right.<locals>.<lambda>" : Str))] W__law_place) := ⟨f29, _, ok__law_place Z C__law_draw F29, PySem.W.mg_of KX G a29, k29, F29.binds (fun _ _ _ _ _ _ us hl => match us, hl with | [_, _], _ => rfl)⟩
  have F30 := fun_mk (x := "_law_bool_place") (qual := "_law_bool_place") (st := s__law_bool_place) l30 c30 k30
  have C__law_bool_place : Cal P w K mg base CX0 3 "_law_bool_place" ["state", "place_here"] (SpW [(Pt1, ("_law_refused_right.<locals>.<lambda>" : Str))] W__law_bool_place) := ⟨f30, _, ok__law_bool_place Z_enumerate C__law_pick F30, PySem.W.mg_of KX G a30, k30, F30.binds (fun _ _ _ _ _ _ us hl => match us, hl with | [_, _], _ => rfl)⟩
  have F31 := fun_mk (x := "_law_bad_place") (qual := "_law_bad_place") (st := s__law_bad_place) l31 c31 k31
  have C__law_bad_place : Cal P w K mg base CX0 4 "_law_bad_place" ["state", "dials_here"] (SpW [(Pt1, ("_law_refused_right.<locals>.<lambda>" : Str))] W__law_bad_place) := ⟨f31, _, ok__law_bad_place Z C__law_pick C__law_place C__law_draw C__law_bool_place F31, PySem.W.mg_of KX G a31, k31, F31.binds (fun _ _ _ _ _ _ us hl => match us, hl with | [_, _], _ => rfl)⟩
  have F32 := fun_mk (x := "_law_bad_dials") (qual := "_law_bad_dials") (st := s__law_bad_dials) l32 c32 k32
  have C__law_bad_dials : Cal P w K mg base CX0 3 "_law_bad_dials" ["state"] (SpW [(Pt1, ("_law_refused_right.<locals>.<lambda>" : Str))] W__law_bad_dials) := ⟨f32, _, ok__law_bad_dials C__law_pick F32, PySem.W.mg_of KX G a32, k32, F32.binds (fun _ _ _ _ _ _ us hl => match us, hl with | [_], _ => rfl)⟩
  have F33 := fun_mk (x := "_law_turned_dials") (qual := "_law_turned_dials") (st := s__law_turned_dials) l33 c33 k33
  have C__law_turned_dials : Cal P w K mg base CX0 4 "_law_turned_dials" ["state", "most"] (SpW [(Pt1, ("_law_refused_right.<locals>.<lambda>" : Str))] W__law_turned_dials) := ⟨f33, _, ok__law_turned_dials Z C__law_mixed C__law_dials F33, PySem.W.mg_of KX G a33, k33, F33.binds (fun _ _ _ _ _ _ us hl => match us, hl with | [_, _], _ => rfl)⟩
  have F34 := fun_mk (x := "_law_said") (qual := "_law_said") (st := s__law_said) l34 c34 k34
  have C__law_said : Cal P w K mg base CX0 1 "_law_said" ["answer", "due"] (SpF ad f__law_said) := ⟨f34, _, ok__law_said Z F34, PySem.W.mg_of KX G a34, k34, F34.binds (fun _ _ _ _ _ _ us hl => match us, hl with | [_, _], _ => rfl)⟩
  have F35 := fun_mk (x := "_law_gcd") (qual := "_law_gcd") (st := s__law_gcd) l35 c35 k35
  have C__law_gcd : Cal P w K mg base CX0 1 "_law_gcd" ["one", "other"] (SpF ad f__law_gcd) := ⟨f35, _, ok__law_gcd Z F35, PySem.W.mg_of KX G a35, k35, F35.binds (fun _ _ _ _ _ _ us hl => match us, hl with | [_, _], _ => rfl)⟩
  have F36 := fun_mk (x := "_law_led") (qual := "_law_led") (st := s__law_led) l36 c36 k36
  have C__law_led : Cal P w K mg base CX0 2 "_law_led" ["dials_here", "told"] (SpF ad f__law_led) := ⟨f36, _, ok__law_led Z Z_dict C__law_places F36, PySem.W.mg_of KX G a36, k36, F36.binds (fun _ _ _ _ _ _ us hl => match us, hl with | [_, _], _ => rfl)⟩
  have F37 := fun_mk (x := "_law_units") (qual := "_law_units") (st := s__law_units) l37 c37 k37
  have C__law_units : Cal P w K mg base CX0 1 "_law_units" ["dials_here"] (SpF ad f__law_units) := ⟨f37, _, ok__law_units Z F37, PySem.W.mg_of KX G a37, k37, F37.binds (fun _ _ _ _ _ _ us hl => match us, hl with | [_], _ => rfl)⟩
  have F38 := fun_mk (x := "_law_is_weighing") (qual := "_law_is_weighing") (st := s__law_is_weighing) l38 c38 k38
  have C__law_is_weighing : Cal P w K mg base CX0 3 "_law_is_weighing" ["dials_here", "item"] (SpF ad f__law_is_weighing) := ⟨f38, _, ok__law_is_weighing Z C__law_led C__law_units C__law_is_whole C__law_count C__law_plus F38, PySem.W.mg_of KX G a38, k38, F38.binds (fun _ _ _ _ _ _ us hl => match us, hl with | [_, _], _ => rfl)⟩
  have F39 := fun_mk (x := "_law_list_right") (qual := "_law_list_right") (st := s__law_list_right) l39 c39 k39
  have C__law_list_right : Cal P w K mg base (L2.CX P w) 6 "_law_list_right" ["dials_here", "modulus_here"] (SpF ad f__law_list_right) := ⟨f39, _, ok__law_list_right Z C_weighings CP_weighings__modulus__dials C__law_gcd C__law_is_weighing F39, PySem.W.mg_of KX G a39, k39, F39.binds (fun _ _ _ _ _ _ us hl => match us, hl with | [_, _], _ => rfl)⟩
  have F40 := fun_mk (x := "_law_otherwise") (qual := "_law_otherwise") (st := s__law_otherwise) l40 c40 k40
  have C__law_otherwise : Cal P w K mg base CX0 3 "_law_otherwise" ["state", "dials_here", "told"] (SpW [(Pt1, ("_law_refused_right.<locals>.<lambda>" : Str))] W__law_otherwise) := ⟨f40, _, ok__law_otherwise Z C__law_draw C__law_pick F40, PySem.W.mg_of KX G a40, k40, F40.binds (fun _ _ _ _ _ _ us hl => match us, hl with | [_, _, _], _ => rfl)⟩
  have F41 := fun_mk (x := "_law_weighed_right") (qual := "_law_weighed_right") (st := s__law_weighed_right) l41 c41 k41
  have C__law_weighed_right : CalG P w K mg base CX0 7 "_law_weighed_right" ["state", "dials_here", "told"] (SpW [(Pt1, ("_law_refused_right.<locals>.<lambda>" : Str))] W__law_weighed_right) := ⟨f41, _, ok__law_weighed_right Z Z_sum C__law_place C__law_led C_weighed CP_weighed__several__weighing__dials C__law_draw F41, PySem.W.mg_of KX G a41, k41, F41.binds (fun _ _ _ _ _ _ us hl => match us, hl with | [_, _, _], _ => rfl)⟩
  have F42 := fun_mk (x := "_law_refused_right") (qual := "_law_refused_right") (st := s__law_refused_right) l42 c42 k42
  have C__law_refused_right : Cal P w K mg base CX0 33 "_law_refused_right" ["state", "dials_here", "told"] (SpW [(Pt1, ("_law_refused_right.<locals>.<lambda>" : Str))] W__law_refused_right) := ⟨f42, _, okL__law_refused_right (TL := [(Pt1, ("_law_refused_right.<locals>.<lambda>" : Str))]) (Pt := Pt1) Z C__law_pick C__law_bad_dials C__law_place C__law_bad_place C_weighings C_is_weighing C_weighed EB_BadDials EB_BadModulus EB_BadSeveral EB_BadWeighing Fc m_c m_C0 TB1 (by simp) (fun p hp e => by simp only [List.mem_cons, List.not_mem_nil, or_false] at hp; rcases hp with rfl; rfl) l42 c42, PySem.W.mg_of KX G a42, k42, F42.binds (fun _ _ _ _ _ _ us hl => match us, hl with | [_, _, _], _ => rfl)⟩
  have mgL := PySem.W.mg_of KX G a44
  rw [hfa] at mgL
  cases mgL
  exact law_run (TL := [(Pt1, ("_law_refused_right.<locals>.<lambda>" : Str))]) Z C__law_pick C__law_turned_dials C__law_list_right C_weighings C__law_is_weighing C__law_draw C__law_odd C__law_weighed_right C__law_refused_right C__law_otherwise C__law_said C_is_weighing CP_is_weighing__thing__dials C__law_begun l44 c44 e0 (.of_eq rfl) rfl ⟨rfl, by decide, by decide⟩ hS hl (fun p hp => by simp only [List.mem_cons, List.not_mem_nil, or_false] at hp; rcases hp with rfl; exact hPt1) (fun s => law_math a ns.length hl s) fun _ => rfl
end Mv
open PySem PyProof.Rows PySem.W
set_option maxRecDepth 99999 in
set_option maxHeartbeats 0 in
theorem PySem.Challenge.cw_movedround_k32_weighings_listed_and_judg_holds : PySem.Challenge.rw_movedround_k32_weighings_listed_and_judg.Holds := by
  w_on; o_law; k_head; (case hw => w_witness2)
  k_fill
  refine Mv.walk_at (n := 63) rfl (by decide) rfl (fun w h Y => PySem.W.km_in_of Y) (by decide +kernel) ?F
  case F =>
    intro w mg fa h Y KX G hmg
    refine' Mv.all_mk KX G hmg ?a0 ?l0 ?c0 ?k0 ?a1 ?l1 ?c1 ?k1 ?a2 ?l2 ?c2 ?k2 ?a3 ?l3 ?c3 ?k3 ?a4 ?l4 ?c4 ?k4 ?a5 ?l5 ?c5 ?k5 ?a6 ?l6 ?c6 ?k6 ?a7 ?l7 ?c7 ?k7 ?a8 ?l8 ?c8 ?k8 ?a9 ?l9 ?c9 ?k9 ?a10 ?l10 ?c10 ?k10 ?a11 ?l11 ?c11 ?k11 ?a12 ?l12 ?c12 ?k12 ?a13 ?l13 ?c13 ?k13 ?a14 ?l14 ?c14 ?k14 ?a15 ?l15 ?c15 ?k15 ?a16 ?l16 ?c16 ?k16 ?a17 ?l17 ?c17 ?k17 ?a18 ?l18 ?c18 ?k18 ?a19 ?l19 ?c19 ?k19 ?a20 ?l20 ?c20 ?k20 ?a21 ?l21 ?c21 ?k21 ?a22 ?l22 ?c22 ?k22 ?a23 ?l23 ?c23 ?k23 ?a24 ?l24 ?c24 ?k24 ?a25 ?l25 ?c25 ?k25 ?a26 ?l26 ?c26 ?k26 ?a27 ?l27 ?c27 ?k27 ?a28 ?l28 ?c28 ?k28 ?a29 ?l29 ?c29 ?k29 ?a30 ?l30 ?c30 ?k30 ?a31 ?l31 ?c31 ?k31 ?a32 ?l32 ?c32 ?k32 ?a33 ?l33 ?c33 ?k33 ?a34 ?l34 ?c34 ?k34 ?a35 ?l35 ?c35 ?k35 ?a36 ?l36 ?c36 ?k36 ?a37 ?l37 ?c37 ?k37 ?a38 ?l38 ?c38 ?k38 ?a39 ?l39 ?c39 ?k39 ?a40 ?l40 ?c40 ?k40 ?a41 ?l41 ?c41 ?k41 ?a42 ?l42 ?c42 ?k42 ?a43 ?l43 ?c43 ?k43 ?a44 ?l44 ?c44 ?k44 ?z_len ?z_zip ?z_tuple ?z_list ?z_range ?z_all ?z_int ?z_bool ?z_isinstance ?z_abs ?z_min ?z_repr ?z_sorted ?z_enumerate ?z_sum ?z_dict ?ac0 ?bc0 ?tc0 ?dc0_ ?ac1 ?kc1 ?xc1 ?bc1 ?tc1 ?s10 ?eg1 ?ek1 ?ed1 ?ea1 ?em1 ?ac2 ?kc2 ?xc2 ?bc2 ?tc2 ?s20 ?eg2 ?ek2 ?ed2 ?ea2 ?em2 ?ac3 ?kc3 ?xc3 ?bc3 ?tc3 ?s30 ?eg3 ?ek3 ?ed3 ?ea3 ?em3 ?ac4 ?kc4 ?xc4 ?bc4 ?tc4 ?s40 ?eg4 ?ek4 ?ed4 ?ea4 ?em4 ?en ?et ?lc1T ?vT1 ?hCode1 ?nP1 ?tP1
    (case a0 => k_is)
    (case l0 => k_is)
    (case c0 => k_is)
    (case k0 => k_is)
    (case a1 => k_is)
    (case l1 => k_is)
    (case c1 => k_is)
    (case k1 => k_is)
    (case a2 => k_is)
    (case l2 => k_is)
    (case c2 => k_is)
    (case k2 => k_is)
    (case a3 => k_is)
    (case l3 => k_is)
    (case c3 => k_is)
    (case k3 => k_is)
    (case a4 => k_is)
    (case l4 => k_is)
    (case c4 => k_is)
    (case k4 => k_is)
    (case a5 => k_is)
    (case l5 => k_is)
    (case c5 => k_is)
    (case k5 => k_is)
    (case a6 => k_is)
    (case l6 => k_is)
    (case c6 => k_is)
    (case k6 => k_is)
    (case a7 => k_is)
    (case l7 => k_is)
    (case c7 => k_is)
    (case k7 => k_is)
    (case a8 => k_is)
    (case l8 => k_is)
    (case c8 => k_is)
    (case k8 => k_is)
    (case a9 => k_is)
    (case l9 => k_is)
    (case c9 => k_is)
    (case k9 => k_is)
    (case a10 => k_is)
    (case l10 => k_is)
    (case c10 => k_is)
    (case k10 => k_is)
    (case a11 => k_is)
    (case l11 => k_is)
    (case c11 => k_is)
    (case k11 => k_is)
    (case a12 => k_is)
    (case l12 => k_is)
    (case c12 => k_is)
    (case k12 => k_is)
    (case a13 => k_is)
    (case l13 => k_is)
    (case c13 => k_is)
    (case k13 => k_is)
    (case a14 => k_is)
    (case l14 => k_is)
    (case c14 => k_is)
    (case k14 => k_is)
    (case a15 => k_is)
    (case l15 => k_is)
    (case c15 => k_is)
    (case k15 => k_is)
    (case a16 => k_is)
    (case l16 => k_is)
    (case c16 => k_is)
    (case k16 => k_is)
    (case a17 => k_is)
    (case l17 => k_is)
    (case c17 => k_is)
    (case k17 => k_is)
    (case a18 => k_is)
    (case l18 => k_is)
    (case c18 => k_is)
    (case k18 => k_is)
    (case a19 => k_is)
    (case l19 => k_is)
    (case c19 => k_is)
    (case k19 => k_is)
    (case a20 => k_is)
    (case l20 => k_is)
    (case c20 => k_is)
    (case k20 => k_is)
    (case a21 => k_is)
    (case l21 => k_is)
    (case c21 => k_is)
    (case k21 => k_is)
    (case a22 => k_is)
    (case l22 => k_is)
    (case c22 => k_is)
    (case k22 => k_is)
    (case a23 => k_is)
    (case l23 => k_is)
    (case c23 => k_is)
    (case k23 => k_is)
    (case a24 => k_is)
    (case l24 => k_is)
    (case c24 => k_is)
    (case k24 => k_is)
    (case a25 => k_is)
    (case l25 => k_is)
    (case c25 => k_is)
    (case k25 => k_is)
    (case a26 => k_is)
    (case l26 => k_is)
    (case c26 => k_is)
    (case k26 => k_is)
    (case a27 => k_is)
    (case l27 => k_is)
    (case c27 => k_is)
    (case k27 => k_is)
    (case a28 => k_is)
    (case l28 => k_is)
    (case c28 => k_is)
    (case k28 => k_is)
    (case a29 => k_is)
    (case l29 => k_is)
    (case c29 => k_is)
    (case k29 => k_is)
    (case a30 => k_is)
    (case l30 => k_is)
    (case c30 => k_is)
    (case k30 => k_is)
    (case a31 => k_is)
    (case l31 => k_is)
    (case c31 => k_is)
    (case k31 => k_is)
    (case a32 => k_is)
    (case l32 => k_is)
    (case c32 => k_is)
    (case k32 => k_is)
    (case a33 => k_is)
    (case l33 => k_is)
    (case c33 => k_is)
    (case k33 => k_is)
    (case a34 => k_is)
    (case l34 => k_is)
    (case c34 => k_is)
    (case k34 => k_is)
    (case a35 => k_is)
    (case l35 => k_is)
    (case c35 => k_is)
    (case k35 => k_is)
    (case a36 => k_is)
    (case l36 => k_is)
    (case c36 => k_is)
    (case k36 => k_is)
    (case a37 => k_is)
    (case l37 => k_is)
    (case c37 => k_is)
    (case k37 => k_is)
    (case a38 => k_is)
    (case l38 => k_is)
    (case c38 => k_is)
    (case k38 => k_is)
    (case a39 => k_is)
    (case l39 => k_is)
    (case c39 => k_is)
    (case k39 => k_is)
    (case a40 => k_is)
    (case l40 => k_is)
    (case c40 => k_is)
    (case k40 => k_is)
    (case a41 => k_is)
    (case l41 => k_is)
    (case c41 => k_is)
    (case k41 => k_is)
    (case a42 => k_is)
    (case l42 => k_is)
    (case c42 => k_is)
    (case k42 => k_is)
    (case a43 => k_is)
    (case l43 => k_is)
    (case c43 => k_is)
    (case k43 => k_is)
    (case a44 => k_is)
    (case l44 => k_is)
    (case c44 => k_is)
    (case k44 => k_is)
    (case z_len => k_is)
    (case z_zip => k_is)
    (case z_tuple => k_is)
    (case z_list => k_is)
    (case z_range => k_is)
    (case z_all => k_is)
    (case z_int => k_is)
    (case z_bool => k_is)
    (case z_isinstance => k_is)
    (case z_abs => k_is)
    (case z_min => k_is)
    (case z_repr => k_is)
    (case z_sorted => k_is)
    (case z_enumerate => k_is)
    (case z_sum => k_is)
    (case z_dict => k_is)
    (case ac0 => k_is)
    (case bc0 => k_is)
    (case tc0 => k_is)
    (case dc0_ => k_is)
    (case ac1 => k_is)
    (case kc1 => k_is)
    (case xc1 => k_exc)
    (case bc1 => k_is)
    (case tc1 => k_is)
    (case s10 => k_is)
    (case eg1 => k_is)
    (case ek1 => k_is)
    (case ed1 => k_is)
    (case ea1 => k_is)
    (case em1 => k_is)
    (case ac2 => k_is)
    (case kc2 => k_is)
    (case xc2 => k_exc)
    (case bc2 => k_is)
    (case tc2 => k_is)
    (case s20 => k_is)
    (case eg2 => k_is)
    (case ek2 => k_is)
    (case ed2 => k_is)
    (case ea2 => k_is)
    (case em2 => k_is)
    (case ac3 => k_is)
    (case kc3 => k_is)
    (case xc3 => k_exc)
    (case bc3 => k_is)
    (case tc3 => k_is)
    (case s30 => k_is)
    (case eg3 => k_is)
    (case ek3 => k_is)
    (case ed3 => k_is)
    (case ea3 => k_is)
    (case em3 => k_is)
    (case ac4 => k_is)
    (case kc4 => k_is)
    (case xc4 => k_exc)
    (case bc4 => k_is)
    (case tc4 => k_is)
    (case s40 => k_is)
    (case eg4 => k_is)
    (case ek4 => k_is)
    (case ed4 => k_is)
    (case ea4 => k_is)
    (case em4 => k_is)
    (case en => k_is)
    (case et => k_is)
    (case lc1T => k_is)
    (case vT1 => rfl)
    (case hCode1 => kernel_rfl)
    (case nP1 => kernel_rfl)
    (case tP1 => exact PySem.W.km_tabs_of Y _ (by simp))
