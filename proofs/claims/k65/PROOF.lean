import PyProof.Rows.All
import Wide.All
import OpenK.AllK
import Wide.FinOn
import HandS.Base
import HandS.Call
import HandS.List
import HandS.Dict
import HandS.Iter
import KE.GoesMore
import KE.GoesEnum
import HandS.ForMost
import HandS.Evl
import HandS.TupAny
import HandS.TupMul
import HandS.TupLe
import HandS.IsInst
import HandS.DictComp
import HandS.DictTup
import HandS.Conv
import KE.KDictList
import PyProof.DictMoreH
import HandS.ForExc
import PyProof.TupleOfSeq
import KE.SortData
import HandS.Deep
import HandS.ExcOwn
import HandS.ExcValue
import HandS.Style
import HandS.TupSets
import HandS.Walk
import HandS.DictSubView
import KE.KDictCopyH
import PyProof.CollectWalk
import KE.KDictZip
import PyProof.ReprRoads
import PyProof.ReprBulk
import HandS.Lambda
import HandS.EndTab
import HandS.ExcIs
import HandS.RaiseMore
import PyProof.CallFns
import KE.KDictPairs
import PyProof.ListNew
import HandS.TupLen
import KE.DataFind
import KE.KExcIs
import KE.OsGo
import HandS.ExcField
import HandS.ExcInit
import HandS.ForSpec
import PyProof.EqAt
import PyProof.EqKinds
import PyProof.TupleCall
import Open.SpecLaws
import KE.KDictOf
import HandS.TryOnly
import KE.DataEq
import HandS.Strs
import KE.DataMinMax
import PySem.Challenge.RW_movedround_k65_whole_fewer_than_a_prime
set_option Elab.async false
set_option linter.all false
set_option maxRecDepth 100000
set_option maxHeartbeats 3999999
namespace Mv
open PySem L2 PyProof.Rows PySem.Spec
def keyV : V → Bool
  | .int _ => true
  | .str _ => true
  | _ => false
def keyA (xs : List V) : Bool := !xs.isEmpty && xs.all keyV
def tupO (o : Obj) (xs : List V) : HO := if keyA xs = true then .tup xs else .frz o (.tup xs)
theorem tupO_key {o : Obj} {xs : List V} (h : keyA xs = true) : tupO o xs = .tup xs := if_pos h
theorem tupO_frz {o : Obj} {xs : List V} (h : keyA xs = false) : tupO o xs = .frz o (.tup xs) := if_neg (by rw [h]; exact Bool.false_ne_true)
theorem tupO_cases (o : Obj) (xs : List V) : tupO o xs = .tup xs ∨ tupO o xs = .frz o (.tup xs) := by
  unfold tupO
  split
  · exact .inl rfl
  · exact .inr rfl
theorem rdO {H : Hp} {a : Addr} {o : Obj} {xs : List V} (e : H a = some (tupO o xs)) : Rd H a (.tup xs) := by
  rcases tupO_cases o xs with q | q
  · exact .inl (e.trans (congrArg some q))
  · exact .inr ⟨o, e.trans (congrArg some q)⟩
theorem sqO {K : PySem.W.Frag} {H : Hp} {a : Addr} {o : Obj} {xs : List V} (e : H a = some (tupO o xs)) : SqT K H a xs := .inl (rdO e)
theorem okO {P : Program} {w : World} {H : Hp} {h : Heap} {a : Addr} {o : Obj} {xs : List V} {its : List Value} (z : xs.length ≤ sizeLine) (r : Vals xs its) (t : IsTup h a its.toArray) (e : h.get? a = some o) : ObjOk P w H h a (tupO o xs) := by
  rcases tupO_cases o xs with q | q
  · rw [q]; exact ⟨z, its, r, t⟩
  · rw [q]; exact ⟨e, z, its, r, t⟩
def TupA (G : Hp) (a : Addr) (xs : List V) : Prop := ∃ o : Obj, o.dict = none ∧ G a = some (tupO o xs)
theorem TupA.mono {G G' : Hp} {a : Addr} {xs : List V} (h : TupA G a xs) (e : ∀ a o, G a = some o → G' a = some o) : TupA G' a xs := by
  obtain ⟨o, n, h⟩ := h
  exact ⟨o, n, e _ _ h⟩
theorem TupA.sq {K : PySem.W.Frag} {G : Hp} {a : Addr} {xs : List V} (h : TupA G a xs) : SqT K G a xs := by
  obtain ⟨o, _, h⟩ := h
  exact sqO h
theorem TupA.new {H : Hp} {p : Addr} {xs : List V} {o : Obj} (n : o.dict = none) : TupA (upd H p (tupO o xs)) p xs := ⟨o, n, upd_same⟩
theorem TupA.ofKey {G : Hp} {a : Addr} {xs : List V} (h : G a = some (.tup xs)) (k : keyA xs = true) : TupA G a xs := ⟨{ cls := .type "tuple", data := .seq #[] }, rfl, by rw [tupO_key k]; exact h⟩
theorem TupA.key {G : Hp} {a : Addr} {xs : List V} (h : TupA G a xs) (k : keyA xs = true) : G a = some (.tup xs) := by
  obtain ⟨o, _, h⟩ := h
  rwa [tupO_key k] at h
theorem TupA.by {G G' : Hp} {a : Addr} {xs : List V} (h : TupA G a xs) (f : ∀ o, (o = .tup xs ∨ ∃ u, o = .frz u (.tup xs)) → G a = some o → G' a = some o) : TupA G' a xs := by
  obtain ⟨o, n, h⟩ := h
  exact ⟨o, n, f _ ((tupO_cases o xs).imp id fun e => ⟨o, e⟩) h⟩
theorem keyV_kk : ∀ (k : List L2.Key), (k.map kV).all keyV = true
  | [] => rfl
  | .inl _ :: k => keyV_kk k
  | .inr _ :: k => keyV_kk k
theorem keyV_ks {k : List L2.Key} (ne : k ≠ []) : keyA (k.map kV) = true := by
  unfold keyA
  rw [keyV_kk]
  cases k with
  | nil => exact (ne rfl).elim
  | cons _ _ => rfl
def SqK (K : PySem.W.Frag) : Bool → Hp → Addr → List V → Prop
  | true, H, a, xs => SqL K H a xs
  | false, H, a, xs => SqT K H a xs
def ItrK : Bool → Heap → Addr → Addr → Nat → Prop
  | true, h, it, a, i => h.IsListIter it a i
  | false, h, it, a, i => h.IsTupleIter it a i
def HasK : Bool → Heap → Addr → Array Value → Prop
  | true, h, a, xs => h.IsList a xs
  | false, h, a, xs => h.IsTuple a xs
def newK : Bool → Addr → Obj
  | true, a => { cls := .type "list_iterator", data := .fields #[.ref a, .int 0 0] }
  | false, a => { cls := .type "tuple_iterator", data := .fields #[.ref a, .int 0 0] }
theorem drawsK {prog : Program} {w : World} {A : Around} (k : Bool) (hh : A.handled = none) (it l : Addr) (hne : l ≠ it) (items : Array Value) :
    Draws prog w A it [it, l] items.size (fun i v => items[i]? = some v) (fun i h => ItrK k h it l i ∧ HasK k h l items) := by
  cases k with
  | true => exact Draws.list hh it l hne items
  | false => exact Draws.tuple hh it l hne items
theorem beginsK (k : Bool) (l : Addr) (items : Array Value) : Begins (.ref l) (newK k l) fun h => HasK k h l items := by
  cases k with
  | true => exact begins_list l items
  | false => exact begins_tuple l items
theorem itrK_new {k : Bool} {h : Heap} {it a : Addr} (e : h.get? it = some (newK k a)) : ItrK k h it a 0 := by
  cases k with
  | true => exact ⟨_, e, rfl, rfl⟩
  | false => exact ⟨_, e, rfl, rfl⟩
theorem ItrK.ob {k : Bool} {h : Heap} {it a : Addr} {i : Nat} (x : ItrK k h it a i) : ∃ o, h.get? it = some o ∧ ∀ v, o.data ≠ .cell v := by
  cases k with
  | true => obtain ⟨o, e, _, d⟩ := x; exact ⟨o, e, fun v q => by rw [d] at q; cases q⟩
  | false => obtain ⟨o, e, _, d⟩ := x; exact ⟨o, e, fun v q => by rw [d] at q; cases q⟩
theorem ItrK.at {k : Bool} {h h' : Heap} {it a : Addr} {i : Nat} (x : ItrK k h it a i) (e : ∀ o, h.get? it = some o → h'.get? it = some o) : ItrK k h' it a i := by
  cases k with
  | true => exact Heap.IsListIter.at x e
  | false => exact Heap.IsTupleIter.at x e
theorem HasK.lt {k : Bool} {h : Heap} {a : Addr} {xs : Array Value} (x : HasK k h a xs) : a < h.objs.size := by
  cases k with
  | true => obtain ⟨o, e, _⟩ := x; exact Heap.lt_size e
  | false => obtain ⟨o, e, _⟩ := x; exact Heap.lt_size e
section
variable {X : Cx} {pns : List (Addr × Obj)} {σ : L2.St} {H : Hp} {s : Shared} {a : Addr} {xs : List V} {k : Bool}
theorem seqK (I : Inv X pns σ H s) (h : SqK X.K k H a xs) : ∃ its : List Value, Vals xs its ∧ HasK k s.heap a its.toArray ∧ xs.length ≤ sizeLine := by
  cases k with
  | true => obtain ⟨its, rv, p, z⟩ := I.list h; exact ⟨its, rv, p.isList, z⟩
  | false => obtain ⟨its, rv, p, z⟩ := I.tuple h; exact ⟨its, rv, p, z⟩
theorem seqK_inj {ys : List V} (I : Inv X pns σ H s) (h : SqK X.K k H a xs) (h' : SqK X.K k H a ys) : xs = ys := by
  cases k with
  | true => exact I.list_inj h h'
  | false => exact I.tuple_inj h h'
end
def It3 (K : PySem.W.Frag) (k1 k2 k3 : Bool) (a b c : Addr) : It :=
  ⟨fun i H => ∃ (xs ys zs : List V) (x y z : V), SqK K k1 H a xs ∧ SqK K k2 H b ys ∧ SqK K k3 H c zs ∧ xs[i]? = some x ∧ ys[i]? = some y ∧ zs[i]? = some z,
    fun i H v H' => ∃ T x y z o, v = .ref T ∧ H T = none ∧ o.dict = none ∧ H' = upd H T (tupO o [x, y, z]) ∧ (∀ xs, SqK K k1 H a xs → xs[i]? = some x) ∧ (∀ ys, SqK K k2 H b ys → ys[i]? = some y) ∧ ∀ zs, SqK K k3 H c zs → zs[i]? = some z,
    fun i H => ∃ xs ys zs : List V, SqK K k1 H a xs ∧ SqK K k2 H b ys ∧ SqK K k3 H c zs ∧ i ≤ xs.length ∧ i ≤ ys.length ∧ i ≤ zs.length ∧ (i = xs.length ∨ i = ys.length ∨ i = zs.length)⟩
structure Sep3 (z TI TO i1 i2 i3 a b c : Addr) : Prop where
  sep : ZipSep3 z TI TO i1 i2 i3 [i1, a] [i2, b] [i3, c]
  n1 : a ≠ i1
  n2 : b ≠ i2
  n3 : c ≠ i3
theorem turn_zip3 {P : Program} {w : World} {K : PySem.W.Frag} {elts : List Expr} {kk : Nat} {tpos : Pos} {k1 k2 k3 : Bool} {a b c z TI TO i1 i2 i3 : Addr} (D : Sep3 z TI TO i1 i2 i3 a b c) :
    Turn P w K (.Tuple elts kk tpos) (It3 K k1 k2 k3 a b c) [z, TI, TO, i1, i2, i3] z (fun i h => IsZip h z TI TO .none ∧ IsTupOf3 h TI (.ref i1) (.ref i2) (.ref i3) ∧ (∃ x y u, IsTupOf3 h TO x y u) ∧ ItrK k1 h i1 a i ∧ ItrK k2 h i2 b i ∧ ItrK k3 h i3 c i) where
  mem := by simp
  obj := fun i h stz q hq => by
    obtain ⟨atZ, atI, ⟨x, y, u, atO⟩, h1, h2, h3⟩ := stz
    have altE : q = z ∨ q = TI ∨ q = TO ∨ q = i1 ∨ q = i2 ∨ q = i3 := by simpa using hq
    rcases altE with e | e | e | e | e | e
    · rw [e]; exact ⟨_, atZ, fun v q => nomatch q⟩
    · rw [e]; exact ⟨_, atI, fun v q => nomatch q⟩
    · rw [e]; exact ⟨_, atO, fun v q => nomatch q⟩
    · rw [e]; exact h1.ob
    · rw [e]; exact h2.ob
    · rw [e]; exact h3.ob
  keep := fun i h h' stz k => by
    obtain ⟨atZ, atI, ⟨x, y, u, atO⟩, h1, h2, h3⟩ := stz
    exact ⟨k z (by simp) _ atZ, k TI (by simp) _ atI, ⟨x, y, u, k TO (by simp) _ atO⟩, h1.at fun o q => k i1 (by simp) o q, h2.at fun o q => k i2 (by simp) o q, h3.at fun o q => k i3 (by simp) o q⟩
  item := by
    intro X ofP ofW ofK hc i pns s σ H E I hf stz hg
    subst ofP ofW ofK
    obtain ⟨atZ, atI, ⟨x0, y0, u0, atO⟩, h1, h2, h3⟩ := stz
    obtain ⟨xs, ys, zs, x, y, u, q1, q2, q3, hx, hy, hu⟩ := hg
    obtain ⟨t1, r1, p1, _⟩ := seqK I q1
    obtain ⟨t2, r2, p2, _⟩ := seqK I q2
    obtain ⟨t3, r3, p3, _⟩ := seqK I q3
    obtain ⟨v1, e1, w1⟩ := r1.get hx
    obtain ⟨v2, e2, w2⟩ := r2.get hy
    obtain ⟨v3, e3, w3⟩ := r3.get hu
    have hh : X.A.in1.handled = none := I.ok.hd hc
    have ltZ : z < s.heap.objs.size := Heap.lt_size atZ
    refine wpAny_pyNext_zipD3_item D.sep (drawsK k1 hh i1 a D.n1 t1.toArray) (drawsK k2 hh i2 b D.n2 t2.toArray) (drawsK k3 hh i3 c D.n3 t3.toArray) atZ atI atO ⟨h1, p1⟩ ⟨h2, p2⟩ ⟨h3, p3⟩
      (by have := (List.getElem?_eq_some_iff.mp e1).1; simpa using this) (by have := (List.getElem?_eq_some_iff.mp e2).1; simpa using this) (by have := (List.getElem?_eq_some_iff.mp e3).1; simpa using this)
      fun y1 y2 y3 h' tk g1 g2 g3 hz' hTO' sA s2 s3 hT hsz hk => ?_
    have f1 : y1 = v1 := by
      have : t1[i]? = some y1 := by simpa using g1
      rw [e1] at this; exact (Option.some.inj this).symm
    have f2 : y2 = v2 := by
      have : t2[i]? = some y2 := by simpa using g2
      rw [e2] at this; exact (Option.some.inj this).symm
    have f3 : y3 = v3 := by
      have : t3[i]? = some y3 := by simpa using g3
      rw [e3] at this; exact (Option.some.inj this).symm
    subst f1 f2 f3
    refine ⟨_, rfl, wpAny_letOwnedTupleGo_zip (s := { s with heap := h', toks := tk }) hz' fun heapB hz'' sb => ?_⟩
    have hT2 : heapB.get? s.heap.objs.size = some { cls := .type "tuple", data := .seq #[y1, y2, y3] } := (sb.2 _ (Nat.ne_of_gt ltZ)).trans hT
    have fresh_ : ObjOk X.prog X.w (upd H s.heap.objs.size (tupO { cls := .type "tuple", data := .seq #[y1, y2, y3] } [x, y, u])) heapB s.heap.objs.size (tupO { cls := .type "tuple", data := .seq #[y1, y2, y3] } [x, y, u]) :=
      okO (by show 3 ≤ sizeLine; decide) (.cons w1 (.cons w2 (.cons w3 .nil))) (its := [y1, y2, y3]) ⟨_, hT2, rfl, _, rfl⟩ hT2
    have invA : Inv X pns σ (upd H s.heap.objs.size (tupO { cls := .type "tuple", data := .seq #[y1, y2, y3] } [x, y, u])) { s with heap := heapB, toks := tk } :=
      I.turnedNew (t' := tk) (ch := [z, TI, TO, i1, i2, i3]) (fun c o hb q => (sb.2 c (fun q' => hb (by simp [q']))).trans (hk c o (fun q' => hb (by simp [q'])) (fun q' => hb (by simp [q'])) (fun q' => hb (by simp [q'])) (fun q' => hb (by simp [q'])) (fun q' => hb (by simp [q'])) q)) hf (Nat.le_refl _) fresh_
    have S := D.sep
    refine ⟨.ref s.heap.objs.size, _, invA, rfl, ⟨_, x, y, u, _, rfl, I.hok.fresh (Nat.le_refl _), rfl, rfl, fun l hl => by rw [seqK_inj I hl q1]; exact hx, fun l hl => by rw [seqK_inj I hl q2]; exact hy, fun l hl => by rw [seqK_inj I hl q3]; exact hu⟩, ⟨hz'', ?_, ⟨y1, y2, y3, ?_⟩, ?_, ?_, ?_⟩, fun c among => ?_⟩
    · exact (sb.2 _ S.TIz).trans (hk _ _ S.TIz S.TITO S.TIi1 S.TIi2 S.TIi3 atI)
    · exact (sb.2 _ S.TOz).trans hTO'
    · exact sA.1.at fun o q => (sb.2 _ (fun e => S.zf1 (by rw [← e]; exact S.mem1))).trans q
    · exact s2.1.at fun o q => (sb.2 _ (fun e => S.zf2 (by rw [← e]; exact S.mem2))).trans q
    · exact s3.1.at fun o q => (sb.2 _ (fun e => S.zf3 (by rw [← e]; exact S.mem3))).trans q
    · have ltC : c < s.heap.objs.size := by
        have altE : c = z ∨ c = TI ∨ c = TO ∨ c = i1 ∨ c = i2 ∨ c = i3 := by simpa using among
        rcases altE with q | q | q | q | q | q
        · rw [q]; exact ltZ
        · rw [q]; exact Heap.lt_size atI
        · rw [q]; exact Heap.lt_size atO
        · rw [q]; obtain ⟨_, e1, _⟩ := h1.ob; exact Heap.lt_size e1
        · rw [q]; obtain ⟨_, e2, _⟩ := h2.ob; exact Heap.lt_size e2
        · rw [q]; obtain ⟨_, e3, _⟩ := h3.ob; exact Heap.lt_size e3
      rw [upd_ne (Nat.ne_of_lt ltC)]
      exact (hf c among).1
  done := by
    intro X ofP ofW ofK hc i pns s σ H E I hf stz hg
    subst ofP ofW ofK
    obtain ⟨atZ, atI, ⟨x0, y0, u0, atO⟩, h1, h2, h3⟩ := stz
    obtain ⟨xs, ys, zs, q1, q2, q3, l1, l2, l3, he⟩ := hg
    obtain ⟨t1, r1, p1, _⟩ := seqK I q1
    obtain ⟨t2, r2, p2, _⟩ := seqK I q2
    obtain ⟨t3, r3, p3, _⟩ := seqK I q3
    have hh : X.A.in1.handled = none := I.ok.hd hc
    have m1 := r1.length
    have m2 := r2.length
    have m3 := r3.length
    have z1 : t1.toArray.size = t1.length := List.size_toArray
    have z2 : t2.toArray.size = t2.length := List.size_toArray
    have z3 : t3.toArray.size = t3.length := List.size_toArray
    refine wpAny_pyNext_zipD3_end D.sep (drawsK k1 hh i1 a D.n1 t1.toArray) (drawsK k2 hh i2 b D.n2 t2.toArray) (drawsK k3 hh i3 c D.n3 t3.toArray) atZ atI atO ⟨h1, p1⟩ ⟨h2, p2⟩ ⟨h3, p3⟩
      (by omega) (by omega) (by omega) (by omega) fun h' tk hk => ⟨rfl, I.turnedL (t' := tk) (ch := [z, TI, TO, i1, i2, i3]) (fun c o hb q =>
      hk c o (fun q' => hb (by simp [q'])) (fun q' => hb (by simp [q'])) (fun q' => hb (by simp [q'])) (fun q' => hb (by simp [q'])) (fun q' => hb (by simp [q'])) q) hf⟩
  self := fun A i s Q E stz h => wpAny_pyIter_zip stz.1 h
def iZip3 (K : PySem.W.Frag) (k1 k2 k3 : Bool) (ta : TA) : TI := fun σ H Rq => ta σ H fun vs H1 => ∃ a b c xs ys zs, vs = [.ref a, .ref b, .ref c] ∧ SqK K k1 H1 a xs ∧ SqK K k2 H1 b ys ∧ SqK K k3 H1 c zs ∧ Rq (It3 K k1 k2 k3 a b c) H1
theorem pi_zip3 (k1 k2 k3 : Bool) {X : Cx} {e e2 e3 : Expr} {ta : TA} {p pos tpos : Pos} {elts : List Expr} {kk : Nat} (hg : Gl X "zip") (hm : X.mg "zip" = none) (ha : PA X [e, e2, e3] ta)
    (hs : starEach [e, e2, e3] X.env = (false, eval e X.env) :: starEach [e2, e3] X.env := by rfl) (plain_ : (backTo pos (starEach [e2, e3] X.env)).any (·.1) = false := by rfl) :
    PI X (.Tuple elts kk tpos) (.Call (.Name "zip" p) [e, e2, e3] [] pos) (iZip3 X.K k1 k2 k3 ta) := by
  refine ⟨fun pns s σ H Rq I h => ?_⟩
  refine Call_ (ld_blt I hg hm PyProof.Rows.boot_zip (PyProof.Rows.callWith_type1 (thn (ha.run pos pns s σ H _ I h) fun uz sA ⟨vs, H1, invA, r1, q1⟩ => ?_) hs plain_))
  obtain ⟨a, b, c, xs, ys, zs, ex, sx, sy, hqz, q⟩ := q1
  subst ex
  cases r1 with
  | cons r rr =>
    cases rr with
    | cons r' rr =>
      cases rr with
      | cons r'' rr =>
        cases rr
        cases r
        cases r'
        cases r''
        have allNew6 : ∀ c, c ∈ [sA.heap.objs.size + 5, sA.heap.objs.size + 3, sA.heap.objs.size + 4, sA.heap.objs.size, sA.heap.objs.size + 1, sA.heap.objs.size + 2] → FpOk X pns H1 c := fun c among => by
          have altE : c = sA.heap.objs.size + 5 ∨ c = sA.heap.objs.size + 3 ∨ c = sA.heap.objs.size + 4 ∨ c = sA.heap.objs.size ∨ c = sA.heap.objs.size + 1 ∨ c = sA.heap.objs.size + 2 := by simpa using among
          have geC : sA.heap.objs.size ≤ c := by
            rcases altE with z | z | z | z | z | z
            · rw [z]; exact (Nat.le_add_right _ _)
            · rw [z]; exact (Nat.le_add_right _ _)
            · rw [z]; exact (Nat.le_add_right _ _)
            · rw [z]; exact Nat.le_refl _
            · rw [z]; exact (Nat.le_add_right _ _)
            · rw [z]; exact (Nat.le_add_right _ _)
          exact invA.fpOk geC (invA.hok.fresh geC)
        obtain ⟨t1, r1, p1, _⟩ := seqK invA sx
        obtain ⟨t2, r2, p2, _⟩ := seqK invA sy
        obtain ⟨t3, r3, p3, _⟩ := seqK invA hqz
        have n1 := p1.lt
        have n2 := p2.lt
        have n3 := p3.lt
        refine zip_begins3 (beginsK k1 a t1.toArray) (beginsK k2 b t2.toArray) (beginsK k3 c t3.toArray) p1 p2 p3 fun h' atZ atI atO e1 e2 e3 hsz hk => wpAny_pyIter_zip atZ ?_
        have invB : Inv X pns σ H1 { sA with heap := h' } := invA.kept (t' := sA.toks) hk
        have D : Sep3 (sA.heap.objs.size + 5) (sA.heap.objs.size + 3) (sA.heap.objs.size + 4) sA.heap.objs.size (sA.heap.objs.size + 1) (sA.heap.objs.size + 2) a b c :=
          ⟨zip_sep3 (by simpa using n1) (by simpa using n2) (by simpa using n3), Nat.ne_of_lt n1, Nat.ne_of_lt (Nat.lt_add_right 1 n2), Nat.ne_of_lt (Nat.lt_add_right 2 n3)⟩
        exact ⟨sA.heap.objs.size + 5, [sA.heap.objs.size + 5, sA.heap.objs.size + 3, sA.heap.objs.size + 4, sA.heap.objs.size, sA.heap.objs.size + 1, sA.heap.objs.size + 2], _, _, H1, rfl, invB, turn_zip3 D, ⟨atZ, atI, ⟨_, _, _, atO⟩, itrK_new e1, itrK_new e2, itrK_new e3⟩, allNew6, q⟩
def It2 (K : PySem.W.Frag) (k1 k2 : Bool) (a b : Addr) : It :=
  ⟨fun i H => ∃ (xs ys : List V) (x y : V), SqK K k1 H a xs ∧ SqK K k2 H b ys ∧ xs[i]? = some x ∧ ys[i]? = some y,
    fun i H v H' => ∃ T x y o, v = .ref T ∧ H T = none ∧ o.dict = none ∧ H' = upd H T (tupO o [x, y]) ∧ (∀ xs, SqK K k1 H a xs → xs[i]? = some x) ∧ (∀ ys, SqK K k2 H b ys → ys[i]? = some y),
    fun i H => ∃ xs ys : List V, SqK K k1 H a xs ∧ SqK K k2 H b ys ∧ i ≤ xs.length ∧ i ≤ ys.length ∧ (i = xs.length ∨ i = ys.length)⟩
structure Sep2Z (z TI TO i1 i2 a b : Addr) : Prop where
  sep : ZipSep2 z TI TO i1 i2 [i1, a] [i2, b]
  n1 : a ≠ i1
  n2 : b ≠ i2
theorem turn_zip2k {P : Program} {w : World} {K : PySem.W.Frag} {elts : List Expr} {kk : Nat} {tpos : Pos} {k1 k2 : Bool} {a b z TI TO i1 i2 : Addr} (D : Sep2Z z TI TO i1 i2 a b) :
    Turn P w K (.Tuple elts kk tpos) (It2 K k1 k2 a b) [z, TI, TO, i1, i2] z (fun i h => IsZip h z TI TO .none ∧ IsTupOf2 h TI (.ref i1) (.ref i2) ∧ (∃ x y, IsTupOf2 h TO x y) ∧ ItrK k1 h i1 a i ∧ ItrK k2 h i2 b i) where
  mem := by simp
  obj := fun i h stz q hq => by
    obtain ⟨atZ, atI, ⟨x, y, atO⟩, h1, h2⟩ := stz
    have altE : q = z ∨ q = TI ∨ q = TO ∨ q = i1 ∨ q = i2 := by simpa using hq
    rcases altE with e | e | e | e | e
    · rw [e]; exact ⟨_, atZ, fun v q => nomatch q⟩
    · rw [e]; exact ⟨_, atI, fun v q => nomatch q⟩
    · rw [e]; exact ⟨_, atO, fun v q => nomatch q⟩
    · rw [e]; exact h1.ob
    · rw [e]; exact h2.ob
  keep := fun i h h' stz k => by
    obtain ⟨atZ, atI, ⟨x, y, atO⟩, h1, h2⟩ := stz
    exact ⟨k z (by simp) _ atZ, k TI (by simp) _ atI, ⟨x, y, k TO (by simp) _ atO⟩, h1.at fun o q => k i1 (by simp) o q, h2.at fun o q => k i2 (by simp) o q⟩
  item := by
    intro X ofP ofW ofK hc i pns s σ H E I hf stz hg
    subst ofP ofW ofK
    obtain ⟨atZ, atI, ⟨x0, y0, atO⟩, h1, h2⟩ := stz
    obtain ⟨xs, ys, x, y, q1, q2, hx, hy⟩ := hg
    obtain ⟨t1, r1, p1, _⟩ := seqK I q1
    obtain ⟨t2, r2, p2, _⟩ := seqK I q2
    obtain ⟨v1, e1, w1⟩ := r1.get hx
    obtain ⟨v2, e2, w2⟩ := r2.get hy
    have hh : X.A.in1.handled = none := I.ok.hd hc
    have ltZ : z < s.heap.objs.size := Heap.lt_size atZ
    refine wpAny_pyNext_zipD2_item D.sep (drawsK k1 hh i1 a D.n1 t1.toArray) (drawsK k2 hh i2 b D.n2 t2.toArray) atZ atI atO ⟨h1, p1⟩ ⟨h2, p2⟩
      (by have := (List.getElem?_eq_some_iff.mp e1).1; simpa using this) (by have := (List.getElem?_eq_some_iff.mp e2).1; simpa using this)
      fun y1 y2 h' tk g1 g2 hz' hTO' sA s2 hT hsz hk => ?_
    have f1 : y1 = v1 := by
      have : t1[i]? = some y1 := by simpa using g1
      rw [e1] at this; exact (Option.some.inj this).symm
    have f2 : y2 = v2 := by
      have : t2[i]? = some y2 := by simpa using g2
      rw [e2] at this; exact (Option.some.inj this).symm
    subst f1 f2
    refine ⟨_, rfl, wpAny_letOwnedTupleGo_zip (s := { s with heap := h', toks := tk }) hz' fun heapB hz'' sb => ?_⟩
    have hT2 : heapB.get? s.heap.objs.size = some { cls := .type "tuple", data := .seq #[y1, y2] } := (sb.2 _ (Nat.ne_of_gt ltZ)).trans hT
    have fresh_ : ObjOk X.prog X.w (upd H s.heap.objs.size (tupO { cls := .type "tuple", data := .seq #[y1, y2] } [x, y])) heapB s.heap.objs.size (tupO { cls := .type "tuple", data := .seq #[y1, y2] } [x, y]) :=
      okO (by show 2 ≤ sizeLine; decide) (.cons w1 (.cons w2 .nil)) (its := [y1, y2]) ⟨_, hT2, rfl, _, rfl⟩ hT2
    have invA : Inv X pns σ (upd H s.heap.objs.size (tupO { cls := .type "tuple", data := .seq #[y1, y2] } [x, y])) { s with heap := heapB, toks := tk } :=
      I.turnedNew (t' := tk) (ch := [z, TI, TO, i1, i2]) (fun c o hb q => (sb.2 c (fun q' => hb (by simp [q']))).trans (hk c o (fun q' => hb (by simp [q'])) (fun q' => hb (by simp [q'])) (fun q' => hb (by simp [q'])) (fun q' => hb (by simp [q'])) q)) hf (Nat.le_refl _) fresh_
    have S := D.sep
    refine ⟨.ref s.heap.objs.size, _, invA, rfl, ⟨_, x, y, _, rfl, I.hok.fresh (Nat.le_refl _), rfl, rfl, fun l hl => by rw [seqK_inj I hl q1]; exact hx, fun l hl => by rw [seqK_inj I hl q2]; exact hy⟩, ⟨hz'', ?_, ⟨y1, y2, ?_⟩, ?_, ?_⟩, fun c among => ?_⟩
    · exact (sb.2 _ S.TIz).trans (hk _ _ S.TIz S.TITO S.TIi1 S.TIi2 atI)
    · exact (sb.2 _ S.TOz).trans hTO'
    · exact sA.1.at fun o q => (sb.2 _ (fun e => S.zf1 (by rw [← e]; exact S.mem1))).trans q
    · exact s2.1.at fun o q => (sb.2 _ (fun e => S.zf2 (by rw [← e]; exact S.mem2))).trans q
    · have ltC : c < s.heap.objs.size := by
        have altE : c = z ∨ c = TI ∨ c = TO ∨ c = i1 ∨ c = i2 := by simpa using among
        rcases altE with q | q | q | q | q
        · rw [q]; exact ltZ
        · rw [q]; exact Heap.lt_size atI
        · rw [q]; exact Heap.lt_size atO
        · rw [q]; obtain ⟨_, e1, _⟩ := h1.ob; exact Heap.lt_size e1
        · rw [q]; obtain ⟨_, e2, _⟩ := h2.ob; exact Heap.lt_size e2
      rw [upd_ne (Nat.ne_of_lt ltC)]
      exact (hf c among).1
  done := by
    intro X ofP ofW ofK hc i pns s σ H E I hf stz hg
    subst ofP ofW ofK
    obtain ⟨atZ, atI, ⟨x0, y0, atO⟩, h1, h2⟩ := stz
    obtain ⟨xs, ys, q1, q2, l1, l2, he⟩ := hg
    obtain ⟨t1, r1, p1, _⟩ := seqK I q1
    obtain ⟨t2, r2, p2, _⟩ := seqK I q2
    have hh : X.A.in1.handled = none := I.ok.hd hc
    have m1 := r1.length
    have m2 := r2.length
    have z1 : t1.toArray.size = t1.length := List.size_toArray
    have z2 : t2.toArray.size = t2.length := List.size_toArray
    refine wpAny_pyNext_zipD2_end D.sep (drawsK k1 hh i1 a D.n1 t1.toArray) (drawsK k2 hh i2 b D.n2 t2.toArray) atZ atI atO ⟨h1, p1⟩ ⟨h2, p2⟩
      (by omega) (by omega) (by omega) fun h' tk hk => ⟨rfl, I.turnedL (t' := tk) (ch := [z, TI, TO, i1, i2]) (fun c o hb q =>
      hk c o (fun q' => hb (by simp [q'])) (fun q' => hb (by simp [q'])) (fun q' => hb (by simp [q'])) (fun q' => hb (by simp [q'])) q) hf⟩
  self := fun A i s Q E stz h => wpAny_pyIter_zip stz.1 h
def iZip2 (K : PySem.W.Frag) (k1 k2 : Bool) (ta : TA) : TI := fun σ H Rq => ta σ H fun vs H1 => ∃ a b xs ys, vs = [.ref a, .ref b] ∧ SqK K k1 H1 a xs ∧ SqK K k2 H1 b ys ∧ Rq (It2 K k1 k2 a b) H1
theorem pi_zip2 (k1 k2 : Bool) {X : Cx} {e e2 : Expr} {ta : TA} {p pos tpos : Pos} {elts : List Expr} {kk : Nat} (hg : Gl X "zip") (hm : X.mg "zip" = none) (ha : PA X [e, e2] ta)
    (hs : starEach [e, e2] X.env = (false, eval e X.env) :: starEach [e2] X.env := by rfl) (plain_ : (backTo pos (starEach [e2] X.env)).any (·.1) = false := by rfl) :
    PI X (.Tuple elts kk tpos) (.Call (.Name "zip" p) [e, e2] [] pos) (iZip2 X.K k1 k2 ta) := by
  refine ⟨fun pns s σ H Rq I h => ?_⟩
  refine Call_ (ld_blt I hg hm PyProof.Rows.boot_zip (PyProof.Rows.callWith_type1 (thn (ha.run pos pns s σ H _ I h) fun uz sA ⟨vs, H1, invA, r1, q1⟩ => ?_) hs plain_))
  obtain ⟨a, b, xs, ys, ex, sx, sy, q⟩ := q1
  subst ex
  cases r1 with
  | cons r rr =>
    cases rr with
    | cons r' rr =>
      cases rr
      cases r
      cases r'
      have allNew : ∀ c, c ∈ [sA.heap.objs.size + 4, sA.heap.objs.size + 2, sA.heap.objs.size + 3, sA.heap.objs.size, sA.heap.objs.size + 1] → FpOk X pns H1 c := fun c among => by
        have altE : c = sA.heap.objs.size + 4 ∨ c = sA.heap.objs.size + 2 ∨ c = sA.heap.objs.size + 3 ∨ c = sA.heap.objs.size ∨ c = sA.heap.objs.size + 1 := by simpa using among
        have geC : sA.heap.objs.size ≤ c := by
          rcases altE with z | z | z | z | z
          · rw [z]; exact (Nat.le_add_right _ _)
          · rw [z]; exact (Nat.le_add_right _ _)
          · rw [z]; exact (Nat.le_add_right _ _)
          · rw [z]; exact Nat.le_refl _
          · rw [z]; exact (Nat.le_add_right _ _)
        exact invA.fpOk geC (invA.hok.fresh geC)
      obtain ⟨t1, r1, p1, _⟩ := seqK invA sx
      obtain ⟨t2, r2, p2, _⟩ := seqK invA sy
      have n1 := p1.lt
      have n2 := p2.lt
      refine zip_begins2 (beginsK k1 a t1.toArray) (beginsK k2 b t2.toArray) p1 p2 fun h' atZ atI atO e1 e2 hsz hk => wpAny_pyIter_zip atZ ?_
      have invB : Inv X pns σ H1 { sA with heap := h' } := invA.kept (t' := sA.toks) hk
      have D : Sep2Z (sA.heap.objs.size + 4) (sA.heap.objs.size + 2) (sA.heap.objs.size + 3) sA.heap.objs.size (sA.heap.objs.size + 1) a b :=
        ⟨zip_sep2 (by simpa using n1) (by simpa using n2), Nat.ne_of_lt n1, Nat.ne_of_lt (Nat.lt_add_right 1 n2)⟩
      exact ⟨sA.heap.objs.size + 4, [sA.heap.objs.size + 4, sA.heap.objs.size + 2, sA.heap.objs.size + 3, sA.heap.objs.size, sA.heap.objs.size + 1], _, _, H1, rfl, invB, turn_zip2k D, ⟨atZ, atI, ⟨_, _, atO⟩, itrK_new e1, itrK_new e2⟩, allNew, q⟩
end Mv
namespace Mv
open PySem PySem.Spec PyProof.Rows L2 HT
section
variable {X : Cx} {pins : List (Addr × Obj)} {σ : L2.St} {H : Hp} {s : Shared} {xs : List V} {its : List Value}
theorem laidT (I : Inv X pins σ H s) (z : xs.length ≤ sizeLine) (r : Vals xs its) :
    Inv X pins σ (upd H s.heap.objs.size (tupO { cls := .type "tuple", data := .seq its.toArray } xs)) { s with heap := s.heap.push { cls := .type "tuple", data := .seq its.toArray } } :=
  I.laid (t' := s.toks) (fun b u e => Heap.get?_push_of_some _ e) (Nat.le_refl _) (okO z r (IsTup.new _ _) (Heap.get?_push_size _ rfl))
end
section
variable {X : Cx} {es : List Expr} {t : TA} {pos : Pos}
def tTup (t : TA) : TE := fun σ H Q => t σ H fun xs H1 => xs.length ≤ sizeLine ∧ ∀ p o, H1 p = none → o.dict = none → Q (.ref p) (upd H1 p (tupO o xs))
theorem pe_tup {x1} (h : PA X es t) : PE X (.Tuple es x1 pos) (tTup t) := by
  constructor
  intro pns s σ H Q I hq
  refine wpAny_Tuple_spliced (thn (h.run pos pns s σ H _ I hq) ?_)
  rintro us s1 ⟨xs, H1, J, rv, room, done⟩
  refine ⟨by rw [← rv.length]; exact room, .ref s1.heap.objs.size, _, laidT J room rv, rfl, done _ _ (J.hok.fresh (Nat.le_refl _)) rfl⟩
def rSlA (K : PySem.W.Frag) : V → Option Int → Option Int → Hp → VK → Prop := fun x lo hi H Q => ∃ a xs, x = .ref a ∧ SqT K H a xs ∧
  (sIx xs.length 0 lo = 0 ∧ sIx xs.length xs.length hi = xs.length → Q (.ref a) H) ∧ (¬ (sIx xs.length 0 lo = 0 ∧ sIx xs.length xs.length hi = xs.length) → ∀ p o, H p = none → o.dict = none → Q (.ref p) (upd H p (tupO o (cutV xs lo hi))))
theorem sl_tupA : SlR X (rSlA X.K) := by
  intro pins; intro s σ H x v vl vu lo hi sl Q I rx hs pl pu h
  obtain ⟨a, xs, rfl, hx, all_, part_⟩ := h
  cases rx
  by_cases whole : sIx xs.length 0 lo = 0 ∧ sIx xs.length xs.length hi = xs.length
  · exact L2.sl_tupA pins s σ H (.ref a) (.ref a) vl vu lo hi sl Q I rfl hs pl pu ⟨a, xs, rfl, hx, all_, fun z => absurd whole z⟩
  · obtain ⟨its, rv, tt, room⟩ := I.tuple hx
    have le : its.toArray.size = xs.length := by rw [List.size_toArray]; exact rv.length.symm
    refine ⟨"tuple", _, PyProof.Rows.slot_tuple_getitem.lookup, tt.typeIs, getItem_tuple_cut tt hs pl pu (by rw [le]; exact whole) ?_ (by rw [le]; exact room)⟩
    rw [le]
    exact ⟨.ref s.heap.objs.size, _, laidT I (Nat.le_trans (cutV_length xs lo hi) room) ((rv.drop (sIx xs.length 0 lo)).take (sIx xs.length xs.length hi - sIx xs.length 0 lo)), rfl, part_ whole _ _ (I.hok.fresh (Nat.le_refl _)) rfl⟩
def rCatA (K : PySem.W.Frag) : R2 := fun x y H Q => ∃ a b xs ys, x = .ref a ∧ y = .ref b ∧ SqT K H a xs ∧ SqT K H b ys ∧ xs.length + ys.length ≤ sizeLine ∧
  (xs = [] → Q (.ref b) H) ∧ (xs ≠ [] → ys = [] → Q (.ref a) H) ∧ (xs ≠ [] → ys ≠ [] → ∀ p o, H p = none → o.dict = none → Q (.ref p) (upd H p (tupO o (xs ++ ys))))
theorem op_catA : OpR X (binaryOp .Add) (rCatA X.K) := by
  intro pins; intro s σ H x y v u Q I rx ry h
  obtain ⟨a, b, xs, ys, rfl, rfl, ha, hb, room, e0, e1, e2⟩ := h
  by_cases hx : xs = []
  · exact L2.op_catA pins s σ H _ _ v u Q I rx ry ⟨a, b, xs, ys, rfl, rfl, ha, hb, room, e0, e1, fun z => absurd hx z⟩
  · cases rx
    cases ry
    obtain ⟨as, r1, p1, _⟩ := I.tuple ha
    obtain ⟨bs, r2, p2, _⟩ := I.tuple hb
    refine cat_tup p1 p2 (fun z => hx (r1.nil_iff.mp z)) (fun z => ⟨.ref a, H, I, rfl, e1 hx (r2.nil_iff.mp z)⟩) (fun z => ?_) (by rw [← r1.length, ← r2.length]; exact room)
    exact ⟨.ref s.heap.objs.size, _, laidT I (by rw [List.length_append]; exact room) (r1.append r2), rfl, e2 hx (fun w => z (r2.nil_iff.mpr w)) _ _ (I.hok.fresh (Nat.le_refl _)) rfl⟩
abbrev rTupOf (K : PySem.W.Frag) : List V → Hp → VK → Prop := fun xs H Q => ∃ p ys, xs = [.ref p] ∧ ((SqL K H p ys ∧ ∀ l o, H l = none → o.dict = none → Q (.ref l) (upd H l (tupO o ys))) ∨ (SqT K H p ys ∧ Q (.ref p) H))
theorem call_tuple_of : CallR X (.type "tuple") (rTupOf X.K) := by
  intro pins; intro s σ H xs us Q I r h
  obtain ⟨p, ys, rfl, ⟨hq, q⟩ | ⟨hq, q⟩⟩ := h
  · cases r with
    | cons rx rn =>
      cases rn
      cases rx
      obtain ⟨its, rv, pl, room⟩ := I.list hq
      have le := rv.length
      refine call_tuple_list pl.isList (fun h' kp => ?_) (by rw [List.size_toArray]; omega)
      have J : Inv X pins σ H { s with heap := h' } := I.kept (t' := s.toks) kp
      exact ⟨.ref h'.objs.size, _, laidT J room rv, rfl, q _ _ (J.hok.fresh (Nat.le_refl _)) rfl⟩
  · exact L2.call_tupleT pins s σ H _ us Q I r ⟨p, ys, rfl, hq, q⟩
theorem op_repO {pins : List (Addr × Obj)} {s : Shared} {σ : L2.St} {H : Hp} {l : Addr} {k : Int} {t : Tok} {xs : List V} {Q : V → Hp → Prop} (I : Inv X pins σ H s) (hT : SqT X.K H l xs) (hne : xs ≠ []) (h1 : 2 ≤ k) (h2 : k ≤ 1000) (hz : xs.length ≤ 1000)
    (q : ∀ p o, H p = none → o.dict = none → Q (.ref p) (upd H p (tupO o (List.replicate k.toNat xs).flatten))) : wpAny (model X.prog X.w) X.A (binaryOp .Mult (.ref l) (.int k t)) (EP X pins σ Q) X.xe s := by
  obtain ⟨its, r, ⟨⟨cls, dd, data, sl⟩, ho, hc, n, hd⟩, _⟩ := I.tuple hT
  simp only at hc hd
  subst hc hd
  have le : its.length = xs.length := r.length.symm
  have many : k.toNat * xs.length ≤ 1000 * 1000 := Nat.mul_le_mul (by omega) hz
  have some_ : its.toArray.isEmpty = false := by
    cases its with
    | nil => exact absurd (List.eq_nil_of_length_eq_zero le.symm) hne
    | cons _ _ => rfl
  have size_ : its.toArray.size = xs.length := by rw [List.size_toArray, le]
  have few : ((its.toArray.size : Nat) : Int) * k ≤ 1000000 := by
    rw [size_]
    have := Int.mul_le_mul_of_nonneg_right (a := ((xs.length : Nat) : Int)) (b := 1000) (c := k) (by omega) (by omega)
    omega
  have room : (List.replicate k.toNat its).flatten.length ≤ sizeLine := by rw [PyProof.Rows.lm_len_rep_flat, le, sizeLine_eq]; omega
  have d0 : (decide (k < -(2 ^ 63)) || decide (k ≥ 2 ^ 63)) = false := by rw [Bool.or_eq_false_iff]; exact ⟨decide_eq_false (by omega), decide_eq_false (by omega)⟩
  have d1 : (its.toArray.isEmpty || k == 1) = false := by rw [Bool.or_eq_false_iff]; exact ⟨some_, beq_eq_false_iff_ne.mpr (by omega)⟩
  have d2 : (decide (k ≤ 0) || its.toArray.isEmpty) = false := by rw [Bool.or_eq_false_iff]; exact ⟨decide_eq_false (by omega), some_⟩
  have d4 : Builtin.Tuple.tupleTooMany (((its.toArray.size : Nat) : Int) * k) = false := by
    unfold Builtin.Tuple.tupleTooMany
    rw [sizeLine_eq]
    exact (decide_eq_false (by omega))
  refine wpAny_binaryOp_repeat_ref (T := "tuple") (U := "int") (by decide) ⟨_, ho, rfl⟩ (fun z => typeIs_int z k t) noFill_tuple_mul F.fills_int_mul F.slot_int_rmul repeat_tuple F.slot_int_index.lookup
    (call_meets F.slot_int_rmul (typeIs_int s k t) F.entry_int_rmul (F.args_int_rmul_2 _ _) (int_rmul_tuple k t l its.toArray n dd sl) ⟨ho, rfl, ⟨_, ho, rfl⟩, ?_⟩)
  refine call_meets F.slot_tuple_mul ⟨_, ho, rfl⟩ F.entry_tuple_mul (F.args_tuple_mul_2 _ _) (tuple_mulW l its.toArray n dd sl k t d0 d1 d2 (by omega) d4 (by rw [size_rep, List.size_toArray]; exact room)) ⟨ho, ?_⟩
  rw [size_rep]
  exact ⟨.ref s.heap.objs.size, _, laidT I (by rw [PyProof.Rows.lm_len_rep_flat, sizeLine_eq]; omega) (r.rep k.toNat), rfl, q _ _ (I.hok.fresh (Nat.le_refl _)) rfl⟩
end
end Mv
namespace Mv
open PySem L2 Evl
abbrev rLenA (K : PySem.W.Frag) : List V → Hp → VK → Prop := fun xs H Q => ∃ p ys, xs = [.ref p] ∧ (SqL K H p ys ∨ SqT K H p ys) ∧ Q (.int ys.length) H
abbrev rListOf (K : PySem.W.Frag) : List V → Hp → VK → Prop := fun xs H Q => ∃ p ys, xs = [.ref p] ∧ (SqL K H p ys ∨ SqT K H p ys) ∧ ∀ l, H l = none → Q (.ref l) (upd H l (.lst ys))
abbrev D := PyData
def keyD : L2.Key → D
  | .inl i => .int i
  | .inr x => .str x
def kD (k : List L2.Key) : D := .tuple (k.map keyD)
def plainD : List (D × D) → Bool
  | (.tuple _, _) :: _ => false
  | _ :: _ => true
  | [] => false
abbrev dctD (es : List (List L2.Key × D)) : D := .dict (es.map fun e => (kD e.1, e.2))
mutual
inductive Dq (G : Hp) : V → D → Prop
  | non : Dq G .non .none
  | bl (b : Bool) : Dq G (.bl b) (.bool b)
  | int (i : Int) : Dq G (.int i) (.int i)
  | str (x : Str) : Dq G (.str x) (.str x)
  | lst {a : Addr} {xs : List V} {ds : List D} : G a = some (.lst xs) → DqA G xs ds → Dq G (.ref a) (.list ds)
  | tup {a : Addr} {xs : List V} {ds : List D} : TupA G a xs → DqA G xs ds → Dq G (.ref a) (.tuple ds)
  | emp {a : Addr} {kvs : List (L2.Key × V)} {ds : List (D × D)} : G a = some (.dK kvs) → plainD ds = true → Dq G (.ref a) (.dict ds)
  | dct {a : Addr} {o : Obj} {kvs : List (List L2.Key × V)} {es : List (List L2.Key × D)} {ds : List (D × D)} : G a = some (.frz o (.dT kvs)) → DqP G kvs es → ds = es.map (fun e => (kD e.1, e.2)) → Dq G (.ref a) (.dict ds)
inductive DqA (G : Hp) : List V → List D → Prop
  | nil : DqA G [] []
  | cons {v : V} {vs : List V} {d : D} {ds : List D} : Dq G v d → DqA G vs ds → DqA G (v :: vs) (d :: ds)
inductive DqP (G : Hp) : List (List L2.Key × V) → List (List L2.Key × D) → Prop
  | nil : DqP G [] []
  | cons {k : List L2.Key} {v : V} {d : D} {kvs : List (List L2.Key × V)} {es : List (List L2.Key × D)} (ne : k ≠ []) : Dq G v d → DqP G kvs es → DqP G ((k, v) :: kvs) ((k, d) :: es)
end
mutual
theorem Dq.mono {G G' : Hp} (e : Ex G G') : ∀ {v : V} {d : D}, Dq G v d → Dq G' v d
  | _, _, .non => .non
  | _, _, .bl b => .bl b
  | _, _, .int i => .int i
  | _, _, .str x => .str x
  | _, _, .lst h k => .lst (e _ _ h) (DqA.mono e k)
  | _, _, .tup h k => .tup (h.mono e) (DqA.mono e k)
  | _, _, .emp h q => .emp (e _ _ h) q
  | _, _, .dct h k q => .dct (e _ _ h) (DqP.mono e k) q
theorem DqA.mono {G G' : Hp} (e : Ex G G') : ∀ {vs : List V} {ds : List D}, DqA G vs ds → DqA G' vs ds
  | _, _, .nil => .nil
  | _, _, .cons h k => .cons (Dq.mono e h) (DqA.mono e k)
theorem DqP.mono {G G' : Hp} (e : Ex G G') : ∀ {kvs : List (List L2.Key × V)} {es : List (List L2.Key × D)}, DqP G kvs es → DqP G' kvs es
  | _, _, .nil => .nil
  | _, _, .cons n h k => .cons n (Dq.mono e h) (DqP.mono e k)
end
theorem DqA.len {G : Hp} : ∀ {vs : List V} {ds : List D}, DqA G vs ds → vs.length = ds.length
  | _, _, .nil => rfl
  | _, _, .cons _ k => by rw [List.length_cons, List.length_cons, k.len]
theorem DqA.app {G : Hp} : ∀ {vs ws : List V} {ds es : List D}, DqA G vs ds → DqA G ws es → DqA G (vs ++ ws) (ds ++ es)
  | _, _, _, _, .nil, k => k
  | _, _, _, _, .cons h t, k => .cons h (DqA.app t k)
theorem DqA.get {G : Hp} : ∀ {vs : List V} {ds : List D} {i : Nat} {v : V}, DqA G vs ds → vs[i]? = some v → ∃ d, ds[i]? = some d ∧ Dq G v d
  | _, _, _, _, .nil, e => by simp at e
  | _, _, 0, _, .cons h _, e => by simp at e; subst e; exact ⟨_, rfl, h⟩
  | _, _, i + 1, _, .cons _ t, e => by
    obtain ⟨d, h1, h2⟩ := DqA.get (i := i) t (by simpa using e)
    exact ⟨d, by simpa using h1, h2⟩
theorem DqA.getD {G : Hp} : ∀ {vs : List V} {ds : List D} {i : Nat} {d : D}, DqA G vs ds → ds[i]? = some d → ∃ v, vs[i]? = some v ∧ Dq G v d
  | _, _, _, _, .nil, e => by simp at e
  | _, _, 0, _, .cons h _, e => by simp at e; subst e; exact ⟨_, rfl, h⟩
  | _, _, i + 1, _, .cons _ t, e => by
    obtain ⟨d, h1, h2⟩ := DqA.getD (i := i) t (by simpa using e)
    exact ⟨d, by simpa using h1, h2⟩
theorem DqA.snoc {G : Hp} {vs : List V} {ds : List D} {v : V} {d : D} (h : DqA G vs ds) (k : Dq G v d) : DqA G (vs ++ [v]) (ds ++ [d]) := h.app (.cons k .nil)
theorem DqA.rep {G : Hp} {vs : List V} {ds : List D} (h : DqA G vs ds) : ∀ n : Nat, DqA G (List.replicate n vs).flatten (List.replicate n ds).flatten
  | 0 => .nil
  | n + 1 => by
    (rw [List.replicate_succ, List.replicate_succ, List.flatten_cons, List.flatten_cons])
    exact h.app (h.rep n)
theorem DqA.drop {G : Hp} : ∀ {vs : List V} {ds : List D} (n : Nat), DqA G vs ds → DqA G (vs.drop n) (ds.drop n)
  | _, _, 0, h => h
  | _, _, _ + 1, .nil => .nil
  | _, _, n + 1, .cons _ t => DqA.drop n t
theorem DqA.take {G : Hp} : ∀ {vs : List V} {ds : List D} (n : Nat), DqA G vs ds → DqA G (vs.take n) (ds.take n)
  | _, _, 0, _ => .nil
  | _, _, _ + 1, .nil => .nil
  | _, _, n + 1, .cons h t => .cons h (DqA.take n t)
theorem DqA.ints {G : Hp} : ∀ {vs : List V} {ns : List Int}, DqA G vs (ns.map PyData.int) → vs = ns.map V.int
  | _, [], h => by cases h; rfl
  | _, n :: ns, h => by
    cases h with
    | cons h t =>
      cases h
      rw [List.map_cons, ← DqA.ints t]
theorem DqA.bls {G : Hp} : ∀ {vs : List V} {bs : List Bool}, DqA G vs (bs.map PyData.bool) → vs = bs.map V.bl
  | _, [], h => by cases h; rfl
  | _, n :: ns, h => by
    cases h with
    | cons h t =>
      cases h
      rw [List.map_cons, ← DqA.bls t]
structure Stp (G H G' H' : Hp) : Prop where
  g : Ex G G'
  h : Ex H H'
  w : Ex G' H'
  n : ∀ b, G b = none → H b ≠ none → (∀ xs, H b ≠ some (.tup xs)) → G' b = none
theorem Stp.refl {G H : Hp} (e : Ex G H) : Stp G H G H := ⟨.refl G, .refl H, e, fun _ h _ _ => h⟩
theorem Stp.trans {G H G1 H1 G2 H2 : Hp} (a : Stp G H G1 H1) (b : Stp G1 H1 G2 H2) : Stp G H G2 H2 :=
  ⟨a.g.trans b.g, a.h.trans b.h, b.w, fun c h1 h2 h3 => b.n c (a.n c h1 h2 h3) (fun z => by
    cases q : H c with
    | none => exact h2 q
    | some o => rw [a.h c o q] at z; cases z) fun xs z => by
    cases q : H c with
    | none => exact h2 q
    | some o => rw [a.h c o q] at z; exact h3 xs (q.trans z)⟩
theorem Stp.new {G H : Hp} {p : Addr} {o : HO} (e : Ex G H) (hp : H p = none) : Stp G H (upd G p o) (upd H p o) := by
  have gp : G p = none := fresh_back e hp
  refine ⟨.new gp, .new hp, fun a u q => ?_, fun b h1 h2 _ => ?_⟩
  · by_cases ha : a = p
    · subst ha; rw [upd_same] at q ⊢; exact q
    · rw [upd_ne ha] at q ⊢; exact e a u q
  · have hb : b ≠ p := fun z => h2 (z ▸ hp)
    rw [upd_ne hb]; exact h1
theorem Stp.old {G H H' : Hp} (e : Ex G H) (h : Ex H H') : Stp G H G H' := ⟨.refl G, h, e.trans h, fun _ h _ _ => h⟩
def EvD (te : TE) (σ : L2.St) (G : Hp) (d : D) : Prop := ∀ G1 H1, Ex G G1 → Ex G1 H1 → ∀ Q : VK, (∀ v G2 H2, Stp G1 H1 G2 H2 → Dq G2 v d → Q v H2) → te σ H1 Q
def EvB (tt : TT) (σ : L2.St) (G : Hp) (b : Bool) : Prop := ∀ G1 H1, Ex G G1 → Ex G1 H1 → ∀ Q : Bool → Hp → Prop, (∀ G2 H2, Stp G1 H1 G2 H2 → Q b H2) → tt σ H1 Q
def OpD (r : R2) (G : Hp) (d e z : D) : Prop := ∀ x y G1 H1, Ex G G1 → Ex G1 H1 → Dq G1 x d → Dq G1 y e → ∀ Q : VK, (∀ v G2 H2, Stp G1 H1 G2 H2 → Dq G2 v z → Q v H2) → r x y H1 Q
def UnD (r : V → Hp → VK → Prop) (G : Hp) (d z : D) : Prop := ∀ x G1 H1, Ex G G1 → Ex G1 H1 → Dq G1 x d → ∀ Q : VK, (∀ v G2 H2, Stp G1 H1 G2 H2 → Dq G2 v z → Q v H2) → r x H1 Q
def CaD (r : List V → Hp → VK → Prop) (G : Hp) (ds : List D) (z : D) : Prop := ∀ vs G1 H1, Ex G G1 → Ex G1 H1 → DqA G1 vs ds → ∀ Q : VK, (∀ v G2 H2, Stp G1 H1 G2 H2 → Dq G2 v z → Q v H2) → r vs H1 Q
section
variable {K : PySem.W.Frag} {σ : L2.St} {G G' H H' : Hp} {ta tb te tx : TE} {t u : TT} {r : R2} {d e z : D} {ds es : List D}
theorem EvD.mono (x : Ex G G') (h : EvD te σ G d) : EvD te σ G' d := fun G1 H1 a b Q q => h G1 H1 (x.trans a) b Q q
theorem EvB.mono {b : Bool} (x : Ex G G') (h : EvB t σ G b) : EvB t σ G' b := fun G1 H1 a b Q q => h G1 H1 (x.trans a) b Q q
theorem EvD.is (h : EvD te σ G d) (x : d = e) : EvD te σ G e := x ▸ h
theorem EvB.is {b c : Bool} (h : EvB t σ G b) (x : b = c) : EvB t σ G c := x ▸ h
theorem opd_I0 {g : Int → Int → V} {i j : Int} (h : ∀ G, Dq G (g i j) z) : OpD (rI0 g) G (.int i) (.int j) z := fun x y G1 H1 a b hx hy Q q => by
  cases hx; cases hy
  exact ⟨i, j, rfl, rfl, q _ G1 H1 (.refl b) (h G1)⟩
theorem opd_I {C : Int → Int → Prop} {g : Int → Int → V} {i j : Int} (hc : C i j) (h : ∀ G, Dq G (g i j) z) : OpD (rI C g) G (.int i) (.int j) z := fun x y G1 H1 a b hx hy Q q => by
  cases hx; cases hy
  exact ⟨i, j, rfl, rfl, hc, q _ G1 H1 (.refl b) (h G1)⟩
theorem opd_catT {as bs : List D} (hz : as.length + bs.length ≤ sizeLine) : OpD (rCatA K) G (.tuple as) (.tuple bs) (.tuple (as ++ bs)) := fun x y G1 H1 a b hx hy Q q => by
  cases hx with
  | @tup p xs _ hp hxs =>
    cases hy with
    | @tup p2 ys _ hp2 hys =>
      refine ⟨p, p2, xs, ys, rfl, rfl, TupA.sq (TupA.mono hp b), TupA.sq (TupA.mono hp2 b), by rw [hxs.len, hys.len]; exact hz, fun e => ?_, fun _ e => ?_, fun _ _ l o hl od => ?_⟩
      · subst e
        cases hxs
        exact q _ G1 H1 (.refl b) (.tup hp2 hys)
      · subst e
        cases hys
        rw [List.append_nil] at q
        exact q _ G1 H1 (.refl b) (.tup hp hxs)
      · have s := Stp.new (o := tupO o (xs ++ ys)) b hl
        exact q _ _ _ s (.tup (.new od) ((hxs.app hys).mono s.g))
theorem opd_cat {as bs : List D} (hz : as.length + bs.length ≤ sizeLine) : OpD rCat G (.list as) (.list bs) (.list (as ++ bs)) := fun x y G1 H1 a b hx hy Q q => by
  cases hx with
  | @lst p xs _ hp hxs =>
    cases hy with
    | @lst p2 ys _ hp2 hys =>
      refine ⟨p, p2, xs, ys, rfl, rfl, b _ _ hp, b _ _ hp2, by rw [hxs.len, hys.len]; exact hz, fun l hl => ?_⟩
      have s := Stp.new (o := .lst (xs ++ ys)) b hl
      exact q _ _ _ s (.lst upd_same ((hxs.app hys).mono s.g))
mutual
def flatD : D → Bool
  | .dict _ => false
  | .list xs => flatDs xs
  | .tuple xs => flatDs xs
  | _ => true
def flatDs : List D → Bool
  | [] => true
  | x :: xs => flatD x && flatDs xs
end
mutual
theorem dp_of (x : Ex G H) : ∀ {d : D} {v : V}, Dq G v d → flatD d = true → Dp K H v d
  | _, _, .non, _ => .non
  | _, _, .bl b, _ => .bl b
  | _, _, .int i, _ => .int i
  | _, _, .str s, _ => .str s
  | _, _, .lst h k, f => .lst (SqL.of (x _ _ h)) (dpAll_of x k (by simpa [flatD] using f))
  | _, _, .tup h k, f => .tup (TupA.sq (TupA.mono h x)) (dpAll_of x k (by simpa [flatD] using f))
  | _, _, .emp _ _, f => by simp [flatD] at f
  | _, _, .dct _ _ _, f => by simp [flatD] at f
theorem dpAll_of (x : Ex G H) : ∀ {ds : List D} {vs : List V}, DqA G vs ds → flatDs ds = true → DpAll K H vs ds
  | _, _, .nil, _ => .nil
  | _, _, .cons h k, f => by
    simp only [flatDs, Bool.and_eq_true] at f
    exact .cons (dp_of x h f.1) (dpAll_of x k f.2)
end
theorem opd_eq (f1 : flatD d = true) (f2 : flatD e = true) (s1 : SeqAt.shaped d = true) (s2 : SeqAt.shaped e = true) : OpD (rEqD K) G d e (.bool (PyData.eqv d e)) := fun x y G1 H1 a b hx hy Q q =>
  ⟨d, e, dp_of b hx f1, dp_of b hy f2, s1, s2, q _ G1 H1 (.refl b) (.bl _)⟩
theorem opd_ne (f1 : flatD d = true) (f2 : flatD e = true) (s1 : SeqAt.shaped d = true) (s2 : SeqAt.shaped e = true) : OpD (rNeD K) G d e (.bool (!PyData.eqv d e)) := fun x y G1 H1 a b hx hy Q q =>
  ⟨d, e, dp_of b hx f1, dp_of b hy f2, s1, s2, q _ G1 H1 (.refl b) (.bl _)⟩
theorem cad_lenL : CaD (rLenA K) G [.list ds] (.int ds.length) := fun vs G1 H1 x w h Q q => by
  cases h with
  | cons h k =>
    cases k
    cases h with
    | lst hp hx => exact ⟨_, _, rfl, .inl (SqL.of (w _ _ hp)), by rw [hx.len]; exact q _ G1 H1 (.refl w) (.int _)⟩
theorem cad_lenT : CaD (rLenA K) G [.tuple ds] (.int ds.length) := fun vs G1 H1 x w h Q q => by
  cases h with
  | cons h k =>
    cases k
    cases h with
    | tup hp hx => exact ⟨_, _, rfl, .inr (TupA.sq (TupA.mono hp w)), by rw [hx.len]; exact q _ G1 H1 (.refl w) (.int _)⟩
theorem cad_tuple : CaD (rTupOf K) G [.list ds] (.tuple ds) := fun vs G1 H1 x w h Q q => by
  cases h with
  | cons h k =>
    cases k
    cases h with
    | @lst p xs _ hp hx =>
      refine ⟨_, _, rfl, .inl ⟨SqL.of (w _ _ hp), fun l o hl od => ?_⟩⟩
      have s2 := Stp.new (o := tupO o xs) w hl
      exact q _ _ _ s2 (.tup (.new od) (hx.mono s2.g))
theorem cad_int1 {i : Int} : CaD (fun xs H Q => (∃ i, xs = [.int i] ∧ Q (.int i) H) ∨ ∃ k, xs = [.bl k] ∧ Q (.int (if k then 1 else 0)) H) G [.int i] (.int i) := fun vs G1 H1 x w h Q q => by
  cases h with
  | cons h k =>
    cases k
    cases h
    exact .inl ⟨i, rfl, q _ G1 H1 (.refl w) (.int _)⟩
theorem cad_all {bs : List Bool} : CaD (rAll K) G [.list (bs.map PyData.bool)] (.bool (bs.all id)) := fun vs G1 H1 x w h Q q => by
  cases h with
  | cons h k =>
    cases k
    cases h with
    | @lst p xs _ hp hx =>
      have e := hx.bls
      subst e
      exact ⟨p, bs, rfl, SqL.of (w _ _ hp), q _ G1 H1 (.refl w) (.bl _)⟩
theorem cad_min2 {i j : Int} : CaD (fun xs H Q => ∃ i j, xs = [.int i, .int j] ∧ Q (.int (if j < i then j else i)) H) G [.int i, .int j] (.int (if j < i then j else i)) := fun vs G1 H1 x w h Q q => by
  cases h with
  | cons h k =>
    cases k with
    | cons h2 k =>
      cases k
      cases h
      cases h2
      exact ⟨i, j, rfl, q _ G1 H1 (.refl w) (.int _)⟩
structure Mk2 (G0 H0 : Hp) (p : Addr) (ds : List D) (H : Hp) : Prop where
  at_ : ∃ G vs, Stp G0 H0 G H ∧ G p = none ∧ DqA G vs ds ∧ H p = some (.lst vs)
theorem Mk2.start {G0 H0 : Hp} {p : Addr} (x : Ex G0 H0) (hp : H0 p = none) : Mk2 G0 H0 p [] (upd H0 p (.lst [])) :=
  ⟨G0, [], ⟨.refl _, .new hp, x.trans (.new hp), fun _ h _ _ => h⟩, fresh_back x hp, .nil, upd_same⟩
theorem Mk2.turn {G0 H0 H1 : Hp} {p : Addr} {acc : List D} {σ2 : L2.St} {b : Bool} (h0 : H0 p = none) (m : Mk2 G0 H0 p acc H1) (hz : acc.length < sizeLine)
    (ht : ∀ G, Ex G0 G → Ex G H1 → EvB t σ2 G b) (he : ∀ G, Ex G0 G → Ex G H1 → b = true → EvD te σ2 G d) {N : Hp → Prop} (k : ∀ H2, Mk2 G0 H0 p (if b then acc ++ [d] else acc) H2 → N H2) :
    t σ2 H1 fun b' H3 => if b' = true then te σ2 H3 fun y H4 => ∃ ac, H4 p = some (.lst ac) ∧ ac.length < sizeLine ∧ N (upd H4 p (.lst (ac ++ [y]))) else N H3 := by
  obtain ⟨G, vs, s, gp, hvs, hH⟩ := m
  refine ht G s.g s.w G H1 (.refl G) s.w _ fun G2 H2 s2 => ?_
  have g2 : G2 p = none := s2.n p gp (by rw [hH]; intro z; cases z) (by rw [hH]; intro xs z; cases z)
  cases b with
  | false => exact iteF (k _ ⟨G2, vs, s.trans s2, g2, hvs.mono s2.g, s2.h _ _ hH⟩)
  | true =>
    refine iteT (he G s.g s.w rfl G2 H2 s2.g s2.w _ fun v G3 H3 s3 hv => ?_)
    have h3 : H3 p = some (.lst vs) := s3.h _ _ (s2.h _ _ hH)
    have g3 : G3 p = none := s3.n p g2 (by rw [s2.h _ _ hH]; intro z; cases z) (by rw [s2.h _ _ hH]; intro xs z; cases z)
    refine ⟨vs, h3, by rw [hvs.len]; exact hz, k _ ⟨G3, vs ++ [v], ?_, g3, (hvs.mono (s2.g.trans s3.g)).snoc hv, upd_same⟩⟩
    have s4 := (s.trans s2).trans s3
    refine ⟨s4.g, s4.h.mut h0, fun a o q => ?_, s4.n⟩
    have ha : a ≠ p := fun z => by rw [z, g3] at q; cases q
    rw [upd_ne ha]
    exact s3.w a o q
theorem Mk2.done {G0 H0 H1 : Hp} {p : Addr} {acc : List D} (h0 : H0 p = none) (m : Mk2 G0 H0 p acc H1) : ∃ G, Stp G0 H0 G H1 ∧ Dq G (.ref p) (.list acc) := by
  obtain ⟨G, vs, s, gp, hvs, hH⟩ := m
  refine ⟨upd G p (.lst vs), ⟨s.g.trans (.new gp), s.h, fun a o q => ?_, fun b h1 h2 h3 => ?_⟩, .lst upd_same (hvs.mono (.new gp))⟩
  · by_cases ha : a = p
    · subst ha; rw [upd_same] at q; rw [← q]; exact hH
    · rw [upd_ne ha] at q; exact s.w a o q
  · have hb : b ≠ p := fun z => h2 (z ▸ h0)
    rw [upd_ne hb]; exact s.n b h1 h2 h3
end
end Mv
namespace Mv
open PySem L2 PyProof.Rows PySem.Spec
section
variable {X : Cx} {pins : List (Addr × Obj)} {σ : L2.St} {H : Hp} {s : Shared}
theorem setT {E : Value → Shared → Prop} {D b : Addr} {kvs : List (List L2.Key × V)} {k : List L2.Key} {v : V} {r : Value} {Q : Unit → Shared → Prop} (hu : X.A.units + 1 < cLine) (J : Inv X pins σ H s) (at_ : H D = some (.dT kvs)) (room : kvs.length < sizeLine) (key : H b = some (.tup (k.map kV))) (val : RelV v r)
    (go : ∀ t, Inv X pins σ (upd H D (.dT (putK kvs k v))) t → Q () t) : wpAny (model X.prog X.w) X.A (dictSet D (.ref b) r) Q E s := by
  obtain ⟨size, mods, xs, rel, raw⟩ := dt_of J.hok at_
  have same := Paired.length rel
  have more := length_putK kvs k v
  refine wpAny_dictSet_heap (hsz := by omega) (show X.A.units < cLine by omega) (key_of J.hok key) raw fun g now but => go _ ?_
  obtain ⟨ob, es, ep, q1, q2, q3, q4, _, q6⟩ := now
  refine d_write J (by rw [at_]; exact True.intro) but ⟨ob, q1⟩ ⟨by omega, mods, _, (rel.put k key val).keeps fun c ys ec => ?_, ob, es, ep, q1, q2, q3, q4, q6⟩
  rw [upd_ne (ne_of ec at_ (fun z => nomatch z))]
  exact ec
end
section
variable {X : Cx}
def tDcT (wi : TI) (g : TG) (tt : TT) (tk tv : TE) (vs : List Nat) : TE := fun σ H Q => wi σ H fun J H1 => ∀ D, H1 D = none → ∃ W : Nat → Nat → Hp → Prop, (∃ m, W 0 m (upd H1 D (.dT []))) ∧ ∀ i m H, W i m H →
  (J.stop i H ∧ Q (.ref D) H) ∨ (J.go i H ∧ ∃ Nx : Hp → Prop, (∀ H', Nx H' → ∃ m', m' < m ∧ W (i + 1) m' H') ∧ ∀ x H', J.yld i H x H' → g x (wipe σ vs) H' fun σ2 H2 => wipe σ2 vs = wipe σ vs ∧ tt σ2 H2 fun b H3 =>
    if b = true then tk σ2 H3 fun y H4 => tv σ2 H4 fun z H5 => ∃ kvs k a, y = .ref a ∧ H5 a = some (.tup (k.map kV)) ∧ H5 D = some (.dT kvs) ∧ kvs.length < sizeLine ∧ Nx (upd H5 D (.dT (putK kvs k z))) else Nx H3)
theorem dcT_core {pins : List (Addr × Obj)} {s : Shared} {σ : L2.St} {H : Hp} {Q : VK} {use : Option (Value → Sem Unit)} {Qf : Value → Shared → Prop} {pos' : Pos} {kx vx tg iter : Expr} {ifs : List Expr} {scope : Scope} {own : List (Str × Nat)} {pos : Pos} {wi : TI} {g : TG} {tt : TT} {tk tv : TE} (hu : X.A.units + 1 < cLine) (hc : X.calm = true) (hN : X.N.Nodup) (I : Inv X pins σ H s) (hi : PI X tg iter wi) (ok : BlkOk X.N X.env.scope scope own)
    (hg : ∀ (s : Shared) (H : Hp) (C : Addr) (cl : List (Str × Addr)) (fp : List Addr), PG (X.blk s H scope (compEnvC scope cl C X.env) fp) tg g) (ht : ∀ (s : Shared) (H : Hp) (C : Addr) (cl : List (Str × Addr)) (fp : List Addr), PTs (X.blk s H scope (compEnvC scope cl C X.env) fp) ifs tt)
    (hk : ∀ (s : Shared) (H : Hp) (C : Addr) (cl : List (Str × Addr)) (fp : List Addr), PE (X.blk s H scope (compEnvC scope cl C X.env) fp) kx tk)
    (he : ∀ (s : Shared) (H : Hp) (C : Addr) (cl : List (Str × Addr)) (fp : List Addr), PE (X.blk s H scope (compEnvC scope cl C X.env) fp) vx tv) (hs : ∀ x, foldedSetIterable iter X.env x = pure x)
    (start : tDcT wi g tt tk tv (own.map (·.2)) σ H Q) (fin' : ∀ D C t m H', Inv X pins σ H' t → Q (.ref D) H' → t.heap.Ns C m → FpOk X pins H' C → compPost (model X.prog X.w) X.A X.xe use Qf (.ref D) C (.ok .next) t) :
    wpAny (model X.prog X.w) X.A (comprehension (.DictComp kx vx [⟨tg, iter, ifs, 0⟩] scope pos) scope X.env pos' newDict false (eval iter X.env) use) Qf X.xe s := by
  have cells : ∀ y ∈ scope.names, y.2 = .free → ∃ c, X.env.cells.lookup y.1 = some c := fun y m f => (ok.free y m f).elim (fun z => I.ok.has _ (.inl z)) fun z => I.ok.has _ (.inr z)
  refine wpAny_comprehension_free (use := use) rfl hs (closure_ok cells) ok.kind (fun y m f => by rw [ok.uniq y m, f]) (thn (hi.run pins s σ H _ I start) fun xv s1 w1 => thn w1 fun itv s2 w2 => ?_)
  obtain ⟨it, fp, turn, J, Hi, rfl, Ii, T, at0, far, loopOf⟩ := w2
  refine (wpAny_newObj_type (newEnv_comp ?_))
  generalize hD : s2.heap.objs.size = D
  have newD : Hi D = none := Ii.hok.fresh (Nat.le_of_eq hD)
  obtain ⟨W, ⟨m0, W0⟩, step⟩ := loopOf D newD
  generalize e3 : ({ s2 with heap := s2.heap.push { cls := .type "dict", data := .dict #[] } } : Shared) = s3
  have heap3 : s3.heap = s2.heap.push { cls := .type "dict", data := .dict #[] } := by rw [← e3]
  have Id : Inv X pins σ (upd Hi D (.dT [])) s3 := by
    rw [← e3]
    refine Ii.laid (t' := s2.toks) (fun b o z => Heap.get?_push_of_some _ z) (Nat.le_of_eq hD) ?_
    rw [← hD]
    exact dt_empty s2.heap Ii.big
  have below : ∀ b ∈ fp, b < s2.heap.objs.size := fun b m => (T.obj _ _ at0 b m).elim fun _ z => Heap.lt_size z.1
  have far3 : ∀ b ∈ fp, FpOk X pins (upd Hi D (.dT [])) b ∧ b < s3.heap.objs.size := fun b m => by
    have lt := below b m
    refine ⟨⟨?_, (far b m).2⟩, by rw [heap3, Heap.size_push]; exact Nat.lt_succ_of_lt lt⟩
    rw [upd_ne (Nat.ne_of_lt (hD ▸ lt))]
    exact (far b m).1
  have at3 : turn 0 s3.heap := T.keep _ _ _ at0 fun b _ o z => by rw [heap3]; exact Heap.get?_push_of_some _ z
  have Ib := block_start Id ok hN far3
  obtain ⟨cs, ecs⟩ : ∃ cs, cellsFrom (s3.heap.objs.size + 1) scope.names (cloFrom X.env.cells scope.names []) = cs := ⟨_, rfl⟩
  rw [ecs] at Ib
  show (codeAny _ _ (.compStart (.DictComp kx vx [⟨tg, iter, ifs, 0⟩] scope pos) 0 (.ref it) (.ref D) (compEnvC scope (cellsFrom (s3.heap.objs.size + 1) scope.names (cloFrom X.env.cells scope.names [])) s3.heap.objs.size X.env)) (compPost (model X.prog X.w) X.A X.xe use Qf (.ref D) s3.heap.objs.size) { s3 with heap := pushCells (s3.heap.push { cls := .type "dict", data := .dict #[] }) scope.names })
  rw [ecs]
  have pg := hg s3 (upd Hi D (.dT [])) s3.heap.objs.size cs fp
  have pt := ht s3 (upd Hi D (.dT [])) s3.heap.objs.size cs fp
  have pk := hk s3 (upd Hi D (.dT [])) s3.heap.objs.size cs fp
  have pv := he s3 (upd Hi D (.dT [])) s3.heap.objs.size cs fp
  have nofp : ∀ b ∈ fp, upd Hi D (.dT []) b = none := fun b m => (far3 b m).1.1
  obtain ⟨ce, ece⟩ : ∃ ce, compEnvC scope cs s3.heap.objs.size X.env = ce := ⟨_, rfl⟩
  have loc : ce.locals = s3.heap.objs.size := by rw [← ece]; rfl
  rw [ece] at Ib pg pt pk pv
  rw [ece]
  obtain ⟨Hd, eHd⟩ : ∃ Hd, upd Hi D (.dT []) = Hd := ⟨_, rfl⟩
  rw [eHd] at Id Ib pg pt pk pv W0 nofp far3
  obtain ⟨s4, e4⟩ : ∃ t : Shared, ({ s3 with heap := pushCells (s3.heap.push { cls := .type "dict", data := .dict #[] }) scope.names } : Shared) = t := ⟨_, rfl⟩
  rw [e4] at Ib
  rw [e4]
  have at4 : turn 0 s4.heap := T.keep _ _ _ at3 fun b _ o z => by rw [← e4]; exact pushCells_keeps _ _ _ _ (Heap.get?_push_of_some _ z)
  have apart : ∀ {σ' : L2.St} {H' : Hp} {t : Shared}, Inv (X.blk s3 Hd scope ce fp) [] σ' H' t → (∀ b ∈ fp, H' b = none) → ∀ b ∈ fp, FpOk (X.blk s3 Hd scope ce fp) [] H' b := fun {σ' H' t} z n b m =>
    ⟨n b m, (z.ok.exf b m).1, z.ok.exfs b m, .inl m, fun x c q => (z.ok.exf b m).2 x c q, fun p hp => absurd (show p ∈ ([] : List (Addr × Obj)) ++ [] from hp) (by simp)⟩
  refine codeAny_compStart_dict ?run (T.self X.A 0 _ _ _ at4 ?run)
  refine compLoop_anyD (fun n t => ∃ i H', Inv (X.blk s3 Hd scope ce fp) [] (wipe σ (own.map (·.2))) H' t ∧ turn i t.heap ∧ (∀ b ∈ fp, H' b = none) ∧ W i n H') ?_ m0 ⟨0, Hd, Ib, at4, nofp, W0⟩
  rintro n t ⟨i, Ht, It_, att, nt, Wt⟩
  rcases step i n Ht Wt with ⟨halt, fin⟩ | ⟨goes, Nx, dec, body⟩
  · refine thnF (T.done (X.blk s3 Hd scope ce fp) rfl rfl rfl hc i [] t _ Ht (fun _ _ => False) It_ (apart It_ nt) att halt) fun r u z => ?_
    obtain ⟨rfl, Iu⟩ := z
    have Iz : Inv X pins σ Ht u := Id.call' (ch := fp) Iu.os Iu.base Iu.hok Iu.bare fun b m => let ⟨_, z2, z3, z4, z5, z6⟩ := (far3 b m).1; ⟨z4, z2, z5, z6⟩
    have none3 : Ht s3.heap.objs.size = none := by rw [← loc]; exact Iu.free
    obtain ⟨mm, names, _⟩ := Iu.loc
    have names : u.heap.Ns ce.locals mm := names
    rw [loc] at names
    exact fin' D s3.heap.objs.size u mm Ht Iz fin names (Id.fpOk (Nat.le_refl _) none3)
  · refine thnF (T.item (X.blk s3 Hd scope ce fp) rfl rfl rfl hc i [] t _ Ht (fun _ _ => False) It_ (apart It_ nt) att goes) fun r u z => ?_
    obtain ⟨vu, rfl, z⟩ := z
    refine thnF z fun _ s7 ⟨x, H7, I7, r7, y7, at7, n7⟩ => ?_
    refine thnF (pg.run _ s7 _ H7 x vu _ (I7.pinned (apart I7 n7) (T.obj _ _ at7)) r7 (body x H7 y7)) fun _ s8 ⟨σ8, H8, I8, same8, q8⟩ => ?_
    refine thnF (pt.run _ s8 σ8 H8 _ I8 q8) fun b s9 ⟨H9, I9, q9⟩ => ?_
    have back : ∀ {t' : Shared} {H' : Hp}, Inv (X.blk s3 Hd scope ce fp) ([] ++ pinsAt fp s7.heap) σ8 H' t' → Nx H' → ∃ m, m < n ∧ ∃ i H', Inv (X.blk s3 Hd scope ce fp) [] (wipe σ (own.map (·.2))) H' t' ∧ turn i t'.heap ∧ (∀ b ∈ fp, H' b = none) ∧ W i m H' := fun {t' H'} I' nx => by
      obtain ⟨m', lt, w'⟩ := dec H' nx
      have stays : ∀ b ∈ fp, ∀ o, s7.heap.get? b = some o → t'.heap.get? b = some o ∧ H' b = none := fun b m o q => (I'.pin (b, o) (List.mem_append_right _ (List.mem_append_right _ (mem_pinsAt m q)))).imp id fun z => z.1
      refine ⟨m', lt, i + 1, H', (I'.unpinned (pins := [])).weak (by rw [← same8, wipe_length]) (fun j v q => ?_), T.keep _ _ _ at7 fun b m o q => (stays b m o q).1, fun b m => ?_, w'⟩
      · rw [← same8] at q
        exact (wipe_some q).1
      · obtain ⟨o, q, _⟩ := T.obj _ _ at7 b m
        exact (stays b m o q).2
    cases b with
    | false => exact back I9 q9
    | true =>
      refine thnF (pk.run _ s9 σ8 H9 _ I9 q9) fun z s10 ⟨yk, H10, I10, r10, q10⟩ => thnF (pv.run _ s10 σ8 H10 _ I10 q10) fun z2 s11 ⟨yv, H11, I11, r11, kvs, k, a, ek, key, atD, room, nx⟩ => ?_
      subst ek
      obtain rfl : z = Value.ref a := r10
      exact setT (X := X.blk s3 Hd scope ce fp) hu I11 atD room key r11 fun s12 I12 => back I12 nx
theorem pe_dcT {kx vx tg iter : Expr} {ifs : List Expr} {scope : Scope} {own : List (Str × Nat)} {pos : Pos} {wi : TI} {g : TG} {tt : TT} {tk tv : TE} (hu : X.A.units + 1 < cLine) (hc : X.calm = true) (hN : X.N.Nodup) (hi : PI X tg iter wi) (ok : BlkOk X.N X.env.scope scope own)
    (hg : ∀ (s : Shared) (H : Hp) (C : Addr) (cl : List (Str × Addr)) (fp : List Addr), PG (X.blk s H scope (compEnvC scope cl C X.env) fp) tg g) (ht : ∀ (s : Shared) (H : Hp) (C : Addr) (cl : List (Str × Addr)) (fp : List Addr), PTs (X.blk s H scope (compEnvC scope cl C X.env) fp) ifs tt)
    (hk : ∀ (s : Shared) (H : Hp) (C : Addr) (cl : List (Str × Addr)) (fp : List Addr), PE (X.blk s H scope (compEnvC scope cl C X.env) fp) kx tk)
    (he : ∀ (s : Shared) (H : Hp) (C : Addr) (cl : List (Str × Addr)) (fp : List Addr), PE (X.blk s H scope (compEnvC scope cl C X.env) fp) vx tv) (hs : ∀ x, foldedSetIterable iter X.env x = pure x := by intro _; rfl) :
    PE X (.DictComp kx vx [⟨tg, iter, ifs, 0⟩] scope pos) (tDcT wi g tt tk tv (own.map (·.2))) := ⟨fun pins s σ H Q I start => by
  rw [arm_eval_DictComp]
  refine dcT_core hu hc hN I hi ok hg ht hk he hs start fun D C t m H' J q names far => ⟨m, names, fun h'' sb => ?_⟩
  obtain ⟨f0, f1, f2, f3, f4, f5⟩ := far
  exact ⟨.ref D, H', J.turned (t' := t.toks) (fun b o hb z => (sb.2 b hb).trans z) f0 f1 f3 f4 f5, rfl, q⟩⟩
def tFix (te : TE) : TE := fun σ H Q => te σ H fun v H1 => ∃ d u, v = .ref d ∧ H1 d = some u ∧ Mut (some u) ∧ ∀ o, Q v (upd H1 d (.frz o u))
theorem pe_fix {e : Expr} {te : TE} (h : PE X e te) : PE X e (tFix te) := ⟨fun pins s σ H Q I q => thn (h.run pins s σ H _ I q) fun u s1 ⟨v, H1, I1, r, d, x, ev, hd, mu, q1⟩ => by
  subst ev
  obtain ⟨o, I2⟩ := I1.lock hd mu
  exact ⟨.ref d, _, I2, r, q1 o⟩⟩
end
section
variable {prog : Program} {w : World} {A : Around} {E : Value → Shared → Prop} {s : Shared}
end
end Mv
namespace Mv
open PySem L2 Evl
structure Zs (mg : Str → Option Value) : Prop where
  len : mg "len" = none
  zip : mg "zip" = none
  tuple : mg "tuple" = none
  list : mg "list" = none
  range : mg "range" = none
  all : mg "all" = none
  int : mg "int" = none
  bool : mg "bool" = none
  isinstance : mg "isinstance" = none
  abs : mg "abs" = none
  min : mg "min" = none
  repr : mg "repr" = none
structure Cal (P : Program) (w : World) (K : PySem.W.Frag) (mg : Str → Option Value) (base : Heap) (CX : CXT) (k : Nat) (x : Str) (ps : List Str) (sp : Sp) : Prop where
  ex : ∃ (f : Addr) (fd : FuncData), FnOk P w K mg base CX k f fd ps sp ∧ mg x = some (.ref f) ∧ PySem.W.keepIn K (.ref f) = true ∧ Binds K fd ps []
theorem pe_cal {X : Cx} {CX : CXT} {k : Nat} {x : Str} {ps : List Str} {sp : Sp} {E : XK} {p pos : Pos} {e : Expr} {es : List Expr} {t : TA} (C : Cal X.prog X.w X.K X.mg X.base CX k x ps sp) (hr : Room k X.A) (hx : Passes CX X E) (ha : PA X (e :: es) t)
    (hg : Gl X x := by rfl) (hs : starEach (e :: es) X.env = (false, eval e X.env) :: starEach es X.env := by rfl) (hpl : (backTo pos (starEach es X.env)).any (·.1) = false := by rfl) (hdb : (x == ("__debug__" : Str)) = false := by decide) :
    PE X (.Call (.Name x p) (e :: es) [] pos) (tCall sp [] E t) := by
  obtain ⟨f, fd, F, hm, hk, hb⟩ := C.ex
  exact pe_call F hr hg hm hk hb .nil hx ha hdb hs hpl
section
variable {K : PySem.W.Frag} {σ : L2.St} {G G' H H' : Hp} {ta tb te tx : TE} {t u : TT} {d e z : D} {ds es : List D} {D' : Ends} {tu tz : TS}
def sq (k : Bool) (as : List D) : D := if k then .list as else .tuple as
theorem sq_at {k : Bool} {as : List D} {v : V} {G : Hp} (h : Dq G v (sq k as)) : ∃ a xs, v = .ref a ∧ DqA G xs as ∧ ∀ H, Ex G H → SqK K k H a xs := by
  cases k with
  | true =>
    have h : Dq G v (.list as) := h
    cases h with
    | lst ha hx => exact ⟨_, _, rfl, hx, fun H e => SqL.of (e _ _ ha)⟩
  | false =>
    have h : Dq G v (.tuple as) := h
    cases h with
    | tup ha hx => exact ⟨_, _, rfl, hx, fun H e => TupA.sq (TupA.mono ha e)⟩
end
end Mv
namespace Mv
open PySem L2 Evl
section
variable {K : PySem.W.Frag} {σ : L2.St} {G G' H H' : Hp} {ta tb te tx : TE} {t u : TT} {d e z : D} {ds es : List D} {D' : Ends} {tu tz : TS}
end
section
variable {X : Cx}
theorem tuple_mul1 (l : Addr) (items : Array Value) (n : Nat) (dd : Option Addr) (sl : Array (Option Value)) (u : Tok) :
    Meets (Builtin.«tuple.__mul__» ⟨[.ref l, .int 1 u], []⟩) (fun _ R s => s.heap.get? l = some { cls := .type "tuple", dict := dd, data := .seq items n, slots := sl } ∧ R (.ok (.ret (Value.ref l))) s) :=
  .of_wp fun prog w A R s h => by
    obtain ⟨hp, g, d, tk, os⟩ := (s)
    obtain ⟨hl, h⟩ := h
    have f1 := AutoSeq1.idx_int
    wp_walk using wpAny_loadPart' hl
    exact ⟨_, rfl, h⟩
theorem int_rmul1 (a : Int) (t : Tok) (l : Addr) (items : Array Value) (n : Nat) (dd : Option Addr) (sl : Array (Option Value)) :
    Meets (Builtin.«int.__rmul__» ⟨[.int a t, .ref l], []⟩) (fun _ R s => s.heap.get? l = some { cls := .type "tuple", dict := dd, data := .seq items n, slots := sl } ∧ R (.ok (.ret Value.notImplemented)) s) := int_rmul_tuple a t l items n dd sl
def rRepA (K : PySem.W.Frag) : R2 := fun x y H Q => ∃ l k xs, x = .ref l ∧ y = .int k ∧ SqT K H l xs ∧ xs ≠ [] ∧ 1 ≤ k ∧ k ≤ 1000 ∧ xs.length ≤ 1000 ∧ (k = 1 → Q (.ref l) H) ∧ (2 ≤ k → ∀ p o, H p = none → o.dict = none → Q (.ref p) (upd H p (tupO o (List.replicate k.toNat xs).flatten)))
theorem op_repA : OpR X (binaryOp .Mult) (rRepA X.K) := by
  intro pins; intro s σ H x y v u Q I rx ry h
  obtain ⟨l, k, xs, rfl, rfl, hT, hne, h1, h2, hz, q1, q2⟩ := h
  by_cases hk : k = 1
  · subst hk
    cases rx
    obtain ⟨t, rfl⟩ := ry
    obtain ⟨its, r, ⟨⟨cls, dd, data, sl⟩, ho, hc, n, hd⟩, hs⟩ := (I.tuple hT)
    simp only at hc hd
    subst hc hd
    refine wpAny_binaryOp_repeat_ref (T := "tuple") (U := "int") (by decide) ⟨_, ho, rfl⟩ (fun s' => typeIs_int s' 1 t) noFill_tuple_mul F.fills_int_mul F.slot_int_rmul repeat_tuple F.slot_int_index.lookup
      (call_meets F.slot_int_rmul (typeIs_int s 1 t) F.entry_int_rmul (F.args_int_rmul_2 _ _) (int_rmul1 1 t l its.toArray n dd sl)
        ⟨ho, rfl, ⟨_, ho, rfl⟩, call_meets F.slot_tuple_mul ⟨_, ho, rfl⟩ F.entry_tuple_mul (F.args_tuple_mul_2 _ _) (tuple_mul1 l its.toArray n dd sl t) ⟨ho, ?_⟩⟩)
    exact ⟨.ref l, H, I, rfl, q1 rfl⟩
  · cases rx
    obtain ⟨t, rfl⟩ := ry
    exact op_repO I hT hne (by omega) h2 hz (q2 (by omega))
end
section
variable {K : PySem.W.Frag} {G : Hp} {z : D}
theorem opd_rep {as : List D} {k : Nat} (hne : as ≠ []) (h1 : 1 ≤ k) (h2 : k ≤ 1000) (hz : as.length ≤ 1000) : OpD (rRepA K) G (.tuple as) (.int (k : Int)) (.tuple (List.replicate k as).flatten) := fun x y G1 H1 a b hx hy Q q => by
  cases hx with
  | @tup p xs _ hp hxs =>
    cases hy
    refine ⟨p, (k : Int), xs, rfl, rfl, TupA.sq (TupA.mono hp b), fun e => hne (by subst e; cases hxs; rfl), by omega, by omega, by rw [hxs.len]; exact hz, fun e => ?_, fun _ l o hl od => ?_⟩
    · have e : k = 1 := by omega
      subst e
      rw [List.replicate_one, List.flatten_singleton] at q
      exact q _ G1 H1 (.refl b) (.tup hp hxs)
    · have s := Stp.new (o := tupO o (List.replicate (k : Int).toNat xs).flatten) b hl
      have hk : ((k : Int)).toNat = k := by omega
      rw [hk] at s ⊢
      exact q _ _ _ s (.tup (.new od) ((hxs.rep k).mono s.g))
end
end Mv
namespace Mv
open PySem L2 PyProof.Rows PySem.Spec
inductive TyY (K : PySem.W.Frag) (H : Hp) : V → Value → Prop where
  | x {v : V} {t : Value} (h : TyX K H v t) : TyY K H v t
  | d {a : Addr} {o : Obj} {kvs : List (List L2.Key × V)} (e : H a = some (.frz o (.dT kvs))) : TyY K H (.ref a) (.type "dict")
def rIsiY (K : PySem.W.Frag) : List V → Hp → VK → Prop := fun xs H Q => ∃ (v c : V) (t u : Value) (b : Bool), xs = [v, c] ∧ ClsV c u ∧ TyY K H v t ∧ PySem.W.kitOne K t u = some b ∧ Q (.bl b) H
def rIsiTY (K : PySem.W.Frag) : List V → Hp → VK → Prop := fun xs H Q => ∃ (v : V) (p : Addr) (cs : List V) (t : Value) (us : List Value) (b : Bool), xs = [v, .ref p] ∧ SqT K H p cs ∧ Paired ClsV cs us ∧ TyY K H v t ∧ PySem.W.kitAny K t us = some b ∧ Q (.bl b) H
section
variable {X : Cx}
theorem kitY {pins : List (Addr × Obj)} {σ : L2.St} {H : Hp} {s : Shared} {v : V} {u t : Value} (I : Inv X pins σ H s) (r : RelV v u) (ty : TyY X.K H v t) : ∃ S : Heap → Prop, PySem.W.KitX X.K u t S ∧ S s.heap ∧ u ≠ .builtin "__main__.__loader__#opaque" := by
  rcases ty with h | e
  · exact kit_of I r h
  · rename_i a o kvs
    obtain ⟨_, at_, exact_, _⟩ := I.frzT e
    obtain rfl : u = Value.ref a := r
    exact ⟨_, PySem.W.kitx_dict, ⟨o, at_, exact_.1⟩, fun z => nomatch z⟩
theorem call_isiY : CallR X (.builtin "isinstance") (rIsiY X.K) := fun pins s σ H xs us Q I r ⟨v, c, t, u, b, ex, k, ty, e, q⟩ => by
  subst ex
  obtain ⟨w1, w2, rfl, r1, r2⟩ := vals2 r
  obtain rfl := k.eq r2
  obtain ⟨S, Z, p, hx⟩ := kitY I r1 ty
  exact (PySem.W.kia_one Z I.kIn p e hx fun tk => ⟨.bl b, H, I.tok tk, rfl, q⟩)
theorem call_isiTY : CallR X (.builtin "isinstance") (rIsiTY X.K) := fun pins s σ H xs us Q I r ⟨v, p, cs, t, ws, b, ex, hp, k, ty, e, q⟩ => by
  subst ex
  obtain ⟨w1, w2, rfl, r1, r2⟩ := vals2 r
  obtain rfl : w2 = Value.ref p := r2
  obtain ⟨S, Z, at_, hx⟩ := kitY I r1 ty
  obtain ⟨its, rv, ⟨ob, h1, h2, n, h3⟩, _⟩ := I.tuple hp
  obtain rfl := ClsV.all k rv
  obtain ⟨oc, od, dt, sl⟩ := ob
  dsimp only at h2 h3
  subst h2 h3
  exact PySem.W.kia_tup Z I.kIn at_ h1 e hx fun tk => ⟨.bl b, H, I.tok tk, rfl, q⟩
end
end Mv
namespace Mv
open PySem PySem.Spec PyProof.Rows L2 Evl
section
variable {prog : Program} {w : World} {A : Around} {E : Value → Shared → Prop} {s : Shared}
theorem sorted_seq {T : String} {at_ : Addr} {ob : Obj} {vs : List Value} {n : Nat} {Q : Value → Shared → Prop} (hT : T = "list" ∨ T = "tuple") (ho : s.heap.get? at_ = some ob) (hc : ob.cls = .type T) (hd : ob.data = .seq vs.toArray n) (hL : vs.length ≤ sizeLine)
    (go : ∀ hp : Heap, (∀ b u, s.heap.get? b = some u → hp.get? b = some u) → ∀ E' : Value → Shared → Prop,
      wpAny (model prog w) A.in1.in1 (Builtin.«list.sort» ⟨[.ref hp.objs.size], []⟩) (fun f z => f = .done (.ret .none) ∧ Q (.ref hp.objs.size) z) E' { s with heap := hp.push (seqObj "list" vs.toArray 0) }) :
    wpAny (model prog w) A (call (.builtin "sorted") [.ref at_]) Q E s := by
  refine PySem.Calls.call_function_entry kind_sorted plain_sorted entry_sorted (args_sorted1 _) ?_
  unfold Builtin.«sorted»
  refine (wpAny_bind (m := checkCount "sorted" 1 1 _) (wpAny_pure ?_))
  refine wpAny_bind (PySem.wpAny_collect_seq at_ (items := vs.toArray) hT ho hc hd (fun hp keep => ?_) (by simpa using hL))
  refine wpAny_bind (wpAny_newList ?_ (by simpa using hL))
  refine wpAny_bind (wpAny_holding (PySem.wpAny_call_entry slot_list_sort ⟨_, Heap.get?_push_size _ rfl, rfl⟩ entry_list_sort ?body (args_list_sort _)))
  case body =>
    refine wpAny_mono (go hp keep _) (fun f z ⟨e, q⟩ => ?_) fun _ _ e => e
    subst e
    exact ⟨_, rfl, wpAny_pure ⟨_, rfl, q⟩⟩
end
def ordD : D → D → Bool := PySem.W.dataLe false (id : D → D)
def sortD (ds : List D) : List D := ds.mergeSort ordD
def rSortD (K : PySem.W.Frag) : List V → Hp → VK → Prop := fun vs H Q => ∃ (a : Addr) (bs : List (V × D)), vs = [.ref a] ∧ (SqL K H a (bs.map (·.1)) ∨ SqT K H a (bs.map (·.1))) ∧ (∀ b ∈ bs, Dp K H b.1 b.2) ∧ PySem.W.AllAlike (bs.map (·.2)) ∧ PySem.W.Sortable (bs.map (·.2)) ∧ (∀ b ∈ bs, b.2.depth ≤ 60) ∧
  ∀ p, H p = none → Q (.ref p) (upd H p (.lst ((bs.mergeSort (PySem.W.dataLe false (·.2))).map (·.1))))
theorem each_vals {bs : List (V × D)} {its : List Value} (h : Vals (bs.map (·.1)) its) : PySem.W.EachIs (fun v b => RelV b.1 v) its bs := by
  induction bs generalizing its with
  | nil => cases h; exact .nil
  | cons b bs ih => cases h with | cons h1 h2 => exact .cons h1 (ih h2)
theorem vals_each {bs : List (V × D)} {its : List Value} (h : PySem.W.EachIs (fun v b => RelV b.1 v) its bs) : Vals (bs.map (·.1)) its := by
  induction h with
  | nil => exact .nil
  | cons h1 _ ih => exact .cons h1 ih
section
variable {X : Cx}
theorem call_sortD (hu : X.A.units + 64 < cLine) : CallR X (.builtin "sorted") (rSortD X.K) := by
  intro pins; intro s σ H vs us Q I r h
  obtain ⟨a, bs, rfl, hs, hd, hal, hk, hdp, q⟩ := h
  rw [Vals.ref1 r]
  obtain ⟨its, rv, hsz, T, ob, n, hT, ho, hc, hdat⟩ : ∃ its : List Value, Vals (bs.map (·.1)) its ∧ (bs.map (·.1)).length ≤ sizeLine ∧ ∃ (T : String) (ob : Obj) (n : Nat), (T = "list" ∨ T = "tuple") ∧ s.heap.get? a = some ob ∧ ob.cls = .type T ∧ ob.data = .seq its.toArray n := by
    rcases hs with hs | hs
    · obtain ⟨its, rv, hl, hz⟩ := I.list hs
      obtain ⟨o, ho, hc, n, hd⟩ := hl.isList
      exact ⟨its, rv, hz, "list", o, n, .inl rfl, ho, hc, hd⟩
    · obtain ⟨its, rv, hl, hz⟩ := I.tuple hs
      obtain ⟨o, ho, hc, n, hd⟩ := (hl)
      exact ⟨its, rv, hz, "tuple", o, n, .inr rfl, ho, hc, hd⟩
  have ev := each_vals rv
  have er : ∀ {s' : Shared}, (∀ b u, s.heap.get? b = some u → s'.heap.get? b = some u) → PySem.W.EachIs (fun v b => ∃ as, Reads s'.heap v b.2 as) its bs := fun {s'} keep => by
    have key : ∀ {its : List Value} {cs : List (V × D)}, PySem.W.EachIs (fun v b => RelV b.1 v) its cs → (∀ b ∈ cs, b ∈ bs) → PySem.W.EachIs (fun v b => ∃ as, Reads s'.heap v b.2 as) its cs := fun {its cs} h => by
      induction h with
      | nil => intro _; exact .nil
      | @cons v b vs cs h1 _ ih =>
        intro m
        obtain ⟨as, r⟩ := Dp.reads I b.2 b.1 v (hd b (m b (.head _))) h1
        exact .cons ⟨as, Reads.keeps keep r⟩ (ih fun x hx => m x (.tail _ hx))
    exact key ev fun _ h => h
  have il : its.length ≤ sizeLine := by rw [← rv.length]; exact hsz
  refine sorted_seq hT ho hc hdat il fun hp keep E' => ?_
  have up : ∀ b u, s.heap.get? b = some u → (hp.push (seqObj "list" its.toArray 0)).get? b = some u := fun b u q => Heap.get?_push_of_some _ (keep b u q)
  have ne : ∀ b u, s.heap.get? b = some u → b ≠ hp.objs.size := fun b u q => Nat.ne_of_lt (Heap.lt_size (keep b u q))
  have er2 := er (s' := { s with heap := PySem.W.sortingHeap (hp.push (seqObj "list" its.toArray 0)) hp.objs.size its }) fun b u q => PySem.W.sortingHeap_old (ne b u q) (up b u q)
  refine PySem.W.list_sort_vals (s := { s with heap := hp.push (seqObj "list" its.toArray 0) }) (Heap.get?_push_size _ rfl) (PySem.W.SortsAt.data (s := { s with heap := PySem.W.sortingHeap (hp.push (seqObj "list" its.toArray 0)) hp.objs.size its }) (PySem.W.each_map (R := fun v d => ∃ as, Reads (PySem.W.sortingHeap (hp.push (seqObj "list" its.toArray 0)) hp.objs.size its) v d as) (fun b : V × D => b.2) er2) hal hk (fun d m => ?_)) il ⟨rfl, ?_⟩
  · obtain ⟨b, hb, rfl⟩ := List.mem_map.mp m
    have := hdp b hb
    show X.A.units + 2 + _ < _
    omega
  · have ev2 := PySem.W.sortVals_data (R := fun v (b : V × D) => RelV b.1 v) (enc := fun b : V × D => b.2) false ev er2 hal
    have none1 : s.heap.get? hp.objs.size = none := by
      cases q : s.heap.get? hp.objs.size with
      | none => rfl
      | some u => exact absurd rfl (ne _ u q)
    have none2 : H hp.objs.size = none := I.hok.gone none1
    obtain ⟨ep, at2⟩ := sortedHeap_at (out := (PySem.W.sortVals (PySem.W.dataKind (PySem.W.sortingHeap (hp.push (seqObj "list" its.toArray 0)) hp.objs.size its) (bs.map (·.2))) false its its).toArray) (Heap.get?_push_size _ rfl : (hp.push (seqObj "list" its.toArray 0)).get? hp.objs.size = some (seqObj "list" its.toArray 0))
    have vl := vals_each ev2
    have vlen := vl.length
    refine ⟨.ref _, upd H hp.objs.size (.lst ((bs.mergeSort (PySem.W.dataLe false (·.2))).map (·.1))), I.laidN (t' := s.toks) (fun b u q => ?_) none1 none2 ⟨?_, _, ep, vl, at2⟩, rfl, q _ none2⟩
    · rw [sortedHeap_old (ne b u q) (Heap.lt_size (up b u q))]
      exact up b u q
    · rw [List.length_map, List.length_mergeSort]
      rw [List.length_map] at hsz
      exact hsz
end
section
variable {K : PySem.W.Frag} {σ : L2.St} {G H : Hp} {te : TE} {d e z : D} {ds : List D}
theorem zip_dq {G : Hp} : ∀ {vs : List V} {ds : List D}, DqA G vs ds → (vs.zip ds).map (·.1) = vs ∧ (vs.zip ds).map (·.2) = ds ∧ ∀ b ∈ vs.zip ds, Dq G b.1 b.2
  | _, _, .nil => ⟨rfl, rfl, fun _ h => by cases h⟩
  | _, _, .cons h hn => by
    obtain ⟨e1, e2, e3⟩ := zip_dq hn
    refine ⟨by rw [List.zip_cons_cons, List.map_cons, e1], by rw [List.zip_cons_cons, List.map_cons, e2], fun b hb => ?_⟩
    rw [List.zip_cons_cons] at hb
    rcases (List.mem_cons.mp hb) with rfl | hb
    · exact h
    · exact e3 b hb
theorem dqa_pairs {G : Hp} : ∀ {bs : List (V × D)}, (∀ b ∈ bs, Dq G b.1 b.2) → DqA G (bs.map (·.1)) (bs.map (·.2))
  | [], _ => .nil
  | b :: bs, h => .cons (h b (.head _)) (dqa_pairs fun x hx => h x (.tail _ hx))
theorem flat_mem : ∀ {ds : List D}, flatDs ds = true → ∀ d ∈ ds, flatD d = true
  | d :: ds, h, x, hx => by
    simp only [flatDs, Bool.and_eq_true] at h
    rcases (List.mem_cons.mp hx) with rfl | hx
    · exact h.1
    · exact flat_mem h.2 x hx
  | [], _, x, hx => by cases hx
theorem sort_pairs {bs : List (V × D)} : (bs.mergeSort (PySem.W.dataLe false (·.2))).map (·.2) = sortD (bs.map (·.2)) := PySem.W.sort_maps (s := ordD) (fun b : V × D => b.2) fun _ _ _ _ => rfl
structure SortOk (ds : List D) : Prop where
  f : flatDs ds = true
  al : PySem.W.AllAlike ds
  so : PySem.W.Sortable ds
  dp : ∀ d ∈ ds, d.depth ≤ 60
theorem cad_sortL (o : SortOk ds) : CaD (rSortD K) G [.list ds] (.list (sortD ds)) := fun vs G1 H1 x w h Q q => by
  cases h with
  | cons h k =>
    cases k
    cases h with
    | @lst p xs _ hp hxs =>
      obtain ⟨e1, e2, e3⟩ := zip_dq hxs
      refine ⟨p, xs.zip ds, rfl, .inl (by rw [e1]; exact SqL.of (w _ _ hp)), fun b hb => ?_, by rw [e2]; exact o.al, by rw [e2]; exact o.so, fun b hb => ?_, fun p2 hp2 => ?_⟩
      · exact dp_of w (e3 b hb) (flat_mem o.f _ (by rw [← e2]; exact List.mem_map.mpr ⟨b, hb, rfl⟩))
      · exact o.dp _ (by rw [← e2]; exact List.mem_map.mpr ⟨b, hb, rfl⟩)
      · have s := Stp.new (o := .lst (((xs.zip ds).mergeSort (PySem.W.dataLe false (·.2))).map (·.1))) w hp2
        refine q _ _ _ s (.lst upd_same ?_)
        have := dqa_pairs (G := G1) (bs := (xs.zip ds).mergeSort (PySem.W.dataLe false (·.2))) fun b hb => e3 b (List.mem_mergeSort.mp hb)
        rw [sort_pairs, e2] at this
        exact this.mono s.g
theorem cad_sortT (o : SortOk ds) : CaD (rSortD K) G [.tuple ds] (.list (sortD ds)) := fun vs G1 H1 x w h Q q => by
  cases h with
  | cons h k =>
    cases k
    cases h with
    | @tup p xs _ hp hxs =>
      obtain ⟨e1, e2, e3⟩ := zip_dq hxs
      refine ⟨p, xs.zip ds, rfl, .inr (by rw [e1]; exact TupA.sq (TupA.mono hp w)), fun b hb => ?_, by rw [e2]; exact o.al, by rw [e2]; exact o.so, fun b hb => ?_, fun p2 hp2 => ?_⟩
      · exact dp_of w (e3 b hb) (flat_mem o.f _ (by rw [← e2]; exact List.mem_map.mpr ⟨b, hb, rfl⟩))
      · exact o.dp _ (by rw [← e2]; exact List.mem_map.mpr ⟨b, hb, rfl⟩)
      · have s := Stp.new (o := .lst (((xs.zip ds).mergeSort (PySem.W.dataLe false (·.2))).map (·.1))) w hp2
        refine q _ _ _ s (.lst upd_same ?_)
        have := dqa_pairs (G := G1) (bs := (xs.zip ds).mergeSort (PySem.W.dataLe false (·.2))) fun b hb => e3 b (List.mem_mergeSort.mp hb)
        rw [sort_pairs, e2] at this
        exact this.mono s.g
def rInA (K : PySem.W.Frag) (neg : Bool) : R2 := fun x y H Q => ∃ (d : D) (ds : List D), Dp K H x d ∧ (Dp K H y (.list ds) ∧ SeqAt.shaped (.list ds) = true ∨ Dp K H y (.tuple ds) ∧ SeqAt.shaped (.tuple ds) = true) ∧ SeqAt.shaped d = true ∧ Q (.bl (if neg then !ds.any fun z => PyData.eqv z d else ds.any fun z => PyData.eqv z d)) H
theorem op_inA {X : Cx} (hu : X.A.units + 64 + 1 < cLine) : OpR X (compareOp .In) (rInA X.K false) := by
  intro pins; intro s σ H x y v u Q I rx ry h
  obtain ⟨d, ds, hd, he, sd, q⟩ := h
  obtain ⟨as, r1⟩ := (Dp.reads I d x v hd rx)
  rcases he with ⟨he, se⟩ | ⟨he, se⟩
  · obtain ⟨bs, r2⟩ := Dp.reads I (.list ds) y u he ry
    exact (SeqAt.in_list_reads r2 r1 (SeqAt.canLay_of_shaped se) (SeqAt.canLay_of_shaped sd) (room_in_shaped sd hu) ⟨.bl _, H, I, rfl, q⟩)
  · obtain ⟨bs, r2⟩ := Dp.reads I (.tuple ds) y u he ry
    exact SeqAt.in_tuple_reads r2 r1 (SeqAt.canLay_of_shaped se) (SeqAt.canLay_of_shaped sd) (room_in_shaped sd hu) ⟨.bl _, H, I, rfl, q⟩
theorem op_notInA {X : Cx} (hu : X.A.units + 64 + 1 < cLine) : OpR X (compareOp .NotIn) (rInA X.K true) := by
  intro pins; intro s σ H x y v u Q I rx ry h
  obtain ⟨d, ds, hd, he, sd, q⟩ := h
  obtain ⟨as, r1⟩ := (Dp.reads I d x v hd rx)
  rcases he with ⟨he, se⟩ | ⟨he, se⟩
  · obtain ⟨bs, r2⟩ := Dp.reads I (.list ds) y u he ry
    exact (SeqAt.notIn_list_reads r2 r1 (SeqAt.canLay_of_shaped se) (SeqAt.canLay_of_shaped sd) (room_in_shaped sd hu) ⟨.bl _, H, I, rfl, q⟩)
  · obtain ⟨bs, r2⟩ := Dp.reads I (.tuple ds) y u he ry
    exact SeqAt.notIn_tuple_reads r2 r1 (SeqAt.canLay_of_shaped se) (SeqAt.canLay_of_shaped sd) (room_in_shaped sd hu) ⟨.bl _, H, I, rfl, q⟩
theorem opd_inL {neg : Bool} (f1 : flatD d = true) (f2 : flatD (.list ds) = true) (s1 : SeqAt.shaped d = true) (s2 : SeqAt.shaped (.list ds) = true) : OpD (rInA K neg) G d (.list ds) (.bool (if neg then !ds.any fun z => PyData.eqv z d else ds.any fun z => PyData.eqv z d)) := fun x y G1 H1 a b hx hy Q q =>
  ⟨d, ds, dp_of b hx f1, .inl ⟨dp_of b hy f2, s2⟩, s1, q _ G1 H1 (.refl b) (.bl _)⟩
theorem opd_inT {neg : Bool} (f1 : flatD d = true) (f2 : flatD (.tuple ds) = true) (s1 : SeqAt.shaped d = true) (s2 : SeqAt.shaped (.tuple ds) = true) : OpD (rInA K neg) G d (.tuple ds) (.bool (if neg then !ds.any fun z => PyData.eqv z d else ds.any fun z => PyData.eqv z d)) := fun x y G1 H1 a b hx hy Q q =>
  ⟨d, ds, dp_of b hx f1, .inr ⟨dp_of b hy f2, s2⟩, s1, q _ G1 H1 (.refl b) (.bl _)⟩
theorem opd_ltT {a b : List Int} : OpD (rLtT K) G (.tuple (a.map PyData.int)) (.tuple (b.map PyData.int)) (.bool (HT.lexLt a b)) := fun x y G1 H1 u w hx hy Q q => by
  cases hx with
  | tup hp hxs =>
    cases hy with
    | tup hp2 hys =>
      have e1 := hxs.ints
      have e2 := hys.ints
      subst e1 e2
      exact ⟨_, _, a, b, rfl, rfl, TupA.sq (TupA.mono hp w), TupA.sq (TupA.mono hp2 w), q _ G1 H1 (.refl w) (.bl _)⟩
end
end Mv
namespace Mv
open PySem PySem.Spec PyProof.Rows L2 Evl HT
section
variable {prog : Program} {w : World} {A : Around} {E : Value → Shared → Prop} {s : Shared}
end
section
variable {X : Cx}
end
section
variable {K : PySem.W.Frag} {σ : L2.St} {G : Hp} {te : TE}
end
end Mv
namespace Mv
open PySem PySem.Spec PyProof.Rows L2 Evl
section
variable {X : Cx}
def rLenST (K : PySem.W.Frag) (P : Program) (w : World) : List V → Hp → VK → Prop := fun xs H Q => ∃ (a : Addr) (L : List (Addr × List Int)), xs = [V.ref a] ∧ H a = some (SetTO P w a L) ∧ (∀ p ∈ L, SqT K H p.1 (p.2.map V.int)) ∧ ((L.map (·.2)).Nodup → Q (.int (L.length : Nat)) H)
theorem call_lenST : CallR X (.builtin "len") (rLenST X.K X.prog X.w) := by
  intro pins; intro s σ H xs us Q I r h
  obtain ⟨a, L, rfl, ha, ht, q⟩ := h
  rw [Vals.ref1 r]
  obtain ⟨R0, _⟩ := I.hok a _ ha
  obtain ⟨es, ep, t, R⟩ := SetT0.full R0 fun p hp => I.isT (ht p hp)
  obtain ⟨o, ho, hex, hd⟩ := (R.ob)
  refine call_len_set ho hex hd R.fits (by rw [R.size]; have := R.few; omega) ⟨.int (L.length : Nat), H, I.tok _, ⟨_, by rw [R.size]⟩, q R.nd⟩
end
theorem nodup_len {α : Type} [DecidableEq α] : ∀ {L M : List α}, L.Nodup → (∀ x ∈ L, x ∈ M) → L.length ≤ M.length
  | [], _, _, _ => Nat.zero_le _
  | x :: L, M, h, s => by
    have hx := s x (.head _)
    have hn := List.nodup_cons.mp h
    have ih := nodup_len (L := L) (M := M.erase x) hn.2 fun y hy => (List.mem_erase_of_ne (fun e => hn.1 (by rw [← e]; exact hy))).mpr (s y (.tail _ hy))
    rw [List.length_erase_of_mem hx] at ih
    have := List.length_pos_of_mem hx
    rw [List.length_cons]
    omega
theorem nodup_perm {α : Type} [DecidableEq α] : ∀ {L M : List α}, L.Nodup → (∀ x ∈ L, x ∈ M) → L.length = M.length → L.Perm M
  | [], M, _, _, e => by
    have : M = [] := List.eq_nil_of_length_eq_zero e.symm
    rw [this]
  | x :: L, M, h, s, e => by
    have hx := s x (.head _)
    have hn := List.nodup_cons.mp h
    have hl : L.length = (M.erase x).length := by
      rw [List.length_erase_of_mem hx]
      rw [List.length_cons] at e
      omega
    have ih := nodup_perm (L := L) (M := M.erase x) hn.2 (fun y hy => (List.mem_erase_of_ne (fun e => hn.1 (by rw [← e]; exact hy))).mpr (s y (.tail _ hy))) hl
    exact (ih.cons x).trans (List.perm_cons_erase hx).symm
theorem nodup_iff {α : Type} [DecidableEq α] {L M : List α} (h : L.Nodup) (s : ∀ x ∈ L, x ∈ M) (t : ∀ x ∈ M, x ∈ L) : L.length = M.length ↔ M.Nodup := by
  refine ⟨fun e => (nodup_perm h s e).nodup_iff.mp h, fun hm => ?_⟩
  have h1 := nodup_len h s
  have h2 := nodup_len hm t
  omega
section
variable {K : PySem.W.Frag} {P : Program} {w : World} {σ : L2.St} {G H : Hp} {te : TE}
theorem refs_of {G : Hp} : ∀ {R : List (List Int)} {xs : List V}, DqA G xs (R.map fun p => PyData.tuple (p.map PyData.int)) → ∃ ks : List (Addr × List Int), xs = ks.map (fun p => V.ref p.1) ∧ ks.map (·.2) = R ∧ ∀ p ∈ ks, TupA G p.1 (p.2.map V.int)
  | [], _, h => by cases h; exact ⟨[], rfl, rfl, fun _ h => by cases h⟩
  | r :: R, _, h => by
    cases h with
    | cons h1 h2 =>
      obtain ⟨ks, rfl, e, hk⟩ := refs_of h2
      cases h1 with
      | @tup a xs _ ha hxs =>
        have e2 := hxs.ints
        subst e2
        refine ⟨(a, r) :: ks, rfl, by rw [List.map_cons, e], fun p hp => ?_⟩
        rcases (List.mem_cons.mp hp) with rfl | hp
        · exact ha
        · exact hk p hp
theorem d_lenset {R : List (List Int)} (h : EvD te σ G (.list (R.map fun p => PyData.tuple (p.map PyData.int)))) (hl : R.length < 64) (z : Int) (hz : ∀ M : List (List Int), M.Nodup → (∀ x ∈ M, x ∈ R) → (∀ x ∈ R, x ∈ M) → ((M.length : Nat) : Int) = z) :
    EvD (tCB (rLenST K P w) (tCons (tCB (rSetOfT K P w) (tCons te tNil)) tNil)) σ G (.int z) := fun G1 H1 x wf Q q => h G1 H1 x wf _ fun v G2 H2 s hv => by
  cases hv with
  | @lst a xs _ ha hxs =>
    obtain ⟨ks, rfl, e, hk⟩ := refs_of hxs
    have lk : ks.length = R.length := by rw [← e, List.length_map]
    refine ⟨a, ks, rfl, SqL.of (s.w _ _ ha), fun p hp => ((hk p hp).mono s.w).sq, by omega, fun b L hb h1 h2 => ?_⟩
    have st := Stp.old s.w (show Ex H2 (upd H2 b (SetTO P w b L)) from .new hb)
    refine ⟨b, L, rfl, upd_same, fun p hp => (((hk p (h1 p hp)).mono s.w).mono st.h).sq, fun nd => ?_⟩
    have e3 := hz (L.map (·.2)) nd (fun x hx => by
      obtain ⟨p, hp, rfl⟩ := List.mem_map.mp hx
      rw [← e]
      exact List.mem_map.mpr ⟨p, h1 p hp, rfl⟩) (fun x hx => by
      rw [← e] at hx
      obtain ⟨p, hp, rfl⟩ := List.mem_map.mp hx
      exact h2 p hp)
    rw [List.length_map] at e3
    rw [e3]
    exact q _ _ _ (s.trans st) (.int z)
end
end Mv
namespace Mv
open PySem L2 Evl
abbrev KK := List L2.Key
def lkD (es : List (KK × D)) (k : KK) : Option D := (es.find? fun e => decide (e.1 = k)).map (·.2)
def putD (es : List (KK × D)) (k : KK) (d : D) : List (KK × D) := if (es.any fun e => decide (e.1 = k)) = true then es.map (fun e => if e.1 = k then (e.1, d) else e) else es ++ [(k, d)]
def dropD (es : List (KK × D)) (k : KK) : List (KK × D) := es.filter fun e => decide (e.1 ≠ k)
theorem putD_len (es : List (KK × D)) (k : KK) (d : D) : (putD es k d).length ≤ es.length + 1 := by
  unfold putD
  split
  · rw [List.length_map]; omega
  · rw [List.length_append]; exact Nat.le_refl _
section
variable {G G' H : Hp} {kvs : List (KK × V)} {es : List (KK × D)} {k : KK} {d : D} {v : V}
theorem DqP.len (h : DqP G kvs es) : kvs.length = es.length := by
  induction kvs generalizing es with
  | nil => cases h; rfl
  | cons x xs ih => cases h with | cons _ _ t => rw [List.length_cons, List.length_cons, ih t]
theorem DqP.keys (h : DqP G kvs es) : kvs.map (·.1) = es.map (·.1) := by
  induction kvs generalizing es with
  | nil => cases h; rfl
  | cons x xs ih => cases h with | cons _ _ t => rw [List.map_cons, List.map_cons, ih t]
theorem DqP.val (h : DqP G kvs es) (l : lkD es k = some d) : ∃ v, valV kvs k = some v ∧ Dq G v d ∧ k ≠ [] := by
  induction kvs generalizing es with
  | nil => cases h; cases l
  | cons x xs ih =>
    cases h with
    | @cons k' v' d' _ es' nk q t =>
      unfold lkD at l
      rw [List.find?_cons] at l
      by_cases e : k' = k
      · rw [decide_eq_true e] at l
        cases l
        exact ⟨v', valV_pos e, q, e ▸ nk⟩
      · rw [decide_eq_false e] at l
        obtain ⟨u, h1, h2⟩ := ih t l
        exact ⟨u, (valV_neg e).trans h1, h2⟩
theorem DqP.noval (h : DqP G kvs es) (l : lkD es k = none) : valV kvs k = none := by
  induction kvs generalizing es with
  | nil => cases h; rfl
  | cons x xs ih =>
    cases h with
    | @cons k' v' d' _ es' nk q t =>
      unfold lkD at l
      rw [List.find?_cons] at l
      by_cases e : k' = k
      · rw [decide_eq_true e] at l; cases l
      · rw [decide_eq_false e] at l
        exact (valV_neg e).trans (ih t l)
theorem DqP.isv (h : DqP G kvs es) (k : KK) : (valV kvs k).isSome = (lkD es k).isSome := by
  cases e : lkD es k with
  | none => rw [h.noval e]; rfl
  | some d => obtain ⟨u, q, _⟩ := h.val e; rw [q]; rfl
theorem any_key {α : Type} : ∀ {xs : List (KK × α)} {ys : List (KK × D)}, xs.map (·.1) = ys.map (·.1) → (xs.any fun e => decide (e.1 = k)) = ys.any fun e => decide (e.1 = k)
  | [], [], _ => rfl
  | [], _ :: _, h => by simp at h
  | _ :: _, [], h => by simp at h
  | x :: xs, y :: ys, h => by
    rw [List.map_cons, List.map_cons] at h
    injection h with h1 h2
    rw [List.any_cons, List.any_cons, any_key h2, h1]
theorem DqP.snoc (h : DqP G kvs es) (nk : k ≠ []) (q : Dq G v d) : DqP G (kvs ++ [(k, v)]) (es ++ [(k, d)]) := by
  induction kvs generalizing es with
  | nil => cases h; exact .cons nk q .nil
  | cons x xs ih => cases h with | cons n a t => exact .cons n a (ih t)
theorem DqP.repl (h : DqP G kvs es) (q : Dq G v d) : DqP G (kvs.map fun kv => if kv.1 = k then (kv.1, v) else kv) (es.map fun e => if e.1 = k then (e.1, d) else e) := by
  induction kvs generalizing es with
  | nil => cases h; exact .nil
  | cons x xs ih =>
    cases h with
    | @cons k' v' d' _ es' nk a t =>
      (rw [List.map_cons, List.map_cons])
      by_cases e : k' = k
      · simp only [e, if_true]; exact .cons (e ▸ nk) q (ih t)
      · simp only [e, if_false]; exact .cons nk a (ih t)
theorem DqP.put (h : DqP G kvs es) (nk : k ≠ []) (q : Dq G v d) : DqP G (putK kvs k v) (putD es k d) := by
  unfold putK putD
  rw [any_key h.keys]
  split
  · exact h.repl q
  · exact h.snoc nk q
theorem DqP.drop (h : DqP G kvs es) : DqP G (dropK kvs k) (dropD es k) := by
  unfold dropK dropD
  induction kvs generalizing es with
  | nil => cases h; exact .nil
  | cons x xs ih =>
    cases h with
    | @cons k' v' d' _ es' nk a t =>
      by_cases e : k' = k
      · rw [List.filter_cons_of_neg (by simp [e]), List.filter_cons_of_neg (by simp [e])]; exact ih t
      · rw [List.filter_cons_of_pos (by simp [e]), List.filter_cons_of_pos (by simp [e])]; exact .cons nk a (ih t)
theorem DqP.get {i : Nat} (h : DqP G kvs es) (e : kvs[i]? = some (k, v)) : ∃ d, es[i]? = some (k, d) ∧ Dq G v d ∧ k ≠ [] := by
  induction kvs generalizing es i with
  | nil => simp at e
  | cons x xs ih =>
    cases h with
    | @cons k' v' d' _ es' nk a t =>
      cases i with
      | zero => simp at e; obtain ⟨rfl, rfl⟩ := e; exact ⟨d', rfl, a, nk⟩
      | succ i => obtain ⟨d, h1, h2⟩ := ih t (by simpa using e); exact ⟨d, by simpa using h1, h2⟩
theorem keyD_inj : ∀ {a b : L2.Key}, keyD a = keyD b → a = b
  | .inl i, .inl j, h => by have h' : PyData.int i = .int j := h; injection h' with h'; rw [h']
  | .inr x, .inr y, h => by have h' : PyData.str x = .str y := h; injection h' with h'; rw [h']
  | .inl i, .inr y, h => nomatch (show PyData.int i = .str y from h)
  | .inr x, .inl j, h => nomatch (show PyData.str x = .int j from h)
theorem keyDs_inj : ∀ {a b : KK}, a.map keyD = b.map keyD → a = b
  | [], [], _ => rfl
  | [], _ :: _, h => by simp at h
  | _ :: _, [], h => by simp at h
  | x :: xs, y :: ys, h => by
    rw [List.map_cons, List.map_cons] at h
    injection h with h1 h2
    rw [keyD_inj h1, keyDs_inj h2]
theorem pairs_inj : ∀ {a b : List (KK × D)}, (a.map fun e => (kD e.1, e.2)) = (b.map fun e => (kD e.1, e.2)) → a = b
  | [], [], _ => rfl
  | [], _ :: _, h => by simp at h
  | _ :: _, [], h => by simp at h
  | (k1, d1) :: xs, (k2, d2) :: ys, h => by
    rw [List.map_cons, List.map_cons] at h
    injection h with h1 h2
    injection h1 with h3 h4
    have h3' : PyData.tuple (k1.map keyD) = .tuple (k2.map keyD) := h3
    injection h3' with h3'
    rw [keyDs_inj h3', pairs_inj h2, show d1 = d2 from h4]
theorem Dq.dict (h : Dq G v (dctD es)) : ∃ a o kvs, v = .ref a ∧ G a = some (.frz o (.dT kvs)) ∧ DqP G kvs es := by
  generalize e : dctD es = z at h
  cases h with
  | emp hp q =>
    exfalso
    injection e with e
    subst e
    cases es with
    | nil => cases q
    | cons x xs => cases q
  | dct hp k q =>
    injection e with e
    subst q
    have := pairs_inj e
    subst this
    exact ⟨_, _, _, rfl, hp, k⟩
  | _ => cases e
theorem keys_at : ∀ {k : KK} {vs : List V}, DqA G vs (k.map keyD) → vs = k.map kV
  | [], _, h => by cases h; rfl
  | .inl i :: k, _, h => by
    cases h with
    | cons a t => cases a; rw [List.map_cons, ← keys_at t]; rfl
  | .inr x :: k, _, h => by
    cases h with
    | cons a t => cases a; rw [List.map_cons, ← keys_at t]; rfl
theorem at_keys : ∀ (k : KK), DqA G (k.map kV) (k.map keyD)
  | [] => .nil
  | .inl i :: k => .cons (.int i) (at_keys k)
  | .inr x :: k => .cons (.str x) (at_keys k)
theorem Dq.key (h : Dq G v (kD k)) (nk : k ≠ []) : ∃ b, v = .ref b ∧ G b = some (.tup (k.map kV)) := by
  generalize e : kD k = z at h
  cases h with
  | @tup a xs ds hp hx =>
    have e' : PyData.tuple (k.map keyD) = .tuple ds := e
    injection e' with e'
    subst e'
    rw [keys_at hx] at hp
    exact ⟨_, rfl, hp.key (keyV_ks nk)⟩
  | _ => cases e
theorem key_dq {b : Addr} (h : G b = some (.tup (k.map kV))) (nk : k ≠ []) : Dq G (.ref b) (kD k) := .tup (.ofKey h (keyV_ks nk)) (at_keys k)
def kn (G : Hp) (q : Addr) (xs : List V) : Hp := fun b => if b = q then some (.tup xs) else G b
theorem kn_at {q : Addr} {xs : List V} : kn G q xs q = some (.tup xs) := by unfold kn; rw [if_pos rfl]
theorem kn_ex {q : Addr} {xs : List V} (w : Ex G H) (h : H q = some (.tup xs)) : Ex G (kn G q xs) ∧ Ex (kn G q xs) H := by
  refine (⟨fun b o e => ?_, fun b o e => ?_⟩)
  · unfold kn
    by_cases z : b = q
    · have := w _ _ e
      rw [z, h] at this
      rw [if_pos z]; exact this
    · rw [if_neg z]; exact e
  · unfold kn at e
    by_cases z : b = q
    · rw [if_pos z] at e; rw [z]; cases e; exact h
    · rw [if_neg z] at e; exact w _ _ e
theorem Stp.know {G0 H0 : Hp} {q : Addr} {xs : List V} (s : Stp G0 H0 G H) (h : H q = some (.tup xs)) : Stp G0 H0 (kn G q xs) H := by
  obtain ⟨e1, e2⟩ := kn_ex s.w h
  refine ⟨s.g.trans e1, s.h, e2, fun b h1 h2 h3 => ?_⟩
  unfold kn
  by_cases z : b = q
  · exfalso
    cases e : H0 b with
    | none => exact h2 e
    | some o =>
      have := s.h _ _ e
      rw [z, h] at this
      cases this
      exact h3 xs e
  · rw [if_neg z]; exact s.n b h1 h2 h3
section
variable {K : PySem.W.Frag} {σ : L2.St} {te td ty : TE} {t : TT}
end
end
end Mv
namespace Mv
open PySem L2 Evl
section
variable {G G' H H' : Hp} {kvs : List (KK × V)} {es : List (KK × D)} {k : KK} {d : D} {v : V} {a : Addr}
structure MD (G H : Hp) (a : Addr) (es : List (KK × D)) : Prop where
  g : G a = none
  at_ : ∃ kvs, H a = some (.dT kvs) ∧ DqP G kvs es
theorem MD.stp (m : MD G H a es) (s : Stp G H G' H') : MD G' H' a es := by
  obtain ⟨kvs, e, q⟩ := m.at_
  exact ⟨s.n a m.g (by rw [e]; intro z; cases z) (by rw [e]; intro _ z; cases z), kvs, s.h _ _ e, q.mono s.g⟩
theorem ex_mut {o : HO} (w : Ex G H) (g : G a = none) : Ex G (upd H a o) := fun b u q => by
  rw [upd_ne (fun z => by rw [z, g] at q; cases q)]
  exact w b u q
theorem MD.other {b : Addr} {o : HO} (m : MD G H a es) (ne : a ≠ b) : MD G (upd H b o) a es := by
  obtain ⟨kvs, e, q⟩ := m.at_
  exact ⟨m.g, kvs, by rw [upd_ne ne]; exact e, q⟩
def less (G : Hp) (a : Addr) : Hp := fun b => if b = a then none else G b
mutual
theorem Dq.less {G : Hp} {a : Addr} {o : Obj} {u : List (List L2.Key × V)} (f : G a = some (.frz o (.dT u))) : ∀ {v : V} {d : D}, Dq G v d → flatD d = true → Dq (less G a) v d
  | _, _, .non, _ => .non
  | _, _, .bl b, _ => .bl b
  | _, _, .int i, _ => .int i
  | _, _, .str x, _ => .str x
  | _, _, .lst (a := c) h k, fl => .lst (by unfold Mv.less; rw [if_neg (fun z => by rw [z, f] at h; cases h)]; exact h) (DqA.less f k (by simpa [flatD] using fl))
  | _, _, .tup (a := c) h k, fl => .tup (h.by fun o' y e => by unfold Mv.less; rw [if_neg (fun z => by rw [z, f] at e; rcases y with rfl | ⟨_, rfl⟩ <;> cases e)]; exact e) (DqA.less f k (by simpa [flatD] using fl))
  | _, _, .emp _ _, fl => by simp [flatD] at fl
  | _, _, .dct _ _ _, fl => by simp [flatD] at fl
theorem DqA.less {G : Hp} {a : Addr} {o : Obj} {u : List (List L2.Key × V)} (f : G a = some (.frz o (.dT u))) : ∀ {vs : List V} {ds : List D}, DqA G vs ds → flatDs ds = true → DqA (less G a) vs ds
  | _, _, .nil, _ => .nil
  | _, _, .cons h k, fl => by
    simp only [flatDs, Bool.and_eq_true] at fl
    exact .cons (Dq.less f h fl.1) (DqA.less f k fl.2)
end
theorem DqP.less {o : Obj} {u : List (List L2.Key × V)} (f : G a = some (.frz o (.dT u))) (fl : ∀ e ∈ es, flatD e.2 = true) (h : DqP G kvs es) : DqP (less G a) kvs es := by
  induction kvs generalizing es with
  | nil => cases h; exact .nil
  | cons x xs ih => cases h with | cons n q t => exact .cons n (q.less f (fl _ (List.mem_cons_self ..))) (ih (fun e he => fl e (List.mem_cons_of_mem _ he)) t)
structure MkD (G0 H0 : Hp) (p : Addr) (es : List (KK × D)) (H : Hp) : Prop where
  at_ : ∃ G kvs, Stp G0 H0 G H ∧ G p = none ∧ DqP G kvs es ∧ H p = some (.dT kvs)
theorem MkD.start {G0 H0 : Hp} {p : Addr} (x : Ex G0 H0) (hp : H0 p = none) : MkD G0 H0 p [] (upd H0 p (.dT [])) :=
  ⟨G0, [], ⟨.refl _, .new hp, x.trans (.new hp), fun _ h _ _ => h⟩, fresh_back x hp, .nil, upd_same⟩
theorem MkD.turn {G0 H0 H1 : Hp} {p : Addr} {σ2 : L2.St} {b : Bool} {t : TT} {tk tv : TE} (h0 : H0 p = none) (s : Stp G0 H0 G H1) (gp : G p = none) (hvs : DqP G kvs es) (hH : H1 p = some (.dT kvs)) (hz : es.length < sizeLine)
    (nk : b = true → k ≠ []) (ht : EvB t σ2 G b) (hk : b = true → EvD tk σ2 G (kD k)) (hv : b = true → EvD tv σ2 G d) {N : Hp → Prop} (go : ∀ H2, MkD G0 H0 p (if b then putD es k d else es) H2 → N H2) :
    t σ2 H1 fun b' H3 => if b' = true then tk σ2 H3 fun y H4 => tv σ2 H4 fun z H5 => ∃ kvs k a, y = .ref a ∧ H5 a = some (.tup (k.map kV)) ∧ H5 p = some (.dT kvs) ∧ kvs.length < sizeLine ∧ N (upd H5 p (.dT (putK kvs k z))) else N H3 := by
  have nt : ∀ {G1 H1 G2 H2 : Hp}, Stp G1 H1 G2 H2 → G1 p = none → H1 p = some (.dT kvs) → G2 p = none := fun s g e => s.n p g (by rw [e]; intro z; cases z) (by rw [e]; intro _ z; cases z)
  refine ht G H1 (.refl G) s.w _ fun G2 H2 s2 => ?_
  have h2 := s2.h _ _ hH
  have g2 := nt s2 gp hH
  cases b with
  | false => exact iteF (go _ ⟨G2, kvs, s.trans s2, g2, hvs.mono s2.g, h2⟩)
  | true =>
    refine iteT (hk rfl G2 H2 s2.g s2.w _ fun y G3 H3 s3 hy => hv rfl G3 H3 (s2.g.trans s3.g) s3.w _ fun z G4 H4 s4 hz4 => ?_)
    have h3 := s3.h _ _ h2
    have g4 := nt s4 (nt s3 g2 h2) h3
    obtain ⟨c, rfl, hc⟩ := hy.key (nk rfl)
    refine ⟨kvs, k, c, rfl, s4.h _ _ (s3.w _ _ hc), s4.h _ _ h3, by rw [hvs.len]; exact hz, go _ ⟨G4, putK kvs k z, ?_, g4, (hvs.mono ((s2.g.trans s3.g).trans s4.g)).put (nk rfl) hz4, upd_same⟩⟩
    have s5 := ((s.trans s2).trans s3).trans s4
    exact ⟨s5.g, s5.h.mut h0, ex_mut s5.w g4, s5.n⟩
def madeD {α : Type} (p : α → Bool) (f : α → KK) (g : α → D) (l : List α) : List (KK × D) := (l.filter p).foldl (fun es x => putD es (f x) (g x)) []
end
def EvM (te : TE) (σ : L2.St) (G : Hp) (es : List (KK × D)) : Prop := ∀ G1 H1, Ex G G1 → Ex G1 H1 → ∀ Q : VK, (∀ p kvs G2 H2, Stp G1 H1 G2 H2 → H1 p = none → G2 p = none → H2 p = some (.dT kvs) → DqP G2 kvs es → Q (.ref p) H2) → te σ H1 Q
section
variable {K : PySem.W.Frag} {σ : L2.St} {G H : Hp} {te td tk tv tl : TE} {t : TT} {ta : TA} {es es2 : List (KK × D)} {a : Addr}
theorem EvM.mono {G' : Hp} (x : Ex G G') (h : EvM te σ G es) : EvM te σ G' es := fun G1 H1 a b Q q => h G1 H1 (x.trans a) b Q q
theorem EvM.is (h : EvM te σ G es) (e : es = es2) : EvM te σ G es2 := e ▸ h
variable {ty : TE} {k : KK} {d : D} {i : Nat} {tz : TS} {D' : Ends}
end
end Mv
namespace Mv
open PySem PySem.Spec PyProof.Rows L2 Evl
section
variable {σ : L2.St} {G : Hp} {td : TE} {es : List (KK × D)}
end
end Mv
namespace Mv
open PySem L2 Evl
section
variable {K : PySem.W.Frag} {G G' H H' : Hp} {a b : Addr} {ds : List D} {d z : D} {es es2 : List (KK × D)} {k : KK} {σ : L2.St} {te tv ty : TE} {tz : TS} {D' : Ends} {i j : Nat}
structure ML (G H : Hp) (a : Addr) (ds : List D) : Prop where
  g : G a = none
  at_ : ∃ us, H a = some (.lst us) ∧ DqA G us ds
theorem ML.stp (m : ML G H a ds) (s : Stp G H G' H') : ML G' H' a ds := by
  obtain ⟨us, e, q⟩ := m.at_
  exact ⟨s.n a m.g (by rw [e]; intro z; cases z) (by rw [e]; intro _ z; cases z), us, s.h _ _ e, q.mono s.g⟩
theorem ML.other {o : HO} (m : ML G H a ds) (ne : a ≠ b) : ML G (upd H b o) a ds := by
  obtain ⟨us, e, q⟩ := m.at_
  exact ⟨m.g, us, by rw [upd_ne ne]; exact e, q⟩
theorem ML.ne (m : ML G H a ds) (h : MD G H b es) : a ≠ b := fun z => by
  obtain ⟨us, e, _⟩ := m.at_
  obtain ⟨kvs, e2, _⟩ := h.at_
  rw [z, e2] at e; cases e
theorem Stp.mutd {G0 H0 : Hp} {o : HO} (s : Stp G0 H0 G H) (h0 : H0 a = none) (g : G a = none) : Stp G0 H0 G (upd H a o) := ⟨s.g, s.h.mut h0, ex_mut s.w g, s.n⟩
theorem ML.know {G0 H0 : Hp} (m : ML G H a ds) (s : Stp G0 H0 G H) (h0 : H0 a = none) : ∃ us, Stp G0 H0 (upd G a (.lst us)) H ∧ Ex G (upd G a (.lst us)) ∧ Dq (upd G a (.lst us)) (.ref a) (.list ds) ∧ Ex (upd G a (.lst us)) H ∧ ∀ {b es}, b ≠ a → MD G H b es → MD (upd G a (.lst us)) H b es := by
  obtain ⟨us, e, q⟩ := m.at_
  have e1 : Ex G (upd G a (.lst us)) := .new m.g
  have w1 : Ex (upd G a (.lst us)) H := fun b u z => by
    by_cases hb : b = a
    · rw [hb, upd_same] at z; rw [hb, ← z]; exact e
    · rw [upd_ne hb] at z; exact s.w _ _ z
  refine ⟨us, ⟨s.g.trans e1, s.h, w1, fun b h1 h2 h3 => ?_⟩, e1, .lst upd_same (q.mono e1), w1, fun ne m => ?_⟩
  · rw [upd_ne (fun z => h2 (by rw [z]; exact h0))]
    exact s.n b h1 h2 h3
  · obtain ⟨kvs, z, r⟩ := m.at_
    exact ⟨by rw [upd_ne ne]; exact m.g, kvs, z, r.mono e1⟩
def isNoneD : D → Bool
  | .none => true
  | _ => false
theorem opd_notN : OpD (fun x y H Q => y = .non ∧ Q (.bl (!decide (x = .non))) H) G d .none (.bool (!isNoneD d)) := fun x y G1 H1 a b hx hy Q q => by
  cases hy
  refine ⟨rfl, ?_⟩
  have : decide (x = V.non) = isNoneD d := by cases hx <;> rfl
  rw [this]
  exact q _ G1 H1 (.refl b) (.bl _)
end
section
variable {K : PySem.W.Frag} {σ : L2.St} {G H : Hp} {te : TE} {D' : Ends} {tu tz : TS}
end
end Mv
namespace Mv
open PySem PySem.Spec PyProof.Rows L2 Evl
section
variable {X : Cx}
end
section
variable {K : PySem.W.Frag} {G : Hp} {σ : L2.St} {td : TE} {es : List (KK × D)}
end
end Mv
namespace Mv
open PySem L2 Evl
inductive Ce where
  | un
  | d (z : D)
  | ml (ds : List D)
  | md (es : List (KK × D))
  | fx (v : V)
abbrev En := List Ce
inductive Ou where
  | val (d : D)
  | exc (x : Str)
abbrev Re := Option Ou
inductive Oa where
  | vals (ds : List D)
  | exc (x : Str)
abbrev Ra := Option Oa
def isMut : Ce → Bool
  | .ml _ => true
  | .md _ => true
  | _ => false
def CellOk (G H : Hp) (o : Option (Option V)) : Ce → Prop
  | .un => True
  | .d z => ∃ v, o = some (some v) ∧ Dq G v z
  | .ml ds => ∃ p, o = some (some (.ref p)) ∧ ML G H p ds
  | .md es => ∃ p, o = some (some (.ref p)) ∧ MD G H p es
  | .fx v => o = some (some v)
structure Rel (G H : Hp) (σ : L2.St) (Γ : En) : Prop where
  w : Ex G H
  len : σ.length = Γ.length
  c : ∀ (i : Nat) (c : Ce), Γ[i]? = some c → CellOk G H (σ[i]?) c
  sep : ∀ (i j : Nat) (p : Addr) (ci cj : Ce), Γ[i]? = some ci → Γ[j]? = some cj → isMut ci = true → isMut cj = true → σ[i]? = some (some (.ref p)) → σ[j]? = some (some (.ref p)) → i = j
section
variable {G H G' H' G1 H1 G2 H2 : Hp} {σ : L2.St} {Γ : En} {o : Option (Option V)}
theorem CellOk.stp {c : Ce} (h : CellOk G H o c) (s : Stp G H G' H') : CellOk G' H' o c := by
  cases c with
  | un => trivial
  | d z => obtain ⟨v, e, q⟩ := h; exact ⟨v, e, q.mono s.g⟩
  | ml ds => obtain ⟨p, e, q⟩ := h; exact ⟨p, e, q.stp s⟩
  | md es => obtain ⟨p, e, q⟩ := h; exact ⟨p, e, q.stp s⟩
  | fx v => exact h
theorem Rel.stp (h : Rel G H σ Γ) (s : Stp G H G' H') : Rel G' H' σ Γ := ⟨s.w, h.len, fun i c e => (h.c i c e).stp s, h.sep⟩
theorem Rel.dq (h : Rel G H σ Γ) {i : Nat} {z : D} (e : Γ[i]? = some (.d z)) : ∃ v, σ[i]? = some (some v) ∧ Dq G v z := h.c i _ e
variable (E : XK) (ad : Str → Addr)
def tmOf (x : Str) : Option Int := if x = ("TooMany(8)" : Str) then some 8 else if x = ("TooMany(10)" : Str) then some 10 else if x = ("TooMany(12)" : Str) then some 12 else if x = ("TooMany(6)" : Str) then some 6 else none
def XE (x : Str) (H : Hp) : Prop := match tmOf x with
  | some m => ∀ d, H d = none → E (.ref (ad "TooMany")) (some d) (upd H d (.xd [("most", .int m)]))
  | none => E (.ref (ad x)) none H
def PoE (G H : Hp) (Q : VK) : Ou → Prop
  | .val d => ∀ v G2 H2, Stp G H G2 H2 → Dq G2 v d → Q v H2
  | .exc x => ∀ G2 H2, Stp G H G2 H2 → XE E ad x H2
def PoB (G H : Hp) (Q : Bool → Hp → Prop) : Ou → Prop
  | .val (.bool b) => ∀ G2 H2, Stp G H G2 H2 → Q b H2
  | .val _ => False
  | .exc x => ∀ G2 H2, Stp G H G2 H2 → XE E ad x H2
def PoA (G H : Hp) (Q : List V → Hp → Prop) : Oa → Prop
  | .vals ds => ∀ vs G2 H2, Stp G H G2 H2 → DqA G2 vs ds → Q vs H2
  | .exc x => ∀ G2 H2, Stp G H G2 H2 → XE E ad x H2
def PoM (G H : Hp) (Q : VK) : Ou → Prop
  | .val (.list ds) => ∀ p G2 H2, Stp G H G2 H2 → H p = none → ML G2 H2 p ds → Q (.ref p) H2
  | .val _ => False
  | .exc x => ∀ G2 H2, Stp G H G2 H2 → XE E ad x H2
def Se (te : TE) (f : En → Re) : Prop := ∀ σ Γ G H, Rel G H σ Γ → ∀ r, f Γ = some r → ∀ Q : VK, PoE E ad G H Q r → te σ H Q
def Sb (tt : TT) (f : En → Re) : Prop := ∀ σ Γ G H, Rel G H σ Γ → ∀ r, f Γ = some r → ∀ Q : Bool → Hp → Prop, PoB E ad G H Q r → tt σ H Q
def Sa (ta : TA) (f : En → Ra) : Prop := ∀ σ Γ G H, Rel G H σ Γ → ∀ r, f Γ = some r → ∀ Q : List V → Hp → Prop, PoA E ad G H Q r → ta σ H Q
def Sm (te : TE) (f : En → Re) : Prop := ∀ σ Γ G H, Rel G H σ Γ → ∀ r, f Γ = some r → ∀ Q : VK, PoM E ad G H Q r → te σ H Q
variable {E ad}
theorem XE.plain {x : Str} {H : Hp} (h : XE E ad x H) (q : tmOf x = none := by decide) : E (.ref (ad x)) none H := by unfold XE at h; rw [q] at h; exact h
theorem XE.most {x : Str} {m : Int} {H : Hp} (h : XE E ad x H) (q : tmOf x = some m) : ∀ d, H d = none → E (.ref (ad "TooMany")) (some d) (upd H d (.xd [("most", .int m)])) := by unfold XE at h; rw [q] at h; exact h
theorem PoE.stp {Q : VK} {r : Ou} (h : PoE E ad G H Q r) (s : Stp G H G' H') : PoE E ad G' H' Q r := by
  cases r with
  | val d => exact fun v G2 H2 s2 q => h v G2 H2 (s.trans s2) q
  | exc x => exact fun G2 H2 s2 => h G2 H2 (s.trans s2)
theorem PoB.stp {Q : Bool → Hp → Prop} {r : Ou} (h : PoB E ad G H Q r) (s : Stp G H G' H') : PoB E ad G' H' Q r := by
  cases r with
  | val d =>
    cases d with
    | bool b => exact fun G2 H2 s2 => h G2 H2 (s.trans s2)
    | _ => exact h
  | exc x => exact fun G2 H2 s2 => h G2 H2 (s.trans s2)
theorem PoA.stp {Q : List V → Hp → Prop} {r : Oa} (h : PoA E ad G H Q r) (s : Stp G H G' H') : PoA E ad G' H' Q r := by
  cases r with
  | vals d => exact fun v G2 H2 s2 q => h v G2 H2 (s.trans s2) q
  | exc x => exact fun G2 H2 s2 => h G2 H2 (s.trans s2)
theorem h_old {p : Addr} (s : Stp G H G' H') (h : H' p = none) : H p = none := by
  cases e : H p with
  | none => rfl
  | some o => rw [s.h _ _ e] at h; cases h
theorem PoM.stp {Q : VK} {r : Ou} (h : PoM E ad G H Q r) (s : Stp G H G' H') : PoM E ad G' H' Q r := by
  cases r with
  | val d =>
    cases d with
    | list ds => exact fun p G2 H2 s2 hp q => h p G2 H2 (s.trans s2) (h_old s hp) q
    | _ => exact h
  | exc x => exact fun G2 H2 s2 => h G2 H2 (s.trans s2)
def bnd (a : Re) (k : D → Re) : Re := match a with
  | some (.val d) => k d
  | some (.exc x) => some (.exc x)
  | none => none
def bndA (a : Ra) (k : List D → Re) : Re := match a with
  | some (.vals d) => k d
  | some (.exc x) => some (.exc x)
  | none => none
def ret (o : Option D) : Re := match o with
  | some z => some (.val z)
  | none => none
theorem bnd_some {a : Re} {k : D → Re} {r : Ou} (h : bnd a k = some r) : (∃ d, a = some (.val d) ∧ k d = some r) ∨ ∃ x, a = some (.exc x) ∧ r = .exc x := by
  cases a with
  | none => cases h
  | some o =>
    cases o with
    | val d => exact .inl ⟨d, rfl, h⟩
    | exc x => cases h; exact .inr ⟨x, rfl, rfl⟩
theorem bndA_some {a : Ra} {k : List D → Re} {r : Ou} (h : bndA a k = some r) : (∃ d, a = some (.vals d) ∧ k d = some r) ∨ ∃ x, a = some (.exc x) ∧ r = .exc x := by
  cases a with
  | none => cases h
  | some o =>
    cases o with
    | vals d => exact .inl ⟨d, rfl, h⟩
    | exc x => cases h; exact .inr ⟨x, rfl, rfl⟩
theorem ret_some {o : Option D} {r : Ou} (h : ret o = some r) : ∃ z, o = some z ∧ r = .val z := by
  cases o with
  | none => cases h
  | some z => cases h; exact ⟨z, rfl, rfl⟩
def fVar (i : Nat) (Γ : En) : Re := match Γ[i]? with
  | some (.d z) => some (.val z)
  | _ => none
def fC (z : D) (_ : En) : Re := some (.val z)
def fOp (o : D → D → Option D) (fa fb : En → Re) (Γ : En) : Re := bnd (fa Γ) fun x => bnd (fb Γ) fun y => ret (o x y)
def fUn (o : D → Option D) (fa : En → Re) (Γ : En) : Re := bnd (fa Γ) fun x => ret (o x)
def OpS (r : R2) (o : D → D → Option D) : Prop := ∀ x y z, o x y = some z → ∀ G, OpD r G x y z
def UnS (r : V → Hp → VK → Prop) (o : D → Option D) : Prop := ∀ x z, o x = some z → ∀ G, UnD r G x z
def CaS (r : List V → Hp → VK → Prop) (o : List D → Option D) : Prop := ∀ ds z, o ds = some z → ∀ G, CaD r G ds z
variable {ta tb tc te : TE} {fa fb fc fe : En → Re} {tt tu : TT} {ft fu : En → Re} {tas : TA} {fas : En → Ra} {r r' : R2}
theorem u_var {i : Nat} : Se E ad (tVar i) (fVar i) := fun σ Γ G H R r e Q q => by
  unfold fVar at e
  cases h : Γ[i]? with
  | none => rw [h] at e; cases e
  | some c =>
    rw [h] at e
    cases c with
    | d z =>
      cases e
      obtain ⟨v, e1, q1⟩ := R.dq h
      exact ⟨v, e1, q v G H (.refl R.w) q1⟩
    | _ => cases e
theorem u_c {v : V} {z : D} (h : ∀ G, Dq G v z) : Se E ad (tC v) (fC z) := fun σ Γ G H R r e Q q => by
  cases e
  exact q v G H (.refl R.w) (h G)
theorem u_op {o : D → D → Option D} (ho : OpS r o) (ha : Se E ad ta fa) (hb : Se E ad tb fb) : Se E ad (tOp r ta tb) (fOp o fa fb) := fun σ Γ G H R r1 e Q q => by
  rcases bnd_some e with ⟨x, e1, e2⟩ | ⟨x, e1, rfl⟩
  · refine ha σ Γ G H R _ e1 _ fun v G2 H2 s2 q2 => ?_
    rcases bnd_some e2 with ⟨y, e3, e4⟩ | ⟨y, e3, rfl⟩
    · refine hb σ Γ G2 H2 (R.stp s2) _ e3 _ fun v3 G3 H3 s3 q3 => ?_
      obtain ⟨z, e5, rfl⟩ := ret_some e4
      exact ho x y z e5 G v v3 G3 H3 (s2.g.trans s3.g) s3.w (q2.mono s3.g) q3 Q ((q.stp s2).stp s3)
    · exact hb σ Γ G2 H2 (R.stp s2) _ e3 _ (q.stp s2)
  · exact ha σ Γ G H R _ e1 _ q
theorem u_un {r : V → Hp → VK → Prop} {o : D → Option D} (ho : UnS r o) (ha : Se E ad ta fa) : Se E ad (tUn r ta) (fUn o fa) := fun σ Γ G H R r1 e Q q => by
  rcases bnd_some e with ⟨x, e1, e2⟩ | ⟨x, e1, rfl⟩
  · refine ha σ Γ G H R _ e1 _ fun v G2 H2 s2 q2 => ?_
    obtain ⟨z, e5, rfl⟩ := ret_some e2
    exact ho x z e5 G v G2 H2 s2.g s2.w q2 Q (q.stp s2)
  · exact ha σ Γ G H R _ e1 _ q
def bo (r : Re) (k : Bool → Re) : Re := bnd r fun
  | .bool b => k b
  | _ => none
theorem bo_some {a : Re} {k : Bool → Re} {r : Ou} (h : bo a k = some r) : (∃ b, a = some (.val (.bool b)) ∧ k b = some r) ∨ ∃ x, a = some (.exc x) ∧ r = .exc x := by
  rcases bnd_some h with ⟨d, e, k⟩ | h
  · cases d with
    | bool b => exact .inl ⟨b, e, k⟩
    | _ => cases k
  · exact .inr h
def rB (b : Bool) : Re := some (.val (.bool b))
def fT (fe : En → Re) (Γ : En) : Re := bo (fe Γ) rB
def fAnd (fa fb : En → Re) (Γ : En) : Re := bo (fa Γ) fun b => if b = true then bo (fb Γ) rB else rB false
def fOr (fa fb : En → Re) (Γ : En) : Re := bo (fa Γ) fun b => if b = true then rB true else bo (fb Γ) rB
def fNot (fa : En → Re) (Γ : En) : Re := bo (fa Γ) fun b => rB (!b)
def fIf (ft fa fb : En → Re) (Γ : En) : Re := bo (ft Γ) fun b => if b = true then fa Γ else fb Γ
theorem rB_inj {b : Bool} {r : Ou} (h : rB b = some r) : r = .val (.bool b) := (Option.some.inj h).symm
theorem u_test (h : Se E ad te fe) : Sb E ad (tTest te) (fT fe) := fun σ Γ G H R r e Q q => by
  rcases bo_some e with ⟨b, e1, e2⟩ | ⟨x, e1, rfl⟩
  · rw [rB_inj e2] at q
    refine h σ Γ G H R _ e1 _ fun v G2 H2 s2 q2 => ?_
    cases q2
    exact ⟨b, rfl, q G2 H2 s2⟩
  · exact h σ Γ G H R _ e1 _ q
theorem u_tB (h : Se E ad te fe) : Sb E ad (tB te) (fT fe) := fun σ Γ G H R r e Q q => by
  rcases bo_some e with ⟨b, e1, e2⟩ | ⟨x, e1, rfl⟩
  · rw [rB_inj e2] at q
    refine h σ Γ G H R _ e1 _ fun v G2 H2 s2 q2 => ?_
    cases q2
    exact ⟨b, rfl, q G2 H2 s2⟩
  · exact h σ Γ G H R _ e1 _ q
theorem u_yes : Sb E ad tYes (fC (.bool true)) := fun σ Γ G H R r e Q q => by
  cases e
  exact q G H (.refl R.w)
theorem PoB.re {Q : Bool → Hp → Prop} {fe : Re} {r : Ou} (e : bo fe rB = some r) (q : PoB E ad G H Q r) : ∃ r', fe = some r' ∧ PoB E ad G H Q r' := by
  rcases bo_some e with ⟨b, e1, e2⟩ | ⟨x, e1, rfl⟩
  · rw [rB_inj e2] at q
    exact ⟨_, e1, q⟩
  · exact ⟨_, e1, q⟩
theorem u_tAnd (ha : Sb E ad tt ft) (hb : Sb E ad tu fu) : Sb E ad (tAnd tt tu) (fAnd ft fu) := fun σ Γ G H R r e Q q => by
  rcases bo_some e with ⟨b, e1, e2⟩ | ⟨x, e1, rfl⟩
  · refine ha σ Γ G H R _ e1 _ fun G2 H2 s2 => ?_
    cases b with
    | true =>
      rw [if_pos rfl] at e2 ⊢
      obtain ⟨r', e3, q3⟩ := PoB.re e2 q
      exact hb σ Γ G2 H2 (R.stp s2) _ e3 _ (q3.stp s2)
    | false =>
      rw [if_neg (by decide)] at e2 ⊢
      rw [rB_inj e2] at q
      exact q G2 H2 s2
  · exact ha σ Γ G H R _ e1 _ q
theorem u_tOr (ha : Sb E ad tt ft) (hb : Sb E ad tu fu) : Sb E ad (tOr tt tu) (fOr ft fu) := fun σ Γ G H R r e Q q => by
  rcases bo_some e with ⟨b, e1, e2⟩ | ⟨x, e1, rfl⟩
  · refine ha σ Γ G H R _ e1 _ fun G2 H2 s2 => ?_
    cases b with
    | true =>
      rw [if_pos rfl] at e2 ⊢
      rw [rB_inj e2] at q
      exact q G2 H2 s2
    | false =>
      rw [if_neg (by decide)] at e2 ⊢
      obtain ⟨r', e3, q3⟩ := PoB.re e2 q
      exact hb σ Γ G2 H2 (R.stp s2) _ e3 _ (q3.stp s2)
  · exact ha σ Γ G H R _ e1 _ q
theorem u_tNot (ha : Sb E ad tt ft) : Sb E ad (tNot tt) (fNot ft) := fun σ Γ G H R r e Q q => by
  rcases bo_some e with ⟨b, e1, e2⟩ | ⟨x, e1, rfl⟩
  · rw [rB_inj e2] at q
    exact ha σ Γ G H R _ e1 _ q
  · exact ha σ Γ G H R _ e1 _ q
theorem u_and (ha : Se E ad ta fa) (hb : Se E ad tb fb) : Se E ad (tAndV ta tb) (fAnd fa fb) := fun σ Γ G H R r e Q q => by
  rcases bo_some e with ⟨b, e1, e2⟩ | ⟨x, e1, rfl⟩
  · refine ha σ Γ G H R _ e1 _ fun v G2 H2 s2 q2 => ?_
    cases q2
    refine ⟨b, rfl, ?_⟩
    cases b with
    | true =>
      rw [if_pos rfl] at e2 ⊢
      rcases bo_some e2 with ⟨c, e3, e4⟩ | ⟨x, e3, rfl⟩
      · rw [rB_inj e4] at q
        exact hb σ Γ G2 H2 (R.stp s2) _ e3 _ (q.stp s2)
      · exact hb σ Γ G2 H2 (R.stp s2) _ e3 _ (q.stp s2)
    | false =>
      rw [if_neg (by decide)] at e2 ⊢
      rw [rB_inj e2] at q
      exact q _ G2 H2 s2 (.bl _)
  · exact ha σ Γ G H R _ e1 _ q
theorem u_not (ha : Se E ad ta fa) : Se E ad (tNotV ta) (fNot fa) := fun σ Γ G H R r e Q q => by
  rcases bo_some e with ⟨b, e1, e2⟩ | ⟨x, e1, rfl⟩
  · rw [rB_inj e2] at q
    refine ha σ Γ G H R _ e1 _ fun v G2 H2 s2 q2 => ?_
    cases q2
    exact ⟨b, rfl, q _ G2 H2 s2 (.bl _)⟩
  · exact ha σ Γ G H R _ e1 _ q
def fChain (o o' : D → D → Option D) (fa fb fc : En → Re) (Γ : En) : Re := bnd (fa Γ) fun x => bnd (fb Γ) fun y => bo (ret (o x y)) fun b => if b = true then bnd (fc Γ) fun z => bo (ret (o' y z)) rB else rB false
theorem u_chain {o o' : D → D → Option D} (ho : OpS r o) (ho' : OpS r' o') (ha : Se E ad ta fa) (hb : Se E ad tb fb) (hc : Se E ad tc fc) : Se E ad (tChain r r' ta tb tc) (fChain o o' fa fb fc) := fun σ Γ G H R r1 e Q q => by
  rcases bnd_some e with ⟨x, e1, e2⟩ | ⟨x, e1, rfl⟩
  · refine ha σ Γ G H R _ e1 _ fun v G2 H2 s2 q2 => ?_
    rcases bnd_some e2 with ⟨y, e3, e4⟩ | ⟨y, e3, rfl⟩
    · refine hb σ Γ G2 H2 (R.stp s2) _ e3 _ fun v3 G3 H3 s3 q3 => ?_
      rcases bo_some e4 with ⟨b, e5, e6⟩ | ⟨_, e5, _⟩
      · obtain ⟨_, e7, e8⟩ := ret_some e5
        cases e8
        refine ho x y _ e7 G v v3 G3 H3 (s2.g.trans s3.g) s3.w (q2.mono s3.g) q3 _ fun v4 G4 H4 s4 q4 => ?_
        cases q4
        refine ⟨b, rfl, ?_⟩
        have s24 := (s2.trans s3).trans s4
        cases b with
        | true =>
          rw [if_pos rfl] at e6 ⊢
          rcases bnd_some e6 with ⟨z, e9, e10⟩ | ⟨z, e9, rfl⟩
          · refine hc σ Γ G4 H4 (R.stp s24) _ e9 _ fun v5 G5 H5 s5 q5 => ?_
            rcases bo_some e10 with ⟨c, e11, e12⟩ | ⟨_, e11, _⟩
            · obtain ⟨_, e13, e14⟩ := ret_some e11
              cases e14
              rw [rB_inj e12] at q
              exact ho' y z _ e13 G v3 v5 G5 H5 (s24.trans s5).g s5.w (q3.mono (s4.trans s5).g) q5 Q ((q.stp s24).stp s5)
            · obtain ⟨_, _, e14⟩ := ret_some e11
              cases e14
          · exact hc σ Γ G4 H4 (R.stp s24) _ e9 _ (q.stp s24)
        | false =>
          rw [if_neg (by decide)] at e6 ⊢
          rw [rB_inj e6] at q
          exact q _ G4 H4 s24 (.bl _)
      · obtain ⟨_, _, e8⟩ := ret_some e5
        cases e8
    · exact hb σ Γ G2 H2 (R.stp s2) _ e3 _ (q.stp s2)
  · exact ha σ Γ G H R _ e1 _ q
def fNil (_ : En) : Ra := some (.vals [])
def fCons (fa : En → Re) (fr : En → Ra) (Γ : En) : Ra := match fa Γ with
  | some (.val d) => match fr Γ with
    | some (.vals ds) => some (.vals (d :: ds))
    | some (.exc x) => some (.exc x)
    | none => none
  | some (.exc x) => some (.exc x)
  | none => none
theorem u_nil : Sa E ad tNil fNil := fun σ Γ G H R r e Q q => by
  cases e
  exact q [] G H (.refl R.w) .nil
theorem u_cons {tr : TA} {fr : En → Ra} (ha : Se E ad ta fa) (hr : Sa E ad tr fr) : Sa E ad (tCons ta tr) (fCons fa fr) := fun σ Γ G H R r e Q q => by
  unfold fCons at e
  cases h : fa Γ with
  | none => rw [h] at e; cases e
  | some o =>
    rw [h] at e
    cases o with
    | exc x =>
      cases e
      exact ha σ Γ G H R _ h _ q
    | val d =>
      refine ha σ Γ G H R _ h _ fun v G2 H2 s2 q2 => ?_
      cases h2 : fr Γ with
      | none => rw [h2] at e; cases e
      | some o =>
        rw [h2] at e
        cases o with
        | exc x =>
          cases e
          exact hr σ Γ G2 H2 (R.stp s2) _ h2 _ (q.stp s2)
        | vals ds =>
          cases e
          exact hr σ Γ G2 H2 (R.stp s2) _ h2 _ fun vs G3 H3 s3 q3 => q (v :: vs) G3 H3 (s2.trans s3) (.cons (q2.mono s3.g) q3)
def small (n : Nat) : Bool := Nat.ble n 1000000
theorem small_le {n : Nat} (h : small n = true) : n ≤ 1000000 := Nat.le_of_ble_eq_true h
theorem small_line {n : Nat} (h : small n = true) : n ≤ sizeLine := by rw [sizeLine_eq]; have := small_le h; omega
def lim (ds : List D) (z : D) : Re := if small ds.length = true then some (.val z) else none
theorem lim_some {ds : List D} {z : D} {r : Ou} (h : lim ds z = some r) : small ds.length = true ∧ r = .val z := by
  unfold lim at h
  by_cases q : small ds.length = true
  · rw [if_pos q] at h; cases h; exact ⟨q, rfl⟩
  · rw [if_neg q] at h; cases h
def fTup (fas : En → Ra) (Γ : En) : Re := bndA (fas Γ) fun ds => lim ds (.tuple ds)
def fLst (fas : En → Ra) (Γ : En) : Re := bndA (fas Γ) fun ds => lim ds (.list ds)
theorem u_tup (h : Sa E ad tas fas) : Se E ad (tTup tas) (fTup fas) := fun σ Γ G H R r e Q q => by
  rcases bndA_some e with ⟨ds, e1, e2⟩ | ⟨x, e1, rfl⟩
  · obtain ⟨l, rfl⟩ := lim_some e2
    refine h σ Γ G H R _ e1 _ fun vs G2 H2 s2 q2 => ⟨by rw [q2.len]; exact small_line l, fun p o hp od => ?_⟩
    have s3 := Stp.new (o := tupO o vs) s2.w hp
    exact q _ _ _ (s2.trans s3) (.tup (.new od) (q2.mono s3.g))
  · exact h σ Γ G H R _ e1 _ q
theorem m_lst (h : Sa E ad tas fas) : Sm E ad (tLst tas) (fLst fas) := fun σ Γ G H R r e Q q => by
  rcases bndA_some e with ⟨ds, e1, e2⟩ | ⟨x, e1, rfl⟩
  · obtain ⟨l, rfl⟩ := lim_some e2
    refine h σ Γ G H R _ e1 _ fun vs G2 H2 s2 q2 => ⟨by rw [q2.len]; exact small_line l, fun p hp => ?_⟩
    exact q p G2 _ (s2.trans (Stp.old s2.w (.new hp))) (h_old s2 hp) ⟨fresh_back s2.w hp, vs, upd_same, q2⟩
  · exact h σ Γ G H R _ e1 _ q
theorem Sm.se (h : Sm E ad te fe) (hl : ∀ Γ d, fe Γ = some (.val d) → ∃ ds, d = .list ds) : Se E ad te fe := fun σ Γ G H R r e Q q => by
  cases r with
  | exc x => exact h σ Γ G H R _ e Q q
  | val d =>
    obtain ⟨ds, rfl⟩ := hl Γ d e
    refine h σ Γ G H R _ e Q fun p G2 H2 s2 hp m => ?_
    obtain ⟨us, s3, x3, k, _⟩ := m.know s2 hp
    exact q _ _ _ s3 k
theorem lst_lst (Γ : En) (d : D) (h : fLst fas Γ = some (.val d)) : ∃ ds, d = .list ds := by
  rcases bndA_some h with ⟨ds, e1, e2⟩ | ⟨x, e1, e⟩
  · obtain ⟨_, e⟩ := lim_some e2
    cases e
    exact ⟨ds, rfl⟩
  · cases e
theorem u_lst (h : Sa E ad tas fas) : Se E ad (tLst tas) (fLst fas) := (m_lst h).se lst_lst
def fCb (o : List D → Option D) (fas : En → Ra) (Γ : En) : Re := bndA (fas Γ) fun ds => ret (o ds)
theorem u_cb {rc : List V → Hp → VK → Prop} {o : List D → Option D} (ho : CaS rc o) (h : Sa E ad tas fas) : Se E ad (tCB rc tas) (fCb o fas) := fun σ Γ G H R r e Q q => by
  rcases bndA_some e with ⟨ds, e1, e2⟩ | ⟨x, e1, rfl⟩
  · obtain ⟨z, e3, rfl⟩ := ret_some e2
    exact h σ Γ G H R _ e1 _ fun vs G2 H2 s2 q2 => ho ds z e3 G vs G2 H2 s2.g s2.w q2 Q (q.stp s2)
  · exact h σ Γ G H R _ e1 _ q
def SpF (ad : Str → Addr) (g : List D → Re) : Sp := fun vs H Q E => ∃ G ds r, Ex G H ∧ DqA G vs ds ∧ g ds = some r ∧ PoE E ad G H Q r
def fCall (g : List D → Re) (fas : En → Ra) (Γ : En) : Re := bndA (fas Γ) g
theorem u_call {g : List D → Re} (h : Sa E ad tas fas) : Se E ad (tCall (SpF ad g) [] E tas) (fCall g fas) := fun σ Γ G H R r e Q q => by
  rcases bndA_some e with ⟨ds, e1, e2⟩ | ⟨x, e1, rfl⟩
  · refine h σ Γ G H R _ e1 _ fun vs G2 H2 s2 q2 => ?_
    rw [List.append_nil]
    exact ⟨G2, ds, r, s2.w, q2, e2, q.stp s2⟩
  · exact h σ Γ G H R _ e1 _ q
end
end Mv
namespace Mv
open PySem PySem.Spec PyProof.Rows L2 Evl
theorem meets_enum1 {v : Value} {o : Obj} {Hp0 : Heap → Prop} (B : Begins v o Hp0) : Meets (Builtin.«enumerate.__new__» ⟨[.type "enumerate", v], []⟩)
    (fun _ R s => Hp0 s.heap ∧ R (.ok (.ret (.ref (s.heap.push o).objs.size))) { s with heap := (s.heap.push o).push { cls := .type "enumerate", data := .fields #[.none, .bool false, .ref s.heap.objs.size, rawInt 0, .none, .none] } }) :=
  .of_wp fun prog w A R s ⟨first, rest⟩ => by
    obtain ⟨hp, gens, drawn, tok, osw⟩ := s
    have isSub := sub_enumerate
    have walk1 : ∀ {A' : Around} {E : Value → Shared → Prop} {Q : Value → Shared → Prop}, Q (.ref hp.objs.size) ⟨hp.push o, gens, drawn, tok, osw⟩ → wpAny (model prog w) A' (pyIter v) Q E ⟨hp, gens, drawn, tok, osw⟩ := fun q => B.iter prog w _ _ ⟨hp, gens, drawn, tok, osw⟩ _ first q
    wp_walk using walk1
    refine wpAny_stack_any fun under => wpAny_pure ?_
    split
    · rename_i c _ _ _ _ _
      cases (c == Value.type "enumerate") <;> (wp_walk using walk1; exact ⟨_, rfl, rest⟩)
    · wp_walk using walk1
      exact ⟨_, rfl, rest⟩
theorem enum_begins1 {prog : Program} {w : World} {A : Around} {E : Value → Shared → Prop} {s : Shared} {v : Value} {o : Obj} {Hp0 : Heap → Prop} {Q : Value → Shared → Prop} (B : Begins v o Hp0) (h1 : Hp0 s.heap)
    (h : ∀ g, IsEnum g (s.heap.objs.size + 1) s.heap.objs.size 0 .none → g.get? s.heap.objs.size = some o → (∀ b u, s.heap.get? b = some u → g.get? b = some u) → Q (.ref (s.heap.objs.size + 1)) { s with heap := g }) :
    wpAny (model prog w) A (call (.type "enumerate") [v]) Q E s := by
  refine callType_new F.called_enumerate (by decide) (F.typeCall_enumerate_1 _) (F.newCall_enumerate_1 _) (fun obj => F.args_object_init_2 obj _) F.entry_enumerate_new (meets_enum1 B) ⟨h1, ?_⟩
  have grow : (s.heap.push o).objs.size = s.heap.objs.size + 1 := Heap.size_push ..
  have made_ : IsEnum ((s.heap.push o).push { cls := .type "enumerate", data := .fields #[.none, .bool false, .ref s.heap.objs.size, rawInt 0, .none, .none] }) (s.heap.objs.size + 1) s.heap.objs.size 0 .none := by
    have z := Heap.get?_push_size (s.heap.push o) (o := { cls := .type "enumerate", data := .fields #[.none, .bool false, .ref s.heap.objs.size, rawInt 0, .none, .none] }) rfl
    rw [grow] at z
    exact z
  show _ ∧ _
  rw [grow]
  exact ⟨⟨_, made_, rfl⟩, h _ made_ (Heap.get?_push_of_some _ (Heap.get?_push_size _ B.free)) fun b u x => Heap.get?_push_of_some _ (Heap.get?_push_of_some _ x)⟩
def ItE (K : PySem.W.Frag) (k : Bool) (a : Addr) : It :=
  ⟨fun i H => ∃ (xs : List V) (x : V), SqK K k H a xs ∧ xs[i]? = some x,
    fun i H v H' => ∃ T x o, v = .ref T ∧ H T = none ∧ o.dict = none ∧ H' = upd H T (tupO o [.int (i : Nat), x]) ∧ ∀ xs, SqK K k H a xs → xs[i]? = some x,
    fun i H => ∃ xs : List V, SqK K k H a xs ∧ i = xs.length⟩
theorem turn_enumk {P : Program} {w : World} {K : PySem.W.Frag} {elts : List Expr} {kk : Nat} {tpos : Pos} {k : Bool} {a e it : Addr} (ne1 : a ≠ it) (ne2 : e ≠ it) (ne3 : e ≠ a) :
    Turn P w K (.Tuple elts kk tpos) (ItE K k a) [e, it] e (fun i h => (∃ old, IsEnum h e it ((i : Nat) : Int) old) ∧ ItrK k h it a i) where
  mem := by simp
  obj := fun i h st b hb => by
    obtain ⟨⟨old, atE⟩, atIt⟩ := st
    rcases (by simpa using hb : b = e ∨ b = it) with z | z
    · rw [z]; exact ⟨_, atE, fun v q => nomatch q⟩
    · rw [z]; exact atIt.ob
  keep := fun i h h' ⟨⟨old, atE⟩, atIt⟩ k => ⟨⟨old, k e (by simp) _ atE⟩, atIt.at fun o q => k it (by simp) o q⟩
  item := by
    intro X e1 e2 e3 hc i pq s σ H E I hf stz hg
    subst e1 e2 e3
    obtain ⟨⟨old, atE⟩, atIt⟩ := stz
    obtain ⟨xs, x, sx, hx⟩ := hg
    obtain ⟨its, rv, p, _⟩ := seqK I sx
    obtain ⟨u, hu, ru⟩ := (rv.get hx)
    have quiet : X.A.in1.handled = none := I.ok.hd hc
    have ltE : e < s.heap.objs.size := Heap.lt_size atE
    have ltI : it < s.heap.objs.size := by obtain ⟨_, q, _⟩ := atIt.ob; exact Heap.lt_size q
    refine wpAny_pyNext_enum_itemD (drawsK k quiet it a ne1 its.toArray) atE ⟨atIt, p⟩ (by have := (List.getElem?_eq_some_iff.mp hu).1; simpa using this) ne2 (by simp [ne2, ne3]) fun y g tk hy out st1 hT sz keep => ?_
    have ey : y = u := by
      have z : its[i]? = some y := by simpa using hy
      rw [hu] at z
      exact (Option.some.inj z).symm
    subst ey
    refine ⟨_, rfl, wpAny_letOwnedTupleGo_enum (s := { s with heap := g, toks := tk + 1 }) out fun g2 atE2 sb => ?_⟩
    have hT2 : g2.get? s.heap.objs.size = some { cls := .type "tuple", data := .seq #[.int i tk, y] } := (sb.2 _ (Nat.ne_of_gt ltE)).trans hT
    have pair : ObjOk X.prog X.w (upd H s.heap.objs.size (tupO { cls := .type "tuple", data := .seq #[.int i tk, y] } [.int (i : Nat), x])) g2 s.heap.objs.size (tupO { cls := .type "tuple", data := .seq #[.int i tk, y] } [.int (i : Nat), x]) := okO (by show 2 ≤ sizeLine; decide) (.cons ⟨_, rfl⟩ (.cons ru .nil)) (its := [.int i tk, y]) ⟨_, hT2, rfl, _, rfl⟩ hT2
    have J : Inv X pq σ (upd H s.heap.objs.size (tupO { cls := .type "tuple", data := .seq #[.int i tk, y] } [.int (i : Nat), x])) { s with heap := g2, toks := tk + 1 } :=
      I.turnedNew (t' := tk + 1) (ch := [e, it]) (fun b ob hb q => (sb.2 b (fun z => hb (by simp [z]))).trans (keep b ob (fun z => hb (by simp [z])) (fun z => hb (by simp [z])) q)) hf (Nat.le_refl _) pair
    refine ⟨.ref s.heap.objs.size, _, J, rfl, ⟨_, x, _, rfl, I.hok.fresh (Nat.le_refl _), rfl, rfl, fun ys hy => by rw [seqK_inj I hy sx]; exact hx⟩, ⟨⟨y, ?_⟩, st1.1.at fun o q => (sb.2 it (Ne.symm ne2)).trans q⟩, fun b hb => ?_⟩
    · have z : ((i + 1 : Nat) : Int) = (i : Int) + 1 := by omega
      rw [z]
      exact atE2
    · have lt : b < s.heap.objs.size := by
        rcases (by simpa using hb : b = e ∨ b = it) with z | z
        · rw [z]; exact ltE
        · rw [z]; exact ltI
      rw [upd_ne (Nat.ne_of_lt lt)]
      exact (hf b hb).1
  done := by
    intro X e1 e2 e3 hc i pq s σ H E I hf stz hg
    subst e1 e2 e3
    obtain ⟨⟨old, atE⟩, atIt⟩ := stz
    obtain ⟨xs, sx, rfl⟩ := hg
    obtain ⟨its, rv, p, _⟩ := seqK I sx
    have quiet : X.A.in1.handled = none := I.ok.hd hc
    obtain ⟨f0, f1, f2, f3, f4, f5⟩ := (hf it (by simp))
    have size_ : its.toArray.size = xs.length := by rw [List.size_toArray]; exact rv.length.symm
    exact wpAny_pyNext_enum_endD (drawsK k quiet it a ne1 its.toArray) atE (by rw [size_]; exact ⟨atIt, p⟩) fun g eb => ⟨rfl, I.turned (t' := s.toks) (fun b o hb q => eb b o hb q) f0 f1 f3 f4 f5⟩
  self := fun A i s Q E st h => let ⟨⟨_, atE⟩, _⟩ := st; wpAny_pyIter_enum atE h
def iEnumK (K : PySem.W.Frag) (k : Bool) (ta : TA) : TI := fun σ H Rq => ta σ H fun vs H1 => ∃ a xs, vs = [.ref a] ∧ SqK K k H1 a xs ∧ Rq (ItE K k a) H1
theorem pi_enumk (k : Bool) {X : Cx} {e : Expr} {ta : TA} {p pos tpos : Pos} {elts : List Expr} {kk : Nat} (hg : Gl X "enumerate") (hm : X.mg "enumerate" = none) (ha : PA X [e] ta) (one : starEach [e] X.env = [(false, eval e X.env)] := by rfl) :
    PI X (.Tuple elts kk tpos) (.Call (.Name "enumerate" p) [e] [] pos) (iEnumK X.K k ta) := by
  refine ⟨fun pq s σ H Rq I h => Call_ (ld_blt I hg hm boot_enumerate (PyProof.Rows.callWith_type1 (thn (ha.run pos pq s σ H _ I h) fun us sA ⟨vs, H1, IA, r1, a, xs, ex, sx, q⟩ => ?_) one rfl))⟩
  subst ex
  cases r1 with
  | cons r rr =>
    cases rr
    cases r
    obtain ⟨its, rv, p', _⟩ := seqK IA sx
    have la := p'.lt
    refine enum_begins1 (beginsK k a its.toArray) p' fun g made_ new_ keep => wpAny_pyIter_enum made_ ?_
    have IB : Inv X pq σ H1 { sA with heap := g } := IA.kept (t' := sA.toks) keep
    refine ⟨sA.heap.objs.size + 1, [sA.heap.objs.size + 1, sA.heap.objs.size], _, _, H1, rfl, IB, turn_enumk (Nat.ne_of_lt la) (Nat.succ_ne_self _) (Nat.ne_of_gt (Nat.lt_succ_of_lt la)), ⟨⟨.none, made_⟩, itrK_new new_⟩, fun b hb => ?_, q⟩
    have above : sA.heap.objs.size ≤ b := by
      rcases (by simpa using hb : b = sA.heap.objs.size + 1 ∨ b = sA.heap.objs.size) with z | z
      · rw [z]; exact (Nat.le_add_right _ _)
      · rw [z]; exact Nat.le_refl _
    exact IA.fpOk above (IA.hok.fresh above)
section
variable {K : PySem.W.Frag} {σ : L2.St} {G G' H H' : Hp} {ta tb te tx : TE} {t u : TT} {d e z : D} {ds es : List D} {D' : Ends} {tu tz : TS}
end
end Mv
namespace Mv
open PySem PySem.Spec PyProof.Rows L2 Evl
section
variable {prog : Program} {w : World} {A : Around} {E : Value → Shared → Prop} {s : Shared} {z TI TO i1 i2 T : Addr} {fp1 fp2 : List Addr} {n1 n2 i : Nat} {P1 P2 : Nat → Value → Prop} {St1 St2 : Nat → Heap → Prop} {f : Bool} {oT : Obj}
end
section
variable {prog : Program} {w : World} {A : Around} {E : Value → Shared → Prop} {s : Shared} {z TI TO i1 i2 T : Addr} {fp1 fp2 : List Addr} {n1 n2 i : Nat} {P1 P2 : Nat → Value → Prop} {St1 St2 : Nat → Heap → Prop} {f : Bool} {oT : Obj}
end
def ZS (k1 k2 : Bool) (z TI TO i1 i2 a b : Addr) (i : Nat) (H : Hp) (h : Heap) : Prop :=
  IsTupOf2 h TI (.ref i1) (.ref i2) ∧ ItrK k1 h i1 a i ∧ ItrK k2 h i2 b i ∧ (∃ o, h.get? TO = some o) ∧ ((IsZip h z TI TO .none ∧ ∃ x y, IsTupOf2 h TO x y) ∨ ∃ T f u v, IsZipHeld h z TI TO T f ∧ Rd H T (.tup [u, v]))
section
variable {X : Cx} {pins : List (Addr × Obj)} {σ : L2.St} {H : Hp} {s : Shared} {A : Around} {E : Value → Shared → Prop} {z TI TO i1 i2 a b : Addr} {k1 k2 : Bool} {xs ys : List V} {i : Nat}
theorem ZS.keep {h h' : Heap} (st : ZS k1 k2 z TI TO i1 i2 a b i H h) (k : ∀ c ∈ [z, TI, TO, i1, i2], ∀ o, h.get? c = some o → h'.get? c = some o) : ZS k1 k2 z TI TO i1 i2 a b i H h' := by
  obtain ⟨t, h1, h2, ⟨oO, eO⟩, q⟩ := st
  refine ⟨k TI (by simp) _ t, h1.at fun o q => k i1 (by simp) o q, h2.at fun o q => k i2 (by simp) o q, ⟨oO, k TO (by simp) _ eO⟩, ?_⟩
  rcases q with ⟨hz, x, y, hTO⟩ | ⟨T, f, u, v, hz, hT⟩
  · exact .inl ⟨k z (by simp) _ hz, x, y, k TO (by simp) _ hTO⟩
  · exact .inr ⟨T, f, u, v, k z (by simp) _ hz, hT⟩
end
end Mv
namespace Mv
open PySem PySem.Spec PyProof.Rows L2 Evl
theorem SqK.old {K : PySem.W.Frag} {k : Bool} {H H' : Hp} {a : Addr} {xs : List V} (h : SqK K k H a xs) (e : Ex H H') : SqK K k H' a xs := by
  cases k with
  | true => exact (show SqL K H a xs from h).elim (fun h => .inl (h.elim (fun h => .inl (e _ _ h)) fun ⟨o, h⟩ => .inr ⟨o, e _ _ h⟩)) fun h => .inr h
  | false => exact (show SqT K H a xs from h).elim (fun h => .inl (h.elim (fun h => .inl (e _ _ h)) fun ⟨o, h⟩ => .inr ⟨o, e _ _ h⟩)) fun h => .inr h
section
variable {X : Cx} {pins : List (Addr × Obj)} {σ : L2.St} {A : Around} {z TI TO i1 i2 a b : Addr} {k1 k2 : Bool} {xs ys : List V}
end
end Mv
namespace Mv
open PySem PySem.Spec PyProof.Rows L2 Evl
section
variable {X : Cx} {pins : List (Addr × Obj)} {σ : L2.St} {A : Around} {E : Value → Shared → Prop} {H : Hp} {s : Shared} {z TI TO i1 i2 a b : Addr} {k1 k2 : Bool} {xs ys : List V}
end
end Mv
namespace Mv
open PySem PySem.Spec PyProof.Rows L2 Evl
section
variable {K : PySem.W.Frag} {σ : L2.St} {G : Hp} {ta : TA} {k1 k2 : Bool} {as bs : List D}
end
end Mv
namespace Mv
open PySem L2 Evl
def noT (G : Hp) : Hp := fun b => match G b with
  | some (.tbl _) => none
  | x => x
theorem noT_at {G : Hp} {b : Addr} {o : HO} (h : G b = some o) (n : ∀ ps, o ≠ .tbl ps) : noT G b = some o := by
  unfold noT
  rw [h]
  cases o with
  | tbl ps => exact (n ps rfl).elim
  | _ => rfl
theorem of_noT {G : Hp} {b : Addr} {o : HO} (h : noT G b = some o) : G b = some o ∧ ∀ ps, o ≠ .tbl ps := by
  unfold noT at h
  cases e : G b with
  | none => rw [e] at h; cases h
  | some u =>
    rw [e] at h
    cases u with
    | tbl ps => cases h
    | _ => cases h; exact ⟨rfl, fun _ z => by cases z⟩
theorem noT_none {G : Hp} {b : Addr} (h : G b = none) : noT G b = none := by unfold noT; rw [h]
mutual
theorem Dq.noT {G : Hp} : ∀ {v : V} {d : D}, Dq G v d → Dq (noT G) v d
  | _, _, .non => .non
  | _, _, .bl b => .bl b
  | _, _, .int i => .int i
  | _, _, .str x => .str x
  | _, _, .lst h k => .lst (noT_at h fun _ z => by cases z) (DqA.noT k)
  | _, _, .tup h k => .tup (h.by fun o z e => noT_at e fun _ q => by rcases z with rfl | ⟨_, rfl⟩ <;> cases q) (DqA.noT k)
  | _, _, .emp h r => .emp (noT_at h fun _ z => by cases z) r
  | _, _, .dct h k r => .dct (noT_at h fun _ z => by cases z) (DqP.noT k) r
theorem DqA.noT {G : Hp} : ∀ {vs : List V} {ds : List D}, DqA G vs ds → DqA (noT G) vs ds
  | _, _, .nil => .nil
  | _, _, .cons h k => .cons (Dq.noT h) (DqA.noT k)
theorem DqP.noT {G : Hp} : ∀ {kvs : List (List L2.Key × V)} {es : List (List L2.Key × D)}, DqP G kvs es → DqP (noT G) kvs es
  | _, _, .nil => .nil
  | _, _, .cons n h k => .cons n (Dq.noT h) (DqP.noT k)
end
theorem noT_ex {G : Hp} : Ex (noT G) G := fun b o e => (of_noT e).1
theorem noT_w {G H : Hp} (w : Ex G H) : Ex (noT G) H := fun b o e => w b o (of_noT e).1
theorem wipe_at {σ : L2.St} {k : Nat} : ∀ vs : List Nat, (wipe σ vs)[k]? = if k ∈ vs then (if k < σ.length then some none else none) else σ[k]?
  | [] => by rw [if_neg (List.not_mem_nil)]; rfl
  | v :: vs => by
    have ih := wipe_at (σ := σ) (k := k) vs
    unfold wipe
    by_cases hv : v = k
    · subst hv
      rw [if_pos (List.mem_cons_self ..)]
      by_cases hl : v < σ.length
      · rw [if_pos hl, List.getElem?_set_self (by rw [wipe_length]; exact hl)]
      · rw [if_neg hl]
        exact List.getElem?_eq_none_iff.mpr (by rw [List.length_set, wipe_length]; omega)
    · rw [List.getElem?_set_ne hv, ih]
      by_cases hk : k ∈ vs
      · rw [if_pos hk, if_pos (List.mem_cons_of_mem _ hk)]
      · rw [if_neg hk, if_neg (fun z => by rcases List.mem_cons.mp z with e | e; exact hv e.symm; exact hk e)]
theorem wipe_off {σ σ' : L2.St} {vs js : List Nat} (hl : σ'.length = σ.length) (h : ∀ k, k ∉ js → σ'[k]? = σ[k]?) (s : ∀ j ∈ js, j ∈ vs) : wipe σ' vs = wipe σ vs := by
  refine List.ext_getElem? fun k => ?_
  rw [wipe_at, wipe_at, hl]
  by_cases hk : k ∈ vs
  · rw [if_pos hk, if_pos hk]
  · rw [if_neg hk, if_neg hk]
    exact h k fun z => hk (s k z)
theorem wipe_two {σ : L2.St} {vs : List Nat} : wipe (wipe σ vs) vs = wipe σ vs := by
  refine List.ext_getElem? fun k => ?_
  rw [wipe_at, wipe_at, wipe_length]
  by_cases hk : k ∈ vs
  · rw [if_pos hk, if_pos hk]
  · rw [if_neg hk, if_neg hk]
def wipeC (Γ : En) : List Nat → En
  | [] => Γ
  | v :: vs => (wipeC Γ vs).set v .un
theorem wipeC_length (Γ : En) : ∀ vs : List Nat, (wipeC Γ vs).length = Γ.length
  | [] => rfl
  | v :: vs => by unfold wipeC; rw [List.length_set, wipeC_length Γ vs]
theorem wipeC_off {Γ : En} {k : Nat} : ∀ {vs : List Nat}, k ∉ vs → (wipeC Γ vs)[k]? = Γ[k]?
  | [], _ => rfl
  | v :: vs, h => by
    unfold wipeC
    rw [List.getElem?_set_ne (fun z => h (by rw [z]; exact List.mem_cons_self ..))]
    exact wipeC_off fun z => h (List.mem_cons_of_mem _ z)
theorem wipeC_at {Γ : En} {k : Nat} {c : Ce} : ∀ {vs : List Nat}, (wipeC Γ vs)[k]? = some c → c = .un ∨ (k ∉ vs ∧ Γ[k]? = some c)
  | [], h => .inr ⟨List.not_mem_nil, h⟩
  | v :: vs, h => by
    unfold wipeC at h
    by_cases hv : v = k
    · subst hv
      by_cases hl : v < (wipeC Γ vs).length
      · rw [List.getElem?_set_self hl] at h
        exact .inl (Option.some.inj h).symm
      · rw [List.getElem?_eq_none_iff.mpr (by rw [List.length_set]; omega)] at h
        cases h
    · rw [List.getElem?_set_ne hv] at h
      rcases wipeC_at h with e | ⟨h1, h2⟩
      · exact .inl e
      · exact .inr ⟨fun z => by rcases List.mem_cons.mp z with e | e; exact hv e.symm; exact h1 e, h2⟩
section
variable {G H G' H' G1 H1 G2 H2 : Hp} {σ : L2.St} {Γ Γ' : En}
theorem Rel.wipe (h : Rel G H σ Γ) (vs : List Nat) : Rel G H (wipe σ vs) (wipeC Γ vs) := by
  refine ⟨h.w, by rw [wipe_length, wipeC_length]; exact h.len, fun i c e => ?_, fun i j p ci cj e1 e2 m1 m2 s1 s2 => ?_⟩
  · rcases wipeC_at e with rfl | ⟨h1, h2⟩
    · trivial
    · rw [wipe_at, if_neg h1]
      exact h.c i c h2
  · rcases wipeC_at e1 with rfl | ⟨h1, h2⟩
    · cases m1
    rcases wipeC_at e2 with rfl | ⟨h3, h4⟩
    · cases m2
    rw [wipe_at, if_neg h1] at s1
    rw [wipe_at, if_neg h3] at s2
    exact h.sep i j p ci cj h2 h4 m1 m2 s1 s2
theorem set_at {α : Type} {l : List α} {j k : Nat} {a c : α} (h : (l.set j a)[k]? = some c) : (k = j ∧ j < l.length ∧ c = a) ∨ (k ≠ j ∧ l[k]? = some c) := by
  by_cases hj : j = k
  · subst hj
    by_cases hl : j < l.length
    · rw [List.getElem?_set_self hl] at h
      exact .inl ⟨rfl, hl, (Option.some.inj h).symm⟩
    · rw [List.getElem?_eq_none_iff.mpr (by rw [List.length_set]; omega)] at h
      cases h
  · rw [List.getElem?_set_ne hj] at h
    exact .inr ⟨fun z => hj z.symm, h⟩
theorem Rel.set (h : Rel G H σ Γ) {j : Nat} {v : V} {a : D} (q : Dq G v a) : Rel G H (σ.set j (some v)) (Γ.set j (.d a)) := by
  refine ⟨h.w, by rw [List.length_set, List.length_set]; exact h.len, fun i c e => ?_, fun i k p ci ck e1 e2 m1 m2 s1 s2 => ?_⟩
  · rcases set_at e with ⟨rfl, hl, rfl⟩ | ⟨ne, e⟩
    · rw [List.getElem?_set_self (by rw [h.len]; exact hl)]
      exact ⟨v, rfl, q⟩
    · rw [List.getElem?_set_ne (fun z => ne z.symm)]
      exact h.c i c e
  · rcases set_at e1 with ⟨rfl, hl, rfl⟩ | ⟨ne, e1⟩
    · cases m1
    rcases set_at e2 with ⟨rfl, hl, rfl⟩ | ⟨ne2, e2⟩
    · cases m2
    rw [List.getElem?_set_ne (fun z => ne z.symm)] at s1
    rw [List.getElem?_set_ne (fun z => ne2 z.symm)] at s2
    exact h.sep i k p ci ck e1 e2 m1 m2 s1 s2
end
abbrev Fs := D → En → Option En
def Sg (g : TG) (st : Fs) (js : List Nat) : Prop := ∀ σ Γ G H, Rel G H σ Γ → ∀ v a Γ', Dq G v a → st a Γ = some Γ' → ∀ R : L2.St → Hp → Prop, (∀ σ', (∀ G2 H2, Ex G G2 → Rel G2 H2 σ Γ → Rel G2 H2 σ' Γ') → σ'.length = σ.length → (∀ k : Nat, k ∉ js → σ'[k]? = σ[k]?) → (∀ (i : Nat) (c : Ce), Γ'[i]? = some c → isMut c = true → Γ[i]? = some c ∧ σ'[i]? = σ[i]?) → (∀ k : Nat, k ∉ js → Γ'[k]? = Γ[k]?) → R σ' H) → g v σ H R
def Sgs (g : TGs) (st : List D → En → Option En) (js : List Nat) : Prop := ∀ σ Γ G H, Rel G H σ Γ → ∀ vs as Γ', DqA G vs as → st as Γ = some Γ' → ∀ R : L2.St → Hp → Prop, (∀ σ', (∀ G2 H2, Ex G G2 → Rel G2 H2 σ Γ → Rel G2 H2 σ' Γ') → σ'.length = σ.length → (∀ k : Nat, k ∉ js → σ'[k]? = σ[k]?) → (∀ (i : Nat) (c : Ce), Γ'[i]? = some c → isMut c = true → Γ[i]? = some c ∧ σ'[i]? = σ[i]?) → (∀ k : Nat, k ∉ js → Γ'[k]? = Γ[k]?) → R σ' H) → g vs σ H R
def sName (j : Nat) : Fs := fun a Γ => some (Γ.set j (.d a))
def sNil : List D → En → Option En
  | [], Γ => some Γ
  | _ :: _, _ => none
def sCons (s : Fs) (r : List D → En → Option En) : List D → En → Option En
  | a :: as, Γ => match s a Γ with
    | some Γ1 => r as Γ1
    | none => none
  | [], _ => none
def sTup (n : Nat) (r : List D → En → Option En) : Fs := fun a Γ => match a with
  | .tuple as => if Nat.beq as.length n = true then r as Γ else none
  | _ => none
theorem g_name {j : Nat} : Sg (gName j) (sName j) [j] := fun σ Γ G H R v a Γ' q e Rr k => by
  cases e
  exact k _ (fun G2 H2 x R2 => R2.set (q.mono x)) (by rw [List.length_set]) (fun i hi => List.getElem?_set_ne (fun z => hi (by rw [z]; exact List.mem_singleton.mpr rfl))) (fun i c ec m => by
    rcases set_at ec with ⟨rfl, hl, rfl⟩ | ⟨ne, ec⟩
    · cases m
    · exact ⟨ec, List.getElem?_set_ne (fun z => ne z.symm)⟩) fun i hi => List.getElem?_set_ne (fun z => hi (by rw [z]; exact List.mem_singleton.mpr rfl))
theorem g_nil : Sgs gNil sNil [] := fun σ Γ G H R vs as Γ' q e Rr k => by
  cases q with
  | nil => cases e; exact ⟨rfl, k σ (fun _ _ _ R2 => R2) rfl (fun _ _ => rfl) (fun _ _ ec _ => ⟨ec, rfl⟩) fun _ _ => rfl⟩
  | cons _ _ => cases e
theorem g_cons {g : TG} {gs : TGs} {s : Fs} {r : List D → En → Option En} {js ks : List Nat} (h : Sg g s js) (hs : Sgs gs r ks) : Sgs (gCons g gs) (sCons s r) (js ++ ks) := fun σ Γ G H R vs as Γ' q e Rr k => by
  cases q with
  | nil => cases e
  | @cons v vs d ds q1 q2 =>
    have e' : (match s d Γ with | some Γ1 => r ds Γ1 | none => none) = some Γ' := e
    cases h1 : s d Γ with
    | none => rw [h1] at e'; cases e'
    | some Γ1 =>
      rw [h1] at e'
      refine ⟨v, vs, rfl, h σ Γ G H R v d Γ1 q1 h1 _ fun σ1 R1 l1 o1 m1 f1 => ?_⟩
      refine hs σ1 Γ1 G H (R1 G H (.refl G) R) vs ds Γ' q2 e' _ fun σ2 R2 l2 o2 m2 f2 => k σ2 (fun G2 H2 x R3 => R2 G2 H2 x (R1 G2 H2 x R3)) (l2.trans l1) (fun i hi => by rw [o2 i (fun z => hi (List.mem_append_right _ z)), o1 i (fun z => hi (List.mem_append_left _ z))]) (fun i c ec mc => by
        obtain ⟨e1, e2⟩ := m2 i c ec mc
        obtain ⟨e3, e4⟩ := m1 i c e1 mc
        exact ⟨e3, e2.trans e4⟩) fun i hi => by rw [f2 i (fun z => hi (List.mem_append_right _ z)), f1 i (fun z => hi (List.mem_append_left _ z))]
theorem g_tup {K : PySem.W.Frag} {n : Nat} {gs : TGs} {r : List D → En → Option En} {js : List Nat} (hs : Sgs gs r js) : Sg (gTup K n gs) (sTup n r) js := fun σ Γ G H R v a Γ' q e Rr k => by
  cases q with
  | @tup p xs ds hp hxs =>
    have e' : (if Nat.beq ds.length n = true then r ds Γ else none) = some Γ' := e
    by_cases hn : Nat.beq ds.length n = true
    · rw [if_pos hn] at e'
      exact ⟨p, xs, rfl, TupA.sq (TupA.mono hp R.w), by rw [hxs.len]; exact Nat.eq_of_beq_eq_true hn, hs σ Γ G H R xs ds Γ' hxs e' Rr k⟩
    · rw [if_neg hn] at e'; cases e'
  | _ => cases e
def Wlk (J : It) (G : Hp) (as : List D) : Prop := ∀ i H, Ex G H → (∀ a, as[i]? = some a → J.go i H ∧ ∀ v H2, J.yld i H v H2 → ∀ G1, Ex G G1 → Ex G1 H → ∃ G2, Stp G1 H G2 H2 ∧ Dq G2 v a) ∧ (i = as.length → J.stop i H)
theorem Wlk.mono {J : It} {G G' : Hp} {as : List D} (h : Wlk J G as) (x : Ex G G') : Wlk J G' as := fun i H e => ⟨fun a ha => ⟨((h i H (x.trans e)).1 a ha).1, fun v H2 y G1 e1 e2 => ((h i H (x.trans e)).1 a ha).2 v H2 y G1 (x.trans e1) e2⟩, (h i H (x.trans e)).2⟩
section
variable (E : XK) (ad : Str → Addr)
def PoI (G H : Hp) (Q : It → Hp → Prop) : Oa → Prop
  | .vals as => ∀ J G2 H2, Stp G H G2 H2 → Wlk J (noT G2) as → Q J H2
  | .exc x => ∀ G2 H2, Stp G H G2 H2 → XE E ad x H2
def Si (wi : TI) (f : En → Ra) : Prop := ∀ σ Γ G H, Rel G H σ Γ → ∀ r, f Γ = some r → ∀ Q : It → Hp → Prop, PoI E ad G H Q r → wi σ H Q
end
def iL (fe : En → Re) (Γ : En) : Ra := match fe Γ with
  | some (.val (.list as)) => some (.vals as)
  | some (.exc x) => some (.exc x)
  | _ => none
def iT (fe : En → Re) (Γ : En) : Ra := match fe Γ with
  | some (.val (.tuple as)) => some (.vals as)
  | some (.exc x) => some (.exc x)
  | _ => none
def upFrom (lo : Int) : Nat → List D
  | 0 => []
  | n + 1 => .int lo :: upFrom (lo + 1) n
def iR1 (fas : En → Ra) (Γ : En) : Ra := match fas Γ with
  | some (.vals [.int j]) => if small j.toNat = true ∧ -1000000 ≤ j then some (.vals (upFrom 0 j.toNat)) else none
  | some (.exc x) => some (.exc x)
  | _ => none
def sqOf : Bool → D → Option (List D)
  | true, .list as => some as
  | false, .tuple as => some as
  | _, _ => none
def zipT : List D → List D → List D
  | a :: as, b :: bs => .tuple [a, b] :: zipT as bs
  | _, _ => []
def zipT3 : List D → List D → List D → List D
  | a :: as, b :: bs, c :: cs => .tuple [a, b, c] :: zipT3 as bs cs
  | _, _, _ => []
def enumT : Int → List D → List D
  | _, [] => []
  | i, a :: as => .tuple [.int i, a] :: enumT (i + 1) as
def iZ2 (k1 k2 : Bool) (fas : En → Ra) (Γ : En) : Ra := match fas Γ with
  | some (.vals [x, y]) => match sqOf k1 x, sqOf k2 y with
    | some as, some bs => some (.vals (zipT as bs))
    | _, _ => none
  | some (.exc x) => some (.exc x)
  | _ => none
def iZ3 (k1 k2 k3 : Bool) (fas : En → Ra) (Γ : En) : Ra := match fas Γ with
  | some (.vals [x, y, z]) => match sqOf k1 x, sqOf k2 y, sqOf k3 z with
    | some as, some bs, some cs => some (.vals (zipT3 as bs cs))
    | _, _, _ => none
  | some (.exc x) => some (.exc x)
  | _ => none
def iEn (k : Bool) (fas : En → Ra) (Γ : En) : Ra := match fas Γ with
  | some (.vals [x]) => match sqOf k x with
    | some as => some (.vals (enumT 0 as))
    | none => none
  | some (.exc x) => some (.exc x)
  | _ => none
theorem upFrom_at {lo : Int} {n i : Nat} {a : D} (h : (upFrom lo n)[i]? = some a) : i < n ∧ a = .int (lo + i) := by
  induction n generalizing lo i with
  | zero => simp [upFrom] at h
  | succ n ih =>
    cases i with
    | zero => simp [upFrom] at h; exact ⟨by omega, by rw [← h]; simp⟩
    | succ i =>
      unfold upFrom at h
      rw [List.getElem?_cons_succ] at h
      obtain ⟨h1, h2⟩ := ih h
      exact ⟨by omega, by rw [h2]; congr 1; omega⟩
theorem upFrom_len (lo : Int) (n : Nat) : (upFrom lo n).length = n := by
  induction n generalizing lo with
  | zero => rfl
  | succ n ih => unfold upFrom; rw [List.length_cons, ih]
theorem zipT_at {as bs : List D} {i : Nat} {a : D} (h : (zipT as bs)[i]? = some a) : ∃ x y, as[i]? = some x ∧ bs[i]? = some y ∧ a = .tuple [x, y] := by
  induction as generalizing bs i with
  | nil => simp [zipT] at h
  | cons x as ih =>
    cases bs with
    | nil => simp [zipT] at h
    | cons y bs =>
      cases i with
      | zero => simp [zipT] at h; exact ⟨x, y, rfl, rfl, h.symm⟩
      | succ i => exact ih (by simpa [zipT] using h)
theorem zipT_len (as bs : List D) : (zipT as bs).length = min as.length bs.length := by
  induction as generalizing bs with
  | nil => simp [zipT]
  | cons x as ih =>
    cases bs with
    | nil => simp [zipT]
    | cons y bs => unfold zipT; rw [List.length_cons, ih, List.length_cons, List.length_cons]; omega
theorem zipT3_at {as bs cs : List D} {i : Nat} {a : D} (h : (zipT3 as bs cs)[i]? = some a) : ∃ x y z, as[i]? = some x ∧ bs[i]? = some y ∧ cs[i]? = some z ∧ a = .tuple [x, y, z] := by
  induction as generalizing bs cs i with
  | nil => simp [zipT3] at h
  | cons x as ih =>
    cases bs with
    | nil => simp [zipT3] at h
    | cons y bs =>
      cases cs with
      | nil => simp [zipT3] at h
      | cons z cs =>
        cases i with
        | zero => simp [zipT3] at h; exact ⟨x, y, z, rfl, rfl, rfl, h.symm⟩
        | succ i => exact ih (by simpa [zipT3] using h)
theorem zipT3_len (as bs cs : List D) : (zipT3 as bs cs).length = min as.length (min bs.length cs.length) := by
  induction as generalizing bs cs with
  | nil => simp [zipT3]
  | cons x as ih =>
    cases bs with
    | nil => simp [zipT3]
    | cons y bs =>
      cases cs with
      | nil => simp [zipT3]
      | cons z cs => unfold zipT3; rw [List.length_cons, ih, List.length_cons, List.length_cons, List.length_cons]; omega
theorem enumT_at {lo : Int} {as : List D} {i : Nat} {a : D} (h : (enumT lo as)[i]? = some a) : ∃ x, as[i]? = some x ∧ a = .tuple [.int (lo + i), x] := by
  induction as generalizing lo i with
  | nil => simp [enumT] at h
  | cons x as ih =>
    cases i with
    | zero => simp [enumT] at h; exact ⟨x, rfl, by rw [← h]; simp⟩
    | succ i =>
      unfold enumT at h
      rw [List.getElem?_cons_succ] at h
      obtain ⟨y, h1, h2⟩ := ih h
      exact ⟨y, by simpa using h1, by rw [h2]; congr 3; omega⟩
theorem enumT_len (lo : Int) (as : List D) : (enumT lo as).length = as.length := by
  induction as generalizing lo with
  | nil => rfl
  | cons x as ih => unfold enumT; rw [List.length_cons, ih, List.length_cons]
section
variable {E : XK} {ad : Str → Addr} {K : PySem.W.Frag} {te : TE} {fe : En → Re} {tas : TA} {fas : En → Ra}
theorem i_list (h : Se E ad te fe) : Si E ad (iList K te) (iL fe) := fun σ Γ G H R r e Q q => by
  unfold iL at e
  split at e
  · rename_i as e1
    cases e
    refine h σ Γ G H R _ e1 _ fun v G2 H2 s2 q0 => ?_
    have q2 := q0.noT
    cases q2 with
    | @lst a xs _ ha hxs =>
      refine ⟨a, rfl, ⟨xs, SqL.of (noT_w s2.w _ _ ha)⟩, q _ G2 H2 s2 fun i H3 x3 => ⟨fun a' ha' => ?_, fun e => ⟨xs, SqL.of (x3 _ _ ha), by rw [hxs.len, e]; exact Nat.le_refl _⟩⟩⟩
      obtain ⟨v, hv, hd⟩ := hxs.getD ha'
      refine ⟨⟨xs, v, SqL.of (x3 _ _ ha), hv⟩, ?_⟩
      rintro v2 H4 ⟨rfl, hy⟩ G1 e1 e2
      have := hy xs (SqL.of (x3 _ _ ha))
      rw [hv] at this
      cases this
      exact ⟨G1, .refl e2, hd.mono e1⟩
  · rename_i x e1
    cases e
    exact h σ Γ G H R _ e1 _ q
  · cases e
theorem i_tup (h : Se E ad te fe) : Si E ad (iTup K te) (iT fe) := fun σ Γ G H R r e Q q => by
  unfold iT at e
  split at e
  · rename_i as e1
    cases e
    refine h σ Γ G H R _ e1 _ fun v G2 H2 s2 q0 => ?_
    have q2 := q0.noT
    cases q2 with
    | @tup a xs _ ha hxs =>
      refine ⟨a, rfl, ⟨xs, TupA.sq (TupA.mono ha (noT_w s2.w))⟩, q _ G2 H2 s2 fun i H3 x3 => ⟨fun a' ha' => ?_, fun e => ⟨xs, TupA.sq (TupA.mono ha x3), by rw [hxs.len, e]; exact Nat.le_refl _⟩⟩⟩
      obtain ⟨v, hv, hd⟩ := hxs.getD ha'
      refine ⟨⟨xs, v, TupA.sq (TupA.mono ha x3), hv⟩, ?_⟩
      rintro v2 H4 ⟨rfl, hy⟩ G1 e1 e2
      have := hy xs (TupA.sq (TupA.mono ha x3))
      rw [hv] at this
      cases this
      exact ⟨G1, .refl e2, hd.mono e1⟩
  · rename_i x e1
    cases e
    exact h σ Γ G H R _ e1 _ q
  · cases e
theorem wlk_rng {G : Hp} (lo : Int) (n : Nat) : Wlk (Itr lo n) G (upFrom lo n) := fun i H x => ⟨fun a ha => by
  obtain ⟨h1, rfl⟩ := upFrom_at ha
  refine ⟨h1, ?_⟩
  rintro v H2 ⟨rfl, rfl⟩ G1 e1 e2
  exact ⟨G1, .refl e2, .int _⟩, fun e => by rw [upFrom_len] at e; rw [e]; exact Nat.le_refl _⟩
theorem i_rng1 (h : Sa E ad tas fas) : Si E ad (iRng1 tas) (iR1 fas) := fun σ Γ G H R r e Q q => by
  unfold iR1 at e
  split at e
  · rename_i j e1
    by_cases hj : small j.toNat = true ∧ -1000000 ≤ j
    · rw [if_pos hj] at e
      cases e
      have := small_le hj.1
      refine h σ Γ G H R _ e1 _ fun vs G2 H2 s2 q0 => ?_
      have q2 := q0.noT
      cases q2 with
      | cons q3 q4 =>
        cases q4
        cases q3
        exact ⟨j, rfl, by omega, by omega, q _ G2 H2 s2 (wlk_rng 0 _)⟩
    · rw [if_neg hj] at e; cases e
  · rename_i x e1
    cases e
    exact h σ Γ G H R _ e1 _ q
  · cases e
theorem sq_of {k : Bool} {x : D} {as : List D} (h : sqOf k x = some as) : x = sq k as := by
  cases k <;> cases x <;> first | (cases h; rfl) | cases h
theorem i_zip2 {k1 k2 : Bool} (h : Sa E ad tas fas) : Si E ad (iZip2 K k1 k2 tas) (iZ2 k1 k2 fas) := fun σ Γ G H R r e Q q => by
  unfold iZ2 at e
  split at e
  · rename_i x y e1
    split at e
    · rename_i as bs h1 h2
      cases e
      have ex := sq_of h1
      have ey := sq_of h2
      subst ex ey
      refine h σ Γ G H R _ e1 _ fun vs G2 H2 s2 q0 => ?_
      have q2 := q0.noT
      cases q2 with
      | cons q3 q4 =>
        cases q4 with
        | cons q5 q4 =>
          cases q4
          obtain ⟨a, xs, rfl, hxs, qa⟩ := sq_at (K := K) q3
          obtain ⟨b, ys, rfl, hys, qb⟩ := sq_at (K := K) q5
          refine ⟨a, b, xs, ys, rfl, qa _ (noT_w s2.w), qb _ (noT_w s2.w), q _ G2 H2 s2 fun i H3 x3 => ⟨fun a' ha' => ?_, fun e => ?_⟩⟩
          · obtain ⟨dx, dy, hx, hy, rfl⟩ := zipT_at ha'
            obtain ⟨vx, hvx, hdx⟩ := hxs.getD hx
            obtain ⟨vy, hvy, hdy⟩ := hys.getD hy
            refine ⟨⟨xs, ys, vx, vy, qa _ x3, qb _ x3, hvx, hvy⟩, ?_⟩
            rintro v2 H4 ⟨T, x', y', o', rfl, hT, hO, rfl, f1, f2⟩ G1 e1 e2
            have z1 := f1 xs (qa _ x3)
            have z2 := f2 ys (qb _ x3)
            rw [hvx] at z1
            rw [hvy] at z2
            cases z1
            cases z2
            have s3 := Stp.new (o := tupO o' [vx, vy]) e2 hT
            exact ⟨_, s3, .tup (.new hO) (.cons (hdx.mono (e1.trans s3.g)) (.cons (hdy.mono (e1.trans s3.g)) .nil))⟩
          · rw [zipT_len] at e
            have l1 := hxs.len
            have l2 := hys.len
            exact ⟨xs, ys, qa _ x3, qb _ x3, by omega, by omega, by omega⟩
    · cases e
  · rename_i x e1
    cases e
    exact h σ Γ G H R _ e1 _ q
  · cases e
theorem i_zip3 {k1 k2 k3 : Bool} (h : Sa E ad tas fas) : Si E ad (iZip3 K k1 k2 k3 tas) (iZ3 k1 k2 k3 fas) := fun σ Γ G H R r e Q q => by
  unfold iZ3 at e
  split at e
  · rename_i x y z e1
    split at e
    · rename_i as bs cs h1 h2 h3
      cases e
      have ex := sq_of h1
      have ey := sq_of h2
      have ez := sq_of h3
      subst ex ey ez
      refine h σ Γ G H R _ e1 _ fun vs G2 H2 s2 q0 => ?_
      have q2 := q0.noT
      cases q2 with
      | cons q3 q4 =>
        cases q4 with
        | cons q5 q4 =>
          cases q4 with
          | cons q6 q4 =>
            cases q4
            obtain ⟨a, xs, rfl, hxs, qa⟩ := sq_at (K := K) q3
            obtain ⟨b, ys, rfl, hys, qb⟩ := sq_at (K := K) q5
            obtain ⟨c, zs, rfl, hzs, qc⟩ := sq_at (K := K) q6
            refine ⟨a, b, c, xs, ys, zs, rfl, qa _ (noT_w s2.w), qb _ (noT_w s2.w), qc _ (noT_w s2.w), q _ G2 H2 s2 fun i H3 x3 => ⟨fun a' ha' => ?_, fun e => ?_⟩⟩
            · obtain ⟨dx, dy, dz, hx, hy, hz, rfl⟩ := zipT3_at ha'
              obtain ⟨vx, hvx, hdx⟩ := hxs.getD hx
              obtain ⟨vy, hvy, hdy⟩ := hys.getD hy
              obtain ⟨vz, hvz, hdz⟩ := hzs.getD hz
              refine ⟨⟨xs, ys, zs, vx, vy, vz, qa _ x3, qb _ x3, qc _ x3, hvx, hvy, hvz⟩, ?_⟩
              rintro v2 H4 ⟨T, x', y', z', o', rfl, hT, hO, rfl, f1, f2, f3⟩ G1 e1 e2
              have z1 := f1 xs (qa _ x3)
              have z2 := f2 ys (qb _ x3)
              have z3 := f3 zs (qc _ x3)
              rw [hvx] at z1
              rw [hvy] at z2
              rw [hvz] at z3
              cases z1
              cases z2
              cases z3
              have s3 := Stp.new (o := tupO o' [vx, vy, vz]) e2 hT
              exact ⟨_, s3, .tup (.new hO) (.cons (hdx.mono (e1.trans s3.g)) (.cons (hdy.mono (e1.trans s3.g)) (.cons (hdz.mono (e1.trans s3.g)) .nil)))⟩
            · rw [zipT3_len] at e
              have l1 := hxs.len
              have l2 := hys.len
              have l3 := hzs.len
              exact ⟨xs, ys, zs, qa _ x3, qb _ x3, qc _ x3, by omega, by omega, by omega, by omega⟩
    · cases e
  · rename_i x e1
    cases e
    exact h σ Γ G H R _ e1 _ q
  · cases e
theorem i_enum {k : Bool} (h : Sa E ad tas fas) : Si E ad (iEnumK K k tas) (iEn k fas) := fun σ Γ G H R r e Q q => by
  unfold iEn at e
  split at e
  · rename_i x e1
    split at e
    · rename_i as h1
      cases e
      have ex := sq_of h1
      subst ex
      refine h σ Γ G H R _ e1 _ fun vs G2 H2 s2 q0 => ?_
      have q2 := q0.noT
      cases q2 with
      | cons q3 q4 =>
        cases q4
        obtain ⟨a, xs, rfl, hxs, qa⟩ := sq_at (K := K) q3
        refine ⟨a, xs, rfl, qa _ (noT_w s2.w), q _ G2 H2 s2 fun i H3 x3 => ⟨fun a' ha' => ?_, fun e => ?_⟩⟩
        · obtain ⟨dx, hx, rfl⟩ := enumT_at ha'
          obtain ⟨vx, hvx, hdx⟩ := hxs.getD hx
          refine ⟨⟨xs, vx, qa _ x3, hvx⟩, ?_⟩
          rintro v2 H4 ⟨T, x', o', rfl, hT, hO, rfl, f1⟩ G1 e1 e2
          have z1 := f1 xs (qa _ x3)
          rw [hvx] at z1
          cases z1
          have s3 := Stp.new (o := tupO o' [.int (i : Nat), vx]) e2 hT
          rw [Int.zero_add]
          exact ⟨_, s3, .tup (.new hO) (.cons (.int _) (.cons (hdx.mono (e1.trans s3.g)) .nil))⟩
        · rw [enumT_len] at e
          exact ⟨xs, qa _ x3, by rw [hxs.len]; exact e⟩
    · cases e
  · rename_i x e1
    cases e
    exact h σ Γ G H R _ e1 _ q
  · cases e
end
def lcGo (st : Fs) (ft fe : En → Re) (Γ : En) : List D → Option (List D)
  | [] => some []
  | a :: as => match st a Γ with
    | none => none
    | some Γ1 => match ft Γ1 with
      | some (.val (.bool b)) => if b = true then (match fe Γ1 with
        | some (.val d) => match lcGo st ft fe Γ as with
          | some ds => some (d :: ds)
          | none => none
        | _ => none) else lcGo st ft fe Γ as
      | _ => none
def fLc (src : En → Ra) (st : Fs) (ft fe : En → Re) (vs : List Nat) (Γ : En) : Re := match src Γ with
  | some (.vals as) => if small as.length = true then (match lcGo st ft fe (wipeC Γ vs) as with
    | some ds => some (.val (.list ds))
    | none => none) else none
  | some (.exc x) => some (.exc x)
  | none => none
theorem drop_at {α : Type} {l : List α} {i : Nat} {a : α} {r : List α} (h : l.drop i = a :: r) : l[i]? = some a ∧ l.drop (i + 1) = r := by
  have h1 : (l.drop i)[0]? = some a := by rw [h]; rfl
  rw [List.getElem?_drop] at h1
  refine ⟨by simpa using h1, ?_⟩
  rw [← List.tail_drop, h]; rfl
section
variable {E : XK} {ad : Str → Addr} {K : PySem.W.Frag} {te : TE} {tt : TT} {fe ft : En → Re} {wi : TI} {src : En → Ra} {g : TG} {st : Fs} {js vs : List Nat}
theorem m_lc (hs : Si E ad wi src) (hg : Sg g st js) (ht : Sb E ad tt ft) (he : Se E ad te fe) (hj : ∀ j ∈ js, j ∈ vs) : Sm E ad (tLc wi g tt te vs) (fLc src st ft fe vs) := fun σ Γ G H R r e Q q => by
  unfold fLc at e
  split at e
  · rename_i as e1
    by_cases hsm : small as.length = true
    · rw [if_pos hsm] at e
      have sml := small_le hsm
      split at e
      · rename_i ds e2
        cases e
        refine hs σ Γ G H R _ e1 _ fun J G2 H2 s2 wl0 Dl hD => ?_
        have wl := wl0.mono noT_ex
        have gD : G2 Dl = none := fresh_back s2.w hD
        refine ⟨fun i m H3 => m = as.length - i ∧ i ≤ as.length ∧ ∃ acc rest, lcGo st ft fe (wipeC Γ vs) (as.drop i) = some rest ∧ ds = acc ++ rest ∧ acc.length ≤ i ∧ Mk2 G2 H2 Dl acc H3, ⟨as.length, rfl, Nat.zero_le _, [], ds, e2, rfl, Nat.le_refl _, Mk2.start s2.w hD⟩, ?_⟩
        rintro i m H3 ⟨rfl, hi, acc, rest, er, rfl, la, mk⟩
        obtain ⟨G3, vs3, s3, g3, hvs3, hH3⟩ := mk
        have x23 : Ex G2 H3 := s3.g.trans s3.w
        cases hd : as.drop i with
        | nil =>
          have ei : i = as.length := by
            have := congrArg List.length hd
            rw [List.length_drop, List.length_nil] at this
            omega
          rw [hd] at er
          cases er
          refine .inl ⟨(wl i H3 x23).2 ei, ?_⟩
          rw [List.append_nil] at q
          refine q Dl G3 H3 (s2.trans s3) (h_old s2 hD) ⟨g3, vs3, hH3, hvs3⟩
        | cons a as2 =>
          obtain ⟨ha, hd2⟩ := drop_at hd
          have hlt : i < as.length := (List.getElem?_eq_some_iff.mp ha).1
          obtain ⟨hgo, hy⟩ := (wl i H3 x23).1 a ha
          refine .inr ⟨hgo, fun H' => ∃ acc2 rest2, lcGo st ft fe (wipeC Γ vs) (as.drop (i + 1)) = some rest2 ∧ acc ++ rest = acc2 ++ rest2 ∧ acc2.length ≤ i + 1 ∧ Mk2 G2 H2 Dl acc2 H', fun H' hN => ⟨as.length - (i + 1), by omega, rfl, hlt, hN⟩, ?_⟩
          intro v H4 hyl
          obtain ⟨G4, s4, qv⟩ := hy v H4 hyl G3 s3.g s3.w
          rw [hd] at er
          unfold lcGo at er
          cases hst : st a (wipeC Γ vs) with
          | none => rw [hst] at er; cases er
          | some Γ1 =>
            rw [hst] at er
            dsimp only at er
            have R4 : Rel G4 H4 (wipe σ vs) (wipeC Γ vs) := ((R.stp s2).stp (s3.trans s4)).wipe vs
            refine hg _ _ _ _ R4 v a Γ1 qv hst _ fun σ2 RR l5 o5 _ _ => ⟨?_, ?_⟩
            · rw [wipe_off l5 o5 hj, wipe_two]
            · split at er
              · rename_i b eb
                have R5 := RR G4 H4 (.refl _) R4
                refine ht σ2 Γ1 G4 H4 R5 _ eb _ fun G5 H5 s5 => ?_
                have s35 := s4.trans s5
                have g5 : G5 Dl = none := s35.n Dl g3 (by rw [hH3]; intro z; cases z) (by rw [hH3]; intro xs z; cases z)
                have h5 : H5 Dl = some (.lst vs3) := s35.h _ _ hH3
                cases b with
                | false =>
                  rw [if_neg (by decide)] at er ⊢
                  exact ⟨acc, rest, by rw [hd2]; exact er, rfl, by omega, G5, vs3, s3.trans s35, g5, hvs3.mono s35.g, h5⟩
                | true =>
                  rw [if_pos rfl] at er ⊢
                  split at er
                  · rename_i d ed
                    split at er
                    · rename_i ds2 eds
                      cases er
                      refine he σ2 Γ1 G5 H5 (R5.stp s5) _ ed _ fun y G6 H6 s6 q6 => ?_
                      have h6 : H6 Dl = some (.lst vs3) := s6.h _ _ h5
                      have g6 : G6 Dl = none := s6.n Dl g5 (by rw [h5]; intro z; cases z) (by rw [h5]; intro xs z; cases z)
                      have s36 := s35.trans s6
                      refine ⟨vs3, h6, by rw [hvs3.len, sizeLine_eq]; omega, acc ++ [d], ds2, by rw [hd2]; exact eds, by simp, by rw [List.length_append]; simp; omega, G6, vs3 ++ [y], (s3.trans s36).mutd hD g6, g6, (hvs3.mono s36.g).snoc q6, upd_same⟩
                    · cases er
                  · cases er
              · cases er
      · cases e
    · rw [if_neg hsm] at e; cases e
  · rename_i x e1
    cases e
    exact hs σ Γ G H R _ e1 _ q
  · cases e
theorem lst_lc (Γ : En) (d : D) (h : fLc src st ft fe vs Γ = some (.val d)) : ∃ ds, d = .list ds := by
  unfold fLc at h
  split at h
  · split at h
    · split at h
      · cases h; exact ⟨_, rfl⟩
      · cases h
    · cases h
  · cases h
  · cases h
theorem u_lc (hs : Si E ad wi src) (hg : Sg g st js) (ht : Sb E ad tt ft) (he : Se E ad te fe) (hj : ∀ j ∈ js, j ∈ vs) : Se E ad (tLc wi g tt te vs) (fLc src st ft fe vs) := (m_lc hs hg ht he hj).se lst_lc
variable {wi1 : TI} {src1 : En → Ra} {g1 : TG} {st1 : Fs} {js1 vs1 : List Nat} {tt1 : TT} {ft1 : En → Re}
def lc2Go (st : Fs) (ft : En → Re) (src1 : En → Ra) (st1 : Fs) (ft1 fe : En → Re) (vs1 : List Nat) (Γ : En) : List D → Option (List D)
  | [] => some []
  | a :: as => match st a Γ with
    | none => none
    | some Γ1 => match ft Γ1 with
      | some (.val (.bool b)) => if b = true then (match src1 Γ1 with
        | some (.vals bs) => if small bs.length = true then (match lcGo st1 ft1 fe (wipeC Γ1 vs1) bs with
          | some ds => match lc2Go st ft src1 st1 ft1 fe vs1 Γ as with
            | some ds2 => some (ds ++ ds2)
            | none => none
          | none => none) else none
        | _ => none) else lc2Go st ft src1 st1 ft1 fe vs1 Γ as
      | _ => none
def fLc2 (src : En → Ra) (st : Fs) (ft : En → Re) (src1 : En → Ra) (st1 : Fs) (ft1 fe : En → Re) (vs vs1 : List Nat) (Γ : En) : Re := match src Γ with
  | some (.vals as) => match lc2Go st ft src1 st1 ft1 fe vs1 (wipeC Γ vs) as with
    | some ds => if small ds.length = true then some (.val (.list ds)) else none
    | none => none
  | some (.exc x) => some (.exc x)
  | none => none
theorem m_lc2 (hs : Si E ad wi src) (hg : Sg g st js) (ht : Sb E ad tt ft) (hs1 : Si E ad wi1 src1) (hg1 : Sg g1 st1 js1) (ht1 : Sb E ad tt1 ft1) (he : Se E ad te fe) (hj : ∀ j ∈ js, j ∈ vs) (hj1 : ∀ j ∈ js1, j ∈ vs1) :
    Sm E ad (tLc2 wi g tt wi1 g1 tt1 te vs vs1) (fLc2 src st ft src1 st1 ft1 fe vs vs1) := fun σ Γ G H R r e Q q => by
  unfold fLc2 at e
  split at e
  · rename_i as e1
    split at e
    · rename_i ds e2
      by_cases hsm : small ds.length = true
      · rw [if_pos hsm] at e
        have sml := small_le hsm
        cases e
        refine hs σ Γ G H R _ e1 _ fun J G2 H2 s2 wl0 Dl hD => ?_
        have wl := wl0.mono noT_ex
        have gD : G2 Dl = none := fresh_back s2.w hD
        refine ⟨fun i m H3 => m = as.length - i ∧ i ≤ as.length ∧ ∃ acc rest, lc2Go st ft src1 st1 ft1 fe vs1 (wipeC Γ vs) (as.drop i) = some rest ∧ ds = acc ++ rest ∧ Mk2 G2 H2 Dl acc H3, ⟨as.length, rfl, Nat.zero_le _, [], ds, e2, rfl, Mk2.start s2.w hD⟩, ?_⟩
        rintro i m H3 ⟨rfl, hi, acc, rest, er, rfl, mk⟩
        obtain ⟨G3, vs3, s3, g3, hvs3, hH3⟩ := mk
        have x23 : Ex G2 H3 := s3.g.trans s3.w
        cases hd : as.drop i with
        | nil =>
          have ei : i = as.length := by
            have := congrArg List.length hd
            rw [List.length_drop, List.length_nil] at this
            omega
          rw [hd] at er
          cases er
          refine .inl ⟨(wl i H3 x23).2 ei, ?_⟩
          rw [List.append_nil] at q
          refine q Dl G3 H3 (s2.trans s3) (h_old s2 hD) ⟨g3, vs3, hH3, hvs3⟩
        | cons a as2 =>
          obtain ⟨ha, hd2⟩ := drop_at hd
          have hlt : i < as.length := (List.getElem?_eq_some_iff.mp ha).1
          obtain ⟨hgo, hy⟩ := (wl i H3 x23).1 a ha
          refine .inr ⟨hgo, fun H' => ∃ acc2 rest2, lc2Go st ft src1 st1 ft1 fe vs1 (wipeC Γ vs) (as.drop (i + 1)) = some rest2 ∧ acc ++ rest = acc2 ++ rest2 ∧ Mk2 G2 H2 Dl acc2 H', fun H' hN => ⟨as.length - (i + 1), by omega, rfl, hlt, hN⟩, ?_⟩
          intro v H4 hyl
          obtain ⟨G4, s4, qv⟩ := hy v H4 hyl G3 s3.g s3.w
          rw [hd] at er
          unfold lc2Go at er
          cases hst : st a (wipeC Γ vs) with
          | none => rw [hst] at er; cases er
          | some Γ1 =>
            rw [hst] at er
            dsimp only at er
            have R4 : Rel G4 H4 (wipe σ vs) (wipeC Γ vs) := ((R.stp s2).stp (s3.trans s4)).wipe vs
            refine hg _ _ _ _ R4 v a Γ1 qv hst _ fun σ2 RR l5 o5 _ _ => ⟨?_, ?_⟩
            · rw [wipe_off l5 o5 hj, wipe_two]
            · split at er
              · rename_i b eb
                have R5 := RR G4 H4 (.refl _) R4
                refine ht σ2 Γ1 G4 H4 R5 _ eb _ fun G5 H5 s5 => ?_
                have s35 := s4.trans s5
                have g5 : G5 Dl = none := s35.n Dl g3 (by rw [hH3]; intro z; cases z) (by rw [hH3]; intro xs z; cases z)
                have h5 : H5 Dl = some (.lst vs3) := s35.h _ _ hH3
                cases b with
                | false =>
                  rw [if_neg (by decide)] at er ⊢
                  exact ⟨acc, rest, by rw [hd2]; exact er, rfl, G5, vs3, s3.trans s35, g5, hvs3.mono s35.g, h5⟩
                | true =>
                  rw [if_pos rfl] at er ⊢
                  split at er
                  · rename_i bs ebs
                    by_cases hbm : small bs.length = true
                    · rw [if_pos hbm] at er
                      split at er
                      · rename_i ds1 eds1
                        split at er
                        · rename_i ds2 eds2
                          cases er
                          refine hs1 σ2 Γ1 G5 H5 (R5.stp s5) _ ebs _ fun J1 G6 H6 s6 wl10 => ?_
                          have wl1 := wl10.mono noT_ex
                          have h6 : H6 Dl = some (.lst vs3) := s6.h _ _ h5
                          have g6 : G6 Dl = none := s6.n Dl g5 (by rw [h5]; intro z; cases z) (by rw [h5]; intro xs z; cases z)
                          have s36 := s35.trans s6
                          refine ⟨fun j k H7 => k = bs.length - j ∧ j ≤ bs.length ∧ ∃ acc1 rest1, lcGo st1 ft1 fe (wipeC Γ1 vs1) (bs.drop j) = some rest1 ∧ ds1 = acc1 ++ rest1 ∧ ∃ G7 vs7, Ex G6 G7 ∧ Stp G2 H2 G7 H7 ∧ G7 Dl = none ∧ DqA G7 vs7 (acc ++ acc1) ∧ H7 Dl = some (.lst vs7), ⟨bs.length, rfl, Nat.zero_le _, [], ds1, eds1, rfl, G6, vs3, .refl _, s3.trans s36, g6, by rw [List.append_nil]; exact hvs3.mono s36.g, h6⟩, ?_⟩
                          rintro j k H7 ⟨rfl, hjl, acc1, rest1, er1, rfl, G7, vs7, x67, s27, g7, hv7, hH7⟩
                          have x6H : Ex G6 H7 := x67.trans s27.w
                          cases hdb : bs.drop j with
                          | nil =>
                            have ej : j = bs.length := by
                              have := congrArg List.length hdb
                              rw [List.length_drop, List.length_nil] at this
                              omega
                            rw [hdb] at er1
                            cases er1
                            refine .inl ⟨(wl1 j H7 x6H).2 ej, acc ++ acc1, ds2, by rw [hd2]; exact eds2, by simp, G7, vs7, s27, g7, hv7, hH7⟩
                          | cons b bs2 =>
                            obtain ⟨hb, hdb2⟩ := drop_at hdb
                            have hblt : j < bs.length := (List.getElem?_eq_some_iff.mp hb).1
                            obtain ⟨hgo1, hy1⟩ := (wl1 j H7 x6H).1 b hb
                            refine .inr ⟨hgo1, fun H' => ∃ acc1' rest1', lcGo st1 ft1 fe (wipeC Γ1 vs1) (bs.drop (j + 1)) = some rest1' ∧ acc1 ++ rest1 = acc1' ++ rest1' ∧ ∃ G7 vs7, Ex G6 G7 ∧ Stp G2 H2 G7 H' ∧ G7 Dl = none ∧ DqA G7 vs7 (acc ++ acc1') ∧ H' Dl = some (.lst vs7), fun H' hN => ⟨bs.length - (j + 1), by omega, rfl, hblt, hN⟩, ?_⟩
                            intro v8 H8 hyl1
                            obtain ⟨G8, s8, qv8⟩ := hy1 v8 H8 hyl1 G7 x67 s27.w
                            have keep : ∀ {G9 H9 : Hp}, Stp G7 H7 G9 H9 → G9 Dl = none ∧ H9 Dl = some (.lst vs7) := fun {G9 H9} s9 => ⟨s9.n Dl g7 (by rw [hH7]; intro z; cases z) (by rw [hH7]; intro xs z; cases z), s9.h _ _ hH7⟩
                            rw [hdb] at er1
                            unfold lcGo at er1
                            cases hst1 : st1 b (wipeC Γ1 vs1) with
                            | none => rw [hst1] at er1; cases er1
                            | some Γ2 =>
                              rw [hst1] at er1
                              dsimp only at er1
                              have R8 : Rel G8 H8 (wipe σ2 vs1) (wipeC Γ1 vs1) := (RR G8 H8 ((s5.g.trans s6.g).trans (x67.trans s8.g)) (((R.stp s2).stp (s27.trans s8)).wipe vs)).wipe vs1
                              refine hg1 _ _ _ _ R8 v8 b Γ2 qv8 hst1 _ fun σ3 RR1 l9 o9 _ _ => ⟨?_, ?_⟩
                              · rw [wipe_off l9 o9 hj1, wipe_two]
                              · split at er1
                                · rename_i b1 eb1
                                  have R9 := RR1 G8 H8 (.refl _) R8
                                  refine ht1 σ3 Γ2 G8 H8 R9 _ eb1 _ fun G9 H9 s9 => ?_
                                  have s79 := s8.trans s9
                                  obtain ⟨g9, h9⟩ := keep s79
                                  cases b1 with
                                  | false =>
                                    rw [if_neg (by decide)] at er1 ⊢
                                    exact ⟨acc1, rest1, by rw [hdb2]; exact er1, rfl, G9, vs7, x67.trans s79.g, s27.trans s79, g9, hv7.mono s79.g, h9⟩
                                  | true =>
                                    rw [if_pos rfl] at er1 ⊢
                                    split at er1
                                    · rename_i d ed
                                      split at er1
                                      · rename_i ds3 eds3
                                        cases er1
                                        refine he σ3 Γ2 G9 H9 (R9.stp s9) _ ed _ fun y Ga Ha sa qa => ?_
                                        have s7a := s79.trans sa
                                        obtain ⟨ga, ha⟩ := keep s7a
                                        have ln : (acc ++ acc1).length ≤ 1000000 - 1 := by
                                          simp only [List.length_append, List.length_cons] at sml ⊢
                                          omega
                                        refine ⟨vs7, ha, by rw [hv7.len, sizeLine_eq]; omega, acc1 ++ [d], ds3, by rw [hdb2]; exact eds3, by simp, Ga, vs7 ++ [y], x67.trans s7a.g, (s27.trans s7a).mutd hD ga, ga, ?_, upd_same⟩
                                        rw [← List.append_assoc]
                                        exact (hv7.mono s7a.g).snoc qa
                                      · cases er1
                                    · cases er1
                                · cases er1
                        · cases er
                      · cases er
                    · rw [if_neg hbm] at er; cases er
                  · cases er
              · cases er
      · rw [if_neg hsm] at e; cases e
    · cases e
  · rename_i x e1
    cases e
    exact hs σ Γ G H R _ e1 _ q
  · cases e
theorem lst_lc2 (Γ : En) (d : D) (h : fLc2 src st ft src1 st1 ft1 fe vs vs1 Γ = some (.val d)) : ∃ ds, d = .list ds := by
  unfold fLc2 at h
  split at h
  · split at h
    · split at h
      · cases h; exact ⟨_, rfl⟩
      · cases h
    · cases h
  · cases h
  · cases h
theorem u_lc2 (hs : Si E ad wi src) (hg : Sg g st js) (ht : Sb E ad tt ft) (hs1 : Si E ad wi1 src1) (hg1 : Sg g1 st1 js1) (ht1 : Sb E ad tt1 ft1) (he : Se E ad te fe) (hj : ∀ j ∈ js, j ∈ vs) (hj1 : ∀ j ∈ js1, j ∈ vs1) :
    Se E ad (tLc2 wi g tt wi1 g1 tt1 te vs vs1) (fLc2 src st ft src1 st1 ft1 fe vs vs1) := (m_lc2 hs hg ht hs1 hg1 ht1 he hj hj1).se lst_lc2
end
end Mv
namespace Mv
open PySem L2 Evl
def lkC : Ce → Ce
  | .ml ds => .d (.list ds)
  | c => c
def lockG (k : Nat → Bool) : Nat → En → En
  | _, [] => []
  | i, c :: cs => (if k i = true then lkC c else c) :: lockG k (i + 1) cs
def lockL (k : Nat → Bool) (Γ : En) : En := lockG k 0 Γ
theorem lockG_at {k : Nat → Bool} : ∀ {Γ : En} {j i : Nat} {c : Ce}, (lockG k j Γ)[i]? = some c → ∃ c0, Γ[i]? = some c0 ∧ c = (if k (j + i) = true then lkC c0 else c0)
  | [], j, i, c, h => by simp [lockG] at h
  | x :: Γ, j, 0, c, h => by
    simp only [lockG, List.getElem?_cons_zero, Option.some.injEq] at h
    exact ⟨x, rfl, h.symm⟩
  | x :: Γ, j, i + 1, c, h => by
    simp only [lockG, List.getElem?_cons_succ] at h
    obtain ⟨c0, h1, h2⟩ := lockG_at (Γ := Γ) (j := j + 1) h
    exact ⟨c0, h1, by rw [h2]; congr 3 <;> omega⟩
theorem lockG_len {k : Nat → Bool} : ∀ {Γ : En} {j : Nat}, (lockG k j Γ).length = Γ.length
  | [], _ => rfl
  | _ :: Γ, j => by simp [lockG, lockG_len (Γ := Γ)]
mutual
def noL : D → Bool
  | .list _ => false
  | .dict _ => false
  | .tuple xs => noLs xs
  | _ => true
def noLs : List D → Bool
  | [] => true
  | x :: xs => noL x && noLs xs
end
mutual
theorem Dq.cut {G G' : Hp} (h : ∀ b o, G b = some o → (∀ us, o ≠ .lst us) → G' b = some o) : ∀ {v : V} {d : D}, Dq G v d → noL d = true → Dq G' v d
  | _, _, .non, _ => .non
  | _, _, .bl b, _ => .bl b
  | _, _, .int i, _ => .int i
  | _, _, .str s, _ => .str s
  | _, _, .lst _ _, f => by simp [noL] at f
  | _, _, .tup e k, f => .tup (e.by fun o z e => h _ _ e fun _ q => by rcases z with rfl | ⟨_, rfl⟩ <;> cases q) (DqA.cut h k (by simpa [noL] using f))
  | _, _, .emp _ _, f => by simp [noL] at f
  | _, _, .dct _ _ _, f => by simp [noL] at f
theorem DqA.cut {G G' : Hp} (h : ∀ b o, G b = some o → (∀ us, o ≠ .lst us) → G' b = some o) : ∀ {vs : List V} {ds : List D}, DqA G vs ds → noLs ds = true → DqA G' vs ds
  | _, _, .nil, _ => .nil
  | _, _, .cons q k, f => by
    simp only [noLs, Bool.and_eq_true] at f
    exact .cons (Dq.cut h q f.1) (DqA.cut h k f.2)
end
structure Lkd (G H G' : Hp) (Γ : En) (σ : L2.St) : Prop where
  x : Ex G G'
  b : ∀ b : Addr, G' b = G b ∨ (G b = none ∧ (∃ us : List V, H b = some (.lst us) ∧ G' b = some (.lst us)) ∧ ∃ (i : Nat) (ds : List D), Γ[i]? = some (Ce.ml ds) ∧ σ[i]? = some (some (V.ref b)))
section
variable {G H G' H' G1 H1 G2 H2 : Hp} {σ : L2.St} {Γ Γ' : En} {k : Nat → Bool}
open Classical in
theorem Rel.lock (h : Rel G H σ Γ) (k : Nat → Bool) : ∃ G', Lkd G H G' Γ σ ∧ Rel G' H σ (lockL k Γ) := by
  let P : Addr → Prop := fun b => ∃ (i : Nat) (ds : List D), k i = true ∧ Γ[i]? = some (Ce.ml ds) ∧ σ[i]? = some (some (V.ref b))
  let G' : Hp := fun b => if P b then H b else G b
  have gP : ∀ b, P b → G b = none ∧ ∃ us, H b = some (.lst us) := by
    rintro b ⟨i, ds, _, e1, e2⟩
    obtain ⟨p, e3, m⟩ := h.c i _ e1
    rw [e2] at e3
    cases e3
    obtain ⟨us, e4, _⟩ := m.at_
    exact ⟨m.g, us, e4⟩
  have x : Ex G G' := fun b o e => by
    show (if P b then H b else G b) = some o
    by_cases p : P b
    · rw [(gP b p).1] at e; cases e
    · rw [if_neg p]; exact e
  have w : Ex G' H := fun b o e => by
    have e' : (if P b then H b else G b) = some o := e
    by_cases p : P b
    · rw [if_pos p] at e'; exact e'
    · rw [if_neg p] at e'; exact h.w b o e'
  have keepM : ∀ i (c : Ce) p, Γ[i]? = some c → isMut c = true → σ[i]? = some (some (.ref p)) → ((∃ ds, c = .ml ds) → k i = false) → ¬ P p := by
    rintro i c p e1 m e2 hk ⟨j, ds, kj, e3, e4⟩
    have := h.sep i j p c _ e1 e3 m rfl e2 e4
    subst this
    rw [e1] at e3
    cases e3
    rw [hk ⟨ds, rfl⟩] at kj
    cases kj
  refine ⟨G', ⟨x, fun b => ?_⟩, w, by show σ.length = (lockG k 0 Γ).length; rw [lockG_len]; exact h.len, fun i c e => ?_, fun i j p ci cj e1 e2 m1 m2 s1 s2 => ?_⟩
  · show (if P b then H b else G b) = G b ∨ _
    by_cases p : P b
    · have p' := p
      obtain ⟨i, ds, _, e1, e2⟩ := p'
      obtain ⟨g, us, eh⟩ := gP b p
      refine .inr ⟨g, ⟨us, eh, ?_⟩, i, ds, e1, e2⟩
      show (if P b then H b else G b) = _
      rw [if_pos p]; exact eh
    · exact .inl (if_neg p)
  · obtain ⟨c0, e0, rfl⟩ := lockG_at e
    rw [Nat.zero_add] at e ⊢
    have hc := h.c i c0 e0
    cases c0 with
    | un => by_cases hk : k i = true <;> simp only [hk, lkC, if_true, if_false] <;> trivial
    | d z =>
      have : (if k i = true then lkC (.d z) else Ce.d z) = .d z := by split <;> rfl
      rw [this]
      obtain ⟨v, e1, q⟩ := hc
      exact ⟨v, e1, q.mono x⟩
    | ml ds =>
      obtain ⟨p, e1, m⟩ := hc
      obtain ⟨us, e2, q⟩ := m.at_
      by_cases hk : k i = true
      · rw [if_pos hk]
        refine ⟨.ref p, e1, .lst ?_ (q.mono x)⟩
        show (if P p then H p else G p) = _
        rw [if_pos ⟨i, ds, hk, e0, e1⟩]; exact e2
      · rw [if_neg hk]
        have np := keepM i _ p e0 rfl e1 (fun _ => by simpa using hk)
        exact ⟨p, e1, by show (if P p then H p else G p) = none; rw [if_neg np]; exact m.g, us, e2, q.mono x⟩
    | fx v =>
      have : (if k i = true then lkC (.fx v) else Ce.fx v) = .fx v := by split <;> rfl
      rw [this]
      exact hc
    | md es =>
      have : (if k i = true then lkC (.md es) else Ce.md es) = .md es := by split <;> rfl
      rw [this]
      obtain ⟨p, e1, m⟩ := hc
      obtain ⟨us, e2, q⟩ := m.at_
      have np := keepM i _ p e0 rfl e1 (fun ⟨_, z⟩ => nomatch z)
      exact ⟨p, e1, by show (if P p then H p else G p) = none; rw [if_neg np]; exact m.g, us, e2, q.mono x⟩
  · obtain ⟨c1, f1, rfl⟩ := lockG_at e1
    obtain ⟨c2, f2, rfl⟩ := lockG_at e2
    have mm : ∀ {c : Ce} {b : Prop} [Decidable b], isMut (if b then lkC c else c) = true → isMut c = true := by
      intro c b _ hm
      split at hm
      · cases c <;> first | rfl | cases hm
      · exact hm
    exact h.sep i j p c1 c2 f1 f2 (mm m1) (mm m2) s1 s2
noncomputable def unlk (G G' G2 : Hp) : Hp := fun b => by
  classical exact if G' b = G b then G2 b else none
theorem Lkd.back (l : Lkd G H G' Γ σ) (s : Stp G' H G2 H2) : Stp G H (unlk G G' G2) H2 ∧ (∀ b o, G2 b = some o → (∀ us, o ≠ .lst us) → unlk G G' G2 b = some o) ∧ (∀ b, H b = none → unlk G G' G2 b = G2 b) := by
  classical
  have un : ∀ b, unlk G G' G2 b = if G' b = G b then G2 b else none := fun b => by unfold unlk; split <;> rename_i h <;> simp [h]
  refine ⟨⟨fun b o e => ?_, s.h, fun b o e => ?_, fun b h1 h2 h3 => ?_⟩, fun b o e ne => ?_, fun b e => ?_⟩
  · rcases l.b b with q | ⟨q, _⟩
    · rw [un, if_pos q]; exact s.g _ _ (l.x _ _ e)
    · rw [q] at e; cases e
  · rw [un] at e
    by_cases q : G' b = G b
    · rw [if_pos q] at e; exact s.w _ _ e
    · rw [if_neg q] at e; cases e
  · rw [un]
    by_cases q : G' b = G b
    · rw [if_pos q]; exact s.n b (q.trans h1) h2 h3
    · rw [if_neg q]
  · rw [un]
    by_cases q : G' b = G b
    · rw [if_pos q]; exact e
    · rcases l.b b with q2 | ⟨_, ⟨us, _, q2⟩, _⟩
      · exact (q q2).elim
      · rw [s.g _ _ q2] at e; cases e; exact (ne us rfl).elim
  · rw [un]
    by_cases q : G' b = G b
    · rw [if_pos q]
    · rcases l.b b with q2 | ⟨_, ⟨us, q2, _⟩, _⟩
      · exact (q q2).elim
      · rw [e] at q2; cases q2
variable {E : XK} {ad : Str → Addr} {te : TE} {tt : TT} {fe ft : En → Re}
def fLk (fe : En → Re) (Γ : En) : Re := match fe (lockL (fun _ => true) Γ) with
  | some (.val d) => if noL d = true then some (.val d) else none
  | r => r
def fLkB (fe : En → Re) (Γ : En) : Re := fe (lockL (fun _ => true) Γ)
def fLkM (fe : En → Re) (Γ : En) : Re := match fe (lockL (fun _ => true) Γ) with
  | some (.val (.list ds)) => if noLs ds = true then some (.val (.list ds)) else none
  | some (.exc x) => some (.exc x)
  | _ => none
theorem u_lk (h : Se E ad te fe) : Se E ad te (fLk fe) := fun σ Γ G H R r e Q q => by
  obtain ⟨G', l, R'⟩ := R.lock (fun _ => true)
  unfold fLk at e
  split at e
  · rename_i d e1
    by_cases hd : noL d = true
    · rw [if_pos hd] at e
      cases e
      refine h σ _ G' H R' _ e1 _ fun v G2 H2 s2 q2 => ?_
      obtain ⟨s3, c3, _⟩ := l.back s2
      exact q v _ H2 s3 (q2.cut c3 hd)
    · rw [if_neg hd] at e; cases e
  · rename_i e1
    cases hr : r with
    | val d => rw [hr] at e; exact (e1 d e).elim
    | exc x =>
      rw [hr] at e q
      exact h σ _ G' H R' _ e _ fun G2 H2 s2 => q _ H2 (l.back s2).1
theorem u_lkB (h : Sb E ad tt ft) : Sb E ad tt (fLkB ft) := fun σ Γ G H R r e Q q => by
  obtain ⟨G', l, R'⟩ := R.lock (fun _ => true)
  refine h σ _ G' H R' r e Q ?_
  cases r with
  | val d =>
    cases d with
    | bool b => exact fun G2 H2 s2 => q _ H2 (l.back s2).1
    | _ => exact q
  | exc x => exact fun G2 H2 s2 => q _ H2 (l.back s2).1
theorem m_lk (h : Sm E ad te fe) : Sm E ad te (fLkM fe) := fun σ Γ G H R r e Q q => by
  obtain ⟨G', l, R'⟩ := R.lock (fun _ => true)
  unfold fLkM at e
  split at e
  · rename_i ds e1
    by_cases hd : noLs ds = true
    · rw [if_pos hd] at e
      cases e
      refine h σ _ G' H R' _ e1 _ fun p G2 H2 s2 hp m => ?_
      obtain ⟨s3, c3, n3⟩ := l.back s2
      obtain ⟨us, e4, q4⟩ := m.at_
      exact q p _ H2 s3 hp ⟨by rw [n3 p hp]; exact m.g, us, e4, q4.cut c3 hd⟩
    · rw [if_neg hd] at e; cases e
  · rename_i x e1
    cases e
    exact h σ _ G' H R' _ e1 _ fun G2 H2 s2 => q _ H2 (l.back s2).1
  · cases e
inductive Fl where
  | nx (Γ : En)
  | rt (d : D)
  | ex (x : Str)
  | bk (Γ : En)
  | ct (Γ : En)
abbrev Rf := Option Fl
structure RelS (G0 H0 G H : Hp) (σ : L2.St) (Γ : En) : Prop where
  r : Rel G H σ Γ
  s : Stp G0 H0 G H
  n : ∀ (i : Nat) (c : Ce) (p : Addr), Γ[i]? = some c → isMut c = true → σ[i]? = some (some (.ref p)) → H0 p = none
variable {G0 H0 : Hp}
theorem RelS.stp (h : RelS G0 H0 G H σ Γ) (s : Stp G H G' H') : RelS G0 H0 G' H' σ Γ := ⟨h.r.stp s, h.s.trans s, h.n⟩
variable (E ad)
def PoS (G0 H0 G : Hp) (D' : Ends) : Fl → Prop
  | .nx Γ => ∀ σ G2 H2, RelS G0 H0 G2 H2 σ Γ → Ex G G2 → D'.nx σ H2
  | .rt d => ∀ v G2 H2, Stp G0 H0 G2 H2 → Dq G2 v d → D'.rt v H2
  | .ex x => ∀ G2 H2, Stp G0 H0 G2 H2 → XE E ad x H2
  | .bk Γ => ∀ σ G2 H2, RelS G0 H0 G2 H2 σ Γ → Ex G G2 → D'.bk σ H2
  | .ct Γ => ∀ σ G2 H2, RelS G0 H0 G2 H2 σ Γ → Ex G G2 → D'.ct σ H2
def Ss (ts : TS) (fs : En → Rf) : Prop := ∀ G0 H0 σ Γ G H, RelS G0 H0 G H σ Γ → ∀ r, fs Γ = some r → ∀ D', PoS E ad G0 H0 G D' r → ts D' σ H
variable {E ad}
theorem PoS.mono {D' : Ends} {r : Fl} (h : PoS E ad G0 H0 G D' r) (x : Ex G G') : PoS E ad G0 H0 G' D' r := by
  cases r with
  | nx Γ => exact fun σ G2 H2 R e => h σ G2 H2 R (x.trans e)
  | rt d => exact h
  | ex x => exact h
  | bk Γ => exact fun σ G2 H2 R e => h σ G2 H2 R (x.trans e)
  | ct Γ => exact fun σ G2 H2 R e => h σ G2 H2 R (x.trans e)
variable {ts tu : TS} {fs fu : En → Rf} {g : TG} {st : Fs} {js : List Nat} {ta tb : TE} {fa fb : En → Re}
def fSeq (fs fu : En → Rf) (Γ : En) : Rf := match fs Γ with
  | some (.nx Γ1) => fu Γ1
  | r => r
def fNext (Γ : En) : Rf := some (.nx Γ)
def fAsg (fe : En → Re) (st : Fs) (Γ : En) : Rf := match fe Γ with
  | some (.val d) => match st d Γ with
    | some Γ1 => some (.nx Γ1)
    | none => none
  | some (.exc x) => some (.ex x)
  | none => none
def fAsgM (fe : En → Re) (i : Nat) (Γ : En) : Rf := match fe Γ with
  | some (.val (.list ds)) => some (.nx (Γ.set i (.ml ds)))
  | some (.exc x) => some (.ex x)
  | _ => none
def fRet (fe : En → Re) (Γ : En) : Rf := match fe (lockL (fun _ => true) Γ) with
  | some (.val d) => some (.rt d)
  | some (.exc x) => some (.ex x)
  | none => none
def fRetN (_ : En) : Rf := some (.rt .none)
def fDrop (fe : En → Re) (Γ : En) : Rf := match fe (lockL (fun _ => true) Γ) with
  | some (.val _) => some (.nx Γ)
  | some (.exc x) => some (.ex x)
  | none => none
def fIfS (ft : En → Re) (fs fu : En → Rf) (Γ : En) : Rf := match ft Γ with
  | some (.val (.bool b)) => if b = true then fs Γ else fu Γ
  | some (.exc x) => some (.ex x)
  | _ => none
def fRaise (x : Str) (_ : En) : Rf := some (.ex x)
def fFrz (k : Nat → Bool) (fs : En → Rf) (Γ : En) : Rf := fs (lockL k Γ)
theorem u_next : Ss E ad tNext fNext := fun G0 H0 σ Γ G H R r e D' q => by
  cases e
  exact q σ G H R (.refl G)
theorem u_seq (hs : Ss E ad ts fs) (hu : Ss E ad tu fu) : Ss E ad (tSeq ts tu) (fSeq fs fu) := fun G0 H0 σ Γ G H R r e D' q => by
  unfold fSeq at e
  split at e
  · rename_i Γ1 e1
    exact hs G0 H0 σ Γ G H R _ e1 { D' with nx := tu D' } fun σ2 G2 H2 R2 x => hu G0 H0 σ2 Γ1 G2 H2 R2 _ e _ (q.mono x)
  · rename_i ne
    refine hs G0 H0 σ Γ G H R _ e { D' with nx := tu D' } ?_
    cases r with
    | nx Γ1 => exact (ne Γ1 e).elim
    | _ => exact q
theorem u_asg (he : Se E ad te fe) (hg : Sg g st js) : Ss E ad (tAsg te g) (fAsg fe st) := fun G0 H0 σ Γ G H R r e D' q => by
  unfold fAsg at e
  split at e
  · rename_i d e1
    split at e
    · rename_i Γ1 e2
      cases e
      refine he σ Γ G H R.r _ e1 _ fun v G2 H2 s2 q2 => ?_
      have R2 := R.stp s2
      refine hg σ Γ G2 H2 R2.r v d Γ1 q2 e2 _ fun σ3 R3 l3 o3 m3 _ => q σ3 G2 H2 ⟨R3 G2 H2 (.refl _) R2.r, R2.s, fun i c p ec mc ep => ?_⟩ s2.g
      obtain ⟨h1, h2⟩ := m3 i c ec mc
      exact R2.n i c p h1 mc (h2 ▸ ep)
    · cases e
  · rename_i x e1
    cases e
    exact he σ Γ G H R.r _ e1 _ fun G2 H2 s2 => q G2 H2 (R.s.trans s2)
  · cases e
theorem RelS.setM {p : Addr} {ds : List D} {j : Nat} (R : RelS G0 H0 G H σ Γ) (s : Stp G H G' H') (hp : H p = none) (m : ML G' H' p ds) : RelS G0 H0 G' H' (σ.set j (some (.ref p))) (Γ.set j (.ml ds)) := by
  have R2 := R.stp s
  have apart : ∀ {i : Nat} {c : Ce}, Γ[i]? = some c → isMut c = true → σ[i]? ≠ some (some (.ref p)) := fun {i c} e mc z => by
    have := R.r.c i c e
    cases c with
    | ml d =>
      obtain ⟨p2, e2, m2⟩ := this
      rw [z] at e2; cases e2
      obtain ⟨us, e3, _⟩ := m2.at_
      rw [hp] at e3; cases e3
    | md d =>
      obtain ⟨p2, e2, m2⟩ := this
      rw [z] at e2; cases e2
      obtain ⟨us, e3, _⟩ := m2.at_
      rw [hp] at e3; cases e3
    | _ => cases mc
  refine ⟨⟨R2.r.w, by rw [List.length_set, List.length_set]; exact R2.r.len, fun i c e => ?_, fun i k q ci ck e1 e2 m1 m2 s1 s2 => ?_⟩, R2.s, fun i c q e mc eq => ?_⟩
  · rcases set_at e with ⟨rfl, hl, rfl⟩ | ⟨ne, e⟩
    · exact ⟨p, List.getElem?_set_self (by rw [R2.r.len]; exact hl), m⟩
    · rw [List.getElem?_set_ne (fun z => ne z.symm)]
      exact R2.r.c i c e
  · rcases set_at e1 with ⟨rfl, hl, rfl⟩ | ⟨ne, f1⟩
    · rcases set_at e2 with ⟨rfl, _, rfl⟩ | ⟨ne2, f2⟩
      · rfl
      · rw [List.getElem?_set_self (by rw [R2.r.len]; exact hl)] at s1
        cases s1
        rw [List.getElem?_set_ne (fun z => ne2 z.symm)] at s2
        exact (apart f2 m2 s2).elim
    · rw [List.getElem?_set_ne (fun z => ne z.symm)] at s1
      rcases set_at e2 with ⟨rfl, hl, rfl⟩ | ⟨ne2, f2⟩
      · rw [List.getElem?_set_self (by rw [R2.r.len]; exact hl)] at s2
        cases s2
        exact (apart f1 m1 s1).elim
      · rw [List.getElem?_set_ne (fun z => ne2 z.symm)] at s2
        exact R2.r.sep i k q ci ck f1 f2 m1 m2 s1 s2
  · rcases set_at e with ⟨rfl, hl, rfl⟩ | ⟨ne, e⟩
    · rw [List.getElem?_set_self (by rw [R2.r.len]; exact hl)] at eq
      cases eq
      exact h_old R.s hp
    · rw [List.getElem?_set_ne (fun z => ne z.symm)] at eq
      exact R2.n i c q e mc eq
theorem u_asgM {i : Nat} (he : Sm E ad te fe) : Ss E ad (tAsg te (gName i)) (fAsgM fe i) := fun G0 H0 σ Γ G H R r e D' q => by
  unfold fAsgM at e
  split at e
  · rename_i ds e1
    cases e
    exact he σ Γ G H R.r _ e1 (fun v H2 => D'.nx (σ.set i (some v)) H2) fun p G2 H2 s2 hp m => q _ G2 H2 (R.setM s2 hp m) s2.g
  · rename_i x e1
    cases e
    exact he σ Γ G H R.r _ e1 _ fun G2 H2 s2 => q G2 H2 (R.s.trans s2)
  · cases e
theorem RelS.lock (R : RelS G0 H0 G H σ Γ) (k : Nat → Bool) : ∃ G', Ex G G' ∧ RelS G0 H0 G' H σ (lockL k Γ) := by
  obtain ⟨G', l, R'⟩ := R.r.lock k
  refine ⟨G', l.x, R', ⟨R.s.g.trans l.x, R.s.h, R'.w, fun b h1 h2 h3 => ?_⟩, fun i c p e m ep => ?_⟩
  · rcases l.b b with q | ⟨_, _, i, ds, e1, e2⟩
    · rw [q]; exact R.s.n b h1 h2 h3
    · exact (h2 (R.n i _ b e1 rfl e2)).elim
  · obtain ⟨c0, e0, rfl⟩ := lockG_at e
    have mm : isMut c0 = true := by
      split at m
      · cases c0 <;> first | rfl | cases m
      · exact m
    exact R.n i c0 p e0 mm ep
theorem u_ret (he : Se E ad te fe) : Ss E ad (tRet te) (fRet fe) := fun G0 H0 σ Γ G H R r e D' q => by
  obtain ⟨G', x, R'⟩ := R.lock (fun _ => true)
  unfold fRet at e
  split at e
  · rename_i d e1
    cases e
    exact he σ _ G' H R'.r _ e1 _ fun v G2 H2 s2 q2 => q v G2 H2 (R'.s.trans s2) q2
  · rename_i x e1
    cases e
    exact he σ _ G' H R'.r _ e1 _ fun G2 H2 s2 => q G2 H2 (R'.s.trans s2)
  · cases e
theorem u_drop (he : Se E ad te fe) : Ss E ad (tDrop te) (fDrop fe) := fun G0 H0 σ Γ G H R r e D' q => by
  obtain ⟨G', l, R'⟩ := R.r.lock (fun _ => true)
  unfold fDrop at e
  split at e
  · rename_i d e1
    cases e
    refine he σ _ G' H R' _ e1 _ fun v G2 H2 s2 q2 => ?_
    have s3 := (l.back s2).1
    exact q σ _ H2 (R.stp s3) s3.g
  · rename_i x e1
    cases e
    exact he σ _ G' H R' _ e1 _ fun G2 H2 s2 => q _ H2 (R.s.trans (l.back s2).1)
  · cases e
theorem u_ifS (ht : Sb E ad tt ft) (hs : Ss E ad ts fs) (hu : Ss E ad tu fu) : Ss E ad (tIfS tt ts tu) (fIfS ft fs fu) := fun G0 H0 σ Γ G H R r e D' q => by
  unfold fIfS at e
  split at e
  · rename_i b e1
    refine ht σ Γ G H R.r _ e1 _ fun G2 H2 s2 => ?_
    cases b with
    | true =>
      rw [if_pos rfl] at e ⊢
      exact hs G0 H0 σ Γ G2 H2 (R.stp s2) _ e _ (q.mono s2.g)
    | false =>
      rw [if_neg (by decide)] at e ⊢
      exact hu G0 H0 σ Γ G2 H2 (R.stp s2) _ e _ (q.mono s2.g)
  · rename_i x e1
    cases e
    exact ht σ Γ G H R.r _ e1 _ fun G2 H2 s2 => q G2 H2 (R.s.trans s2)
  · cases e
theorem u_raise {x : Str} (hx : tmOf x = none := by decide) : Ss E ad (fun _ _ H => E (.ref (ad x)) none H) (fRaise x) := fun G0 H0 σ Γ G H R r e D' q => by
  cases e
  exact (q G H R.s).plain hx
theorem u_frz (k : Nat → Bool) (h : Ss E ad ts fs) : Ss E ad ts (fFrz k fs) := fun G0 H0 σ Γ G H R r e D' q => by
  obtain ⟨G', x, R'⟩ := R.lock k
  exact h G0 H0 σ _ G' H R' r e D' (q.mono x)
theorem RelS.setD {v : V} {d : D} {j : Nat} (R : RelS G0 H0 G H σ Γ) (q : Dq G v d) : RelS G0 H0 G H (σ.set j (some v)) (Γ.set j (.d d)) := ⟨R.r.set q, R.s, fun i c p e mc ep => by
  rcases set_at e with ⟨rfl, hl, rfl⟩ | ⟨ne, e⟩
  · cases mc
  · rw [List.getElem?_set_ne (fun z => ne z.symm)] at ep
    exact R.n i c p e mc ep⟩
def forGo (st : Fs) (body : En → Rf) : List D → En → Rf
  | [], Γ => some (.nx Γ)
  | a :: as, Γ => match st a Γ with
    | none => none
    | some Γ1 => match body Γ1 with
      | some (.nx Γ2) => forGo st body as Γ2
      | some (.ct Γ2) => forGo st body as Γ2
      | some (.bk Γ2) => some (.nx Γ2)
      | r => r
def fFor (src : En → Ra) (st : Fs) (body : En → Rf) (Γ : En) : Rf := match src Γ with
  | some (.vals as) => forGo st body as Γ
  | some (.exc x) => some (.ex x)
  | none => none
theorem u_for {wi : TI} {src : En → Ra} (hs : Si E ad wi src) (hg : Sg g st js) (hb : Ss E ad ts fs) : Ss E ad (tFor wi g ts) (fFor src st fs) := fun G0 H0 σ Γ G H R r e D' q => by
  unfold fFor at e
  split at e
  · rename_i as e1
    refine hs σ Γ G H R.r _ e1 _ fun J G1 H1 s1 wl0 => ?_
    have wl := wl0.mono noT_ex
    refine ⟨fun i m σ' H' => m = as.length - i ∧ i ≤ as.length ∧ ∃ Γi Gi, RelS G0 H0 Gi H' σ' Γi ∧ Ex G1 Gi ∧ forGo st fs (as.drop i) Γi = some r, ⟨as.length, rfl, Nat.zero_le _, Γ, G1, R.stp s1, .refl _, e⟩, ?_⟩
    rintro i m σ' H' ⟨rfl, hi, Γi, Gi, Ri, xi, ei⟩
    have qi := q.mono (s1.g.trans xi)
    cases hd : as.drop i with
    | nil =>
      have el : i = as.length := by
        have := congrArg List.length hd
        rw [List.length_drop, List.length_nil] at this
        omega
      rw [hd] at ei
      cases ei
      exact .inl ⟨(wl i H' (xi.trans Ri.r.w)).2 el, qi σ' Gi H' Ri (.refl _)⟩
    | cons a as2 =>
      obtain ⟨ha, hd2⟩ := drop_at hd
      have hlt : i < as.length := (List.getElem?_eq_some_iff.mp ha).1
      obtain ⟨hgo, hy⟩ := (wl i H' (xi.trans Ri.r.w)).1 a ha
      refine .inr ⟨hgo, fun σ2 H2 => ∃ Γ2 G2, RelS G0 H0 G2 H2 σ2 Γ2 ∧ Ex G1 G2 ∧ forGo st fs (as.drop (i + 1)) Γ2 = some r, fun σ2 H2 hN => ⟨as.length - (i + 1), by omega, rfl, hlt, hN⟩, ?_⟩
      intro v H2 hyl
      obtain ⟨G2, s2, qv⟩ := hy v H2 hyl Gi xi Ri.r.w
      have R2 := Ri.stp s2
      have q2 := qi.mono s2.g
      rw [hd] at ei
      unfold forGo at ei
      cases hst : st a Γi with
      | none => rw [hst] at ei; cases ei
      | some Γ1 =>
        rw [hst] at ei
        dsimp only at ei
        refine hg σ' Γi G2 H2 R2.r v a Γ1 qv hst _ fun σ3 R3 l3 o3 m3 _ => ?_
        have RS3 : RelS G0 H0 G2 H2 σ3 Γ1 := ⟨R3 G2 H2 (.refl _) R2.r, R2.s, fun i c p ec mc ep => by
          obtain ⟨h1, h2⟩ := m3 i c ec mc
          exact R2.n i c p h1 mc (h2 ▸ ep)⟩
        split at ei
        · rename_i Γ2 eb
          exact hb G0 H0 σ3 Γ1 G2 H2 RS3 _ eb _ fun σ4 G4 H4 R4 x4 => ⟨Γ2, G4, R4, (xi.trans s2.g).trans x4, by rw [hd2]; exact ei⟩
        · rename_i Γ2 eb
          exact hb G0 H0 σ3 Γ1 G2 H2 RS3 _ eb _ fun σ4 G4 H4 R4 x4 => ⟨Γ2, G4, R4, (xi.trans s2.g).trans x4, by rw [hd2]; exact ei⟩
        · rename_i Γ2 eb
          cases ei
          exact hb G0 H0 σ3 Γ1 G2 H2 RS3 _ eb _ q2
        · rename_i n1 n2 n3
          refine hb G0 H0 σ3 Γ1 G2 H2 RS3 _ ei _ ?_
          cases r with
          | nx Γ2 => exact (n1 Γ2 ei).elim
          | ct Γ2 => exact (n2 Γ2 ei).elim
          | bk Γ2 => exact (n3 Γ2 ei).elim
          | _ => exact q2
  · rename_i x e1
    cases e
    exact hs σ Γ G H R.r _ e1 _ fun G2 H2 s2 => q G2 H2 (R.s.trans s2)
  · cases e
def fApp (i : Nat) (fe : En → Re) (Γ : En) : Rf := match Γ[i]? with
  | some (.ml ds) => match fe Γ with
    | some (.val d) => if small ds.length = true then some (.nx (Γ.set i (.ml (ds ++ [d])))) else none
    | some (.exc x) => some (.ex x)
    | none => none
  | _ => none
theorem RelS.mut {p : Addr} {ds ds2 : List D} {o : HO} {i : Nat} (R : RelS G0 H0 G H σ Γ) (e : Γ[i]? = some (.ml ds)) (ep : σ[i]? = some (some (.ref p))) (m : ML G (upd H p o) p ds2) : RelS G0 H0 G (upd H p o) σ (Γ.set i (.ml ds2)) := by
  have h0 := R.n i _ p e rfl ep
  have others : ∀ {k : Nat} {c : Ce} {q : Addr}, k ≠ i → Γ[k]? = some c → isMut c = true → σ[k]? = some (some (.ref q)) → q ≠ p := fun {k c q} ne ek mk eq z => ne (R.r.sep k i p c _ ek e mk rfl (z ▸ eq) ep)
  have s2 : Stp G0 H0 G (upd H p o) := R.s.mutd h0 m.g
  refine ⟨⟨s2.w, by rw [List.length_set]; exact R.r.len, fun k c ec => ?_, fun k l q ck cl e1 e2 m1 m2 s1 s2 => ?_⟩, s2, fun k c q ec mc eq => ?_⟩
  · rcases set_at ec with ⟨rfl, hl, rfl⟩ | ⟨ne, ec⟩
    · exact ⟨p, ep, m⟩
    · have hc := R.r.c k c ec
      cases c with
      | un => trivial
      | fx v => exact hc
      | d z => exact hc
      | ml es =>
        obtain ⟨q, eq, mq⟩ := hc
        exact ⟨q, eq, mq.other (others ne ec rfl eq)⟩
      | md es =>
        obtain ⟨q, eq, mq⟩ := hc
        exact ⟨q, eq, mq.other (others ne ec rfl eq)⟩
  · have inj : ∀ {k : Nat} {c : Ce}, (Γ.set i (.ml ds2))[k]? = some c → isMut c = true → ∃ c0, Γ[k]? = some c0 ∧ isMut c0 = true := fun {k c} ek mk => by
      rcases set_at ek with ⟨rfl, hl, rfl⟩ | ⟨ne, ek⟩
      · exact ⟨_, e, rfl⟩
      · exact ⟨c, ek, mk⟩
    obtain ⟨c1, f1, n1⟩ := inj e1 m1
    obtain ⟨c2, f2, n2⟩ := inj e2 m2
    exact R.r.sep k l q c1 c2 f1 f2 n1 n2 s1 s2
  · rcases set_at ec with ⟨rfl, hl, rfl⟩ | ⟨ne, ec⟩
    · exact R.n k _ q e rfl eq
    · exact R.n k c q ec mc eq
theorem u_app {K : PySem.W.Frag} {i : Nat} (he : Se E ad te fe) : Ss E ad (tDrop (tBM K "list" rAppend (tVar i) (tCons te tNil))) (fApp i fe) := fun G0 H0 σ Γ G H R r e D' q => by
  unfold fApp at e
  split at e
  · rename_i ds e1
    obtain ⟨p, ep, m⟩ := R.r.c i _ e1
    obtain ⟨us, eu, qu⟩ := m.at_
    split at e
    · rename_i d e2
      by_cases hs : small ds.length = true
      · rw [if_pos hs] at e
        cases e
        have sml := small_le hs
        refine ⟨.ref p, ep, .inl ⟨rfl, us, SqL.of eu⟩, he σ Γ G H R.r _ e2 _ fun v G2 H2 s2 q2 => ?_⟩
        have m2 := m.stp s2
        obtain ⟨us2, e3, q3⟩ := m2.at_
        refine ⟨p, us2, v, rfl, rfl, e3, by rw [q3.len, sizeLine_eq]; omega, ?_⟩
        exact q σ G2 _ ((R.stp s2).mut e1 ep ⟨m2.g, _, upd_same, q3.snoc q2⟩) s2.g
      · rw [if_neg hs] at e; cases e
    · rename_i x e2
      cases e
      exact ⟨.ref p, ep, .inl ⟨rfl, us, SqL.of eu⟩, he σ Γ G H R.r _ e2 _ fun G2 H2 s2 => q G2 H2 (R.s.trans s2)⟩
    · cases e
  · cases e
def bodyD (fs : En → Rf) (n : Nat) (ds : List D) : Re := match fs ((ds.map Ce.d) ++ List.replicate n .un) with
  | some (.nx _) => some (.val .none)
  | some (.rt d) => some (.val d)
  | some (.ex x) => some (.exc x)
  | _ => none
theorem rel_start {vs : List V} {ds : List D} (w : Ex G H) (h : DqA G vs ds) {n : Nat} : RelS G H G H ((vs.map some) ++ List.replicate n none) ((ds.map Ce.d) ++ List.replicate n .un) := by
  have nm : ∀ {i : Nat} {c : Ce}, ((ds.map Ce.d) ++ List.replicate n .un)[i]? = some c → isMut c = false ∧ CellOk G H (((vs.map some) ++ List.replicate n none)[i]?) c := fun {i c} e => by
    by_cases hi : i < ds.length
    · rw [List.getElem?_append_left (by rw [List.length_map]; exact hi), List.getElem?_map] at e
      obtain ⟨d, hd, rfl⟩ := Option.map_eq_some_iff.mp e
      obtain ⟨v, hv, q⟩ := h.getD hd
      refine ⟨rfl, v, ?_, q⟩
      rw [List.getElem?_append_left (by rw [List.length_map, h.len]; exact hi), List.getElem?_map, hv]; rfl
    · rw [List.getElem?_append_right (by rw [List.length_map]; omega), List.getElem?_replicate] at e
      split at e
      · cases e; exact ⟨rfl, trivial⟩
      · cases e
  refine ⟨⟨w, by simp [h.len], fun i c e => (nm e).2, fun i j p ci cj e1 _ m1 _ _ _ => ?_⟩, .refl w, fun i c p e m _ => ?_⟩
  · rw [(nm e1).1] at m1; cases m1
  · rw [(nm e).1] at m; cases m
theorem body_ok {vs : List V} {ds : List D} {r : Ou} {n : Nat} {Q : VK} (hs : Ss E ad ts fs) (w : Ex G H) (h : DqA G vs ds) (e : bodyD fs n ds = some r) (q : PoE E ad G H Q r) :
    ts { nx := fun _ H' => Q .non H', rt := Q } ((vs.map some) ++ List.replicate n none) H := by
  unfold bodyD at e
  split at e
  · rename_i Γ e1
    cases e
    exact hs G H _ _ G H (rel_start w h) _ e1 _ fun σ2 G2 H2 R x => q .non G2 H2 R.s .non
  · rename_i d e1
    cases e
    exact hs G H _ _ G H (rel_start w h) _ e1 _ q
  · rename_i x e1
    cases e
    exact hs G H _ _ G H (rel_start w h) _ e1 _ q
  · cases e
end
end Mv
namespace Mv
open PySem L2 Evl
def dI (ns : List Int) : D := .tuple (ns.map .int)
def dL (pl : List (List Int)) : D := .list (pl.map dI)
def prod (ns : List Int) : Int := ns.foldl (· * ·) 1
def grow (found : List (List Int)) (size : Int) : List (List Int) := found.flatMap fun b => (List.range size.toNat).map fun (i : Nat) => b ++ [(i : Int)]
def placesOf (n : List Int) : List (List Int) := n.foldl grow [[]]
def zeros (n : List Int) : List Int := List.replicate n.length 0
def addP : List Int → List Int → List Int → List Int
  | s :: n, x :: a, y :: b => ((x + y) % s) :: addP n a b
  | _, _, _ => []
def addUp (n : List Int) (several : List (List Int)) : List Int := several.foldl (fun a b => addP n a b) (zeros n)
structure OkD (n : List Int) : Prop where
  lo : 1 ≤ n.length
  hi : n.length ≤ 4
  sz : ∀ s ∈ n, 2 ≤ s ∧ s ≤ 24
  pr : prod n ≤ 24
theorem addP_len : ∀ {n a b : List Int}, a.length = n.length → b.length = n.length → (addP n a b).length = n.length
  | [], [], [], _, _ => rfl
  | s :: n, x :: a, y :: b, h1, h2 => by
    show (addP n a b).length + 1 = n.length + 1
    rw [addP_len (by simpa using h1) (by simpa using h2)]
  | s :: n, [], _, h, _ => by simp at h
  | s :: n, x :: a, [], _, h => by simp at h
  | [], x :: a, _, h, _ => by simp at h
  | [], [], y :: b, _, h => by simp at h
theorem zeros_len (n : List Int) : (zeros n).length = n.length := by unfold zeros; rw [List.length_replicate]
theorem addUp_len {n : List Int} : ∀ {l : List (List Int)}, (∀ p ∈ l, p.length = n.length) → (addUp n l).length = n.length := by
  have : ∀ (l : List (List Int)) (a : List Int), a.length = n.length → (∀ p ∈ l, p.length = n.length) → (l.foldl (fun a b => addP n a b) a).length = n.length := by
    intro l
    induction l with
    | nil => intro a h _; exact h
    | cons p l ih => intro a h hp; exact ih _ (addP_len h (hp p (List.mem_cons_self ..))) fun q hq => hp q (List.mem_cons_of_mem _ hq)
  intro l h
  exact this l _ (zeros_len n) h
theorem grow_len (found : List (List Int)) (size : Int) : (grow found size).length = found.length * size.toNat := by
  unfold grow
  induction found with
  | nil => simp
  | cons b l ih => rw [List.flatMap_cons, List.length_append, ih, List.length_map, List.length_range, List.length_cons, Nat.succ_mul, Nat.add_comm]
theorem places_len_take {n : List Int} (h : ∀ s ∈ n, 2 ≤ s) : ∀ i : Nat, ((placesOf (n.take i)).length : Int) = prod (n.take i) := by
  have key : ∀ (l : List Int), (∀ s ∈ l, 2 ≤ s) → ∀ (f : List (List Int)) (k : Int), (f.length : Int) = k → ((l.foldl grow f).length : Int) = l.foldl (· * ·) k := by
    intro l
    induction l with
    | nil => intro _ f k e; exact e
    | cons s l ih =>
      intro hs f k e
      refine ih (fun q hq => hs q (List.mem_cons_of_mem _ hq)) _ _ ?_
      rw [grow_len, Int.natCast_mul, e, Int.toNat_of_nonneg (by have := hs s (List.mem_cons_self ..); omega)]
  intro i
  exact key (n.take i) (fun s hs => h s (List.mem_of_mem_take hs)) [[]] 1 rfl
theorem prod_mono : ∀ {l : List Int}, (∀ s ∈ l, 2 ≤ s) → ∀ k : Int, 0 ≤ k → k ≤ l.foldl (· * ·) k
  | [], _, k, _ => Int.le_refl k
  | s :: l, h, k, hk => by
    have h2 := h s (List.mem_cons_self ..)
    have e : k ≤ k * s := by
      have := Int.mul_le_mul_of_nonneg_left (show (1 : Int) ≤ s by omega) hk
      omega
    exact Int.le_trans e (prod_mono (fun q hq => h q (List.mem_cons_of_mem _ hq)) _ (Int.le_trans hk e))
theorem prod_take {n : List Int} (h : ∀ s ∈ n, 2 ≤ s) (i : Nat) : prod (n.take i) ≤ prod n ∧ 1 ≤ prod (n.take i) := by
  have e : prod n = (n.drop i).foldl (· * ·) (prod (n.take i)) := by
    unfold prod
    rw [← List.foldl_append, List.take_append_drop]
  have p1 : 1 ≤ prod (n.take i) := prod_mono (fun s hs => h s (List.mem_of_mem_take hs)) 1 (by decide)
  refine ⟨?_, p1⟩
  rw [e]
  exact prod_mono (fun s hs => h s (List.mem_of_mem_drop hs)) _ (by omega)
theorem OkD.pl {n : List Int} (h : OkD n) (i : Nat) : (placesOf (n.take i)).length ≤ 24 := by
  have h1 := places_len_take (fun s hs => (h.sz s hs).1) i
  have h2 := (prod_take (fun s hs => (h.sz s hs).1) i).1
  have h3 := h.pr
  omega
def R_add (ds : List D) (z : D) : Prop := ∃ n a b : List Int, ds = [dI n, dI a, dI b] ∧ a.length = n.length ∧ b.length = n.length ∧ n.length ≤ 1000 ∧ (∀ s ∈ n, 0 < s) ∧ z = dI (addP n a b)
def tyD : D → String
  | .none => "NoneType"
  | .bool _ => "bool"
  | .int _ => "int"
  | .str _ => "str"
  | .list _ => "list"
  | .tuple _ => "tuple"
  | .dict _ => "dict"
theorem tyO {K : PySem.W.Frag} {H : Hp} {a : Addr} {xs : List V} (h : TupA H a xs) : TyY K H (.ref a) (.type "tuple") := by
  obtain ⟨o, _, h⟩ := h
  rcases tupO_cases o xs with q | q
  · rw [q] at h; exact .x (.base (.tup h))
  · rw [q] at h; exact .x (.fTuple h)
theorem tyX_of {K : PySem.W.Frag} {G H : Hp} (e : Ex G H) {v : V} {d : D} (h : Dq G v d) : TyY K H v (.type (tyD d)) := by
  cases h with
  | non => exact .x (.base .non)
  | bl b => exact .x (.base (.bl b))
  | int i => exact .x (.base (.int i))
  | str x => exact .x (.base (.str x))
  | lst h _ => exact .x (.base (.lst (e _ _ h)))
  | tup h _ => exact tyO (h.mono e)
  | emp h _ => exact .x (.base (.dK (e _ _ h)))
  | dct h _ _ => exact .d (e _ _ h)
theorem kit_tab : (["NoneType", "bool", "int", "str", "list", "tuple", "dict"].all fun a => ["bool", "int", "list", "tuple", "dict"].all fun b => kitB a b == some (a == b || (a == "bool" && b == "int"))) = true := by decide +kernel
theorem kit_of_D (d : D) {c : String} (hc : c ∈ ["bool", "int", "list", "tuple", "dict"]) : kitB (tyD d) c = some (tyD d == c || (tyD d == "bool" && c == "int")) := by
  have h := List.all_eq_true.mp kit_tab (tyD d) (by cases d <;> simp [tyD])
  have h2 := List.all_eq_true.mp h c hc
  exact eq_of_beq h2
def isD (d : D) (c : String) : Bool := tyD d == c || (tyD d == "bool" && c == "int")
section
variable {K : PySem.W.Frag} {σ : L2.St} {G G' H H' : Hp} {ta tb te tx : TE} {t u : TT} {d e z : D} {ds es : List D}
def isNum : D → Bool
  | .int _ => true
  | _ => false
def btw (lo hi : Int) : D → Bool
  | .int i => decide (lo ≤ i) && decide (i ≤ hi)
  | _ => false
end
theorem eqvI : ∀ (a b : List Int), PyData.eqvAll (a.map PyData.int) (b.map PyData.int) = decide (a = b)
  | [], [] => rfl
  | [], y :: b => by simp [PyData.eqvAll]
  | x :: a, [] => by simp [PyData.eqvAll]
  | x :: a, y :: b => by
    rw [List.map_cons, List.map_cons, PyData.eqvAll, PyData.eqv, eqvI a b]
    by_cases h : x = y <;> simp [h]
theorem flat_dI (a : List Int) : flatD (dI a) = true := by
  show flatDs (a.map PyData.int) = true
  induction a with
  | nil => rfl
  | cons x a ih => rw [List.map_cons, flatDs, ih]; rfl
theorem canLay_ints : ∀ a : List Int, PyData.canLayAll0 (a.map PyData.int) = true
  | [] => by simp [PyData.canLayAll0]
  | x :: a => by simp [PyData.canLayAll0, PyData.canLay0, canLay_ints a]
theorem depth_ints : ∀ a : List Int, PyData.depthAll (a.map PyData.int) ≤ 1
  | [] => by simp [PyData.depthAll]
  | x :: a => by
    have := depth_ints a
    (simp only [List.map_cons, PyData.depthAll, PyData.depth])
    omega
theorem shaped_dI (a : List Int) : SeqAt.shaped (dI a) = true := by
  unfold SeqAt.shaped dI
  rw [PyData.canLay0, canLay_ints, PyData.depth]
  have := depth_ints a
  simp
  omega
theorem eqv_dI (a b : List Int) : PyData.eqv (dI a) (dI b) = decide (a = b) := by
  unfold dI
  rw [PyData.eqv]
  exact eqvI a b
section
variable {K : PySem.W.Frag} {σ : L2.St} {G G' H H' : Hp} {ta tb te tx : TE} {t u : TT} {d e z : D} {ds es : List D} {D' : Ends} {tu tz : TS}
end
structure ExcC (K : PySem.W.Frag) (mg : Str → Option Value) (x : Str) (C : Addr) : Prop where
  ex : PySem.W.excIn K C [.type "ValueError", .type "Exception", .type "BaseException", .type "object"] "ValueError.__new__" = true
  g : mg x = some (.ref C)
  k : PySem.W.keepIn K (.ref C) = true
  b : PySem.W.subIn K (.ref C) (.type "BaseException") = some true
  t : PySem.W.typeIn K (.ref C) = some (.type "type")
def stK (l c : Addr) (left turn : Int) : List (Key × V) := [(Sum.inr ("large" : Str), .ref l), (Sum.inr ("cells" : Str), .ref c), (Sum.inr ("left" : Str), .int left), (Sum.inr ("turn" : Str), .int turn)]
theorem ne1 : ¬ ((Sum.inr ("large" : Str) : Key) = Sum.inr ("cells" : Str)) := fun h => absurd (Sum.inr.inj h) (by decide +kernel)
theorem ne2 : ¬ ((Sum.inr ("large" : Str) : Key) = Sum.inr ("left" : Str)) := fun h => absurd (Sum.inr.inj h) (by decide +kernel)
theorem ne3 : ¬ ((Sum.inr ("large" : Str) : Key) = Sum.inr ("turn" : Str)) := fun h => absurd (Sum.inr.inj h) (by decide +kernel)
theorem ne4 : ¬ ((Sum.inr ("cells" : Str) : Key) = Sum.inr ("left" : Str)) := fun h => absurd (Sum.inr.inj h) (by decide +kernel)
theorem ne5 : ¬ ((Sum.inr ("cells" : Str) : Key) = Sum.inr ("turn" : Str)) := fun h => absurd (Sum.inr.inj h) (by decide +kernel)
theorem ne6 : ¬ ((Sum.inr ("left" : Str) : Key) = Sum.inr ("turn" : Str)) := fun h => absurd (Sum.inr.inj h) (by decide +kernel)
section
variable (l c : Addr) (left turn x : Int)
theorem v_large : valV (stK l c left turn) (Sum.inr ("large" : Str)) = some (.ref l) := valV_pos rfl
theorem v_cells : valV (stK l c left turn) (Sum.inr ("cells" : Str)) = some (.ref c) := by unfold stK; rw [valV_neg ne1, valV_pos rfl]
theorem v_left : valV (stK l c left turn) (Sum.inr ("left" : Str)) = some (.int left) := by unfold stK; rw [valV_neg ne2, valV_neg ne4, valV_pos rfl]
theorem v_turn : valV (stK l c left turn) (Sum.inr ("turn" : Str)) = some (.int turn) := by unfold stK; rw [valV_neg ne3, valV_neg ne5, valV_neg ne6, valV_pos rfl]
theorem p_left : putK (stK l c left turn) (Sum.inr ("left" : Str)) (.int x) = stK l c x turn := by
  have e : ((stK l c left turn).any fun kv => decide (kv.1 = Sum.inr ("left" : Str))) = true := by rw [valV_any, v_left]; rfl
  unfold putK
  rw [if_pos e]
  unfold stK
  simp only [List.map_cons, List.map_nil]
  rw [if_neg ne2, if_neg ne4, if_true, if_neg (fun h => ne6 h.symm)]
theorem p_turn : putK (stK l c left turn) (Sum.inr ("turn" : Str)) (.int x) = stK l c left x := by
  have e : ((stK l c left turn).any fun kv => decide (kv.1 = Sum.inr ("turn" : Str))) = true := by rw [valV_any, v_turn]; rfl
  unfold putK
  rw [if_pos e]
  unfold stK
  simp only [List.map_cons, List.map_nil]
  rw [if_neg ne3, if_neg ne5, if_neg ne6, if_true]
end
structure StAt (H : Hp) (s l c : Addr) (T : Int) : Prop where
  ex : ∃ (lg cs : List Int) (left turn : Int), H s = some (.dK (stK l c left turn)) ∧ H l = some (.lst (lg.map V.int)) ∧ H c = some (.lst (cs.map V.int)) ∧ (∀ x ∈ lg, 0 ≤ x) ∧ (∀ x ∈ cs, 0 ≤ x) ∧ 0 ≤ left ∧ 0 ≤ turn ∧ turn ≤ T
  lc : l ≠ c
structure Wd (G H : Hp) (s l c : Addr) (T : Int) : Prop where
  w : Ex G H
  st : StAt H s l c T
  gs : G s = none
  gl : G l = none
  gc : G c = none
theorem StAt.mono {H H' : Hp} {s l c : Addr} {T : Int} (x : StAt H s l c T) (e : Ex H H') : StAt H' s l c T := by
  obtain ⟨⟨lg, cs, left, turn, h1, h2, h3, h⟩, q⟩ := x
  exact ⟨⟨lg, cs, left, turn, e _ _ h1, e _ _ h2, e _ _ h3, h⟩, q⟩
theorem StAt.at {H : Hp} {s l c : Addr} {T : Int} (x : StAt H s l c T) : (∃ o, H s = some o ∧ ∀ xs, o ≠ .tup xs) ∧ (∃ o, H l = some o ∧ ∀ xs, o ≠ .tup xs) ∧ ∃ o, H c = some o ∧ ∀ xs, o ≠ .tup xs := by
  obtain ⟨⟨lg, cs, left, turn, h1, h2, h3, h⟩, q⟩ := x
  exact ⟨⟨_, h1, fun _ z => nomatch z⟩, ⟨_, h2, fun _ z => nomatch z⟩, ⟨_, h3, fun _ z => nomatch z⟩⟩
theorem StAt.apart {H : Hp} {s l c : Addr} {T : Int} (x : StAt H s l c T) : s ≠ l ∧ s ≠ c := by
  obtain ⟨⟨lg, cs, left, turn, h1, h2, h3, h⟩, q⟩ := x
  exact ⟨ne_of h1 h2 (by intro z; cases z), ne_of h1 h3 (by intro z; cases z)⟩
theorem Wd.stp {G H G' H' : Hp} {s l c : Addr} {T : Int} (x : Wd G H s l c T) (p : Stp G H G' H') : Wd G' H' s l c T := by
  obtain ⟨⟨o1, e1, m1⟩, ⟨o2, e2, m2⟩, o3, e3, m3⟩ := x.st.at
  have gone : ∀ {b : Addr} {o : HO}, G b = none → H b = some o → (∀ xs, o ≠ .tup xs) → G' b = none := fun {b o} q e m => p.n b q (by rw [e]; intro z; cases z) fun xs z => m xs (Option.some.inj (e.symm.trans z))
  exact ⟨p.w, x.st.mono p.h, gone x.gs e1 m1, gone x.gl e2 m2, gone x.gc e3 m3⟩
structure StS (S : List Addr) (G H G' H' : Hp) : Prop where
  g : Ex G G'
  h : ∀ b o, b ∉ S → H b = some o → H' b = some o
  k : ∀ b, b ∈ S → H b ≠ none → H' b ≠ none ∧ ((∀ xs, H b ≠ some (.tup xs)) → ∀ xs, H' b ≠ some (.tup xs))
  w : Ex G' H'
  n : ∀ b, G b = none → H b ≠ none → (∀ xs, H b ≠ some (.tup xs)) → G' b = none
theorem kept_some {H H' : Hp} (h : Ex H H') {b : Addr} (q : H b ≠ none) : H' b ≠ none := by
  cases e : H b with
  | none => exact (q e).elim
  | some o => rw [h b o e]; exact fun z => nomatch z
theorem kept_mut {H H' : Hp} (h : Ex H H') {b : Addr} (q : H b ≠ none) (m : ∀ xs, H b ≠ some (.tup xs)) : H' b ≠ none ∧ ∀ xs, H' b ≠ some (.tup xs) := by
  cases e : H b with
  | none => exact (q e).elim
  | some o => rw [h b o e]; exact ⟨(fun z => nomatch z), fun xs z => m xs (e.trans z)⟩
theorem Stp.toS {S : List Addr} {G H G' H' : Hp} (p : Stp G H G' H') : StS S G H G' H' := ⟨p.g, fun b o _ q => p.h b o q, fun b _ q => ⟨kept_some p.h q, fun m => (kept_mut p.h q m).2⟩, p.w, p.n⟩
theorem StS.keep {S : List Addr} {G H G' H' : Hp} (a : StS S G H G' H') {c : Addr} (q : H c ≠ none) (m : ∀ xs, H c ≠ some (.tup xs)) : H' c ≠ none ∧ ∀ xs, H' c ≠ some (.tup xs) := by
  by_cases hc : c ∈ S
  · exact ⟨(a.k c hc q).1, (a.k c hc q).2 m⟩
  · cases e : H c with
    | none => exact (q e).elim
    | some o => rw [a.h c o hc e]; exact ⟨(fun z => nomatch z), fun xs z => m xs (e.trans z)⟩
theorem StS.trans {S : List Addr} {G H G1 H1 G2 H2 : Hp} (a : StS S G H G1 H1) (b : StS S G1 H1 G2 H2) : StS S G H G2 H2 :=
  ⟨a.g.trans b.g, fun c o hc q => b.h c o hc (a.h c o hc q), fun c hc q => ⟨(b.k c hc (a.k c hc q).1).1, fun m => (b.k c hc (a.k c hc q).1).2 ((a.k c hc q).2 m)⟩, b.w, fun c h1 h2 m => b.n c (a.n c h1 h2 m) (a.keep h2 m).1 (a.keep h2 m).2⟩
theorem StS.refl {S : List Addr} {G H : Hp} (e : Ex G H) : StS S G H G H := (Stp.refl e).toS
theorem q_whileW {c : TT} {tb tz : TS} {D' : Ends} {σ : L2.St} {H : Hp} (W : Nat → L2.St → Hp → Prop) (Nd : L2.St → Hp → Prop) (h0 : ∃ m, W m σ H)
    (hs : ∀ R : L2.St → Hp → Prop, (∀ σ' H', Nd σ' H' → R σ' H') → ∀ m σ H, W m σ H → c σ H fun b H1 => if b = true then ∃ N : L2.St → Hp → Prop, (∀ σ' H', N σ' H' → ∃ m', m' < m ∧ W m' σ' H') ∧ tb { D' with nx := N, ct := N, bk := R } σ H1 else R σ H1)
    (hd : ∀ σ' H', Nd σ' H' → tz D' σ' H') : tSeq (tWhile c tb) tz D' σ H := ⟨W, h0, fun m σ H hw => hs (tz D') hd m σ H hw⟩
theorem q_asgW {te : TE} {tz : TS} {D' : Ends} {i : Nat} {σ : L2.St} {H : Hp} (Pv : V → Hp → Prop) (h : ∀ Q : VK, (∀ v H', Pv v H' → Q v H') → te σ H Q) (k : ∀ v H', Pv v H' → tz D' (σ.set i (some v)) H') : tSeq (tAsg te (gName i)) tz D' σ H := h _ k
def SpDraw : Sp := fun vs H Q _ => ∃ (G : Hp) (s l c : Addr) (T n : Int), vs = [.ref s, .int n] ∧ Wd G H s l c T ∧ 0 < n ∧ n < 1073741824 ∧ T < 1000000000000 ∧
  ∀ r H', 0 ≤ r → r < n → Wd G H' s l c (T + 1) → StS [s, l, c] G H G H' → Q (.int r) H'
theorem st_get {i : Nat} {key : Str} {σ : L2.St} {H : Hp} {s : Addr} {kvs : List (Key × V)} {v : V} {Q : VK} (hσ : σ[i]? = some (some (.ref s))) (hd : H s = some (.dK kvs)) (hv : valV kvs (Sum.inr key) = some v) (q : Q v H) :
    tDGet (tVar i) (tC (.str key)) σ H Q := ⟨.ref s, hσ, s, v, rfl, by have := DGet.k (k := Sum.inr key) hd; rw [hv] at this; exact this, q⟩
theorem dp_ints {K : PySem.W.Frag} {H : Hp} {a : Addr} {ns : List Int} (h : H a = some (.lst (ns.map V.int))) : Dp K H (.ref a) (.list (ns.map PyData.int)) := by
  refine .lst (SqL.of h) ?_
  clear h
  induction ns with
  | nil => exact .nil
  | cons x ns ih => exact .cons (.int x) ih
theorem shaped_lI (a : List Int) : SeqAt.shaped (.list (a.map PyData.int)) = true := by
  unfold SeqAt.shaped
  rw [PyData.canLay0, canLay_ints, PyData.depth]
  have := depth_ints a
  simp
  omega
theorem eqv_nil (a : List Int) : PyData.eqv (.list (a.map PyData.int)) (.list []) = a.isEmpty := by
  rw [PyData.eqv]
  cases a <;> simp [PyData.eqvAll]
theorem ne_nil {K : PySem.W.Frag} {H : Hp} {a : Addr} {ns : List Int} {σ : L2.St} {Q : VK} (h : H a = some (.lst (ns.map V.int))) (q : ∀ p, H p = none → Q (.bl (!ns.isEmpty)) (upd H p (.lst []))) :
    tLst tNil σ H fun y H2 => rNeD K (.ref a) y H2 Q := ⟨Nat.zero_le _, fun p hp => ⟨.list (ns.map PyData.int), .list [], dp_ints (by rw [upd_ne (ne_of_none h hp)]; exact h), .lst (SqL.of upd_same) .nil, shaped_lI ns, by decide +kernel, by
  rw [eqv_nil]; exact q p hp⟩⟩
section
variable {K : PySem.W.Frag} {σ : L2.St} {G G' H H' : Hp} {ta tb te tx : TE} {t u : TT} {d e z : D} {ds es : List D} {D' : Ends} {tu tz : TS}
end
def stepF (line : List (List Int)) : List (List Int) := line.flatMap fun t => ((List.range 23).filter fun (i : Nat) => decide (prod t * (2 + (i : Int)) < 25)).map fun (i : Nat) => t ++ [2 + (i : Int)]
def linF : Nat → List (List Int)
  | 0 => [[]]
  | n + 1 => stepF (linF n)
def fndF : Nat → List (List Int)
  | 0 => []
  | n + 1 => fndF n ++ linF (n + 1)
def fewD : List (List Int) := fndF 4
def okB (n : List Int) : Bool := decide (1 ≤ n.length) && decide (n.length ≤ 4) && n.all (fun s => decide (2 ≤ s) && decide (s ≤ 24)) && decide (prod n ≤ 24)
theorem okB_ok {n : List Int} (h : okB n = true) : OkD n := by
  simp only [okB, Bool.and_eq_true, decide_eq_true_eq, List.all_eq_true] at h
  exact ⟨h.1.1.1, h.1.1.2, h.1.2, h.2⟩
theorem few_ok : fewD.all okB = true := by decide +kernel
theorem lay_sub {as : List D} (h : PyData.canLayAll0 as = true) : ∀ {bs : List D}, (∀ b ∈ bs, b ∈ as) → PyData.canLayAll0 bs = true
  | [], _ => rfl
  | b :: bs, k => by
    rw [PyData.canLayAll0, PyData.canLay0_of_mem as b h (k b (List.mem_cons_self ..)), lay_sub h fun x hx => k x (List.mem_cons_of_mem _ hx)]; rfl
theorem deep_sub {as : List D} : ∀ {bs : List D}, (∀ b ∈ bs, b ∈ as) → PyData.depthAll bs ≤ PyData.depthAll as
  | [], _ => by rw [PyData.depthAll]; omega
  | b :: bs, k => by
    rw [PyData.depthAll]
    have h1 := PyData.depth_le_depthAll as b (k b (List.mem_cons_self ..))
    have h2 := deep_sub (as := as) (bs := bs) fun x hx => k x (List.mem_cons_of_mem _ hx)
    omega
theorem shaped_sub {as bs : List D} (h : SeqAt.shaped (.list as) = true) (k : ∀ b ∈ bs, b ∈ as) : SeqAt.shaped (.list bs) = true := by
  unfold SeqAt.shaped at h ⊢
  rw [Bool.and_eq_true, decide_eq_true_eq, PyData.canLay0, PyData.depth] at h
  rw [Bool.and_eq_true, decide_eq_true_eq, PyData.canLay0, PyData.depth]
  exact ⟨lay_sub h.1 k, Nat.le_trans (Nat.add_le_add_right (deep_sub k) 1) h.2⟩
theorem flat_sub {as : List D} (h : flatDs as = true) : ∀ {bs : List D}, (∀ b ∈ bs, b ∈ as) → flatDs bs = true := by
  have all : ∀ {as : List D}, flatDs as = true → ∀ x ∈ as, flatD x = true := by
    intro as
    induction as with
    | nil => intro _ x hx; cases hx
    | cons a as ih =>
      intro h x hx
      rw [flatDs, Bool.and_eq_true] at h
      rcases List.mem_cons.mp hx with e | e
      · rw [e]; exact h.1
      · exact ih h.2 x e
  intro bs
  induction bs with
  | nil => intro _; rfl
  | cons b bs ih =>
    intro k
    rw [flatDs, Bool.and_eq_true]
    exact ⟨all h b (k b (List.mem_cons_self ..)), ih fun x hx => k x (List.mem_cons_of_mem _ hx)⟩
theorem eqv_nilD (a : List D) : PyData.eqv (.list a) (.list []) = a.isEmpty := by
  rw [PyData.eqv]
  cases a <;> simp [PyData.eqvAll]
theorem opd_U {G : Hp} (n : Int) : UnD (rU fun i => .int (-i)) G (.int n) (.int (-n)) := fun x G1 H1 a b hx Q q => by
  cases hx
  exact ⟨n, rfl, q _ G1 H1 (.refl b) (.int _)⟩
theorem ne_nilD {K : PySem.W.Frag} {G H : Hp} {a : Addr} {xs : List V} {ds : List D} {σ : L2.St} {Q : VK} (h : H a = some (.lst xs)) (w : Ex G H) (hx : DqA G xs ds) (fl : flatDs ds = true) (sh : SeqAt.shaped (.list ds) = true) (q : ∀ p, H p = none → Q (.bl (!ds.isEmpty)) (upd H p (.lst []))) :
    tLst tNil σ H fun y H2 => rNeD K (.ref a) y H2 Q := ⟨Nat.zero_le _, fun p hp => ⟨.list ds, .list [], .lst (SqL.of (by rw [upd_ne (ne_of_none h hp)]; exact h)) (dpAll_of (w.trans (.new hp)) hx fl), .lst (SqL.of upd_same) .nil, sh, by decide +kernel, by
  rw [eqv_nilD]; exact q p hp⟩⟩
theorem StS.mut {S : List Addr} {G H G' H' : Hp} {p : Addr} {o : HO} (a : StS S G H G' H') (hp : H p = none) (gp : G' p = none) : StS S G H G' (upd H' p o) := by
  have np : ∀ {b : Addr} {u : HO}, H b = some u → b ≠ p := fun e z => by rw [z, hp] at e; cases e
  refine ⟨a.g, fun b u hb q => by rw [upd_ne (np q)]; exact a.h b u hb q, fun b hb q => ?_, fun b u q => ?_, a.n⟩
  · by_cases e : b = p
    · exact (q (e ▸ hp)).elim
    · rw [upd_ne e]; exact a.k b hb q
  · have e : b ≠ p := fun z => by rw [z, gp] at q; cases q
    rw [upd_ne e]; exact a.w b u q
theorem Wd.mut {G H : Hp} {s l c p : Addr} {T : Int} {o : HO} (a : Wd G H s l c T) (gp : G p = none) (e1 : p ≠ s) (e2 : p ≠ l) (e3 : p ≠ c) : Wd G (upd H p o) s l c T := by
  obtain ⟨⟨⟨lg, cs, left, turn, h1, h2, h3, h⟩, q⟩, _⟩ := id (And.intro a.st trivial)
  refine ⟨fun b u q => ?_, ⟨⟨lg, cs, left, turn, by rw [upd_ne e1.symm]; exact h1, by rw [upd_ne e2.symm]; exact h2, by rw [upd_ne e3.symm]; exact h3, h⟩, q⟩, a.gs, a.gl, a.gc⟩
  have e : b ≠ p := fun z => by rw [z, gp] at q; cases q
  rw [upd_ne e]; exact a.w b u q
theorem erase_perm {α : Type} : ∀ {l : List α} {j : Nat} {d : α}, l[j]? = some d → (d :: l.eraseIdx j).Perm l
  | x :: l, 0, d, h => by
    cases Option.some.inj h
    exact .refl _
  | x :: l, j + 1, d, h => (List.Perm.swap x d _).trans ((erase_perm (l := l) (j := j) h).cons x)
  | [], _, _, h => by simp at h
inductive InP : List Int → List Int → Prop
  | nil : InP [] []
  | cons {x s : Int} {p n : List Int} : 0 ≤ x → x < s → InP p n → InP (x :: p) (s :: n)
theorem InP.snoc {p n : List Int} {x s : Int} (h : InP p n) (h1 : 0 ≤ x) (h2 : x < s) : InP (p ++ [x]) (n ++ [s]) := by
  induction h with
  | nil => exact .cons h1 h2 .nil
  | cons a b _ ih => exact .cons a b ih
theorem InP.len {p n : List Int} (h : InP p n) : p.length = n.length := by
  induction h with
  | nil => rfl
  | cons _ _ _ ih => rw [List.length_cons, List.length_cons, ih]
theorem InP.grown {p n : List Int} (h : InP p n) : ∀ {found : List (List Int)} {b : List Int}, b ∈ found → b ++ p ∈ n.foldl grow found := by
  induction h with
  | nil => intro found b hb; rw [List.append_nil]; exact hb
  | @cons x s p n h1 h2 _ ih =>
    intro found b hb
    have : b ++ [x] ∈ grow found s := by
      unfold grow
      refine List.mem_flatMap.mpr ⟨b, hb, List.mem_map.mpr ⟨x.toNat, List.mem_range.mpr (by omega), ?_⟩⟩
      rw [Int.toNat_of_nonneg h1]
    have := ih this
    rw [List.append_assoc] at this
    exact this
theorem InP.mem {p n : List Int} (h : InP p n) : p ∈ placesOf n := h.grown (List.mem_singleton.mpr rfl)
def mulP : List Int → List Int → Int → List Int
  | s :: n, x :: a, k => ((x * k) % s) :: mulP n a k
  | _, _, _ => []
def isTup (d : D) (m : Int) : Bool := match d with
  | .tuple xs => decide ((xs.length : Int) = m)
  | _ => false
def isPlace (n : List Int) (d : D) : Bool := match d with
  | .tuple xs => decide (xs.length = n.length) && (xs.zip n).all fun q => btw 0 (q.2 - 1) q.1
  | _ => false
theorem few_turn : (fewD.all fun n => (placesOf n).all fun p => ((List.range 24).find? fun (i : Nat) => decide (mulP n p ((i : Int) + 1) = zeros n)).isSome && isPlace n (dI p)) = true := by decide +kernel
section
variable {K : PySem.W.Frag} {σ : L2.St} {G G' H H' : Hp} {te : TE} {D' : Ends} {tz : TS} {ds : List D}
end
def cutD (ds : List D) (lo hi : Option Int) : List D := (ds.drop (HT.sIx ds.length 0 lo)).take (HT.sIx ds.length ds.length hi - HT.sIx ds.length 0 lo)
section
variable {K : PySem.W.Frag} {σ : L2.St} {G G' H H' : Hp} {te : TE} {tl th : TO} {ds : List D}
end
theorem cut_lo {ds : List D} (i : Nat) (h : i ≤ ds.length) : cutD ds none (some (i : Int)) = ds.take i := by
  unfold cutD
  rw [HT.sIx_none, HT.sIx_nat, Nat.min_eq_left h, Nat.sub_zero, List.drop_zero]
theorem cut_hi {ds : List D} (i : Nat) (h : i ≤ ds.length) : cutD ds (some (i : Int)) none = ds.drop i := by
  unfold cutD
  rw [HT.sIx_none, HT.sIx_nat, Nat.min_eq_left h, List.take_of_length_le (by rw [List.length_drop]; exact Nat.le_refl _)]
section
variable {K : PySem.W.Frag} {σ : L2.St} {G G' H H' : Hp} {ta te : TE} {tr : TA} {ds : List D} {d : D}
end
theorem flat_lI (a : List Int) : flatD (.list (a.map PyData.int)) = true := by
  have h := flat_dI a
  unfold dI at h
  simpa [flatD] using h
section
variable {P : Program} {w : World} {mg : Str → Option Value} {base : Heap} {K : PySem.W.Frag}
end
def takeP : List Int → List Int → List Int → List Int
  | s :: n, x :: a, y :: b => ((x - y) % s) :: takeP n a b
  | _, _, _ => []
def isPlaces (n : List Int) (d : D) : Bool := match d with
  | .list xs => xs.all (isPlace n)
  | .tuple xs => xs.all (isPlace n)
  | _ => false
abbrev Rows := List (List Int)
def rowD : D → List Int
  | .tuple xs => xs.map fun d => match d with | .int i => i | _ => 0
  | _ => []
def dT (P : Rows) : D := .tuple (P.map dI)
def ins {α : Type} (lt : α → α → Bool) (p : α) : List α → List α
  | [] => [p]
  | q :: l => if lt q p then q :: ins lt p l else p :: q :: l
def isort {α : Type} (lt : α → α → Bool) : List α → List α
  | [] => []
  | p :: l => ins lt p (isort lt l)
def strict {α : Type} (lt : α → α → Bool) : List α → Bool
  | [] => true
  | p :: l => l.all (lt p) && strict lt l
def sortR (P : Rows) : Rows := isort HT.lexLt P
theorem place_zip : ∀ {n : List Int} {xs : List D}, xs.length = n.length → ((xs.zip n).all fun q => btw 0 (q.2 - 1) q.1) = true → ∃ p, xs = p.map PyData.int ∧ InP p n
  | [], [], _, _ => ⟨[], rfl, .nil⟩
  | s :: n, x :: xs, hl, h => by
    rw [List.zip_cons_cons, List.all_cons, Bool.and_eq_true] at h
    obtain ⟨p, rfl, hp⟩ := place_zip (by simpa using hl) h.2
    cases x with
    | int i =>
      have hb : (decide (0 ≤ i) && decide (i ≤ s - 1)) = true := h.1
      simp only [Bool.and_eq_true, decide_eq_true_eq] at hb
      exact ⟨i :: p, rfl, .cons hb.1 (by omega) hp⟩
    | _ => exact absurd h.1 (by intro z; cases z)
  | s :: n, [], hl, _ => by simp at hl
  | [], x :: xs, hl, _ => by simp at hl
theorem place_inv {n : List Int} {d : D} (h : isPlace n d = true) : ∃ p, d = dI p ∧ InP p n := by
  cases d with
  | tuple xs =>
    have h : (decide (xs.length = n.length) && (xs.zip n).all fun q => btw 0 (q.2 - 1) q.1) = true := h
    simp only [Bool.and_eq_true, decide_eq_true_eq] at h
    obtain ⟨p, rfl, hp⟩ := place_zip h.1 h.2
    exact ⟨p, rfl, hp⟩
  | _ => exact absurd h (by intro z; cases z)
theorem rowD_dI (p : List Int) : rowD (dI p) = p := by
  show (p.map PyData.int).map _ = p
  rw [List.map_map]
  exact (List.map_congr_left fun _ _ => rfl).trans (List.map_id p)
theorem rowsD_dI (P : Rows) : (P.map dI).map rowD = P := by
  rw [List.map_map]
  exact (List.map_congr_left fun p _ => rowD_dI p).trans (List.map_id P)
theorem inP_place {n p : List Int} (h : InP p n) : isPlace n (dI p) = true := by
  have key : ∀ {p n : List Int}, InP p n → (((p.map PyData.int).zip n).all fun q => btw 0 (q.2 - 1) q.1) = true := fun h => by
    induction h with
    | nil => rfl
    | @cons x s p n h1 h2 _ ih =>
      rw [List.map_cons, List.zip_cons_cons, List.all_cons, ih, Bool.and_true]
      show (decide (0 ≤ x) && decide (x ≤ s - 1)) = true
      (simp only [Bool.and_eq_true, decide_eq_true_eq])
      omega
  show (decide ((p.map PyData.int).length = n.length) && _) = true
  rw [key h, Bool.and_true]
  simpa using h.len
theorem lex_is : ∀ a b : List Int, HT.lexLt a b = PySem.W.dataLt (dI a) (dI b) := by
  have key : ∀ a b : List Int, HT.lexLt a b = decide (a < b) := by
    intro a
    induction a with
    | nil => intro b; cases b <;> simp [HT.lexLt]
    | cons x a ih =>
      intro b
      cases b with
      | nil => simp [HT.lexLt]
      | cons y b =>
        rw [HT.lexLt, ih]
        by_cases e : x = y
        · subst e; simp [List.cons_lt_cons_iff]
        · rw [if_neg e]; simp [List.cons_lt_cons_iff, e]
  intro a b
  rw [key]
  exact (PySem.W.dataLt_ints a b).symm
theorem lex_eq : ∀ {a b : List Int}, HT.lexLt a b = false → HT.lexLt b a = false → a = b
  | [], [], _, _ => rfl
  | [], _ :: _, h, _ => by simp [HT.lexLt] at h
  | _ :: _, [], _, h => by simp [HT.lexLt] at h
  | x :: a, y :: b, h1, h2 => by
    rw [HT.lexLt] at h1 h2
    by_cases e : x = y
    · subst e
      rw [if_pos rfl] at h1 h2
      rw [lex_eq h1 h2]
    · rw [if_neg e] at h1
      rw [if_neg (Ne.symm e)] at h2
      simp only [decide_eq_false_iff_not] at h1 h2
      omega
theorem ord_total : PySem.W.TotalLe ordD := by
  unfold ordD PySem.W.dataLe
  exact PySem.W.sortLe_total _ _ _
theorem ord_is (a b : D) : ordD a b = !PySem.W.dataLt b a := rfl
theorem sort_is {ds m : List D} (hp : ds.Perm m) (hs : m.Pairwise fun a b => ordD a b = true) (anti : ∀ a b, a ∈ m → b ∈ m → ordD a b = true → ordD b a = true → a = b) : sortD ds = m :=
  List.Perm.eq_of_pairwise (le := fun a b => ordD a b = true) (fun a b ha hb h1 h2 => anti a b ((List.mem_mergeSort.mp ha) |> hp.mem_iff.mp) hb h1 h2) (PySem.W.sort_pairwise ord_total ds) hs ((List.mergeSort_perm ds ordD).trans hp)
section
variable {α : Type} {lt : α → α → Bool}
theorem ins_perm (p : α) : ∀ l : List α, (ins lt p l).Perm (p :: l)
  | [] => .refl _
  | q :: l => by
    unfold ins
    by_cases h : lt q p = true
    · rw [if_pos h]; exact ((ins_perm p l).cons q).trans (.swap p q l)
    · rw [if_neg h]
theorem isort_perm : ∀ l : List α, (isort lt l).Perm l
  | [] => .refl _
  | p :: l => (ins_perm p _).trans ((isort_perm l).cons p)
theorem ins_pair (T : PySem.W.TotalLe fun a b => !lt b a) (p : α) : ∀ {l : List α}, l.Pairwise (fun a b => (!lt b a) = true) → (ins lt p l).Pairwise fun a b => (!lt b a) = true
  | [], _ => List.pairwise_singleton _ _
  | q :: l, h => by
    have hq := List.pairwise_cons.mp h
    unfold ins
    by_cases hl : lt q p = true
    · rw [if_pos hl]
      refine List.pairwise_cons.mpr ⟨fun x hx => ?_, ins_pair T p hq.2⟩
      rcases List.mem_cons.mp ((ins_perm p l).mem_iff.mp hx) with rfl | hx
      · rcases T.total q x with h1 | h1
        · exact h1
        · simp [hl] at h1
      · exact hq.1 x hx
    · rw [if_neg hl]
      have hp : (!lt q p) = true := by simpa using hl
      refine List.pairwise_cons.mpr ⟨fun x hx => ?_, h⟩
      rcases (List.mem_cons.mp hx) with rfl | hx
      · exact hp
      · exact T.trans p q x hp (hq.1 x hx)
theorem isort_pair (T : PySem.W.TotalLe fun a b => !lt b a) : ∀ l : List α, (isort lt l).Pairwise fun a b => (!lt b a) = true
  | [] => .nil
  | p :: l => ins_pair T p (isort_pair T l)
end
theorem comap_total {α : Type} (f : α → D) : PySem.W.TotalLe fun a b : α => !PySem.W.dataLt (f b) (f a) := by
  have := ord_total
  exact ⟨fun a b c h1 h2 => this.trans (f a) (f b) (f c) h1 h2, fun a b => this.total (f a) (f b)⟩
theorem rows_total : PySem.W.TotalLe fun a b : List Int => !HT.lexLt b a := by
  have := comap_total dI
  refine ⟨fun a b c h1 h2 => ?_, fun a b => ?_⟩
  · rw [lex_is] at h1 h2 ⊢; exact this.trans a b c h1 h2
  · rw [lex_is, lex_is]; exact this.total a b
theorem sort_rows (P : Rows) : sortD (P.map dI) = (sortR P).map dI := by
  refine sort_is ((isort_perm P).symm.map dI) ?_ ?_
  · rw [List.pairwise_map]
    exact (isort_pair rows_total P).imp fun {a b} h => by rw [lex_is] at h; rw [ord_is]; exact h
  · rintro a b ha hb h1 h2
    obtain ⟨p, _, rfl⟩ := List.mem_map.mp ha
    obtain ⟨q, _, rfl⟩ := List.mem_map.mp hb
    rw [ord_is, ← lex_is] at h1 h2
    exact congrArg dI (lex_eq (by simpa using h2) (by simpa using h1))
theorem flat_rows : ∀ P : Rows, flatDs (P.map dI) = true
  | [] => rfl
  | p :: P => by rw [List.map_cons, flatDs, flat_dI, flat_rows P]; rfl
theorem flat_dT (P : Rows) : flatD (dT P) = true := flat_rows P
theorem lay_dI (p : List Int) : PyData.canLay0 (dI p) = true := by unfold dI; rw [PyData.canLay0]; exact canLay_ints p
theorem lay_rows : ∀ P : Rows, PyData.canLayAll0 (P.map dI) = true
  | [] => by simp [PyData.canLayAll0]
  | p :: P => by rw [List.map_cons, PyData.canLayAll0, lay_dI, lay_rows P]; rfl
theorem lay_dT (P : Rows) : PyData.canLay0 (dT P) = true := by unfold dT; rw [PyData.canLay0]; exact lay_rows P
theorem dep_dI (p : List Int) : PyData.depth (dI p) ≤ 2 := by
  unfold dI; rw [PyData.depth]; have := depth_ints p; omega
theorem dep_rows : ∀ P : Rows, PyData.depthAll (P.map dI) ≤ 2
  | [] => by simp [PyData.depthAll]
  | p :: P => by rw [List.map_cons, PyData.depthAll]; have := dep_dI p; have := dep_rows P; omega
theorem dep_dT (P : Rows) : PyData.depth (dT P) ≤ 3 := by
  unfold dT; rw [PyData.depth]; have := dep_rows P; omega
theorem shaped_dT (P : Rows) : SeqAt.shaped (dT P) = true := by
  unfold SeqAt.shaped; rw [lay_dT]; have := dep_dT P; simp; omega
theorem shaped_rowsL (P : Rows) : SeqAt.shaped (.list (P.map dI)) = true := by
  unfold SeqAt.shaped; rw [PyData.canLay0, lay_rows, PyData.depth]; have := dep_rows P; simp; omega
theorem eqv_rows : ∀ P Q : Rows, PyData.eqvAll (P.map dI) (Q.map dI) = decide (P = Q)
  | [], [] => by simp [PyData.eqvAll]
  | [], q :: Q => by simp [PyData.eqvAll]
  | p :: P, [] => by simp [PyData.eqvAll]
  | p :: P, q :: Q => by
    rw [List.map_cons, List.map_cons, PyData.eqvAll, eqv_dI, eqv_rows P Q]
    by_cases h : p = q <;> simp [h]
theorem eqv_dT (P Q : Rows) : PyData.eqv (dT P) (dT Q) = decide (P = Q) := by
  unfold dT; rw [PyData.eqv]; exact eqv_rows P Q
theorem any_rows (P : Rows) (q : List Int) : ((P.map dI).any fun z => PyData.eqv z (dI q)) = P.any fun c => decide (c = q) := by
  rw [List.any_map]
  congr 1
  funext c
  exact eqv_dI c q
theorem alike_dI (p q : List Int) : PySem.W.alike (dI p) (dI q) = true := by unfold dI; rw [PySem.W.alike]; exact PySem.W.alike_ints p q
section
variable {K : PySem.W.Frag} {σ : L2.St} {G : Hp} {t : TT} {te : TE}
end
theorem room65 {k : Nat} {A : Around} (r : Room k A) : A.units + 64 + 1 < cLine := by have := r.un; omega
theorem few_inP {n p : List Int} (hn : n ∈ fewD) (hp : p ∈ placesOf n) : InP p n := by
  have h := List.all_eq_true.mp (List.all_eq_true.mp few_turn n hn) p hp
  simp only [Bool.and_eq_true] at h
  obtain ⟨q, e, hq⟩ := place_inv h.2
  have : p = q := by rw [← rowD_dI p, e, rowD_dI]
  rw [this]; exact hq
theorem few_strict : (fewD.all fun n => strict HT.lexLt (placesOf n)) = true := by decide +kernel
theorem strict_nodup {α : Type} {lt : α → α → Bool} (ir : ∀ a, lt a a = false) : ∀ {l : List α}, strict lt l = true → l.Nodup
  | [], _ => .nil
  | x :: l, h => by
    simp only [strict, Bool.and_eq_true, List.all_eq_true] at h
    refine List.nodup_cons.mpr ⟨fun hx => ?_, strict_nodup ir h.2⟩
    have := h.1 x hx
    rw [ir x] at this; cases this
theorem lex_irr : ∀ a : List Int, HT.lexLt a a = false
  | [] => rfl
  | x :: a => by rw [HT.lexLt, if_pos rfl]; exact lex_irr a
theorem few_nodup {n : List Int} (hn : n ∈ fewD) : (placesOf n).Nodup := strict_nodup lex_irr (List.all_eq_true.mp few_strict n hn)
theorem sort_perm {L M : Rows} (h : L.Perm M) : sortR L = sortR M :=
  List.Perm.eq_of_pairwise (le := fun a b => (!HT.lexLt b a) = true) (fun a b _ _ h1 h2 => lex_eq (by simpa using h2) (by simpa using h1)) (isort_pair rows_total L) (isort_pair rows_total M) (((isort_perm L).trans h).trans (isort_perm M).symm)
theorem addP_in : ∀ {n a b : List Int}, a.length = n.length → b.length = n.length → (∀ s ∈ n, 0 < s) → InP (addP n a b) n
  | [], [], [], _, _, _ => .nil
  | s :: n, x :: a, y :: b, h1, h2, h => .cons (Int.emod_nonneg _ (by have := h s (.head _); omega)) (Int.emod_lt_of_pos _ (h s (.head _))) (addP_in (by simpa using h1) (by simpa using h2) fun s hs => h s (.tail _ hs))
  | s :: n, [], _, h, _, _ => by simp at h
  | s :: n, _ :: _, [], _, h, _ => by simp at h
  | [], _ :: _, _, h, _, _ => by simp at h
  | [], [], _ :: _, _, h, _ => by simp at h
theorem takeP_in : ∀ {n a b : List Int}, a.length = n.length → b.length = n.length → (∀ s ∈ n, 0 < s) → InP (takeP n a b) n
  | [], [], [], _, _, _ => .nil
  | s :: n, x :: a, y :: b, h1, h2, h => .cons (Int.emod_nonneg _ (by have := h s (.head _); omega)) (Int.emod_lt_of_pos _ (h s (.head _))) (takeP_in (by simpa using h1) (by simpa using h2) fun s hs => h s (.tail _ hs))
  | s :: n, [], _, h, _, _ => by simp at h
  | s :: n, _ :: _, [], _, h, _ => by simp at h
  | [], _ :: _, _, h, _, _ => by simp at h
  | [], [], _ :: _, _, h, _ => by simp at h
theorem zeros_in : ∀ {n : List Int}, (∀ s ∈ n, 0 < s) → InP (zeros n) n
  | [], _ => .nil
  | s :: n, h => .cons (Int.le_refl _) (h s (.head _)) (zeros_in (n := n) fun s hs => h s (.tail _ hs))
structure MovesOk (n : List Int) (M : Rows) : Prop where
  inp : ∀ p ∈ M, InP p n
  len : M.length = (placesOf n).length
def leR (a b : List Int) : Bool := !HT.lexLt b a
theorem lexAt_up {e r : Nat → Bool} {z : Bool} : ∀ (k i : Nat), Ob.lexAt e r z (i + 1) k = Ob.lexAt (fun j => e (j + 1)) (fun j => r (j + 1)) z i k
  | 0, _ => rfl
  | k + 1, i => by rw [Ob.lexAt_succ, Ob.lexAt_succ, lexAt_up k (i + 1)]
theorem lexAt_le : ∀ a b : List Int, Ob.lexAt (fun j => decide (a.getD j 0 = b.getD j 0)) (fun j => decide (a.getD j 0 ≤ b.getD j 0)) (decide (a.length ≤ b.length)) 0 (min a.length b.length) = leR a b
  | [], [] => rfl
  | [], _ :: _ => rfl
  | x :: a, [] => by
    show Ob.lexAt _ _ (decide ((x :: a).length ≤ 0)) 0 0 = _
    rw [Ob.lexAt_zero]
    simp [leR, HT.lexLt]
  | x :: a, y :: b => by
    have ih := lexAt_le a b
    rw [List.length_cons, List.length_cons, Nat.add_min_add_right, Ob.lexAt_succ]
    show (if decide (x = y) = true then _ else decide (x ≤ y)) = _
    unfold leR
    rw [HT.lexLt]
    by_cases h : x = y
    · subst h
      rw [if_pos (by simp), if_pos rfl, lexAt_up]
      have e : decide (a.length + 1 ≤ b.length + 1) = decide (a.length ≤ b.length) := by simp
      rw [e]
      exact ih
    · rw [if_neg (by simpa using h), if_neg (Ne.symm h)]
      by_cases q : x ≤ y
      · rw [decide_eq_true q, decide_eq_false (by omega)]; rfl
      · rw [decide_eq_false q, decide_eq_true (by omega)]; rfl
def isAsc (M : Rows) : Bool := ((M.zip (M.drop 1)).map fun q => leR q.1 q.2).all id
theorem asc_cons (p q : List Int) (M : Rows) : isAsc (p :: q :: M) = (leR p q && isAsc (q :: M)) := rfl
theorem asc_pair : ∀ {M : Rows}, (M.Pairwise fun a b => (!HT.lexLt b a) = true) → isAsc M = true
  | [], _ => rfl
  | [_], _ => rfl
  | p :: q :: M, h => by
    have h := List.pairwise_cons.mp h
    rw [asc_cons, asc_pair h.2, Bool.and_true]
    exact h.1 q (.head _)
theorem asc_sort (M : Rows) : isAsc (sortR M) = true := asc_pair (isort_pair rows_total M)
theorem pair_asc : ∀ {M : Rows}, isAsc M = true → M.Pairwise fun a b => (!HT.lexLt b a) = true
  | [], _ => .nil
  | [_], _ => List.pairwise_singleton _ _
  | p :: q :: M, h => by
    rw [asc_cons, Bool.and_eq_true] at h
    have ih := pair_asc h.2
    refine List.pairwise_cons.mpr ⟨fun x hx => ?_, ih⟩
    rcases (List.mem_cons.mp hx) with rfl | hx
    · exact h.1
    · exact rows_total.trans p q x h.1 ((List.pairwise_cons.mp ih).1 x hx)
theorem asc_is {M : Rows} (h : isAsc M = true) : sortR M = M :=
  List.Perm.eq_of_pairwise (le := fun a b => (!HT.lexLt b a) = true) (fun a b _ _ h1 h2 => lex_eq (by simpa using h2) (by simpa using h1)) (isort_pair rows_total M) (pair_asc h) (isort_perm M)
end Mv
namespace Mv
open PySem L2 Evl
section
variable {K : PySem.W.Frag} {P : Program} {w : World}
def oI (f : Int → Int → D) (x y : D) : Option D := match x, y with
  | .int i, .int j => some (f i j)
  | _, _ => none
def oIc (c : Int → Int → Bool) (f : Int → Int → D) (x y : D) : Option D := match x, y with
  | .int i, .int j => if c i j = true then some (f i j) else none
  | _, _ => none
theorem oI_some {f : Int → Int → D} {x y z : D} (h : oI f x y = some z) : ∃ i j, x = .int i ∧ y = .int j ∧ z = f i j := by
  unfold oI at h
  split at h
  · cases h; exact ⟨_, _, rfl, rfl, rfl⟩
  · cases h
theorem oIc_some {c : Int → Int → Bool} {f : Int → Int → D} {x y z : D} (h : oIc c f x y = some z) : ∃ i j, x = .int i ∧ y = .int j ∧ c i j = true ∧ z = f i j := by
  unfold oIc at h
  split at h
  · split at h
    · rename_i hc; cases h; exact ⟨_, _, rfl, rfl, hc, rfl⟩
    · cases h
  · cases h
theorem os_I0 {g : Int → Int → V} {f : Int → Int → D} (h : ∀ i j G, Dq G (g i j) (f i j)) : OpS (rI0 g) (oI f) := fun x y z e G => by
  obtain ⟨i, j, rfl, rfl, rfl⟩ := oI_some e
  exact opd_I0 (h i j)
theorem os_Ic {C : Int → Int → Prop} {c : Int → Int → Bool} {g : Int → Int → V} {f : Int → Int → D} (hc : ∀ i j, c i j = true → C i j) (h : ∀ i j G, Dq G (g i j) (f i j)) : OpS (rI C g) (oIc c f) := fun x y z e G => by
  obtain ⟨i, j, rfl, rfl, k, rfl⟩ := oIc_some e
  exact opd_I (hc i j k) (h i j)
def oAdd := oI fun i j => .int (i + j)
def oSub := oI fun i j => .int (i - j)
def oLt := oI fun i j => .bool (decide (i < j))
def oLe := oI fun i j => .bool (decide (i ≤ j))
def oGt := oI fun i j => .bool (decide (j < i))
def cMod (_ j : Int) : Bool := decide (0 < j)
def cMul (i j : Int) : Bool := (decide (-18446744073709551616 < i) && decide (i < 18446744073709551616)) || (decide (-18446744073709551616 < j) && decide (j < 18446744073709551616))
def oMod := oIc cMod fun i j => .int (i % j)
def oMul := oIc cMul fun i j => .int (i * j)
theorem os_add : OpS (rI0 fun i j => .int (i + j)) oAdd := os_I0 fun _ _ _ => .int _
theorem os_sub : OpS (rI0 fun i j => .int (i - j)) oSub := os_I0 fun _ _ _ => .int _
theorem os_lt : OpS (rI0 fun i j => .bl (decide (i < j))) oLt := os_I0 fun _ _ _ => .bl _
theorem os_le : OpS (rI0 fun i j => .bl (decide (i ≤ j))) oLe := os_I0 fun _ _ _ => .bl _
theorem os_gt : OpS (rI0 fun i j => .bl (decide (j < i))) oGt := os_I0 fun _ _ _ => .bl _
theorem os_mod : OpS (rI (fun _ j => 0 < j) fun i j => .int (i % j)) oMod := os_Ic (fun _ _ h => of_decide_eq_true h) fun _ _ _ => .int _
theorem os_mul : OpS (rI CMul fun i j => .int (i * j)) oMul := os_Ic (fun i j h => by
  have h2 : ((-18446744073709551616 < i ∧ i < 18446744073709551616) ∨ (-18446744073709551616 < j ∧ j < 18446744073709551616)) := by simpa [cMul] using h
  exact h2) fun _ _ _ => .int _
def oNeg (x : D) : Option D := match x with
  | .int i => some (.int (-i))
  | _ => none
theorem us_neg : UnS (rU fun i => .int (-i)) oNeg := fun x z e G => by
  unfold oNeg at e
  split at e
  · cases e; exact opd_U _
  · cases e
def oEqA (x y : D) : Option D := match x, y with
  | .int i, .int j => some (.bool (decide (i = j)))
  | .bool i, .bool j => some (.bool ((i == j)))
  | .str i, .str j => some (.bool (decide (i = j)))
  | .none, .none => some (.bool true)
  | .none, .int _ => some (.bool false)
  | .int _, .none => some (.bool false)
  | .none, .bool _ => some (.bool false)
  | .bool _, .none => some (.bool false)
  | .none, .str _ => some (.bool false)
  | .str _, .none => some (.bool false)
  | .int _, .str _ => some (.bool false)
  | .str _, .int _ => some (.bool false)
  | .bool _, .str _ => some (.bool false)
  | .str _, .bool _ => some (.bool false)
  | _, _ => none
def oNeA (x y : D) : Option D := match x, y with
  | .int i, .int j => some (.bool (!decide (i = j)))
  | .bool i, .bool j => some (.bool (!(i == j)))
  | .str i, .str j => some (.bool (!decide (i = j)))
  | .none, .none => some (.bool false)
  | .none, .int _ => some (.bool true)
  | .int _, .none => some (.bool true)
  | .none, .bool _ => some (.bool true)
  | .bool _, .none => some (.bool true)
  | .none, .str _ => some (.bool true)
  | .str _, .none => some (.bool true)
  | .int _, .str _ => some (.bool true)
  | .str _, .int _ => some (.bool true)
  | .bool _, .str _ => some (.bool true)
  | .str _, .bool _ => some (.bool true)
  | _, _ => none
theorem dec_str {i j : Str} : decide (V.str i = V.str j) = decide (i = j) := by
  rw [Bool.eq_iff_iff]
  simp
theorem os_eqA : OpS rEq oEqA := fun x y z e G => by
  unfold oEqA at e
  split at e
  · cases e
    intro x y G1 H1 a b hx hy Q q
    cases hx; cases hy
    refine ⟨rfl, ?_⟩
    rename_i i j
    rw [show decide (V.int i = V.int j) = decide (i = j) from by simp]
    exact q _ G1 H1 (.refl b) (.bl _)
  · cases e
    intro x y G1 H1 a b hx hy Q q
    cases hx; cases hy
    refine ⟨rfl, ?_⟩
    rw [dec_bl]
    exact q _ G1 H1 (.refl b) (.bl _)
  · cases e
    intro x y G1 H1 a b hx hy Q q
    cases hx; cases hy
    refine ⟨rfl, ?_⟩
    rw [dec_str]
    exact q _ G1 H1 (.refl b) (.bl _)
  · cases e
    intro x y G1 H1 a b hx hy Q q
    cases hx; cases hy
    refine ⟨rfl, ?_⟩
    rw [decide_eq_true rfl]
    exact q _ G1 H1 (.refl b) (.bl _)
  · cases e
    intro x y G1 H1 a b hx hy Q q
    cases hx; cases hy
    refine ⟨rfl, ?_⟩
    rw [decide_eq_false (fun z => by cases z)]
    exact q _ G1 H1 (.refl b) (.bl _)
  · cases e
    intro x y G1 H1 a b hx hy Q q
    cases hx; cases hy
    refine ⟨rfl, ?_⟩
    rw [decide_eq_false (fun z => by cases z)]
    exact q _ G1 H1 (.refl b) (.bl _)
  · cases e
    intro x y G1 H1 a b hx hy Q q
    cases hx; cases hy
    refine ⟨rfl, ?_⟩
    rw [decide_eq_false (fun z => by cases z)]
    exact q _ G1 H1 (.refl b) (.bl _)
  · cases e
    intro x y G1 H1 a b hx hy Q q
    cases hx; cases hy
    refine ⟨rfl, ?_⟩
    rw [decide_eq_false (fun z => by cases z)]
    exact q _ G1 H1 (.refl b) (.bl _)
  · cases e
    intro x y G1 H1 a b hx hy Q q
    cases hx; cases hy
    refine ⟨rfl, ?_⟩
    rw [decide_eq_false (fun z => by cases z)]
    exact q _ G1 H1 (.refl b) (.bl _)
  · cases e
    intro x y G1 H1 a b hx hy Q q
    cases hx; cases hy
    refine ⟨rfl, ?_⟩
    rw [decide_eq_false (fun z => by cases z)]
    exact q _ G1 H1 (.refl b) (.bl _)
  · cases e
    intro x y G1 H1 a b hx hy Q q
    cases hx; cases hy
    refine ⟨rfl, ?_⟩
    rw [decide_eq_false (fun z => by cases z)]
    exact q _ G1 H1 (.refl b) (.bl _)
  · cases e
    intro x y G1 H1 a b hx hy Q q
    cases hx; cases hy
    refine ⟨rfl, ?_⟩
    rw [decide_eq_false (fun z => by cases z)]
    exact q _ G1 H1 (.refl b) (.bl _)
  · cases e
    intro x y G1 H1 a b hx hy Q q
    cases hx; cases hy
    refine ⟨rfl, ?_⟩
    rw [decide_eq_false (fun z => by cases z)]
    exact q _ G1 H1 (.refl b) (.bl _)
  · cases e
    intro x y G1 H1 a b hx hy Q q
    cases hx; cases hy
    refine ⟨rfl, ?_⟩
    rw [decide_eq_false (fun z => by cases z)]
    exact q _ G1 H1 (.refl b) (.bl _)
  · cases e
theorem os_neA : OpS rNe oNeA := fun x y z e G => by
  unfold oNeA at e
  split at e
  · cases e
    intro x y G1 H1 a b hx hy Q q
    cases hx; cases hy
    refine ⟨rfl, ?_⟩
    rename_i i j
    rw [show decide (V.int i = V.int j) = decide (i = j) from by simp]
    exact q _ G1 H1 (.refl b) (.bl _)
  · cases e
    intro x y G1 H1 a b hx hy Q q
    cases hx; cases hy
    refine ⟨rfl, ?_⟩
    rw [dec_bl]
    exact q _ G1 H1 (.refl b) (.bl _)
  · cases e
    intro x y G1 H1 a b hx hy Q q
    cases hx; cases hy
    refine ⟨rfl, ?_⟩
    rw [dec_str]
    exact q _ G1 H1 (.refl b) (.bl _)
  · cases e
    intro x y G1 H1 a b hx hy Q q
    cases hx; cases hy
    refine ⟨rfl, ?_⟩
    rw [decide_eq_true rfl]
    exact q _ G1 H1 (.refl b) (.bl _)
  · cases e
    intro x y G1 H1 a b hx hy Q q
    cases hx; cases hy
    refine ⟨rfl, ?_⟩
    rw [decide_eq_false (fun z => by cases z)]
    exact q _ G1 H1 (.refl b) (.bl _)
  · cases e
    intro x y G1 H1 a b hx hy Q q
    cases hx; cases hy
    refine ⟨rfl, ?_⟩
    rw [decide_eq_false (fun z => by cases z)]
    exact q _ G1 H1 (.refl b) (.bl _)
  · cases e
    intro x y G1 H1 a b hx hy Q q
    cases hx; cases hy
    refine ⟨rfl, ?_⟩
    rw [decide_eq_false (fun z => by cases z)]
    exact q _ G1 H1 (.refl b) (.bl _)
  · cases e
    intro x y G1 H1 a b hx hy Q q
    cases hx; cases hy
    refine ⟨rfl, ?_⟩
    rw [decide_eq_false (fun z => by cases z)]
    exact q _ G1 H1 (.refl b) (.bl _)
  · cases e
    intro x y G1 H1 a b hx hy Q q
    cases hx; cases hy
    refine ⟨rfl, ?_⟩
    rw [decide_eq_false (fun z => by cases z)]
    exact q _ G1 H1 (.refl b) (.bl _)
  · cases e
    intro x y G1 H1 a b hx hy Q q
    cases hx; cases hy
    refine ⟨rfl, ?_⟩
    rw [decide_eq_false (fun z => by cases z)]
    exact q _ G1 H1 (.refl b) (.bl _)
  · cases e
    intro x y G1 H1 a b hx hy Q q
    cases hx; cases hy
    refine ⟨rfl, ?_⟩
    rw [decide_eq_false (fun z => by cases z)]
    exact q _ G1 H1 (.refl b) (.bl _)
  · cases e
    intro x y G1 H1 a b hx hy Q q
    cases hx; cases hy
    refine ⟨rfl, ?_⟩
    rw [decide_eq_false (fun z => by cases z)]
    exact q _ G1 H1 (.refl b) (.bl _)
  · cases e
    intro x y G1 H1 a b hx hy Q q
    cases hx; cases hy
    refine ⟨rfl, ?_⟩
    rw [decide_eq_false (fun z => by cases z)]
    exact q _ G1 H1 (.refl b) (.bl _)
  · cases e
    intro x y G1 H1 a b hx hy Q q
    cases hx; cases hy
    refine ⟨rfl, ?_⟩
    rw [decide_eq_false (fun z => by cases z)]
    exact q _ G1 H1 (.refl b) (.bl _)
  · cases e
def oNotN (x y : D) : Option D := match y with
  | .none => some (.bool (!isNoneD x))
  | _ => none
theorem os_notN : OpS (fun x y H Q => y = .non ∧ Q (.bl (!decide (x = .non))) H) oNotN := fun x y z e G => by
  unfold oNotN at e
  split at e
  · cases e; exact opd_notN
  · cases e
def oCatT (x y : D) : Option D := match x, y with
  | .tuple as, .tuple bs => if small (as.length + bs.length) = true then some (.tuple (as ++ bs)) else none
  | _, _ => none
def oCat (x y : D) : Option D := match x, y with
  | .list as, .list bs => if small (as.length + bs.length) = true then some (.list (as ++ bs)) else none
  | _, _ => none
theorem os_catT : OpS (rCatA K) oCatT := fun x y z e G => by
  unfold oCatT at e
  split at e
  · split at e
    · rename_i h; cases e; exact opd_catT (small_line h)
    · cases e
  · cases e
theorem os_cat : OpS rCat oCat := fun x y z e G => by
  unfold oCat at e
  split at e
  · split at e
    · rename_i h; cases e; exact opd_cat (small_line h)
    · cases e
  · cases e
def oRepT (x y : D) : Option D := match x, y with
  | .tuple as, .int k => if (!as.isEmpty && decide (1 ≤ k) && decide (k ≤ 1000) && Nat.ble as.length 1000) = true then some (.tuple (List.replicate k.toNat as).flatten) else none
  | _, _ => none
theorem os_repT : OpS (rRepA K) oRepT := fun x y z e G => by
  unfold oRepT at e
  split at e
  · rename_i as k
    split at e
    · rename_i h
      simp only [Bool.and_eq_true, decide_eq_true_eq, Bool.not_eq_true', Nat.ble_eq] at h
      cases e
      have ek : ((k.toNat : Nat) : Int) = k := Int.toNat_of_nonneg (by omega)
      have := opd_rep (K := K) (G := G) (as := as) (k := k.toNat) (fun z => by rw [z] at h; simp at h) (by omega) (by omega) h.2
      rw [ek] at this
      exact this
    · cases e
  · cases e
def fine (d : D) : Bool := flatD d && SeqAt.shaped d
def oEq (x y : D) : Option D := if (fine x && fine y) = true then some (.bool (PyData.eqv x y)) else none
def oNe (x y : D) : Option D := if (fine x && fine y) = true then some (.bool (!PyData.eqv x y)) else none
theorem fine_both {x y : D} (h : (fine x && fine y) = true) : (flatD x = true ∧ SeqAt.shaped x = true) ∧ flatD y = true ∧ SeqAt.shaped y = true := by
  simpa [fine] using h
theorem os_eq : OpS (rEqD K) oEq := fun x y z e G => by
  unfold oEq at e
  split at e
  · rename_i h
    obtain ⟨⟨a, b⟩, c, d⟩ := fine_both h
    cases e; exact opd_eq a c b d
  · cases e
theorem os_ne : OpS (rNeD K) oNe := fun x y z e G => by
  unfold oNe at e
  split at e
  · rename_i h
    obtain ⟨⟨a, b⟩, c, d⟩ := fine_both h
    cases e; exact opd_ne a c b d
  · cases e
def oIn (neg : Bool) (x y : D) : Option D := if (fine x && fine y) = true then (match y with
  | .list ds => some (.bool (if neg then !ds.any fun z => PyData.eqv z x else ds.any fun z => PyData.eqv z x))
  | .tuple ds => some (.bool (if neg then !ds.any fun z => PyData.eqv z x else ds.any fun z => PyData.eqv z x))
  | _ => none) else none
theorem os_in {neg : Bool} : OpS (rInA K neg) (oIn neg) := fun x y z e G => by
  unfold oIn at e
  split at e
  · rename_i h
    obtain ⟨⟨a, b⟩, c, d⟩ := fine_both h
    split at e
    · cases e; exact opd_inL a c b d
    · cases e; exact opd_inT a c b d
    · cases e
  · cases e
def intsOf : List D → Option (List Int)
  | [] => some []
  | .int i :: ds => match intsOf ds with
    | some is => some (i :: is)
    | none => none
  | _ :: _ => none
theorem ints_of : ∀ {ds : List D} {is : List Int}, intsOf ds = some is → ds = is.map PyData.int
  | [], is, h => by cases h; rfl
  | .int i :: ds, is, h => by
    unfold intsOf at h
    cases e : intsOf ds with
    | none => rw [e] at h; cases h
    | some js => rw [e] at h; cases h; rw [List.map_cons, ← ints_of e]
  | .none :: _, _, h => by cases h
  | .bool _ :: _, _, h => by cases h
  | .str _ :: _, _, h => by cases h
  | .list _ :: _, _, h => by cases h
  | .tuple _ :: _, _, h => by cases h
  | .dict _ :: _, _, h => by cases h
theorem of_ints : ∀ is : List Int, intsOf (is.map PyData.int) = some is
  | [] => rfl
  | i :: is => by rw [List.map_cons, intsOf, of_ints is]
def oLtT (x y : D) : Option D := match x, y with
  | .tuple as, .tuple bs => match intsOf as, intsOf bs with
    | some is, some js => some (.bool (HT.lexLt is js))
    | _, _ => none
  | _, _ => none
def oLeT (x y : D) : Option D := match x, y with
  | .tuple as, .tuple bs => match intsOf as, intsOf bs with
    | some is, some js => some (.bool (leR is js))
    | _, _ => none
  | _, _ => none
theorem os_ltT : OpS (rLtT K) oLtT := fun x y z e G => by
  unfold oLtT at e
  split at e
  · split at e
    · rename_i h1 h2
      cases e
      rw [ints_of h1, ints_of h2]
      exact opd_ltT
    · cases e
  · cases e
theorem opd_leT {G : Hp} {a b : List Int} : OpD (rLeT K) G (dI a) (dI b) (.bool (leR a b)) := fun x y G1 H1 u w hx hy Q q => by
  cases hx with
  | tup hp hxs =>
    cases hy with
    | tup hp2 hys =>
      have e1 := hxs.ints
      have e2 := hys.ints
      subst e1 e2
      refine ⟨_, _, a, b, rfl, rfl, TupA.sq (TupA.mono hp w), TupA.sq (TupA.mono hp2 w), ?_⟩
      rw [lexAt_le]
      exact q _ G1 H1 (.refl w) (.bl _)
theorem os_leT : OpS (rLeT K) oLeT := fun x y z e G => by
  unfold oLeT at e
  split at e
  · split at e
    · rename_i h1 h2
      cases e
      rw [ints_of h1, ints_of h2]
      exact opd_leT
    · cases e
  · cases e
def ixD (as : List D) (i : Int) : Option D := if 0 ≤ i then as[i.toNat]? else if -(as.length : Int) ≤ i then as[(i + as.length).toNat]? else none
theorem ix_at {G : Hp} {xs : List V} {as : List D} {i : Int} {z : D} (h : DqA G xs as) (e : ixD as i = some z) : ∃ v, atI xs i = some v ∧ Dq G v z := by
  unfold ixD at e
  unfold atI ixN
  by_cases h0 : 0 ≤ i
  · rw [if_pos h0] at e
    obtain ⟨v, hv, q⟩ := h.getD e
    have hl := (List.getElem?_eq_some_iff.mp hv).1
    rw [if_pos h0, if_pos (by omega)]
    exact ⟨v, hv, q⟩
  · rw [if_neg h0] at e
    by_cases h1 : -(as.length : Int) ≤ i
    · rw [if_pos h1] at e
      obtain ⟨v, hv, q⟩ := h.getD e
      rw [if_neg h0, if_pos (by rw [h.len]; exact h1), h.len]
      exact ⟨v, hv, q⟩
    · rw [if_neg h1] at e; cases e
def oIxT (x y : D) : Option D := match x, y with
  | .tuple as, .int i => ixD as i
  | _, _ => none
def oIxL (x y : D) : Option D := match x, y with
  | .list as, .int i => ixD as i
  | _, _ => none
theorem os_ixT : OpS (rIxT K) oIxT := fun x y z e G => by
  unfold oIxT at e
  split at e
  · intro x y G1 H1 a b hx hy Q q
    cases hx with
    | @tup p xs _ hp hxs =>
      cases hy
      obtain ⟨v, hv, hd⟩ := ix_at hxs e
      exact ⟨p, xs, _, v, rfl, rfl, TupA.sq (TupA.mono hp b), hv, q v G1 H1 (.refl b) hd⟩
  · cases e
theorem os_ixL : OpS (rIxL K) oIxL := fun x y z e G => by
  unfold oIxL at e
  split at e
  · intro x y G1 H1 a b hx hy Q q
    cases hx with
    | @lst p xs _ hp hxs =>
      cases hy
      obtain ⟨v, hv, hd⟩ := ix_at hxs e
      exact ⟨p, xs, _, v, rfl, rfl, SqL.of (b _ _ hp), hv, q v G1 H1 (.refl b) hd⟩
  · cases e
variable {E : XK} {ad : Str → Addr} {te : TE} {fe fl fh : En → Re} {tl th : TO}
def Sp2 (to : TO) (f : En → Option (Option Int)) : Prop := ∀ σ Γ G H, Rel G H σ Γ → ∀ o, f Γ = some o → ∀ Q : Option Int → Hp → Prop, (∀ G2 H2, Stp G H G2 H2 → Q o H2) → to σ H Q
def pNone (_ : En) : Option (Option Int) := some none
theorem p_none : Sp2 tNoPart pNone := fun σ Γ G H R r e Q q => by
  cases e
  exact q G H (.refl R.w)
def pSome (fe : En → Re) (Γ : En) : Option (Option Int) := match fe Γ with
  | some (.val (.int i)) => some (some i)
  | _ => none
theorem p_some (h : Se E ad te fe) : Sp2 (tPart te) (pSome fe) := fun σ Γ G H R r e Q q => by
  unfold pSome at e
  split at e
  · rename_i i e1
    cases e
    refine h σ Γ G H R _ e1 _ fun v G2 H2 s2 q2 => ?_
    cases q2
    exact ⟨i, rfl, q G2 H2 s2⟩
  · cases e
def fSl (k : Bool) (fe : En → Re) (fl fh : En → Option (Option Int)) (Γ : En) : Re := match fe Γ with
  | some (.val z) => match sqOf k z, fl Γ, fh Γ with
    | some ds, some l, some h => some (.val (sq k (cutD ds l h)))
    | _, _, _ => none
  | some (.exc x) => some (.exc x)
  | none => none
def rSlK (K : PySem.W.Frag) : Bool → V → Option Int → Option Int → Hp → VK → Prop
  | true => rSlL K
  | false => rSlA K
theorem slice_end {k : Bool} {G H : Hp} {v : V} {ds : List D} {lo hi : Option Int} {Q : VK} (w : Ex G H) (q : Dq G v (sq k ds)) (h : ∀ v G2 H2, Stp G H G2 H2 → Dq G2 v (sq k (cutD ds lo hi)) → Q v H2) : rSlK K k v lo hi H Q := by
  cases k with
  | true =>
    cases q with
    | @lst a xs _ ha hxs =>
      have e := hxs.len
      refine ⟨a, xs, rfl, SqL.of (w _ _ ha), fun p hp => ?_⟩
      have s5 := Stp.new (o := .lst (cutV xs lo hi)) w hp
      have key : DqA G (cutV xs lo hi) (cutD ds lo hi) := by
        unfold cutV cutD
        rw [e]
        exact (hxs.drop _).take _
      exact h _ _ _ s5 (.lst upd_same (key.mono s5.g))
  | false =>
    cases q with
    | @tup a xs _ ha hxs =>
      have e := hxs.len
      refine ⟨a, xs, rfl, TupA.sq (TupA.mono ha w), fun ⟨c1, c2⟩ => ?_, fun _ p o hp od => ?_⟩
      · have z : cutD ds lo hi = ds := by
          unfold cutD
          rw [← e, c1, c2, Nat.sub_zero, List.drop_zero, e, List.take_length]
        rw [z] at h
        exact h _ G H (.refl w) (.tup ha hxs)
      · have s5 := Stp.new (o := tupO o (cutV xs lo hi)) w hp
        have key : DqA G (cutV xs lo hi) (cutD ds lo hi) := by
          unfold cutV cutD
          rw [e]
          exact (hxs.drop _).take _
        exact h _ _ _ s5 (.tup (.new od) (key.mono s5.g))
theorem u_sl {k : Bool} {fl fh : En → Option (Option Int)} (he : Se E ad te fe) (hl : Sp2 tl fl) (hh : Sp2 th fh) : Se E ad (tSl (rSlK K k) te tl th) (fSl k fe fl fh) := fun σ Γ G H R r e Q q => by
  unfold fSl at e
  split at e
  · rename_i z e1
    split at e
    · rename_i ds l h e2 e3 e4
      have ez := sq_of e2
      subst ez
      cases e
      refine he σ Γ G H R _ e1 _ fun v G2 H2 s2 q2 => ?_
      refine hl σ Γ G2 H2 (R.stp s2) _ e3 _ fun G3 H3 s3 => ?_
      refine hh σ Γ G3 H3 ((R.stp s2).stp s3) _ e4 _ fun G4 H4 s4 => ?_
      exact slice_end s4.w (q2.mono (s3.g.trans s4.g)) fun v5 G5 H5 s5 q5 => q v5 G5 H5 (((s2.trans s3).trans s4).trans s5) q5
    · cases e
  · rename_i x e1
    cases e
    exact he σ Γ G H R _ e1 _ q
  · cases e
variable {ta tb : TE} {fa fb : En → Re} {tas : TA} {fas : En → Ra}
def oLen (ds : List D) : Option D := match ds with
  | [.list as] => some (.int as.length)
  | [.tuple as] => some (.int as.length)
  | _ => none
theorem cs_len : CaS (rLenA K) oLen := fun ds z e G => by
  unfold oLen at e
  split at e
  · cases e; exact cad_lenL
  · cases e; exact cad_lenT
  · cases e
def boolsOf : List D → Option (List Bool)
  | [] => some []
  | .bool i :: ds => match boolsOf ds with
    | some is => some (i :: is)
    | none => none
  | _ :: _ => none
theorem bools_of : ∀ {ds : List D} {is : List Bool}, boolsOf ds = some is → ds = is.map PyData.bool
  | [], is, h => by cases h; rfl
  | .bool i :: ds, is, h => by
    unfold boolsOf at h
    cases e : boolsOf ds with
    | none => rw [e] at h; cases h
    | some js => rw [e] at h; cases h; rw [List.map_cons, ← bools_of e]
  | .none :: _, _, h => by cases h
  | .int _ :: _, _, h => by cases h
  | .str _ :: _, _, h => by cases h
  | .list _ :: _, _, h => by cases h
  | .tuple _ :: _, _, h => by cases h
  | .dict _ :: _, _, h => by cases h
theorem of_bools : ∀ is : List Bool, boolsOf (is.map PyData.bool) = some is
  | [] => rfl
  | i :: is => by rw [List.map_cons, boolsOf, of_bools is]
def oAll (ds : List D) : Option D := match ds with
  | [.list as] => match boolsOf as with
    | some bs => some (.bool (bs.all id))
    | none => none
  | _ => none
theorem cs_all : CaS (rAll K) oAll := fun ds z e G => by
  unfold oAll at e
  split at e
  · split at e
    · rename_i h
      cases e
      rw [bools_of h]
      exact cad_all
    · cases e
  · cases e
def oTuple (ds : List D) : Option D := match ds with
  | [.list as] => some (.tuple as)
  | [.tuple as] => some (.tuple as)
  | _ => none
theorem cs_tuple : CaS (rTupOf K) oTuple := fun ds z e G => by
  unfold oTuple at e
  split at e
  · cases e; exact cad_tuple
  · cases e
    intro vs G1 H1 x w h Q q
    cases h with
    | cons h k =>
      cases k
      cases h with
      | @tup p xs _ hp hx => exact ⟨_, _, rfl, .inr ⟨TupA.sq (TupA.mono hp w), q _ G1 H1 (.refl w) (.tup hp hx)⟩⟩
  · cases e
def oInt (ds : List D) : Option D := match ds with
  | [.int i] => some (.int i)
  | _ => none
theorem cs_int : CaS (fun xs H Q => (∃ i, xs = [.int i] ∧ Q (.int i) H) ∨ ∃ k, xs = [.bl k] ∧ Q (.int (if k then 1 else 0)) H) oInt := fun ds z e G => by
  unfold oInt at e
  split at e
  · cases e; exact cad_int1
  · cases e
def oMin2 (ds : List D) : Option D := match ds with
  | [.int i, .int j] => some (.int (if j < i then j else i))
  | _ => none
theorem cs_min2 : CaS (fun xs H Q => ∃ i j, xs = [.int i, .int j] ∧ Q (.int (if j < i then j else i)) H) oMin2 := fun ds z e G => by
  unfold oMin2 at e
  split at e
  · cases e; exact cad_min2
  · cases e
def insD (a : D) : List D → List D
  | [] => [a]
  | b :: l => if ordD a b = true then a :: b :: l else b :: insD a l
def isortD : List D → List D
  | [] => []
  | a :: l => insD a (isortD l)
theorem ins_mid (a : D) (l2 : List D) (h2 : ∀ b ∈ l2, ordD a b = true) : ∀ l1 : List D, (∀ b ∈ l1, (!ordD a b) = true) → insD a (l1 ++ l2) = l1 ++ a :: l2
  | [], _ => by
    cases l2 with
    | nil => rfl
    | cons b l => show (if ordD a b = true then _ else _) = _; rw [if_pos (h2 b (List.mem_cons_self ..))]; rfl
  | b :: l1, h1 => by
    have hb := h1 b (List.mem_cons_self ..)
    show (if ordD a b = true then _ else _) = _
    rw [if_neg (by simpa using hb)]
    exact congrArg (b :: ·) (ins_mid a l2 h2 l1 (fun c hc => h1 c (List.mem_cons_of_mem _ hc)))
theorem isortD_eq : ∀ ds : List D, sortD ds = isortD ds
  | [] => by unfold sortD isortD; exact List.mergeSort_nil
  | a :: l => by
    have tr : ∀ a b c : D, ordD a b = true → ordD b c = true → ordD a c = true := fun a b c => ord_total.trans a b c
    have to : ∀ a b : D, (ordD a b || ordD b a) = true := fun a b => by
      rcases ord_total.total a b with h | h
      · rw [h]; rfl
      · rw [h, Bool.or_true]
    obtain ⟨l1, l2, e1, e2, h1⟩ := List.mergeSort_cons (le := ordD) tr to a l
    have so := List.pairwise_mergeSort (le := ordD) tr to (a :: l)
    show (a :: l).mergeSort ordD = insD a (isortD l)
    rw [← isortD_eq l]
    show _ = insD a (l.mergeSort ordD)
    rw [e2, e1]
    refine (ins_mid a l2 (fun b hb => ?_) l1 h1).symm
    rw [e1] at so
    have := (List.pairwise_append.mp so).2.1
    exact (List.pairwise_cons.mp this).1 b hb
def isTupC : D → Bool
  | .tuple (_ :: _) => true
  | _ => false
def noTupN : D → Bool
  | .tuple _ => false
  | .none => false
  | _ => true
def sortable (ds : List D) : Bool := flatDs ds && (ds.all fun d => ds.all fun e => PySem.W.alike d e) && (ds.all isTupC || ds.all noTupN) && ds.all fun d => Nat.ble d.depth 60
theorem sortable_ok {ds : List D} (h : sortable ds = true) : SortOk ds := by
  simp only [sortable, Bool.and_eq_true, Bool.or_eq_true, List.all_eq_true] at h
  obtain ⟨⟨⟨h1, h2⟩, h3⟩, h4⟩ := (h)
  refine ⟨h1, fun d hd d' hd' => h2 d hd d' hd', ?_, fun d hd => Nat.le_of_ble_eq_true (h4 d hd)⟩
  rcases h3 with h | h
  · refine .inl fun d hd => ?_
    have := h d hd
    unfold isTupC at this
    split at this
    · exact ⟨_, _, rfl⟩
    · cases this
  · refine .inr fun d hd => ?_
    have := h d hd
    unfold noTupN at this
    constructor
    · rintro rfl; simp at this
    · rintro xs rfl; simp at this
def oSorted (ds : List D) : Option D := match ds with
  | [.list as] => if sortable as = true then some (.list (isortD as)) else none
  | [.tuple as] => if sortable as = true then some (.list (isortD as)) else none
  | _ => none
theorem cs_sorted : CaS (rSortD K) oSorted := fun ds z e G => by
  unfold oSorted at e
  split at e
  · split at e
    · rename_i h; cases e; rw [← isortD_eq]; exact cad_sortL (sortable_ok h)
    · cases e
  · split at e
    · rename_i h; cases e; rw [← isortD_eq]; exact cad_sortT (sortable_ok h)
    · cases e
  · cases e
def fIsi (c : String) (fe : En → Re) (Γ : En) : Re := match fe Γ with
  | some (.val d) => some (.val (.bool (isD d c)))
  | some (.exc x) => some (.exc x)
  | none => none
theorem u_isi {c : String} (hc : c ∈ ["bool", "int", "list", "tuple", "dict"]) (h : Se E ad te fe) : Se E ad (tCB (rIsiY K) (tCons te (tCons (tC (.ty c)) tNil))) (fIsi c fe) := fun σ Γ G H R r e Q q => by
  unfold fIsi at e
  split at e
  · rename_i d e1
    cases e
    exact h σ Γ G H R _ e1 _ fun v G2 H2 s2 hv => ⟨v, .ty c, .type (tyD d), .type c, isD d c, rfl, .ty c, tyX_of s2.w hv, kit_ty (kit_of_D d hc), q _ G2 H2 s2 (.bl _)⟩
  · rename_i x e1
    cases e
    exact h σ Γ G H R _ e1 _ q
  · cases e
end
end Mv
namespace Mv
open PySem L2 Evl
def guardN (k : Nat) (g : List D → Re) (ds : List D) : Re := if Nat.beq ds.length k = true then g ds else none
theorem guard_len {k : Nat} {g : List D → Re} {ds : List D} {r : Ou} (h : guardN k g ds = some r) : ds.length = k := by
  unfold guardN at h
  split at h
  · rename_i q; exact Nat.eq_of_beq_eq_true q
  · cases h
theorem guard_get {k : Nat} {g : List D → Re} {ds : List D} {r : Ou} (h : guardN k g ds = some r) : g ds = some r := by
  unfold guardN at h
  split at h
  · exact h
  · cases h
def isLstAt (i : Nat) (ds : List D) : Bool := match ds[i]? with
  | some (.list _) => true
  | _ => false
section
variable {E : XK} {ad : Str → Addr} {K : PySem.W.Frag} {G H : Hp} {ts : TS} {fs : En → Rf} {te : TE} {fe : En → Re} {tas : TA} {fas : En → Ra} {P : Program} {w : World}
theorem body_start {N : List Str} {k : Nat} {vs : List V} {ds : List D} {r : Ou} {n : Nat} {Q : VK} (hN : N.length = k + n) (hl : vs.length = k) (hs : Ss E ad ts fs) (w : Ex G H) (h : DqA G vs ds) (e : bodyD fs n ds = some r) (q : PoE E ad G H Q r) :
    ts { nx := fun _ H' => Q .non H', rt := Q } (L2.start N vs) H := by
  unfold L2.start
  have : N.length - vs.length = n := by omega
  rw [this]
  exact body_ok hs w h e q
def noEx (r : Re) : Re := match r with
  | some (.val d) => some (.val d)
  | _ => none
def fCall0 (g : List D → Re) (fas : En → Ra) (Γ : En) : Re := bndA (fas Γ) fun ds => noEx (g ds)
theorem u_call0 {E' : XK} {g : List D → Re} (h : Sa E ad tas fas) : Se E ad (tCall (SpF ad g) [] E' tas) (fCall0 g fas) := fun σ Γ G H R r e Q q => by
  rcases bndA_some e with ⟨ds, e1, e2⟩ | ⟨x, e1, rfl⟩
  · refine h σ Γ G H R _ e1 _ fun vs G2 H2 s2 q2 => ?_
    rw [List.append_nil]
    unfold noEx at e2
    split at e2
    · rename_i d e3
      cases e2
      exact ⟨G2, ds, _, s2.w, q2, e3, q.stp s2⟩
    · cases e2
  · exact h σ Γ G H R _ e1 _ q
def isLT : D → Bool
  | .list _ => true
  | .tuple _ => true
  | _ => false
def fIsiLT (fe : En → Re) (Γ : En) : Re := match fe Γ with
  | some (.val d) => some (.val (.bool (isLT d)))
  | some (.exc x) => some (.exc x)
  | none => none
theorem u_isiLT (h : Se E ad te fe) : Se E ad (tCB (rIsiTY K) (tCons te (tCons (tTup (tCons (tC (.ty "list")) (tCons (tC (.ty "tuple")) tNil))) tNil))) (fIsiLT fe) := fun σ Γ G H R r e Q q => by
  unfold fIsiLT at e
  split at e
  · rename_i d e1
    cases e
    refine h σ Γ G H R _ e1 _ fun v G2 H2 s hv => ⟨by show 2 ≤ sizeLine; decide, fun p o hp od => ?_⟩
    have s2 := Stp.new (o := tupO o [.ty "list", .ty "tuple"]) s.w hp
    have e1 := kit_ty (K := K) (kit_of_D d (c := "list") (by decide))
    have e : PySem.W.kitAny K (.type (tyD d)) [.type "list", .type "tuple"] = some (isLT d) := by
      unfold PySem.W.kitAny
      rw [e1]
      cases d <;> first | rfl | (simp only [tyD]; unfold PySem.W.kitAny; rw [kit_ty (by decide +kernel)] <;> rfl)
    exact ⟨v, p, _, .type (tyD d), _, isLT d, rfl, sqO upd_same, .cons (.ty _) (.cons (.ty _) .nil), tyX_of s2.w (hv.mono s2.g), e, q _ _ _ (s.trans s2) (.bl _)⟩
  · rename_i x e1
    cases e
    exact h σ Γ G H R _ e1 _ q
  · cases e
def rowsOf : List D → Option (List (List Int))
  | [] => some []
  | .tuple xs :: ds => match intsOf xs, rowsOf ds with
    | some x, some l => some (x :: l)
    | _, _ => none
  | _ :: _ => none
theorem rows_of : ∀ {ds : List D} {l : List (List Int)}, rowsOf ds = some l → ds = l.map dI
  | [], l, h => by cases h; rfl
  | .tuple xs :: ds, l, h => by
    unfold rowsOf at h
    split at h
    · rename_i h1 h2
      cases h
      rw [List.map_cons, ← rows_of h2, ints_of h1]; rfl
    · cases h
  | .none :: _, _, h => by cases h
  | .bool _ :: _, _, h => by cases h
  | .int _ :: _, _, h => by cases h
  | .str _ :: _, _, h => by cases h
  | .list _ :: _, _, h => by cases h
  | .dict _ :: _, _, h => by cases h
def dedup : List (List Int) → List (List Int)
  | [] => []
  | x :: l => if l.any (fun y => y == x) = true then dedup l else x :: dedup l
theorem dedup_mem {x : List Int} : ∀ {l : List (List Int)}, x ∈ dedup l ↔ x ∈ l
  | [] => Iff.rfl
  | y :: l => by
    unfold dedup
    by_cases h : (l.any fun z => z == y) = true
    · rw [if_pos h, dedup_mem (l := l)]
      refine ⟨fun q => List.mem_cons_of_mem _ q, fun q => ?_⟩
      rcases List.mem_cons.mp q with rfl | q
      · obtain ⟨z, hz, e⟩ := List.any_eq_true.mp h
        rw [← eq_of_beq e]; exact hz
      · exact q
    · rw [if_neg h, List.mem_cons, List.mem_cons, dedup_mem (l := l)]
theorem dedup_nodup : ∀ l : List (List Int), (dedup l).Nodup
  | [] => List.nodup_nil
  | y :: l => by
    unfold dedup
    by_cases h : (l.any fun z => z == y) = true
    · rw [if_pos h]; exact dedup_nodup l
    · rw [if_neg h, List.nodup_cons]
      refine ⟨fun q => h ?_, dedup_nodup l⟩
      exact List.any_eq_true.mpr ⟨y, dedup_mem.mp q, beq_self_eq_true y⟩
def fLenSet (fe : En → Re) (Γ : En) : Re := match fe Γ with
  | some (.val (.list ds)) => match rowsOf ds with
    | some l => if Nat.blt l.length 64 = true then some (.val (.int (dedup l).length)) else none
    | none => none
  | some (.exc x) => some (.exc x)
  | _ => none
theorem u_lenset (h : Se E ad te fe) : Se E ad (tCB (rLenST K P w) (tCons (tCB (rSetOfT K P w) (tCons te tNil)) tNil)) (fLenSet fe) := fun σ Γ G H R r e Q q => by
  unfold fLenSet at e
  split at e
  · rename_i ds e1
    split at e
    · rename_i l e2
      split at e
      · rename_i hl
        cases e
        have el := rows_of e2
        subst el
        refine h σ Γ G H R _ e1 _ fun v G2 H2 s2 q2 => ?_
        have ev : EvD (fun (_ : L2.St) (H : Hp) (Q : VK) => Q v H) σ G2 (.list (l.map fun p => PyData.tuple (p.map PyData.int))) := fun G3 H3 x3 w3 Q3 k3 => k3 v G3 H3 (.refl w3) (q2.mono x3)
        exact d_lenset (K := K) (P := P) (w := w) ev (Nat.lt_of_succ_le (Nat.le_of_ble_eq_true hl)) _ (fun M nd s1 s3 => by
          have p1 := nodup_len nd (fun x hx => dedup_mem.mpr (s1 x hx))
          have p2 := nodup_len (dedup_nodup l) (fun x hx => s3 x (dedup_mem.mp hx))
          congr 1; omega) G2 H2 (.refl _) s2.w Q (q.stp s2)
      · cases e
    · cases e
  · rename_i x e1
    cases e
    exact h σ Γ G H R _ e1 _ q
  · cases e
end
end Mv
namespace Mv
open PySem PySem.Spec PyProof.Rows L2 Evl
section
variable {P : Program} {w : World}
variable {A : Around} {E : Value → Shared → Prop} {s : Shared}
end
section
variable {X : Cx}
end
section
variable {K : PySem.W.Frag} {P : Program} {w : World} {σ : L2.St} {G : Hp} {te : TE}
variable {E : XK} {ad : Str → Addr} {fe : En → Re}
end
end Mv
namespace Mv
open PySem L2 Evl
theorem add_take : ∀ {n a b : List Int}, InP a n → InP b n → addP n a (takeP n b a) = b
  | _, _, _, .nil, .nil => rfl
  | s :: n, x :: a, y :: b, .cons _ _ ha, .cons h1 h2 hb => by
    show ((x + (y - x) % s) % s) :: addP n a (takeP n b a) = _
    rw [add_take ha hb, Int.add_emod_emod]
    have e : x + (y - x) = y := by omega
    rw [e, Int.emod_eq_of_lt h1 h2]
theorem add_take_add : ∀ {n a b e : List Int}, InP a n → InP b n → addP n a (addP n (takeP n b a) e) = addP n b e
  | _, _, _, _, .nil, .nil => rfl
  | s :: n, x :: a, y :: b, [], _, _ => rfl
  | s :: n, x :: a, y :: b, z :: e, .cons _ _ ha, .cons h1 h2 hb => by
    show ((x + ((y - x) % s + z) % s) % s) :: addP n a (addP n (takeP n b a) e) = ((y + z) % s) :: addP n b e
    have q1 : x + ((y - x) % s + z) = (y - x) % s + (x + z) := by omega
    rw [add_take_add ha hb, Int.add_emod_emod, q1, Int.emod_add_emod]
    have q : y - x + (x + z) = y + z := by omega
    rw [q]
theorem add_swap : ∀ (n z x y : List Int), addP n (addP n z x) y = addP n (addP n z y) x
  | [], _, _, _ => rfl
  | s :: n, [], [], [] => rfl
  | s :: n, [], [], _ :: _ => rfl
  | s :: n, [], _ :: _, [] => rfl
  | s :: n, [], _ :: _, _ :: _ => rfl
  | s :: n, _ :: _, [], [] => rfl
  | s :: n, _ :: _, [], _ :: _ => rfl
  | s :: n, _ :: _, _ :: _, [] => rfl
  | s :: n, u :: z, a :: x, b :: y => by
    show (((u + a) % s + b) % s) :: addP n (addP n z x) y = (((u + b) % s + a) % s) :: addP n (addP n z y) x
    rw [add_swap n z x y, Int.emod_add_emod, Int.emod_add_emod]
    have q : u + a + b = u + b + a := by omega
    rw [q]
theorem addUp_perm {n : List Int} {L M : Rows} (h : L.Perm M) : addUp n L = addUp n M := by
  unfold addUp
  exact h.foldl_eq' (fun x _ y _ z => add_swap n z x y) _
def ledBy (n : List Int) (P B : Rows) : Rows := (P.zip B).map fun q => takeP n q.2 q.1
def DealOk (n : List Int) (M : Rows) : Prop := ∃ B : Rows, B.Perm (placesOf n) ∧ M = ledBy n (placesOf n) B
section
variable {n : List Int}
theorem perm_in (hn : n ∈ fewD) {B : Rows} (h : B.Perm (placesOf n)) : ∀ p ∈ B, InP p n := fun p hp => few_inP hn (h.mem_iff.mp hp)
theorem DealOk.ok (hn : n ∈ fewD) {M : Rows} (d : DealOk n M) : MovesOk n M := by
  obtain ⟨B, hB, rfl⟩ := d
  have okd := okB_ok (List.all_eq_true.mp few_ok n hn)
  refine ⟨fun p hp => ?_, by unfold ledBy; rw [List.length_map, List.length_zip, hB.length_eq, Nat.min_self]⟩
  obtain ⟨q, hq, rfl⟩ := (List.mem_map.mp hp)
  obtain ⟨h1, h2⟩ := List.of_mem_zip (a := q.1) (b := q.2) hq
  exact takeP_in (perm_in hn hB _ h2).len (few_inP hn h1).len fun s hs => by have := okd.sz s hs; omega
end
end Mv
namespace Mv
open PySem L2 Evl
theorem addP_comm : ∀ (n a b : List Int), addP n a b = addP n b a
  | [], _, _ => rfl
  | s :: n, [], [] => rfl
  | s :: n, [], _ :: _ => rfl
  | s :: n, _ :: _, [] => rfl
  | s :: n, x :: a, y :: b => by
    show (x + y) % s :: addP n a b = (y + x) % s :: addP n b a
    rw [addP_comm n a b, Int.add_comm]
theorem addP_cancel : ∀ {n a x y : List Int}, InP x n → InP y n → a.length = n.length → addP n a x = addP n a y → x = y
  | [], _, _, _, .nil, .nil, _, _ => rfl
  | s :: n, u :: a, x :: xs, y :: ys, .cons x0 x1 hx, .cons y0 y1 hy, hl, e => by
    have e' : (u + x) % s :: addP n a xs = (u + y) % s :: addP n a ys := e
    injection e' with e1 e2
    have h1 := addP_cancel hx hy (by simpa using hl) e2
    have h2 : (x - y) % s = 0 := by
      have : ((u + x) - (u + y)) % s = 0 := by rw [Int.sub_emod, e1, Int.sub_self, Int.zero_emod]
      have q : (u + x) - (u + y) = x - y := by omega
      rwa [q] at this
    have h3 : x = y := by
      obtain ⟨c, hc⟩ := Int.dvd_of_emod_eq_zero h2
      have : c = 0 := by
        rcases Int.lt_trichotomy c 0 with z | z | z
        · have := Int.mul_le_mul_of_nonneg_left (show c ≤ -1 by omega) (show 0 ≤ s by omega)
          omega
        · exact z
        · have := Int.mul_le_mul_of_nonneg_left (show 1 ≤ c by omega) (show 0 ≤ s by omega)
          omega
      rw [this, Int.mul_zero] at hc
      omega
    rw [h3, h1]
abbrev Bg := List (List Int × List Int)
def kI (p : List Int) : KK := p.map Sum.inl
theorem kD_kI (p : List Int) : kD (kI p) = dI p := by
  unfold kD kI dI
  rw [List.map_map]
  rfl
theorem kI_inj {p q : List Int} (h : kI p = kI q) : p = q := by
  have := congrArg kD h
  rw [kD_kI, kD_kI] at this
  have t : PyData.tuple (p.map PyData.int) = .tuple (q.map .int) := this
  injection t with t
  have same : ∀ {a b : List Int}, a.map PyData.int = b.map PyData.int → a = b := fun {a} => by
    induction a with
    | nil => intro b z; cases b with
      | nil => rfl
      | cons y b => simp at z
    | cons x a ih => intro b z; cases b with
      | nil => simp at z
      | cons y b =>
        rw [List.map_cons, List.map_cons] at z
        injection z with z1 z2
        injection z1 with z1
        rw [z1, ih z2]
  exact same t
def enc (B : Bg) : List (KK × D) := B.map fun q => (kI q.1, dI q.2)
def endB (n : List Int) (q : List Int × List Int) : List Int := addP n q.1 q.2
def atEnd (n : List Int) (B : Bg) (e : List Int) : Option (List Int × List Int) := B.find? fun q => decide (endB n q = e)
section
variable {n K : List Int} {S : Rows} {H : Bg} {t w m : List Int} {q : List Int × List Int}
structure BgOk (n : List Int) (H : Bg) : Prop where
  keys : (H.map (·.1)).Nodup
  inH : ∀ q ∈ H, InP q.1 n ∧ InP q.2 n
  ends : (H.map (endB n)).Nodup
structure Ps (n K : List Int) (S : Rows) (H : Bg) (t w m : List Int) : Prop where
  b : BgOk n H
  it : InP t n
  iw : InP w n
  im : InP m n
  ft : t ∉ H.map (·.1)
  fw : w ∉ H.map (·.1)
  seq : (S ++ [t, w]).Nodup
  inS : ∀ p ∈ S, InP p n
  chain : ∀ (i : Nat) (p mv : List Int), S[i]? = some p → (p, mv) ∈ H → ∃ r, (S ++ [t])[i + 1]? = some r ∧ addP n (addP n p mv) r = K
  key : addP n (addP n t m) w = K
theorem addP_inP {n a b : List Int} (h1 : InP a n) (h2 : InP b n) : InP (addP n a b) n := by
  have pos : ∀ {p n : List Int}, InP p n → ∀ s ∈ n, 0 < s := fun h => by
    induction h with
    | nil => intro s hs; cases hs
    | cons a b _ ih =>
      intro s hs
      rcases List.mem_cons.mp hs with e | e
      · rw [e]; omega
      · exact ih s e
  exact addP_in h1.len h2.len (pos h1)
theorem at_mem {B : Bg} {e : List Int} (h : atEnd n B e = some q) : q ∈ B ∧ endB n q = e :=
  ⟨List.mem_of_find?_eq_some h, by
    have z := List.find?_some (p := fun q => decide (endB n q = e)) h
    exact of_decide_eq_true z⟩
theorem end_one {B : Bg} (hk : (B.map (endB n)).Nodup) {x y : List Int × List Int} (hx : x ∈ B) (hy : y ∈ B) (e : endB n x = endB n y) : x = y := by
  induction B with
  | nil => cases hx
  | cons b B ih =>
    rw [List.map_cons, List.nodup_cons] at hk
    rcases List.mem_cons.mp hx with ex | ex <;> rcases List.mem_cons.mp hy with ey | ey
    · rw [ex, ey]
    · exact (hk.1 (List.mem_map.mpr ⟨y, ey, by rw [← e, ex]⟩)).elim
    · exact (hk.1 (List.mem_map.mpr ⟨x, ex, by rw [e, ey]⟩)).elim
    · exact ih hk.2 ex ey
theorem mem_key {B : Bg} {x : List Int × List Int} (h : x ∈ B) : x.1 ∈ B.map (·.1) := List.mem_map.mpr ⟨x, h, rfl⟩
theorem drop_snoc {l : List Int} (h : t ≠ l) : ((H ++ [(t, m)]).filter fun x => decide (x.1 ≠ l)) = (H.filter fun x => decide (x.1 ≠ l)) ++ [(t, m)] := by
  rw [List.filter_append, List.filter_cons_of_pos (by simpa using h)]
  rfl
theorem BgOk.filter (b : BgOk n H) (p : List Int × List Int → Bool) : BgOk n (H.filter p) :=
  ⟨b.keys.sublist ((List.filter_sublist (p := p)).map _), fun q hq => b.inH q ((List.mem_filter.mp hq).1), b.ends.sublist ((List.filter_sublist (p := p)).map _)⟩
theorem BgOk.snoc (b : BgOk n H) (hp : InP t n) (hm : InP m n) (ft : t ∉ H.map (·.1)) (fe : addP n t m ∉ H.map (endB n)) : BgOk n (H ++ [(t, m)]) := by
  refine ⟨?_, fun q hq => ?_, ?_⟩
  · (rw [List.map_append, List.nodup_append])
    refine ⟨b.keys, by simp, fun x hx y hy e => ?_⟩
    simp at hy
    rw [e, hy] at hx
    exact ft hx
  · rcases List.mem_append.mp hq with h | h
    · exact b.inH q h
    · simp at h; rw [h]; exact ⟨hp, hm⟩
  · (rw [List.map_append, List.nodup_append])
    refine ⟨b.ends, by simp, fun x hx y hy e => ?_⟩
    simp at hy
    rw [e, hy] at hx
    exact fe hx
theorem Ps.loser (p : Ps n K S H t w m) (h : atEnd n H (addP n t m) = some q) : q.1 ≠ t ∧ q.1 ≠ w ∧ q.1 ∉ S := by
  obtain ⟨hm, he⟩ := at_mem h
  refine ⟨fun z => p.ft (z ▸ mem_key hm), fun z => p.fw (z ▸ mem_key hm), fun z => ?_⟩
  obtain ⟨i, hi⟩ := List.mem_iff_getElem?.mp z
  obtain ⟨r, hr, hk⟩ := p.chain i q.1 q.2 hi hm
  have lt : i + 1 < (S ++ [t]).length := (List.getElem?_eq_some_iff.mp hr).1
  have hr2 : r ∈ S ++ [t] := List.mem_of_getElem? hr
  have ri : InP r n := by
    rcases List.mem_append.mp hr2 with h | h
    · exact p.inS r h
    · simp at h; rw [h]; exact p.it
  have e : r = w := by
    refine addP_cancel ri p.iw (addP_inP p.it p.im).len ?_
    have he' : addP n q.1 q.2 = addP n t m := he
    rw [he'] at hk
    rw [hk, p.key]
  have sq := p.seq
  have e2 : S ++ [t, w] = (S ++ [t]) ++ [w] := by simp
  rw [e2, List.nodup_append] at sq
  exact sq.2.2 r hr2 w (by simp) e
theorem Ps.next (p : Ps n K S H t w m) (h : atEnd n H (addP n t m) = some q) : Ps n K (S ++ [t]) ((H ++ [(t, m)]).filter fun x => decide (x.1 ≠ q.1)) w q.1 q.2 := by
  obtain ⟨hm, he⟩ := at_mem h
  obtain ⟨n1, n2, n3⟩ := p.loser h
  have he' : addP n q.1 q.2 = addP n t m := he
  rw [drop_snoc (Ne.symm n1)]
  have fe : addP n t m ∉ (H.filter fun x => decide (x.1 ≠ q.1)).map (endB n) := fun z => by
    obtain ⟨x, hx, hq⟩ := List.mem_map.mp z
    have h1 := List.mem_filter.mp hx
    have := end_one p.b.ends h1.1 hm (hq.trans he.symm)
    have h2 := of_decide_eq_true h1.2
    exact h2 (by rw [this])
  have ft : t ∉ (H.filter fun x => decide (x.1 ≠ q.1)).map (·.1) := fun z => by
    obtain ⟨x, hx, hq⟩ := List.mem_map.mp z
    exact p.ft (hq ▸ mem_key ((List.mem_filter.mp hx).1))
  have i2 := p.b.inH q hm
  have sq := p.seq
  have e2 : S ++ [t, w] = (S ++ [t]) ++ [w] := by simp
  rw [e2, List.nodup_append] at sq
  refine ⟨(p.b.filter _).snoc p.it p.im ft fe, p.iw, i2.1, i2.2, fun z => ?_, fun z => ?_, ?_, fun x hx => ?_, fun i x mv hi hx => ?_, ?_⟩
  · rw [List.map_append, List.mem_append] at z
    rcases z with z | z
    · obtain ⟨x, hx, hq⟩ := List.mem_map.mp z
      exact p.fw (hq ▸ mem_key ((List.mem_filter.mp hx).1))
    · simp at z
      exact sq.2.2 t (by simp) w (by simp) z.symm
  · rw [List.map_append, List.mem_append] at z
    rcases z with z | z
    · obtain ⟨x, hx, hq⟩ := List.mem_map.mp z
      exact of_decide_eq_true (List.mem_filter.mp hx).2 hq
    · simp at z; exact n1 z
  · have e3 : S ++ [t] ++ [w, q.1] = ((S ++ [t]) ++ [w]) ++ [q.1] := by simp
    rw [e3, List.nodup_append]
    refine ⟨List.nodup_append.mpr sq, by simp, fun x hx y hy e => ?_⟩
    simp at hy
    rw [e, hy] at hx
    simp at hx
    rcases hx with z | z | z
    · exact n3 z
    · exact n1 z
    · exact n2 z
  · rcases List.mem_append.mp hx with h | h
    · exact p.inS x h
    · simp at h; rw [h]; exact p.it
  · by_cases hl : i < S.length
    · rw [List.getElem?_append_left hl] at hi
      have hx2 : (x, mv) ∈ H := by
        rcases List.mem_append.mp hx with h | h
        · exact (List.mem_filter.mp h).1
        · simp at h
          have sq1 := sq.1
          rw [List.nodup_append] at sq1
          exact (sq1.2.2 x (List.mem_of_getElem? hi) t (by simp) h.1).elim
      obtain ⟨r, hr, hk⟩ := p.chain i x mv hi hx2
      exact ⟨r, by rw [List.getElem?_append_left (List.getElem?_eq_some_iff.mp hr).1]; exact hr, hk⟩
    · have hlen : i < (S ++ [t]).length := (List.getElem?_eq_some_iff.mp hi).1
      rw [List.length_append] at hlen
      have ei : i = S.length := by simp at hlen; omega
      subst ei
      rw [List.getElem?_append_right (Nat.le_refl _)] at hi
      simp at hi
      subst hi
      have ex : mv = m := by
        rcases List.mem_append.mp hx with h | h
        · exact (ft (List.mem_map.mpr ⟨_, h, rfl⟩)).elim
        · simp at h; exact h
      refine ⟨w, ?_, by rw [ex]; exact p.key⟩
      rw [List.getElem?_append_right (by simp)]
      simp
  · rw [add_swap, addP_comm n w q.1, add_swap, he']
    exact p.key
theorem Ps.few (hn : n ∈ fewD) (p : Ps n K S H t w m) : S.length + 2 ≤ (placesOf n).length := by
  have : (S ++ [t, w]).length ≤ (placesOf n).length := nodup_len p.seq fun x hx => by
    rcases List.mem_append.mp hx with h | h
    · exact (p.inS x h).mem
    · simp at h
      rcases h with h | h
      · rw [h]; exact p.it.mem
      · rw [h]; exact p.iw.mem
  simpa using this
end
end Mv
namespace Mv
open PySem L2 Evl
theorem Ps.start {n : List Int} {B : Bg} {t w m : List Int} (b : BgOk n B) (it : InP t n) (iw : InP w n) (im : InP m n) (ft : t ∉ B.map (·.1)) (fw : w ∉ B.map (·.1)) (ne : t ≠ w) : Ps n (addP n (addP n t m) w) [] B t w m :=
  { b := b, it := it, iw := iw, im := im, ft := ft, fw := fw, seq := by simp [ne], inS := fun _ h => (by cases h), chain := fun _ _ _ h => (by simp at h), key := rfl }
end Mv
namespace Mv
open PySem L2 Evl
theorem takeP_inP {n a b : List Int} (h1 : InP a n) (h2 : InP b n) : InP (takeP n a b) n := by
  have pos : ∀ {p n : List Int}, InP p n → ∀ s ∈ n, 0 < s := fun h => by
    induction h with
    | nil => intro s hs; cases hs
    | cons a b _ ih =>
      intro s hs
      rcases List.mem_cons.mp hs with e | e
      · rw [e]; omega
      · exact ih s e
  exact takeP_in h1.len h2.len (pos h1)
section
variable {n : List Int} {B : Bg}
end
end Mv
namespace Mv
open PySem L2 Evl
def keyI : D → Option L2.Key
  | .int i => some (.inl i)
  | .str s => some (.inr s)
  | _ => none
def keysI : List D → Option KK
  | [] => some []
  | d :: ds => match keyI d, keysI ds with
    | some k, some ks => some (k :: ks)
    | _, _ => none
def keyOf0 : D → Option KK
  | .tuple ds => keysI ds
  | _ => none
def keyOf : D → Option KK
  | .tuple (d :: ds) => keysI (d :: ds)
  | _ => none
theorem keyI_some {d : D} {k : L2.Key} (h : keyI d = some k) : d = keyD k := by
  cases d with
  | int i => cases h; rfl
  | str s => cases h; rfl
  | _ => cases h
theorem keysI_some : ∀ {ds : List D} {k : KK}, keysI ds = some k → ds = k.map keyD
  | [], k, h => by cases h; rfl
  | d :: ds, k, h => by
    unfold keysI at h
    split at h
    · rename_i k1 ks e1 e2
      cases h
      rw [keyI_some e1, keysI_some e2]; rfl
    · cases h
theorem keyOf0_some {d : D} {k : KK} (h : keyOf0 d = some k) : d = kD k := by
  cases d with
  | tuple ds => rw [keysI_some (show keysI ds = some k from h)]; rfl
  | _ => cases h
theorem keyOf_some {d : D} {k : KK} (h : keyOf d = some k) : d = kD k := by
  cases d with
  | tuple ds =>
    cases ds with
    | nil => cases h
    | cons d ds => rw [keysI_some (show keysI (d :: ds) = some k from h)]; rfl
  | _ => cases h
theorem keyOf_ne {d : D} {k : KK} (h : keyOf d = some k) : k ≠ [] := fun z => by
  have e := keyOf_some h
  subst z
  rw [e] at h
  cases h
def dctGo : List (D × D) → Option (List (KK × D))
  | [] => some []
  | e :: es => match keyOf0 e.1, dctGo es with
    | some k, some r => some ((k, e.2) :: r)
    | _, _ => none
def dctOf : D → Option (List (KK × D))
  | .dict ps => dctGo ps
  | _ => none
theorem dctGo_some : ∀ {ps : List (D × D)} {es : List (KK × D)}, dctGo ps = some es → ps = es.map fun e => (kD e.1, e.2)
  | [], es, h => by cases h; rfl
  | (a, b) :: ps, es, h => by
    unfold dctGo at h
    split at h
    · rename_i k r e1 e2
      cases h
      rw [dctGo_some e2]
      show (a, b) :: _ = (kD k, b) :: _
      rw [← keyOf0_some e1]
    · cases h
theorem dctOf_some {d : D} {es : List (KK × D)} (h : dctOf d = some es) : d = dctD es := by
  cases d with
  | dict ps => rw [dctGo_some (show dctGo ps = some es from h)]
  | _ => cases h
section
variable {E : XK} {ad : Str → Addr} {K : PySem.W.Frag} {G H G' H' : Hp} {te td ty tx ta tb : TE} {fe fd fy fx fa fb : En → Re}
def fDGet (fa fb : En → Re) (Γ : En) : Re := bnd (fa Γ) fun d => bnd (fb Γ) fun y => match dctOf d, keyOf0 y with
  | some es, some k => ret (lkD es k)
  | _, _ => none
theorem u_dget (ha : Se E ad td fd) (hb : Se E ad ty fy) : Se E ad (tDGet td ty) (fDGet fd fy) := fun σ Γ G H R r e Q q => by
  rcases bnd_some e with ⟨x, e1, e2⟩ | ⟨x, e1, rfl⟩
  · refine ha σ Γ G H R _ e1 _ fun v G2 H2 s2 q2 => ?_
    rcases bnd_some e2 with ⟨y, e3, e4⟩ | ⟨y, e3, rfl⟩
    · refine hb σ Γ G2 H2 (R.stp s2) _ e3 _ fun u G3 H3 s3 q3 => ?_
      split at e4
      · rename_i es k k1 k2
        obtain ⟨z, l, rfl⟩ := ret_some e4
        rw [dctOf_some k1] at q2
        rw [keyOf0_some k2] at q3
        obtain ⟨a, o, kvs, rfl, ha', hp⟩ := q2.dict
        obtain ⟨w, hw, hq, nk⟩ := hp.val l
        obtain ⟨b, rfl, hb'⟩ := q3.key nk
        exact ⟨a, w, rfl, .inr ⟨kvs, k, b, .inr ⟨o, s3.h _ _ (s2.w _ _ ha')⟩, rfl, s3.w _ _ hb', hw.symm⟩, q w G3 H3 (s2.trans s3) (hq.mono s3.g)⟩
      · cases e4
    · exact hb σ Γ G2 H2 (R.stp s2) _ e3 _ (q.stp s2)
  · exact ha σ Γ G H R _ e1 _ q
def fDIn (neg : Bool) (fy fd : En → Re) (Γ : En) : Re := bnd (fy Γ) fun y => bnd (fd Γ) fun d => match dctOf d, keyOf y with
  | some es, some k => some (.val (.bool (if neg then !(lkD es k).isSome else (lkD es k).isSome)))
  | _, _ => none
theorem u_din (hb : Se E ad ty fy) (ha : Se E ad td fd) : Se E ad (tDIn ty td) (fDIn false fy fd) := fun σ Γ G H R r e Q q => by
  rcases bnd_some e with ⟨y, e1, e2⟩ | ⟨y, e1, rfl⟩
  · refine hb σ Γ G H R _ e1 _ fun u G2 H2 s2 q2 => ?_
    rcases bnd_some e2 with ⟨x, e3, e4⟩ | ⟨x, e3, rfl⟩
    · refine ha σ Γ G2 H2 (R.stp s2) _ e3 _ fun v G3 H3 s3 q3 => ?_
      split at e4
      · rename_i es k k1 k2
        cases e4
        rw [dctOf_some k1] at q3
        rw [keyOf_some k2] at q2
        obtain ⟨a, o, kvs, rfl, ha', hp⟩ := q3.dict
        obtain ⟨b, rfl, hb'⟩ := q2.key (keyOf_ne k2)
        refine ⟨a, valV kvs k, rfl, .inr ⟨kvs, k, b, .inr ⟨o, s3.w _ _ ha'⟩, rfl, s3.h _ _ (s2.w _ _ hb'), rfl⟩, ?_⟩
        rw [hp.isv k]
        exact q _ G3 H3 (s2.trans s3) (.bl _)
      · cases e4
    · exact ha σ Γ G2 H2 (R.stp s2) _ e3 _ (q.stp s2)
  · exact hb σ Γ G H R _ e1 _ q
def iKy (fe : En → Re) (Γ : En) : Ra := match fe Γ with
  | some (.val d) => match dctOf d with
    | some es => some (.vals (es.map fun e => kD e.1))
    | none => none
  | some (.exc x) => some (.exc x)
  | none => none
theorem i_keys (h : Se E ad td fd) : Si E ad (iKeys td) (iKy fd) := fun σ Γ G H R r e Q q => by
  unfold iKy at e
  split at e
  · rename_i d e1
    split at e
    · rename_i es e2
      cases e
      refine h σ Γ G H R _ e1 _ fun v G2 H2 s2 q0 => ?_
      rw [dctOf_some e2] at q0
      obtain ⟨a, o, kvs, rfl, ha, hp⟩ := q0.dict
      have n0 := hp.len
      have ha' : noT G2 a = some (.frz o (.dT kvs)) := noT_at ha fun _ z => by cases z
      refine ⟨a, o, rfl, .inr ⟨kvs, s2.w _ _ ha, q _ G2 H2 s2 fun i H3 x3 => ⟨fun a' hx => ?_, fun ei => ⟨x3 _ _ ha', by rw [n0, ei, List.length_map]; exact Nat.le_refl _⟩⟩⟩⟩
      have hlt : i < es.length := by have := (List.getElem?_eq_some_iff.mp hx).1; rwa [List.length_map] at this
      refine ⟨⟨x3 _ _ ha', by rw [n0]; exact hlt⟩, ?_⟩
      rintro v H4 ⟨rfl, k, u, b, hkv, rfl, hb⟩ G1 g1 g2
      obtain ⟨dv, hdv, _, nk⟩ := hp.get hkv
      rw [List.getElem?_map, hdv] at hx
      cases hx
      exact ⟨_, (Stp.refl g2).know hb, key_dq kn_at nk⟩
    · cases e
  · rename_i x e1
    cases e
    exact h σ Γ G H R _ e1 _ q
  · cases e
def PoD (E : XK) (ad : Str → Addr) (G H : Hp) (Q : VK) : Ou → Prop
  | .val (.dict ps) => ∀ es, dctOf (.dict ps) = some es → ∀ p G2 H2, Stp G H G2 H2 → H p = none → MD G2 H2 p es → Q (.ref p) H2
  | .val _ => False
  | .exc x => ∀ G2 H2, Stp G H G2 H2 → XE E ad x H2
def Sd (E : XK) (ad : Str → Addr) (te : TE) (f : En → Re) : Prop := ∀ σ Γ G H, Rel G H σ Γ → ∀ r, f Γ = some r → ∀ Q : VK, PoD E ad G H Q r → te σ H Q
theorem keysI_map : ∀ k : KK, keysI (k.map keyD) = some k
  | [] => rfl
  | .inl i :: k => by show (match keyI (.int i), keysI (k.map keyD) with | some k, some ks => some (k :: ks) | _, _ => none) = _; rw [keysI_map k]; rfl
  | .inr i :: k => by show (match keyI (.str i), keysI (k.map keyD) with | some k, some ks => some (k :: ks) | _, _ => none) = _; rw [keysI_map k]; rfl
theorem dctGo_map : ∀ es : List (KK × D), dctGo (es.map fun e => (kD e.1, e.2)) = some es
  | [] => rfl
  | e :: es => by
    show (match keyOf0 (kD e.1), dctGo (es.map fun e => (kD e.1, e.2)) with | some k, some r => some ((k, e.2) :: r) | _, _ => none) = _
    rw [dctGo_map es, show keyOf0 (kD e.1) = some e.1 from keysI_map e.1]
theorem dctOf_dctD (es : List (KK × D)) : dctOf (dctD es) = some es := dctGo_map es
def dcGo (st : Fs) (ft fk fv : En → Re) (Γ : En) : List D → List (KK × D) → Option (List (KK × D))
  | [], acc => some acc
  | a :: as, acc => match st a Γ with
    | none => none
    | some Γ1 => match ft Γ1 with
      | some (.val (.bool b)) => if b = true then (match fk Γ1 with
        | some (.val y) => match keyOf y with
          | some k => match fv Γ1 with
            | some (.val z) => dcGo st ft fk fv Γ as (putD acc k z)
            | _ => none
          | none => none
        | _ => none) else dcGo st ft fk fv Γ as acc
      | _ => none
def fDc (src : En → Ra) (st : Fs) (ft fk fv : En → Re) (vs : List Nat) (Γ : En) : Re := match src Γ with
  | some (.vals as) => if small as.length = true then (match dcGo st ft fk fv (wipeC Γ vs) as [] with
    | some es => some (.val (dctD es))
    | none => none) else none
  | some (.exc x) => some (.exc x)
  | none => none
variable {wi : TI} {src : En → Ra} {g : TG} {st : Fs} {js vs : List Nat} {tt : TT} {ft : En → Re} {tk tv : TE} {fk fv : En → Re}
theorem md_dc (hs : Si E ad wi src) (hg : Sg g st js) (ht : Sb E ad tt ft) (hk : Se E ad tk fk) (hv : Se E ad tv fv) (hj : ∀ j ∈ js, j ∈ vs) : Sd E ad (tDcT wi g tt tk tv vs) (fDc src st ft fk fv vs) := fun σ Γ G H R r e Q q => by
  unfold fDc at e
  split at e
  · rename_i as e1
    by_cases hsm : small as.length = true
    · rw [if_pos hsm] at e
      have sml := small_le hsm
      split at e
      · rename_i es e2
        cases e
        refine hs σ Γ G H R _ e1 _ fun J G2 H2 s2 wl0 Dl hD => ?_
        have wl := wl0.mono noT_ex
        have gD : G2 Dl = none := fresh_back s2.w hD
        refine ⟨fun i m H3 => m = as.length - i ∧ i ≤ as.length ∧ ∃ acc, dcGo st ft fk fv (wipeC Γ vs) (as.drop i) acc = some es ∧ acc.length ≤ i ∧ MkD G2 H2 Dl acc H3, ⟨as.length, rfl, Nat.zero_le _, [], e2, Nat.le_refl _, MkD.start s2.w hD⟩, ?_⟩
        rintro i m H3 ⟨rfl, hi, acc, er, la, mk⟩
        obtain ⟨G3, kvs3, s3, g3, hvs3, hH3⟩ := mk
        have x23 : Ex G2 H3 := s3.g.trans s3.w
        cases hd : as.drop i with
        | nil =>
          have ei : i = as.length := by
            have := congrArg List.length hd
            rw [List.length_drop, List.length_nil] at this
            omega
          rw [hd] at er
          cases er
          exact .inl ⟨(wl i H3 x23).2 ei, q _ (dctOf_dctD _) Dl G3 H3 (s2.trans s3) (h_old s2 hD) ⟨g3, kvs3, hH3, hvs3⟩⟩
        | cons a as2 =>
          obtain ⟨ha, hd2⟩ := drop_at hd
          have hlt : i < as.length := (List.getElem?_eq_some_iff.mp ha).1
          obtain ⟨hgo, hy⟩ := (wl i H3 x23).1 a ha
          refine .inr ⟨hgo, fun H' => ∃ acc2, dcGo st ft fk fv (wipeC Γ vs) (as.drop (i + 1)) acc2 = some es ∧ acc2.length ≤ i + 1 ∧ MkD G2 H2 Dl acc2 H', fun H' hN => ⟨as.length - (i + 1), by omega, rfl, hlt, hN⟩, ?_⟩
          intro v H4 hyl
          obtain ⟨G4, s4, qv⟩ := hy v H4 hyl G3 s3.g s3.w
          rw [hd] at er
          unfold dcGo at er
          cases hst : st a (wipeC Γ vs) with
          | none => rw [hst] at er; cases er
          | some Γ1 =>
            rw [hst] at er
            dsimp only at er
            have R4 : Rel G4 H4 (wipe σ vs) (wipeC Γ vs) := ((R.stp s2).stp (s3.trans s4)).wipe vs
            refine hg _ _ _ _ R4 v a Γ1 qv hst _ fun σ2 RR l5 o5 _ _ => ⟨?_, ?_⟩
            · rw [wipe_off l5 o5 hj, wipe_two]
            · split at er
              · rename_i b eb
                have R5 := RR G4 H4 (.refl _) R4
                refine ht σ2 Γ1 G4 H4 R5 _ eb _ fun G5 H5 s5 => ?_
                have s35 := s4.trans s5
                have g5 : G5 Dl = none := s35.n Dl g3 (by rw [hH3]; intro z; cases z) (by rw [hH3]; intro xs z; cases z)
                have h5 : H5 Dl = some (.dT kvs3) := s35.h _ _ hH3
                cases b with
                | false =>
                  rw [if_neg (by decide)] at er ⊢
                  exact ⟨acc, by rw [hd2]; exact er, by omega, G5, kvs3, s3.trans s35, g5, hvs3.mono s35.g, h5⟩
                | true =>
                  rw [if_pos rfl] at er ⊢
                  split at er
                  · rename_i y ey
                    split at er
                    · rename_i k ek
                      split at er
                      · rename_i z ez
                        refine hk σ2 Γ1 G5 H5 (R5.stp s5) _ ey _ fun u G6 H6 s6 q6 => ?_
                        have h6 : H6 Dl = some (.dT kvs3) := s6.h _ _ h5
                        have g6 : G6 Dl = none := s6.n Dl g5 (by rw [h5]; intro z; cases z) (by rw [h5]; intro xs z; cases z)
                        refine hv σ2 Γ1 G6 H6 ((R5.stp s5).stp s6) _ ez _ fun w G7 H7 s7 q7 => ?_
                        have h7 : H7 Dl = some (.dT kvs3) := s7.h _ _ h6
                        have g7 : G7 Dl = none := s7.n Dl g6 (by rw [h6]; intro z; cases z) (by rw [h6]; intro xs z; cases z)
                        have s37 := (s35.trans s6).trans s7
                        rw [keyOf_some ek] at q6
                        obtain ⟨c, rfl, hc⟩ := q6.key (keyOf_ne ek)
                        have lp := putD_len acc k z
                        exact ⟨kvs3, k, c, rfl, s7.h _ _ (s6.w _ _ hc), h7, by rw [hvs3.len, sizeLine_eq]; omega, putD acc k z, by rw [hd2]; exact er, by omega, G7, putK kvs3 k w, (s3.trans s37).mutd hD g7, g7, (hvs3.mono s37.g).put (keyOf_ne ek) q7, upd_same⟩
                      · cases er
                    · cases er
                  · cases er
              · cases er
      · cases e
    · rw [if_neg hsm] at e; cases e
  · rename_i x e1
    cases e
    exact hs σ Γ G H R _ e1 _ q
  · cases e
theorem u_fix (h : Sd E ad te fe) (hd : ∀ Γ d, fe Γ = some (.val d) → ∃ es, d = dctD es) : Se E ad (tFix te) fe := fun σ Γ G H R r e Q q => by
  cases r with
  | val d =>
    obtain ⟨es, rfl⟩ := hd Γ d e
    refine h σ Γ G H R _ e _ fun es2 e2 p G2 H2 s h0 m => ?_
    rw [dctOf_dctD] at e2
    cases e2
    obtain ⟨kvs, h2, hp⟩ := m.at_
    refine ⟨p, .dT kvs, rfl, h2, True.intro, fun o => ?_⟩
    refine q _ (upd G2 p (.frz o (.dT kvs))) _ ⟨s.g.trans (.new m.g), fun b u e => ?_, fun b u e => ?_, fun b h1 h3 h4 => ?_⟩ (.dct upd_same (hp.mono (.new m.g)) rfl)
    · rw [upd_ne (fun z => by rw [z, h0] at e; cases e)]
      exact s.h _ _ e
    · by_cases z : b = p
      · rw [z, upd_same] at e ⊢; exact e
      · rw [upd_ne z] at e ⊢; exact s.w _ _ e
    · rw [upd_ne (fun z => h3 (by rw [z]; exact h0))]
      exact s.n b h1 h3 h4
  | exc x => exact h σ Γ G H R _ e _ q
theorem dct_dc (Γ : En) (d : D) (h : fDc src st ft fk fv vs Γ = some (.val d)) : ∃ es, d = dctD es := by
  unfold fDc at h
  split at h
  · split at h
    · split at h
      · cases h; exact ⟨_, rfl⟩
      · cases h
    · cases h
  · cases h
  · cases h
theorem u_dc (hs : Si E ad wi src) (hg : Sg g st js) (ht : Sb E ad tt ft) (hk : Se E ad tk fk) (hv : Se E ad tv fv) (hj : ∀ j ∈ js, j ∈ vs) : Se E ad (tFix (tDcT wi g tt tk tv vs)) (fDc src st ft fk fv vs) := u_fix (md_dc hs hg ht hk hv hj) dct_dc
end
end Mv
namespace Mv
open PySem L2 Evl
theorem Cal.imp {P : Program} {w : World} {K : PySem.W.Frag} {mg : Str → Option Value} {base : Heap} {CX : CXT} {k : Nat} {x : Str} {ps : List Str} {sp sp' : Sp} (C : Cal P w K mg base CX k x ps sp) (h : ∀ vs H Q E, sp' vs H Q E → sp vs H Q E) : Cal P w K mg base CX k x ps sp' := by
  obtain ⟨f, fd, F, r⟩ := C.ex
  exact ⟨f, fd, F.imp h, r⟩
end Mv
namespace Mv
open PySem L2 Evl
theorem small_of {n : Nat} (h : n ≤ 1000) : small n = true := by unfold small; simp; omega
theorem zipT3_small {n a b : List Int} (h : n.length ≤ 1000) : small (zipT3 (a.map PyData.int) (b.map .int) (n.map .int)).length = true := by
  rw [zipT3_len]; exact small_of (by simp; omega)
theorem fCb_one {o : List D → Option D} {fe : En → Re} {Γ : En} {d : D} (h : fe Γ = some (.val d)) : fCb o (fCons fe fNil) Γ = ret (o [d]) := by
  unfold fCb fCons
  rw [h]; rfl
theorem fRet_val {fe : En → Re} {Γ : En} {d : D} (h : fe (lockL (fun _ => true) Γ) = some (.val d)) : fRet fe Γ = some (.rt d) := by
  unfold fRet
  rw [h]
theorem bodyD_rt {fs : En → Rf} {n : Nat} {ds : List D} {d : D} (h : fs ((ds.map Ce.d) ++ List.replicate n .un) = some (.rt d)) : bodyD fs n ds = some (.val d) := by
  unfold bodyD
  rw [h]
theorem guard_of {k : Nat} {g : List D → Re} {ds : List D} (h : ds.length = k) : guardN k g ds = g ds := by
  unfold guardN
  rw [if_pos (by rw [h]; exact Nat.beq_refl k)]
theorem fLc_of {src : En → Ra} {st : Fs} {ft fe : En → Re} {vs : List Nat} {Γ : En} {as ds : List D} (h1 : src Γ = some (.vals as)) (h2 : small as.length = true) (h3 : lcGo st ft fe (wipeC Γ vs) as = some ds) : fLc src st ft fe vs Γ = some (.val (.list ds)) := by
  unfold fLc
  rw [h1]
  dsimp only
  rw [if_pos h2, h3]
end Mv
namespace Mv
open PySem L2 Evl LamX
theorem tabs_keep {T : List (Addr × Str)} {H H' : Hp} (t : Tabs T H) (k : ∀ b o, ((∃ ps, o = .tbl ps) ∨ ∃ φ, o = .ext φ) → H b = some o → H' b = some o) : Tabs T H' := fun p hp => by
  obtain ⟨ps, h1, h2, h3⟩ := t p hp
  refine ⟨ps, k _ _ (.inl ⟨ps, rfl⟩) h1, h2, fun pos cv hc => ?_⟩
  obtain ⟨c, e1, e2⟩ := (h3 pos cv hc)
  exact ⟨c, e1, k _ _ (.inr ⟨_, rfl⟩) e2⟩
theorem st_apart {H : Hp} {s l c b : Addr} {T : Int} {o : HO} (x : StAt H s l c T) (h : H b = some o) (n : (∃ ps, o = .tbl ps) ∨ ∃ φ, o = .ext φ) : b ∉ [s, l, c] := by
  obtain ⟨⟨lg, cs, left, turn, h1, h2, h3, _⟩, _⟩ := x
  simp only [List.mem_cons, List.not_mem_nil, or_false, not_or]
  rcases n with ⟨ps, rfl⟩ | ⟨φ, rfl⟩
  · exact ⟨ne_of h h1 (fun z => nomatch z), ne_of h h2 (fun z => nomatch z), ne_of h h3 (fun z => nomatch z)⟩
  · exact ⟨ne_of h h1 (fun z => nomatch z), ne_of h h2 (fun z => nomatch z), ne_of h h3 (fun z => nomatch z)⟩
theorem tabs_sts {T : List (Addr × Str)} {G H G' H' : Hp} {s l c : Addr} {T0 : Int} (t : Tabs T H) (x : StAt H s l c T0) (ss : StS [s, l, c] G H G' H') : Tabs T H' := tabs_keep t fun b o n h => ss.h b o (st_apart x h n) h
structure Cw where
  TL : List (Addr × Str)
  i0 : Nat
  Z : Hp
structure RelW (X : Cw) (s l c : Addr) (T : Int) (G H : Hp) (σ : L2.St) (Γ : En) : Prop where
  r : Rel G H σ Γ
  wd : Wd G H s l c T
  st : Γ[X.i0]? = some (.fx (.ref s))
  ap : ∀ (i : Nat) (c' : Ce) (p : Addr), Γ[i]? = some c' → isMut c' = true → σ[i]? = some (some (.ref p)) → p ∉ [s, l, c]
  nt : ∀ (b : Addr) (ps : Array Value), G b ≠ some (.tbl ps)
  tb : Tabs X.TL H
  z : Ex X.Z G
section
variable {X : Cw} {s l c : Addr} {T T' : Int} {G H G' H' G1 H1 G2 H2 G0 H0 : Hp} {σ : L2.St} {Γ Γ' : En}
theorem sts_noT (nt : ∀ (b : Addr) (ps : Array Value), G b ≠ some (.tbl ps)) (x : StS [s, l, c] G H G2 H2) : StS [s, l, c] G H (noT G2) H2 := by
  refine ⟨fun b o e => noT_at (x.g _ _ e) fun ps z => nt b ps (z ▸ e), x.h, x.k, fun b o e => x.w _ _ (of_noT e).1, fun b h1 h2 h3 => noT_none (x.n b h1 h2 h3)⟩
theorem wd_noT (x : Wd G H s l c T) : Wd (noT G) H s l c T := ⟨fun b o e => x.w _ _ (of_noT e).1, x.st, noT_none x.gs, noT_none x.gl, noT_none x.gc⟩
theorem ml_sts {p : Addr} {ds : List D} (m : ML G H p ds) (hp : p ∉ [s, l, c]) (x : StS [s, l, c] G H G2 H2) : ML G2 H2 p ds := by
  obtain ⟨us, e, q⟩ := m.at_
  exact ⟨x.n p m.g (by rw [e]; intro z; cases z) (by rw [e]; intro _ z; cases z), us, x.h _ _ hp e, q.mono x.g⟩
theorem md_sts {p : Addr} {es : List (KK × D)} (m : MD G H p es) (hp : p ∉ [s, l, c]) (x : StS [s, l, c] G H G2 H2) : MD G2 H2 p es := by
  obtain ⟨us, e, q⟩ := m.at_
  exact ⟨x.n p m.g (by rw [e]; intro z; cases z) (by rw [e]; intro _ z; cases z), us, x.h _ _ hp e, q.mono x.g⟩
theorem RelW.sts (h : RelW X s l c T G H σ Γ) (x : StS [s, l, c] G H G2 H2) (wd : Wd G2 H2 s l c T') : RelW X s l c T' (noT G2) H2 σ Γ := by
  refine ⟨⟨fun b o e => x.w _ _ (of_noT e).1, h.r.len, fun i c' e => ?_, h.r.sep⟩, wd_noT wd, h.st, h.ap, fun b ps e => (of_noT e).2 ps rfl, tabs_sts h.tb h.wd.st x, h.z.trans (sts_noT h.nt x).g⟩
  have hc := h.r.c i c' e
  cases c' with
  | un => trivial
  | fx v => exact hc
  | d z => obtain ⟨v, e1, q⟩ := hc; exact ⟨v, e1, (q.mono x.g).noT⟩
  | ml ds =>
    obtain ⟨p, e1, m⟩ := hc
    have m2 := ml_sts m (h.ap i _ p e rfl e1) x
    obtain ⟨us, e2, q⟩ := m2.at_
    exact ⟨p, e1, noT_none m2.g, us, e2, q.noT⟩
  | md es =>
    obtain ⟨p, e1, m⟩ := hc
    have m2 := md_sts m (h.ap i _ p e rfl e1) x
    obtain ⟨us, e2, q⟩ := m2.at_
    exact ⟨p, e1, noT_none m2.g, us, e2, q.noT⟩
abbrev StN (s l c : Addr) (G H G' H' : Hp) : Prop := StS [s, l, c] G (noT H) G' (noT H')
theorem StN.of (nt : ∀ (b : Addr) (ps : Array Value), G b ≠ some (.tbl ps)) (x : StS [s, l, c] G H G2 H2) (wd : Wd G2 H2 s l c T') : StN s l c G H (noT G2) H2 := by
  refine ⟨fun b o e => noT_at (x.g _ _ e) fun ps z => nt b ps (z ▸ e), fun b o hb e => ?_, fun b hb q => ?_, fun b o e => ?_, fun b h1 h2 h3 => noT_none (x.n b h1 ?_ ?_)⟩
  · obtain ⟨e1, e2⟩ := of_noT e
    exact noT_at (x.h b o hb e1) e2
  · obtain ⟨⟨o1, e1, m1⟩, ⟨o2, e2, m2⟩, o3, e3, m3⟩ := wd.st.at
    obtain ⟨⟨lg, cs, left, turn, f1, f2, f3, _⟩, _⟩ := wd.st
    simp only [List.mem_cons, List.not_mem_nil, or_false] at hb
    rcases hb with z | z | z
    · rw [z, noT_at f1 fun _ z => by cases z]; exact ⟨(fun y => nomatch y), fun _ xs y => nomatch y⟩
    · rw [z, noT_at f2 fun _ z => by cases z]; exact ⟨(fun y => nomatch y), fun _ xs y => nomatch y⟩
    · rw [z, noT_at f3 fun _ z => by cases z]; exact ⟨(fun y => nomatch y), fun _ xs y => nomatch y⟩
  · obtain ⟨e1, e2⟩ := of_noT e
    exact noT_at (x.w _ _ e1) e2
  · intro z; exact h2 (noT_none z)
  · intro xs z; exact h3 xs (noT_at z fun _ z => by cases z)
theorem StN.cut (nt : ∀ (b : Addr) (ps : Array Value), G b ≠ some (.tbl ps)) (x : StN s l c G H G2 H2) : StN s l c G H (noT G2) H2 :=
  ⟨fun b o e => noT_at (x.g _ _ e) fun ps z => nt b ps (z ▸ e), x.h, x.k, fun b o e => x.w _ _ (of_noT e).1, fun b h1 h2 h3 => noT_none (x.n b h1 h2 h3)⟩
theorem ml_stN {p : Addr} {ds : List D} (m : ML G H p ds) (hp : p ∉ [s, l, c]) (x : StN s l c G H G2 H2) : ML G2 H2 p ds := by
  obtain ⟨us, e, q⟩ := m.at_
  have e' : noT H p = some (.lst us) := noT_at e fun _ z => by cases z
  exact ⟨x.n p m.g (by rw [e']; intro z; cases z) (by rw [e']; intro _ z; cases z), us, (of_noT (x.h _ _ hp e')).1, q.mono x.g⟩
theorem md_stN {p : Addr} {es : List (KK × D)} (m : MD G H p es) (hp : p ∉ [s, l, c]) (x : StN s l c G H G2 H2) : MD G2 H2 p es := by
  obtain ⟨us, e, q⟩ := m.at_
  have e' : noT H p = some (.dT us) := noT_at e fun _ z => by cases z
  exact ⟨x.n p m.g (by rw [e']; intro z; cases z) (by rw [e']; intro _ z; cases z), us, (of_noT (x.h _ _ hp e')).1, q.mono x.g⟩
theorem RelW.stN (h : RelW X s l c T G H σ Γ) (x : StN s l c G H G2 H2) (wd : Wd G2 H2 s l c T') (tb : Tabs X.TL H2) : RelW X s l c T' (noT G2) H2 σ Γ := by
  refine ⟨⟨fun b o e => (of_noT (x.w _ _ (of_noT e).1)).1, h.r.len, fun i c' e => ?_, h.r.sep⟩, wd_noT wd, h.st, h.ap, fun b ps e => (of_noT e).2 ps rfl, tb, h.z.trans (StN.cut h.nt x).g⟩
  have hc := h.r.c i c' e
  cases c' with
  | un => trivial
  | fx v => exact hc
  | d z => obtain ⟨v, e1, q⟩ := hc; exact ⟨v, e1, (q.mono x.g).noT⟩
  | ml ds =>
    obtain ⟨p, e1, m⟩ := hc
    have m2 := ml_stN m (h.ap i _ p e rfl e1) x
    obtain ⟨us, e2, q⟩ := m2.at_
    exact ⟨p, e1, noT_none m2.g, us, e2, q.noT⟩
  | md es =>
    obtain ⟨p, e1, m⟩ := hc
    have m2 := md_stN m (h.ap i _ p e rfl e1) x
    obtain ⟨us, e2, q⟩ := m2.at_
    exact ⟨p, e1, noT_none m2.g, us, e2, q.noT⟩
theorem RelW.toN (R : RelW X s l c T G H σ Γ) (p : Stp G H G2 H2) : StN s l c G H (noT G2) H2 := StN.of R.nt p.toS (R.wd.stp p)
theorem RelW.rf (R : RelW X s l c T G H σ Γ) : StN s l c G H G H := .refl fun b o e => noT_at (R.r.w _ _ e) fun ps z => R.nt b ps (z ▸ e)
theorem noT_upd {p : Addr} {o : HO} (n : ∀ ps, o ≠ .tbl ps) : noT (upd H p o) = upd (noT H) p o := by
  funext b
  by_cases z : b = p
  · rw [z, upd_same, noT_at (upd_same (H := H)) n]
  · rw [upd_ne z]
    unfold noT
    rw [upd_ne z]
theorem StN.mutN {p : Addr} {o : HO} (a : StN s l c G H G' H') (hp : noT H p = none) (gp : G' p = none) (n : ∀ ps, o ≠ .tbl ps) : StN s l c G H G' (upd H' p o) := by
  show StS _ _ _ _ (noT (upd H' p o))
  rw [noT_upd n]
  exact StS.mut a hp gp
theorem RelW.sl (h : RelW X s l c T G H σ Γ) : σ[X.i0]? = some (some (.ref s)) := h.r.c X.i0 _ h.st
abbrev WE := En → Int → (D → Int → Prop) → Prop
abbrev WA := En → Int → (List D → Int → Prop) → Prop
abbrev WB := En → Int → (Bool → Int → Prop) → Prop
def Sw (X : Cw) (te : TE) (F : WE) : Prop := ∀ s l c T σ Γ G H, RelW X s l c T G H σ Γ → ∀ post, F Γ T post → ∀ Q : VK, (∀ d T', post d T' → ∀ v G2 H2, RelW X s l c T' G2 H2 σ Γ → StN s l c G H G2 H2 → Dq G2 v d → Q v H2) → te σ H Q
def Swa (X : Cw) (ta : TA) (F : WA) : Prop := ∀ s l c T σ Γ G H, RelW X s l c T G H σ Γ → ∀ post, F Γ T post → ∀ Q : List V → Hp → Prop, (∀ d T', post d T' → ∀ v G2 H2, RelW X s l c T' G2 H2 σ Γ → StN s l c G H G2 H2 → DqA G2 v d → Q v H2) → ta σ H Q
def Swb (X : Cw) (tt : TT) (F : WB) : Prop := ∀ s l c T σ Γ G H, RelW X s l c T G H σ Γ → ∀ post, F Γ T post → ∀ Q : Bool → Hp → Prop, (∀ b T', post b T' → ∀ G2 H2, RelW X s l c T' G2 H2 σ Γ → StN s l c G H G2 H2 → Q b H2) → tt σ H Q
variable {E : XK} {ad : Str → Addr} {te ta tb : TE} {fe : En → Re} {tt tu : TT} {ft : En → Re} {tas tr : TA} {fas : En → Ra} {Fa Fb F : WE} {FA FR : WA} {FT FU : WB}
def pw (f : En → Re) : WE := fun Γ T post => match f Γ with
  | some (.val d) => post d T
  | _ => False
def pwb (f : En → Re) : WB := fun Γ T post => match f Γ with
  | some (.val (.bool b)) => post b T
  | _ => False
def pwa (f : En → Ra) : WA := fun Γ T post => match f Γ with
  | some (.vals ds) => post ds T
  | _ => False
theorem w_pure (h : Se E ad te fe) : Sw X te (pw fe) := fun s l c T σ Γ G H R post hp Q q => by
  unfold pw at hp
  split at hp
  · rename_i d e
    refine h σ Γ G H R.r _ e Q fun v G2 H2 s2 q2 => ?_
    have x := s2.toS (S := [s, l, c])
    exact q d T hp v (noT G2) H2 (R.sts x (R.wd.stp s2)) (R.toN s2) q2.noT
  · exact hp.elim
theorem w_pureb (h : Sb E ad tt ft) : Swb X tt (pwb ft) := fun s l c T σ Γ G H R post hp Q q => by
  unfold pwb at hp
  split at hp
  · rename_i d e
    refine h σ Γ G H R.r _ e Q fun G2 H2 s2 => ?_
    have x := s2.toS (S := [s, l, c])
    exact q d T hp (noT G2) H2 (R.sts x (R.wd.stp s2)) (R.toN s2)
  · exact hp.elim
def wNil : WA := fun _ T post => post [] T
def wCons (Fa : WE) (FR : WA) : WA := fun Γ T post => Fa Γ T fun d T1 => FR Γ T1 fun ds T2 => post (d :: ds) T2
theorem w_nil : Swa X tNil wNil := fun s l c T σ Γ G H R post hp Q q => q [] T hp [] G H R R.rf .nil
theorem w_cons (ha : Sw X ta Fa) (hr : Swa X tr FR) : Swa X (tCons ta tr) (wCons Fa FR) := fun s l c T σ Γ G H R post hp Q q =>
  ha s l c T σ Γ G H R _ hp _ fun d T1 h1 v G2 H2 R2 x2 q2 => hr s l c T1 σ Γ G2 H2 R2 _ h1 _ fun ds T2 h2 vs G3 H3 R3 x3 q3 => q (d :: ds) T2 h2 (v :: vs) G3 H3 R3 (x2.trans x3) (.cons (q2.mono x3.g) q3)
def wOp (o : D → D → Option D) (Fa Fb : WE) : WE := fun Γ T post => Fa Γ T fun x T1 => Fb Γ T1 fun y T2 => match o x y with
  | some z => post z T2
  | none => False
theorem w_op {r : R2} {o : D → D → Option D} (ho : OpS r o) (ha : Sw X ta Fa) (hb : Sw X tb Fb) : Sw X (tOp r ta tb) (wOp o Fa Fb) := fun s l c T σ Γ G H R post hp Q q =>
  ha s l c T σ Γ G H R _ hp _ fun d T1 h1 v G2 H2 R2 x2 q2 => hb s l c T1 σ Γ G2 H2 R2 _ h1 _ fun y T2 h2 u G3 H3 R3 x3 q3 => by
    split at h2
    · rename_i z ez
      refine ho d y z ez G3 v u G3 H3 (.refl _) R3.r.w (q2.mono x3.g) q3 Q fun w G4 H4 s4 q4 => ?_
      have x4 := s4.toS (S := [s, l, c])
      exact q z T2 h2 w (noT G4) H4 (R3.sts x4 (R3.wd.stp s4)) ((x2.trans x3).trans (R3.toN s4)) q4.noT
    · exact h2.elim
def wTup (FA : WA) : WE := fun Γ T post => FA Γ T fun ds T1 => small ds.length = true ∧ post (.tuple ds) T1
def wLst (FA : WA) : WE := fun Γ T post => FA Γ T fun ds T1 => small ds.length = true ∧ post (.list ds) T1
theorem w_tup (h : Swa X tas FA) : Sw X (tTup tas) (wTup FA) := fun s l c T σ Γ G H R post hp Q q =>
  h s l c T σ Γ G H R _ hp _ fun ds T1 ⟨sm, h1⟩ vs G2 H2 R2 x2 q2 => ⟨by rw [q2.len]; exact small_line sm, fun p o hp od => by
    have s3 := Stp.new (o := tupO o vs) R2.r.w hp
    have x3 := s3.toS (S := [s, l, c])
    exact q _ T1 h1 _ (noT _) _ (R2.sts x3 (R2.wd.stp s3)) (x2.trans (R2.toN s3)) (Dq.noT (.tup (.new od) (q2.mono s3.g)))⟩
theorem w_lst (h : Swa X tas FA) : Sw X (tLst tas) (wLst FA) := fun s l c T σ Γ G H R post hp Q q =>
  h s l c T σ Γ G H R _ hp _ fun ds T1 ⟨sm, h1⟩ vs G2 H2 R2 x2 q2 => ⟨by rw [q2.len]; exact small_line sm, fun p hp => by
    have s3 := Stp.new (o := .lst vs) R2.r.w hp
    have x3 := s3.toS (S := [s, l, c])
    exact q _ T1 h1 _ (noT _) _ (R2.sts x3 (R2.wd.stp s3)) (x2.trans (R2.toN s3)) (Dq.noT (.lst upd_same (q2.mono s3.g)))⟩
def wCb (o : List D → Option D) (FA : WA) : WE := fun Γ T post => FA Γ T fun ds T1 => match o ds with
  | some z => post z T1
  | none => False
theorem w_cb {rc : List V → Hp → VK → Prop} {o : List D → Option D} (ho : CaS rc o) (h : Swa X tas FA) : Sw X (tCB rc tas) (wCb o FA) := fun s l c T σ Γ G H R post hp Q q =>
  h s l c T σ Γ G H R _ hp _ fun ds T1 h1 vs G2 H2 R2 x2 q2 => by
    split at h1
    · rename_i z ez
      refine ho ds z ez G2 vs G2 H2 (.refl _) R2.r.w q2 Q fun w G4 H4 s4 q4 => ?_
      have x4 := s4.toS (S := [s, l, c])
      exact q z T1 h1 w (noT G4) H4 (R2.sts x4 (R2.wd.stp s4)) (x2.trans (R2.toN s4)) q4.noT
    · exact h1.elim
def wCall (g : List D → Re) (FA : WA) : WE := fun Γ T post => FA Γ T fun ds T1 => match g ds with
  | some (.val z) => post z T1
  | _ => False
theorem w_callF {E' : XK} {g : List D → Re} (h : Swa X tas FA) : Sw X (tCall (SpF ad g) [] E' tas) (wCall g FA) := fun s l c T σ Γ G H R post hp Q q =>
  h s l c T σ Γ G H R _ hp _ fun ds T1 h1 vs G2 H2 R2 x2 q2 => by
    split at h1
    · rename_i z ez
      rw [List.append_nil]
      refine ⟨G2, ds, _, R2.r.w, q2, ez, fun w G4 H4 s4 q4 => ?_⟩
      have x4 := s4.toS (S := [s, l, c])
      exact q z T1 h1 w (noT G4) H4 (R2.sts x4 (R2.wd.stp s4)) (x2.trans (R2.toN s4)) q4.noT
    · exact h1.elim
def SpW (TL : List (Addr × Str)) (W : List D → Int → (D → Int → Prop) → Prop) : Sp := fun vs H Q _ => ∃ G s l c T vs' ds post, vs = .ref s :: vs' ∧ DqA G vs' ds ∧ Wd G H s l c T ∧ (∀ (b : Addr) (ps : Array Value), G b ≠ some (.tbl ps)) ∧ Tabs TL H ∧ W ds T post ∧
  ∀ z T', post z T' → ∀ v G' H', Wd G' H' s l c T' → StN s l c G H G' H' → Tabs TL H' → Dq G' v z → Q v H'
def wDraw (W : List D → Int → (D → Int → Prop) → Prop) (FA : WA) : WE := fun Γ T post => FA Γ T fun ds T1 => W ds T1 post
theorem w_draw {E' : XK} {W : List D → Int → (D → Int → Prop) → Prop} (h : Swa X tas FA) : Sw X (tCall (SpW X.TL W) [] E' (tCons (tVar X.i0) tas)) (wDraw W FA) := fun s l c T σ Γ G H R post hp Q q =>
  ⟨.ref s, R.sl, h s l c T σ Γ G H R _ hp _ fun ds T1 h1 vs G2 H2 R2 x2 q2 => by
    show SpW X.TL W ((V.ref s :: vs) ++ []) H2 Q E'
    rw [List.append_nil]
    refine ⟨G2, s, l, c, T1, vs, ds, post, rfl, q2, R2.wd, R2.nt, R2.tb, h1, fun z T' hz v G' H' wd x tb hv => ?_⟩
    exact q z T' hz v (noT G') H' (R2.stN x wd tb) (x2.trans (StN.cut R2.nt x)) hv.noT⟩
def wIf (FT : WB) (Fa Fb : WE) : WE := fun Γ T post => FT Γ T fun b T1 => if b = true then Fa Γ T1 post else Fb Γ T1 post
def wT (Fa : WE) : WB := fun Γ T post => Fa Γ T fun d T1 => match d with
  | .bool b => post b T1
  | _ => False
theorem w_test (h : Sw X te F) : Swb X (tTest te) (wT F) := fun s l c T σ Γ G H R post hp Q q =>
  h s l c T σ Γ G H R _ hp _ fun d T1 h1 v G2 H2 R2 x2 q2 => by
    split at h1
    · cases q2; exact ⟨_, rfl, q _ T1 h1 G2 H2 R2 x2⟩
    · exact h1.elim
def wAnd (FT FU : WB) : WB := fun Γ T post => FT Γ T fun b T1 => if b = true then FU Γ T1 post else post false T1
def wOr (FT FU : WB) : WB := fun Γ T post => FT Γ T fun b T1 => if b = true then post true T1 else FU Γ T1 post
def wNot (FT : WB) : WB := fun Γ T post => FT Γ T fun b T1 => post (!b) T1
theorem w_and (ht : Swb X tt FT) (hu : Swb X tu FU) : Swb X (tAnd tt tu) (wAnd FT FU) := fun s l c T σ Γ G H R post hp Q q =>
  ht s l c T σ Γ G H R _ hp _ fun b T1 h1 G2 H2 R2 x2 => by
    cases b with
    | true =>
      rw [if_pos rfl] at h1 ⊢
      exact hu s l c T1 σ Γ G2 H2 R2 _ h1 Q fun d T' h G3 H3 R3 x3 => q d T' h G3 H3 R3 (x2.trans x3)
    | false =>
      rw [if_neg (by decide)] at h1 ⊢
      exact q false T1 h1 G2 H2 R2 x2
def wSl (k : Bool) (Fa Fb : WE) : WE := fun Γ T post => Fa Γ T fun z T1 => match sqOf k z with
  | some ds => Fb Γ T1 fun h T2 => match h with
    | .int i => post (sq k (cutD ds none (some i))) T2
    | _ => False
  | none => False
theorem w_slTo {K : PySem.W.Frag} {k : Bool} (ha : Sw X ta Fa) (hb : Sw X tb Fb) : Sw X (tSl (rSlK K k) ta tNoPart (tPart tb)) (wSl k Fa Fb) := fun s l c T σ Γ G H R post hp Q q =>
  ha s l c T σ Γ G H R _ hp _ fun z T1 h1 v G2 H2 R2 x2 q2 => by
    split at h1
    · rename_i ds e
      have ez := sq_of e
      subst ez
      refine hb s l c T1 σ Γ G2 H2 R2 _ h1 _ fun d T2 h2 u G3 H3 R3 x3 q3 => ?_
      split at h2
      · cases q3
        refine ⟨_, rfl, ?_⟩
        refine slice_end R3.r.w (q2.mono x3.g) fun w G4 H4 s4 q4 => ?_
        have x4 := s4.toS (S := [s, l, c])
        exact q _ T2 h2 w (noT G4) H4 (R3.sts x4 (R3.wd.stp s4)) ((x2.trans x3).trans (R3.toN s4)) q4.noT
      · exact h2.elim
    · exact h1.elim
end
end Mv
namespace Mv
open PySem L2 Evl LamX
section
variable {X : Cw} {s l c : Addr} {T T' : Int} {G H G' H' G1 H1 G2 H2 G0 H0 : Hp} {σ σ' : L2.St} {Γ Γ' : En}
theorem RelW.wipe (R : RelW X s l c T G H σ Γ) {vs : List Nat} (hi : X.i0 ∉ vs) : RelW X s l c T G H (wipe σ vs) (wipeC Γ vs) := by
  refine ⟨R.r.wipe vs, R.wd, by rw [wipeC_off hi]; exact R.st, fun i c' p e m ep => ?_, R.nt, R.tb, R.z⟩
  rcases wipeC_at e with rfl | ⟨h1, h2⟩
  · cases m
  · rw [wipe_at, if_neg h1] at ep
    exact R.ap i c' p h2 m ep
theorem RelW.go {js : List Nat} (R : RelW X s l c T G H σ Γ) (r : Rel G H σ' Γ') (o : ∀ k : Nat, k ∉ js → σ'[k]? = σ[k]?) (m : ∀ (i : Nat) (c : Ce), Γ'[i]? = some c → isMut c = true → Γ[i]? = some c ∧ σ'[i]? = σ[i]?) (f : ∀ k : Nat, k ∉ js → Γ'[k]? = Γ[k]?) (hi : X.i0 ∉ js) : RelW X s l c T G H σ' Γ' := by
  refine ⟨r, R.wd, by rw [f X.i0 hi]; exact R.st, fun i c' p e mc ep => ?_, R.nt, R.tb, R.z⟩
  obtain ⟨e1, e2⟩ := m i c' e mc
  exact R.ap i c' p e1 mc (e2 ▸ ep)
theorem RelW.mutN {p : Addr} {o : HO} (R : RelW X s l c T G H σ Γ) (gp : G p = none) (hp : p ∉ [s, l, c]) (no : ∀ (i : Nat) (c' : Ce), Γ[i]? = some c' → isMut c' = true → σ[i]? ≠ some (some (.ref p))) (nt : ∀ o', H p = some o' → ¬ ((∃ ps, o' = .tbl ps) ∨ ∃ φ, o' = .ext φ)) : RelW X s l c T G (upd H p o) σ Γ := by
  have hp' := hp
  simp only [List.mem_cons, List.not_mem_nil, or_false, not_or] at hp'
  refine ⟨⟨ex_mut R.r.w gp, R.r.len, fun i c' e => ?_, R.r.sep⟩, R.wd.mut gp hp'.1 hp'.2.1 hp'.2.2, R.st, R.ap, R.nt, tabs_keep R.tb fun b o' k h => ?_, R.z⟩
  · have hc := R.r.c i c' e
    cases c' with
    | un => trivial
    | fx v => exact hc
    | d z => exact hc
    | ml ds =>
      obtain ⟨q, e1, m⟩ := hc
      exact ⟨q, e1, m.other (fun z => no i _ e rfl (z ▸ e1))⟩
    | md es =>
      obtain ⟨q, e1, m⟩ := hc
      exact ⟨q, e1, m.other (fun z => no i _ e rfl (z ▸ e1))⟩
  · have nb : b ≠ p := fun z => nt o' (by rw [← z]; exact h) k
    rw [upd_ne nb]; exact h
theorem StS.knowL {S : List Addr} {p : Addr} {o : HO} (x : StS S G0 H0 G H) (h0 : H0 p = none) (gp : G p = none) (hp : H p = some o) : StS S G0 H0 (upd G p o) H := by
  refine ⟨x.g.trans (.new gp), x.h, x.k, fun b u e => ?_, fun b h1 h2 h3 => ?_⟩
  · by_cases z : b = p
    · rw [z, upd_same] at e; rw [z, ← e]; exact hp
    · rw [upd_ne z] at e; exact x.w _ _ e
  · rw [upd_ne (fun z => h2 (by rw [z]; exact h0))]
    exact x.n b h1 h2 h3
theorem StN.knowL {p : Addr} {o : HO} (x : StN s l c G0 H0 G H) (h0 : H0 p = none) (gp : G p = none) (hp : H p = some o) (n : ∀ ps, o ≠ .tbl ps) : StN s l c G0 H0 (upd G p o) H := StS.knowL x (noT_none h0) gp (noT_at hp n)
theorem Wd.knowL {p : Addr} {o : HO} (x : Wd G H s l c T) (hp : H p = some o) (n : p ∉ [s, l, c]) : Wd (upd G p o) H s l c T := by
  simp only [List.mem_cons, List.not_mem_nil, or_false, not_or] at n
  refine ⟨fun b u e => ?_, x.st, by rw [upd_ne (Ne.symm n.1)]; exact x.gs, by rw [upd_ne (Ne.symm n.2.1)]; exact x.gl, by rw [upd_ne (Ne.symm n.2.2)]; exact x.gc⟩
  by_cases z : b = p
  · rw [z, upd_same] at e; rw [z, ← e]; exact hp
  · rw [upd_ne z] at e; exact x.w _ _ e
def lcW (st : Fs) (FT : WB) (Fe : WE) (Γ : En) : List D → Int → (List D → Int → Prop) → Prop
  | [], T, post => post [] T
  | a :: as, T, post => match st a Γ with
    | some Γ1 => FT Γ1 T fun b T1 => if b = true then Fe Γ1 T1 fun d T2 => lcW st FT Fe Γ as T2 fun ds T3 => post (d :: ds) T3 else lcW st FT Fe Γ as T1 post
    | none => False
def wLc (src : En → Ra) (st : Fs) (FT : WB) (Fe : WE) (vs : List Nat) : WE := fun Γ T post => match src Γ with
  | some (.vals as) => small as.length = true ∧ lcW st FT Fe (wipeC Γ vs) as T fun ds T' => post (.list ds) T'
  | _ => False
variable {E : XK} {ad : Str → Addr} {te ta tb : TE} {fe : En → Re} {tt tu : TT} {wi : TI} {src : En → Ra} {g : TG} {st : Fs} {js vs : List Nat} {Fa Fb Fe F : WE} {FT FU : WB} {tas : TA} {FA : WA}
theorem w_lc (hs : Si E ad wi src) (hg : Sg g st js) (ht : Swb X tt FT) (he : Sw X te Fe) (hj : ∀ j ∈ js, j ∈ vs) (hi : X.i0 ∉ vs) : Sw X (tLc wi g tt te vs) (wLc src st FT Fe vs) := fun s l c T σ Γ G H R post hp Q q => by
  unfold wLc at hp
  split at hp
  · rename_i as e1
    obtain ⟨hsm, hp⟩ := hp
    have sml := small_le hsm
    refine hs σ Γ G H R.r _ e1 _ fun J G2 H2 s2 wl0 Dl hD => ?_
    have R2 := R.sts (s2.toS (S := [s, l, c])) (R.wd.stp s2)
    have y2 := R.toN s2
    have hiS : Dl ∉ [s, l, c] := by
      obtain ⟨⟨o1, a1, _⟩, ⟨o2, a2, _⟩, o3, a3, _⟩ := R2.wd.st.at
      simp only [List.mem_cons, List.not_mem_nil, or_false, not_or]
      exact ⟨fun z => (by rw [← z, hD] at a1; cases a1), fun z => (by rw [← z, hD] at a2; cases a2), fun z => (by rw [← z, hD] at a3; cases a3)⟩
    have gD : noT G2 Dl = none := fresh_back R2.r.w hD
    have nDl : ∀ (i : Nat) (c' : Ce), Γ[i]? = some c' → isMut c' = true → σ[i]? ≠ some (some (.ref Dl)) := fun i c' e m z => by
      have := R2.r.c i c' e
      cases c' with
      | ml d => obtain ⟨p2, e2, mm⟩ := this; rw [z] at e2; cases e2; obtain ⟨us, e3, _⟩ := mm.at_; rw [hD] at e3; cases e3
      | md d => obtain ⟨p2, e2, mm⟩ := this; rw [z] at e2; cases e2; obtain ⟨us, e3, _⟩ := mm.at_; rw [hD] at e3; cases e3
      | _ => cases m
    have keep : ∀ {G3 H3 G4 H4 : Hp} {vs3 : List V}, StN s l c G3 H3 G4 H4 → G3 Dl = none → H3 Dl = some (.lst vs3) → G4 Dl = none ∧ H4 Dl = some (.lst vs3) := fun {G3 H3 G4 H4 vs3} x g h => by
      have h' : noT H3 Dl = some (.lst vs3) := noT_at h fun _ z => by cases z
      exact ⟨x.n Dl g (by rw [h']; intro z; cases z) (by rw [h']; intro _ z; cases z), (of_noT (x.h _ _ hiS h')).1⟩
    have lst_nt : ∀ {H3 : Hp} {vs3 : List V}, H3 Dl = some (.lst vs3) → ∀ o', H3 Dl = some o' → ¬ ((∃ ps, o' = .tbl ps) ∨ ∃ φ, o' = .ext φ) := fun {H3 vs3} h o' h' z => by
      rw [h] at h'
      cases h'
      rcases z with ⟨_, z⟩ | ⟨_, z⟩ <;> cases z
    refine ⟨fun i m H3 => m = as.length - i ∧ i ≤ as.length ∧ ∃ (acc : List D) (Ti : Int) (Gi : Hp) (vs3 : List V) (po : List D → Int → Prop), lcW st FT Fe (wipeC Γ vs) (as.drop i) Ti po ∧ (∀ ds T', po ds T' → post (.list (acc ++ ds)) T') ∧ acc.length ≤ i ∧ RelW X s l c Ti Gi H3 σ Γ ∧ StN s l c (noT G2) H2 Gi H3 ∧ Gi Dl = none ∧ H3 Dl = some (.lst vs3) ∧ DqA Gi vs3 acc,
      ⟨as.length, rfl, Nat.zero_le _, [], T, noT G2, [], _, hp, fun ds T' h => h, Nat.le_refl _, R2.mutN gD hiS nDl (fun o' h' => by rw [hD] at h'; cases h'), R2.rf.mutN (noT_none hD) gD (fun _ z => by cases z), gD, upd_same, .nil⟩, ?_⟩
    rintro i m H3 ⟨rfl, hil, acc, Ti, Gi, vs3, po, hw, hpo, la, Ri, xi, gi, h3, qi⟩
    have x23 : Ex (noT G2) H3 := xi.g.trans Ri.r.w
    cases hd : as.drop i with
    | nil =>
      have ei : i = as.length := by
        have := congrArg List.length hd
        rw [List.length_drop, List.length_nil] at this
        omega
      rw [hd] at hw
      refine .inl ⟨(wl0 i H3 x23).2 ei, ?_⟩
      have hpost := hpo [] Ti hw
      rw [List.append_nil] at hpost
      have xk := StN.knowL xi hD gi h3 (fun _ z => by cases z)
      have wk := Ri.wd.knowL h3 hiS
      refine q _ Ti hpost _ (noT (upd Gi Dl (.lst vs3))) H3 (R2.stN xk wk Ri.tb) (y2.trans (StN.cut R2.nt xk)) (Dq.noT (.lst upd_same (qi.mono (.new gi))))
    | cons a as2 =>
      obtain ⟨ha, hd2⟩ := drop_at hd
      have hlt : i < as.length := (List.getElem?_eq_some_iff.mp ha).1
      obtain ⟨hgo, hy⟩ := (wl0 i H3 x23).1 a ha
      refine .inr ⟨hgo, fun H' => ∃ (acc2 : List D) (T2 : Int) (Gi2 : Hp) (vs4 : List V) (po2 : List D → Int → Prop), lcW st FT Fe (wipeC Γ vs) (as.drop (i + 1)) T2 po2 ∧ (∀ ds T', po2 ds T' → post (.list (acc2 ++ ds)) T') ∧ acc2.length ≤ i + 1 ∧ RelW X s l c T2 Gi2 H' σ Γ ∧ StN s l c (noT G2) H2 Gi2 H' ∧ Gi2 Dl = none ∧ H' Dl = some (.lst vs4) ∧ DqA Gi2 vs4 acc2, fun H' hN => ⟨as.length - (i + 1), by omega, rfl, hlt, hN⟩, ?_⟩
      intro v H4 hyl
      obtain ⟨G4, s4, qv⟩ := hy v H4 hyl Gi xi.g Ri.r.w
      have R4 := Ri.sts (s4.toS (S := [s, l, c])) (Ri.wd.stp s4)
      have y4 := Ri.toN s4
      obtain ⟨g4, h4⟩ := keep y4 gi h3
      rw [hd] at hw
      unfold lcW at hw
      cases hst : st a (wipeC Γ vs) with
      | none => rw [hst] at hw; exact hw.elim
      | some Γ1 =>
        rw [hst] at hw
        dsimp only at hw
        have Rw := R4.wipe hi
        refine hg _ _ _ _ Rw.r v a Γ1 qv.noT hst _ fun σ2 RR l5 o5 m5 f5 => ⟨?_, ?_⟩
        · rw [wipe_off l5 o5 hj, wipe_two]
        · have R5 := Rw.go (RR _ _ (.refl _) Rw.r) o5 m5 f5 fun z => hi (hj _ z)
          refine ht s l c Ti σ2 Γ1 _ H4 R5 _ hw _ fun b T1 h1 G6 H6 R6 x6 => ?_
          have x46 := y4.trans x6
          obtain ⟨g6, h6⟩ := keep x6 g4 h4
          cases b with
          | false =>
            rw [if_neg (by decide)] at h1 ⊢
            have R6' := R4.stN x6 R6.wd R6.tb
            obtain ⟨g6', _⟩ := keep (StN.cut R4.nt x6) g4 h4
            exact ⟨acc, T1, noT G6, vs3, po, by rw [hd2]; exact h1, hpo, by omega, R6', (xi.trans y4).trans (StN.cut R4.nt x6), g6', h6, ((qi.mono x46.g).noT)⟩
          | true =>
            rw [if_pos rfl] at h1 ⊢
            refine he s l c T1 σ2 Γ1 G6 H6 R6 _ h1 _ fun d T2 h2 y G7 H7 R7 x7 q7 => ?_
            have x67 := x6.trans x7
            obtain ⟨g7, h7⟩ := keep x67 g4 h4
            obtain ⟨g7', _⟩ := keep (StN.cut R4.nt x67) g4 h4
            have R7' := R4.stN x67 R7.wd R7.tb
            refine ⟨vs3, h7, by rw [qi.len, sizeLine_eq]; omega, acc ++ [d], T2, noT G7, vs3 ++ [y], _, by rw [hd2]; exact h2, fun ds T' h => ?_, by rw [List.length_append]; simp; omega, R7'.mutN g7' hiS nDl (lst_nt h7), StN.mutN ((xi.trans y4).trans (StN.cut R4.nt x67)) (noT_none hD) g7' (fun _ z => by cases z), g7', upd_same, (((qi.mono (y4.trans x67).g).noT).snoc q7.noT)⟩
            have := hpo (d :: ds) T' h
            rw [List.append_assoc]
            exact this
  · exact hp.elim
abbrev WS := En → Int → (En → Int → Prop) → (D → Int → Prop) → Prop
structure RelWS (X : Cw) (s l c : Addr) (G0 H0 : Hp) (T : Int) (G H : Hp) (σ : L2.St) (Γ : En) : Prop where
  r : RelW X s l c T G H σ Γ
  x : StN s l c G0 H0 G H
  n : ∀ (i : Nat) (c' : Ce) (p : Addr), Γ[i]? = some c' → isMut c' = true → σ[i]? = some (some (.ref p)) → noT H0 p = none
def Sws (X : Cw) (ts : TS) (F : WS) : Prop := ∀ s l c G0 H0 T σ Γ G H, RelWS X s l c G0 H0 T G H σ Γ → ∀ nx rt, F Γ T nx rt → ∀ D' : Ends,
  (∀ Γ' T', nx Γ' T' → ∀ σ' G2 H2, RelWS X s l c G0 H0 T' G2 H2 σ' Γ' → Ex G G2 → D'.nx σ' H2) → (∀ d T', rt d T' → ∀ v G2 H2, Wd G2 H2 s l c T' → StN s l c G0 H0 G2 H2 → Tabs X.TL H2 → Dq G2 v d → D'.rt v H2) → ts D' σ H
variable {ts tu : TS} {Fs Fu : WS} {fs : En → Rf}
theorem RelWS.sts (R : RelWS X s l c G0 H0 T G H σ Γ) (R2 : RelW X s l c T' G2 H2 σ Γ) (x : StN s l c G H G2 H2) : RelWS X s l c G0 H0 T' G2 H2 σ Γ := ⟨R2, R.x.trans x, R.n⟩
def pws (i0 : Nat) (f : En → Rf) : WS := fun Γ T nx rt => match f Γ with
  | some (.nx Γ') => Γ'[i0]? = Γ[i0]? ∧ nx Γ' T
  | some (.rt d) => rt d T
  | _ => False
open Classical in
noncomputable def oth (σ : L2.St) (Γ : En) (H : Hp) : Hp := fun b => if ∃ (i : Nat) (c' : Ce), Γ[i]? = some c' ∧ isMut c' = true ∧ σ[i]? = some (some (.ref b)) then none else H b
theorem oth_some {b : Addr} {o : HO} (h : oth σ Γ H b = some o) : H b = some o ∧ ¬ ∃ (i : Nat) (c' : Ce), Γ[i]? = some c' ∧ isMut c' = true ∧ σ[i]? = some (some (.ref b)) := by
  unfold oth at h
  split at h
  · cases h
  · rename_i q; exact ⟨h, q⟩
theorem oth_at {b : Addr} (h : ¬ ∃ (i : Nat) (c' : Ce), Γ[i]? = some c' ∧ isMut c' = true ∧ σ[i]? = some (some (.ref b))) : oth σ Γ H b = H b := by
  unfold oth; rw [if_neg h]
theorem w_stmt (h : Ss E ad ts fs) : Sws X ts (pws X.i0 fs) := fun s l c G0 H0 T σ Γ G H R nx rt hp D' hn hr => by
  have own : ∀ {b : Addr}, (∃ (i : Nat) (c' : Ce), Γ[i]? = some c' ∧ isMut c' = true ∧ σ[i]? = some (some (.ref b))) → noT H0 b = none ∧ G b = none ∧ b ∉ [s, l, c] ∧ ∀ o', H b = some o' → ¬ ((∃ ps, o' = .tbl ps) ∨ ∃ φ, o' = .ext φ) := fun {b} ⟨i, c', e, m, ep⟩ => by
    refine ⟨R.n i c' b e m ep, ?_⟩
    have hc := R.r.r.c i c' e
    cases c' with
    | ml d =>
      obtain ⟨p, e1, mm⟩ := hc
      rw [ep] at e1; cases e1
      obtain ⟨us, e2, _⟩ := mm.at_
      exact ⟨mm.g, R.r.ap i _ b e m ep, fun o' h z => by rw [e2] at h; cases h; rcases z with ⟨_, z⟩ | ⟨_, z⟩ <;> cases z⟩
    | md d =>
      obtain ⟨p, e1, mm⟩ := hc
      rw [ep] at e1; cases e1
      obtain ⟨us, e2, _⟩ := mm.at_
      exact ⟨mm.g, R.r.ap i _ b e m ep, fun o' h z => by rw [e2] at h; cases h; rcases z with ⟨_, z⟩ | ⟨_, z⟩ <;> cases z⟩
    | _ => cases m
  have wo : Ex G (oth σ Γ H) := fun b o e => by
    rw [oth_at (fun z => by rw [(own z).2.1] at e; cases e)]
    exact R.r.r.w _ _ e
  have start : RelS G (oth σ Γ H) G H σ Γ := ⟨R.r.r, ⟨.refl G, fun b o e => (oth_some e).1, R.r.r.w, fun b h1 _ _ => h1⟩, fun i c' p e m ep => by unfold oth; rw [if_pos ⟨i, c', e, m, ep⟩]⟩
  have notS : ∀ b, b ∈ [s, l, c] → oth σ Γ H b = H b := fun b hb => oth_at fun z => (own z).2.2.1 hb
  have wdo : Wd G (oth σ Γ H) s l c T := by
    obtain ⟨⟨lg, cs, left, turn, h1, h2, h3, h⟩, q⟩ := R.r.wd.st
    exact ⟨wo, ⟨⟨lg, cs, left, turn, (notS s (by simp)).trans h1, (notS l (by simp)).trans h2, (notS c (by simp)).trans h3, h⟩, q⟩, R.r.wd.gs, R.r.wd.gl, R.r.wd.gc⟩
  have step : ∀ {G2 H2 : Hp}, Stp G (oth σ Γ H) G2 H2 → Wd G2 H2 s l c T ∧ StN s l c G0 H0 (noT G2) H2 ∧ Tabs X.TL H2 := fun {G2 H2} x => by
    have wd2 := wdo.stp x
    refine ⟨wd2, ⟨R.x.g.trans fun b o e => noT_at (x.g _ _ e) fun ps z => R.r.nt b ps (z ▸ e), fun b o hb e => ?_, fun b hb e => ?_, fun b o e => ?_, fun b h1 h2 h3 => ?_⟩, tabs_keep R.r.tb fun b o k e => ?_⟩
    · obtain ⟨e1, e2⟩ := of_noT (R.x.h b o hb e)
      exact noT_at (x.h _ _ ((oth_at fun z => by rw [(own z).1] at e; cases e).trans e1)) e2
    · obtain ⟨⟨lg, cs, left, turn, f1, f2, f3, _⟩, _⟩ := wd2.st
      simp only [List.mem_cons, List.not_mem_nil, or_false] at hb
      rcases hb with z | z | z
      · rw [z, noT_at f1 fun _ z => by cases z]; exact ⟨(fun y => nomatch y), fun _ xs y => nomatch y⟩
      · rw [z, noT_at f2 fun _ z => by cases z]; exact ⟨(fun y => nomatch y), fun _ xs y => nomatch y⟩
      · rw [z, noT_at f3 fun _ z => by cases z]; exact ⟨(fun y => nomatch y), fun _ xs y => nomatch y⟩
    · obtain ⟨e1, e2⟩ := of_noT e
      exact noT_at (x.w _ _ e1) e2
    · have nz : ¬ ∃ (i : Nat) (c' : Ce), Γ[i]? = some c' ∧ isMut c' = true ∧ σ[i]? = some (some (.ref b)) := fun z => h2 (own z).1
      obtain ⟨k1, k2⟩ := R.x.keep h2 h3
      refine noT_none (x.n b (R.x.n b h1 h2 h3) ?_ ?_)
      · rw [oth_at nz]; intro z; exact k1 (noT_none z)
      · rw [oth_at nz]; intro xs z; exact k2 xs (noT_at z fun _ z => by cases z)
    · exact x.h _ _ ((oth_at fun z => (own z).2.2.2 o e k).trans e)
  unfold pws at hp
  split at hp
  · rename_i Γ' e
    obtain ⟨h0, hp⟩ := hp
    refine h G (oth σ Γ H) σ Γ G H start _ e D' fun σ' G2 H2 R2 x2 => ?_
    obtain ⟨wd2, xs2, tb2⟩ := step R2.s
    have R2n : RelS G (oth σ Γ H) (noT G2) H2 σ' Γ' := by
      refine ⟨⟨noT_w R2.r.w, R2.r.len, fun i c' e => ?_, R2.r.sep⟩, ⟨fun b o e => noT_at (R2.s.g _ _ e) fun ps z => R.r.nt b ps (z ▸ e), R2.s.h, noT_w R2.r.w, fun b h1 h2 h3 => noT_none (R2.s.n b h1 h2 h3)⟩, R2.n⟩
      have hc := R2.r.c i c' e
      cases c' with
      | un => trivial
      | fx v => exact hc
      | d z => obtain ⟨v, e1, q⟩ := hc; exact ⟨v, e1, q.noT⟩
      | ml ds => obtain ⟨p, e1, m⟩ := hc; obtain ⟨us, e2, q⟩ := m.at_; exact ⟨p, e1, noT_none m.g, us, e2, q.noT⟩
      | md ds => obtain ⟨p, e1, m⟩ := hc; obtain ⟨us, e2, q⟩ := m.at_; exact ⟨p, e1, noT_none m.g, us, e2, q.noT⟩
    refine hn Γ' T hp σ' (noT G2) H2 ⟨⟨R2n.r, wd_noT wd2, h0.trans R.r.st, fun i c' p e m ep hm => ?_, fun b ps e => (of_noT e).2 ps rfl, tb2, R.r.z.trans fun b o e => noT_at (x2 _ _ e) fun ps z => R.r.nt b ps (z ▸ e)⟩, xs2, fun i c' p e m ep => ?_⟩ fun b o e => noT_at (x2 _ _ e) fun ps z => R.r.nt b ps (z ▸ e)
    · have := R2.n i c' p e m ep
      rw [notS p hm] at this
      obtain ⟨⟨o1, a1, _⟩, ⟨o2, a2, _⟩, o3, a3, _⟩ := R.r.wd.st.at
      simp only [List.mem_cons, List.not_mem_nil, or_false] at hm
      rcases hm with rfl | rfl | rfl
      · rw [this] at a1; cases a1
      · rw [this] at a2; cases a2
      · rw [this] at a3; cases a3
    · have := R2.n i c' p e m ep
      cases e0 : noT H0 p with
      | none => rfl
      | some o =>
        by_cases hm : p ∈ [s, l, c]
        · rw [notS p hm] at this
          obtain ⟨⟨o1, a1, _⟩, ⟨o2, a2, _⟩, o3, a3, _⟩ := R.r.wd.st.at
          simp only [List.mem_cons, List.not_mem_nil, or_false] at hm
          rcases hm with rfl | rfl | rfl
          · rw [this] at a1; cases a1
          · rw [this] at a2; cases a2
          · rw [this] at a3; cases a3
        · have nz : ¬ ∃ (i : Nat) (c' : Ce), Γ[i]? = some c' ∧ isMut c' = true ∧ σ[i]? = some (some (.ref p)) := fun z => by rw [(own z).1] at e0; cases e0
          rw [oth_at nz] at this
          have h4 := (of_noT (R.x.h p o hm e0)).1
          rw [this] at h4
          cases h4
  · rename_i d e
    refine h G (oth σ Γ H) σ Γ G H start _ e D' fun v G2 H2 s2 q2 => ?_
    obtain ⟨wd2, xs2, tb2⟩ := step s2
    exact hr d T hp v (noT G2) H2 (wd_noT wd2) xs2 tb2 q2.noT
  · exact hp.elim
end
end Mv
namespace Mv
open PySem L2 Evl LamX
section
variable {X : Cw} {s l c : Addr} {T T' : Int} {G H G' H' G1 H1 G2 H2 G0 H0 : Hp} {σ σ' : L2.St} {Γ Γ' : En}
variable {E : XK} {ad : Str → Addr} {te ta tb : TE} {fe : En → Re} {tt tu : TT} {wi : TI} {src : En → Ra} {g : TG} {st : Fs} {js vs : List Nat} {Fa Fb Fe F : WE} {FT FU : WB} {tas : TA} {FA : WA} {ts tz : TS} {Fs' Fu : WS} {fs : En → Rf}
def wSeq (F1 F2 : WS) : WS := fun Γ T nx rt => F1 Γ T (fun Γ1 T1 => F2 Γ1 T1 nx rt) rt
theorem w_seq {F1 F2 : WS} (h1 : Sws X ts F1) (h2 : Sws X tz F2) : Sws X (tSeq ts tz) (wSeq F1 F2) := fun s l c G0 H0 T σ Γ G H R nx rt hp D' hn hr =>
  h1 s l c G0 H0 T σ Γ G H R _ rt hp { D' with nx := tz D' } (fun Γ' T' h σ' G2 H2 R2 x => h2 s l c G0 H0 T' σ' Γ' G2 H2 R2 nx rt h D' (fun Γ3 T3 h3 σ3 G3 H3 R3 x3 => hn Γ3 T3 h3 σ3 G3 H3 R3 (x.trans x3)) hr) hr
def wAsg (F : WE) (st : Fs) : WS := fun Γ T nx _ => F Γ T fun d T1 => match st d Γ with
  | some Γ1 => nx Γ1 T1
  | none => False
theorem w_asg (he : Sw X te F) (hg : Sg g st js) (hi : X.i0 ∉ js) : Sws X (tAsg te g) (wAsg F st) := fun s l c G0 H0 T σ Γ G H R nx rt hp D' hn hr =>
  he s l c T σ Γ G H R.r _ hp _ fun d T1 h1 v G2 H2 R2 x2 q2 => by
    split at h1
    · rename_i Γ1 e
      refine hg σ Γ G2 H2 R2.r v d Γ1 q2 e _ fun σ3 RR l3 o3 m3 f3 => ?_
      refine hn Γ1 T1 h1 σ3 G2 H2 ⟨R2.go (RR _ _ (.refl _) R2.r) o3 m3 f3 hi, R.x.trans x2, fun i c' p ec mc ep => ?_⟩ x2.g
      obtain ⟨e1, e2⟩ := m3 i c' ec mc
      exact R.n i c' p e1 mc (e2 ▸ ep)
    · exact h1.elim
def wRet (F : WE) : WS := fun Γ T _ rt => F Γ T rt
theorem w_ret (he : Sw X te F) : Sws X (tRet te) (wRet F) := fun s l c G0 H0 T σ Γ G H R nx rt hp D' hn hr =>
  he s l c T σ Γ G H R.r _ hp _ fun d T1 h1 v G2 H2 R2 x2 q2 => hr d T1 h1 v G2 H2 R2.wd (R.x.trans x2) R2.tb q2
def wDrop (F : WE) : WS := fun Γ T nx _ => F Γ T fun _ T1 => nx Γ T1
def wIfS (FT : WB) (F1 F2 : WS) : WS := fun Γ T nx rt => FT Γ T fun b T1 => if b = true then F1 Γ T1 nx rt else F2 Γ T1 nx rt
theorem w_ifS {F1 F2 : WS} (ht : Swb X tt FT) (h1 : Sws X ts F1) (h2 : Sws X tz F2) : Sws X (tIfS tt ts tz) (wIfS FT F1 F2) := fun s l c G0 H0 T σ Γ G H R nx rt hp D' hn hr =>
  ht s l c T σ Γ G H R.r _ hp _ fun b T1 hb G2 H2 R2 x2 => by
    cases b with
    | true =>
      rw [if_pos rfl] at hb ⊢
      exact h1 s l c G0 H0 T1 σ Γ G2 H2 (R.sts R2 x2) nx rt hb D' (fun Γ3 T3 h3 σ3 G3 H3 R3 x3 => hn Γ3 T3 h3 σ3 G3 H3 R3 (x2.g.trans x3)) hr
    | false =>
      rw [if_neg (by decide)] at hb ⊢
      exact h2 s l c G0 H0 T1 σ Γ G2 H2 (R.sts R2 x2) nx rt hb D' (fun Γ3 T3 h3 σ3 G3 H3 R3 x3 => hn Γ3 T3 h3 σ3 G3 H3 R3 (x2.g.trans x3)) hr
def wNext : WS := fun Γ T nx _ => nx Γ T
theorem w_next : Sws X tNext wNext := fun s l c G0 H0 T σ Γ G H R nx rt hp D' hn hr => hn Γ T hp σ G H R (.refl G)
def wFrz (k : Nat → Bool) (F : WS) : WS := fun Γ T nx rt => F (lockL k Γ) T nx rt
def forWGo (st : Fs) (F : WS) : List D → En → Int → (En → Int → Prop) → (D → Int → Prop) → Prop
  | [], Γ, T, nx, _ => nx Γ T
  | a :: as, Γ, T, nx, rt => match st a Γ with
    | some Γ1 => F Γ1 T (fun Γ2 T2 => forWGo st F as Γ2 T2 nx rt) rt
    | none => False
def wFor (FS : WA) (st : Fs) (F : WS) : WS := fun Γ T nx rt => FS Γ T fun as T1 => forWGo st F as Γ T1 nx rt
def Swi (X : Cw) (wi : TI) (F : WA) : Prop := ∀ s l c T σ Γ G H, RelW X s l c T G H σ Γ → ∀ post, F Γ T post → ∀ Q : It → Hp → Prop, (∀ d T', post d T' → ∀ J G2 H2, RelW X s l c T' G2 H2 σ Γ → StN s l c G H G2 H2 → Wlk J G2 d → Q J H2) → wi σ H Q
theorem w_src (h : Si E ad wi src) : Swi X wi (pwa src) := fun s l c T σ Γ G H R post hp Q q => by
  unfold pwa at hp
  split at hp
  · rename_i d e
    refine h σ Γ G H R.r _ e Q fun J G2 H2 s2 q2 => ?_
    exact q d T hp J (noT G2) H2 (R.sts (s2.toS (S := [s, l, c])) (R.wd.stp s2)) (R.toN s2) q2
  · exact hp.elim
theorem w_for {FS : WA} {F1 : WS} (hs : Swi X wi FS) (hg : Sg g st js) (hb : Sws X ts F1) (hi : X.i0 ∉ js) : Sws X (tFor wi g ts) (wFor FS st F1) := fun s l c G0 H0 T σ Γ G H R nx rt hp D' hn hr =>
  hs s l c T σ Γ G H R.r _ hp _ fun as T1 h1 J G1 H1 R1 x1 wl => by
    refine ⟨fun i m σ' H' => m = as.length - i ∧ i ≤ as.length ∧ ∃ Γi Ti Gi, RelWS X s l c G0 H0 Ti Gi H' σ' Γi ∧ Ex G1 Gi ∧ forWGo st F1 (as.drop i) Γi Ti nx rt, ⟨as.length, rfl, Nat.zero_le _, Γ, T1, G1, R.sts R1 x1, .refl _, h1⟩, ?_⟩
    rintro i m σ' H' ⟨rfl, hil, Γi, Ti, Gi, Ri, xi, ei⟩
    have xg : Ex G Gi := x1.g.trans xi
    cases hd : as.drop i with
    | nil =>
      have el : i = as.length := by
        have := congrArg List.length hd
        rw [List.length_drop, List.length_nil] at this
        omega
      rw [hd] at ei
      exact .inl ⟨(wl i H' (xi.trans Ri.r.r.w)).2 el, hn Γi Ti ei σ' Gi H' Ri xg⟩
    | cons a as2 =>
      obtain ⟨ha, hd2⟩ := drop_at hd
      have hlt : i < as.length := (List.getElem?_eq_some_iff.mp ha).1
      obtain ⟨hgo, hy⟩ := (wl i H' (xi.trans Ri.r.r.w)).1 a ha
      refine .inr ⟨hgo, fun σ2 H2 => ∃ Γ2 T2 G2, RelWS X s l c G0 H0 T2 G2 H2 σ2 Γ2 ∧ Ex G1 G2 ∧ forWGo st F1 (as.drop (i + 1)) Γ2 T2 nx rt, fun σ2 H2 hN => ⟨as.length - (i + 1), by omega, rfl, hlt, hN⟩, ?_⟩
      intro v H2 hyl
      obtain ⟨G2, s2, qv⟩ := hy v H2 hyl Gi xi Ri.r.r.w
      have R2 := Ri.sts (Ri.r.sts (s2.toS (S := [s, l, c])) (Ri.r.wd.stp s2)) (Ri.r.toN s2)
      have y2 := (Ri.r.toN s2).g
      rw [hd] at ei
      unfold forWGo at ei
      cases hst : st a Γi with
      | none => rw [hst] at ei; exact ei.elim
      | some Γ1 =>
        rw [hst] at ei
        dsimp only at ei
        refine hg σ' Γi (noT G2) H2 R2.r.r v a Γ1 qv.noT hst _ fun σ3 RR l3 o3 m3 f3 => ?_
        have R3 : RelWS X s l c G0 H0 Ti (noT G2) H2 σ3 Γ1 := ⟨R2.r.go (RR _ _ (.refl _) R2.r.r) o3 m3 f3 hi, R2.x, fun i c' p ec mc ep => by
          obtain ⟨e1, e2⟩ := m3 i c' ec mc
          exact R2.n i c' p e1 mc (e2 ▸ ep)⟩
        rw [hd2]
        exact hb s l c G0 H0 Ti σ3 Γ1 (noT G2) H2 R3 _ rt ei { D' with nx := _, ct := _, bk := D'.nx } (fun Γ4 T4 h4 σ4 G4 H4 R4 x4 => ⟨Γ4, T4, G4, R4, (xi.trans y2).trans x4, h4⟩) hr
def wApp (i : Nat) (F : WE) : WS := fun Γ T nx _ => match Γ[i]? with
  | some (.ml ds) => F Γ T fun d T1 => small ds.length = true ∧ nx (Γ.set i (.ml (ds ++ [d]))) T1
  | _ => False
def wPar (i j : Nat) (Fa Fb : WE) : WS := fun Γ T nx _ => Fa Γ T fun x T1 => Fb Γ T1 fun y T2 => nx ((Γ.set i (.d x)).set j (.d y)) T2
theorem RelWS.setD {v : V} {d : D} {j : Nat} (R : RelWS X s l c G0 H0 T G H σ Γ) (q : Dq G v d) (hj : X.i0 ≠ j) : RelWS X s l c G0 H0 T G H (σ.set j (some v)) (Γ.set j (.d d)) := by
  refine ⟨⟨R.r.r.set q, R.r.wd, by rw [List.getElem?_set_ne (fun z => hj z.symm)]; exact R.r.st, fun i c' p e mc ep => ?_, R.r.nt, R.r.tb, R.r.z⟩, R.x, fun i c' p e mc ep => ?_⟩
  · rcases set_at e with ⟨rfl, hl, rfl⟩ | ⟨ne, e⟩
    · cases mc
    · rw [List.getElem?_set_ne (fun z => ne z.symm)] at ep
      exact R.r.ap i c' p e mc ep
  · rcases set_at e with ⟨rfl, hl, rfl⟩ | ⟨ne, e⟩
    · cases mc
    · rw [List.getElem?_set_ne (fun z => ne z.symm)] at ep
      exact R.n i c' p e mc ep
theorem w_par {i j : Nat} (ha : Sw X ta Fa) (hb : Sw X tb Fb) (hi : X.i0 ≠ i) (hj : X.i0 ≠ j) : Sws X (tPar i j (tCons ta (tCons tb tNil))) (wPar i j Fa Fb) := fun s l c G0 H0 T σ Γ G H R nx rt hp D' hn hr =>
  ha s l c T σ Γ G H R.r _ hp _ fun d T1 h1 v G2 H2 R2 x2 q2 => hb s l c T1 σ Γ G2 H2 R2 _ h1 _ fun y T2 h2 u G3 H3 R3 x3 q3 =>
    ⟨v, u, rfl, hn _ T2 h2 _ G3 H3 ((((R.sts R2 x2).sts R3 x3).setD (q2.mono x3.g) hi).setD q3 hj) (x2.g.trans x3.g)⟩
end
def bodyW (F : WS) (k n : Nat) (ds : List D) (T : Int) (post : D → Int → Prop) : Prop := ds.length = k ∧ ∀ s : Addr, F (Ce.fx (.ref s) :: (ds.map Ce.d ++ List.replicate n .un)) T (fun _ T' => post .none T') post
def X0 (TL : List (Addr × Str)) : Cw := ⟨TL, 0, fun _ => none⟩
theorem startW {TL : List (Addr × Str)} {N : List Str} {k n : Nat} {ts : TS} {F : WS} {G H : Hp} {s l c : Addr} {T : Int} {vs : List V} {ds : List D} {post : D → Int → Prop} {Q : VK} (hN : N.length = 1 + k + n) (hs : Sws (X0 TL) ts F) (h : DqA G vs ds) (wd : Wd G H s l c T) (nt : ∀ (b : Addr) (ps : Array Value), G b ≠ some (.tbl ps)) (tb : Tabs TL H) (hb : bodyW F k n ds T post)
    (q : ∀ z T', post z T' → ∀ v G' H', Wd G' H' s l c T' → StN s l c G H G' H' → Tabs TL H' → Dq G' v z → Q v H') : ts { nx := fun _ H' => Q .non H', rt := Q } (L2.start N (.ref s :: vs)) H := by
  obtain ⟨hk, hF⟩ := hb
  have lv : vs.length = k := h.len.trans hk
  have e : L2.start N (.ref s :: vs) = some (.ref s) :: (vs.map some ++ List.replicate n none) := by
    unfold L2.start
    rw [List.length_cons, show N.length - (vs.length + 1) = n by omega]; rfl
  rw [e]
  have nm : ∀ {i : Nat} {c' : Ce}, (Ce.fx (.ref s) :: (ds.map Ce.d ++ List.replicate n .un))[i]? = some c' → isMut c' = false ∧ CellOk G H ((some (.ref s) :: (vs.map some ++ List.replicate n none))[i]?) c' := fun {i c'} e => by
    cases i with
    | zero => cases e; exact ⟨rfl, rfl⟩
    | succ i =>
      rw [List.getElem?_cons_succ] at e ⊢
      by_cases hi : i < ds.length
      · rw [List.getElem?_append_left (by rw [List.length_map]; exact hi), List.getElem?_map] at e
        obtain ⟨d, hd, rfl⟩ := Option.map_eq_some_iff.mp e
        obtain ⟨v, hv, q⟩ := h.getD hd
        refine ⟨rfl, v, ?_, q⟩
        rw [List.getElem?_append_left (by rw [List.length_map, h.len]; exact hi), List.getElem?_map, hv]; rfl
      · rw [List.getElem?_append_right (by rw [List.length_map]; omega), List.getElem?_replicate] at e
        split at e
        · cases e; exact ⟨rfl, trivial⟩
        · cases e
  have R : RelWS (X0 TL) s l c G H T G H (some (.ref s) :: (vs.map some ++ List.replicate n none)) (Ce.fx (.ref s) :: (ds.map Ce.d ++ List.replicate n .un)) := by
    refine ⟨⟨⟨wd.w, by simp [h.len], fun i c' e => (nm e).2, fun i j p ci cj e1 _ m1 _ _ _ => ?_⟩, wd, rfl, fun i c' p e m _ => ?_, nt, tb, fun b o e => nomatch e⟩, .refl fun b o e => noT_at (wd.w _ _ e) fun ps z => nt b ps (z ▸ e), fun i c' p e m _ => ?_⟩
    · rw [(nm e1).1] at m1; cases m1
    · rw [(nm e).1] at m; cases m
    · rw [(nm e).1] at m; cases m
  exact hs s l c G H T _ _ G H R _ _ (hF s) _ (fun Γ' T' h σ' G2 H2 R2 x => q _ T' h .non G2 H2 R2.r.wd R2.x R2.r.tb .non) fun d T' h v G2 H2 wd2 x2 tb2 q2 => q d T' h v G2 H2 wd2 x2 tb2 q2
end Mv
namespace Mv
open PySem L2 Evl LamX
def SpMixK (K : PySem.W.Frag) : Sp := fun vs H Q _ => ∃ (G : Hp) (s l c : Addr) (T : Int) (v1 : V) (as : List D) (k0 : Bool), vs = [.ref s, v1] ∧ Dq G v1 (sq k0 as) ∧ SeqAt.shaped (.list as) = true ∧ flatDs as = true ∧ as.length < 1000000 ∧ Wd G H s l c T ∧ T + (as.length : Int) < 1000000000000 ∧
  ∀ v bs G' H', (∀ b ∈ bs, b ∈ as) → bs.length = as.length → bs.Perm as → Wd G' H' s l c (T + (as.length : Int)) → StS [s, l, c] G H G' H' → Dq G' v (.list bs) → Q v H'
def SpBegun (K : PySem.W.Frag) : Sp := fun vs H Q _ => ∃ (G : Hp) (a : Addr) (ns : List Int), vs = [.ref a] ∧ Ex G H ∧ SqL K H a (ns.map V.int) ∧ ns.length ≤ 1000 ∧ ∀ s l c H', Wd G H' s l c 0 → Ex H H' → Q (.ref s) H'
def W__law_draw (ds : List D) (T : Int) (post : D → Int → Prop) : Prop := ∃ n : Int, ds = [.int n] ∧ 0 < n ∧ n < 1073741824 ∧ T < 1000000000000 ∧ ∀ r, 0 ≤ r → r < n → post (.int r) (T + 1)
theorem pri_draw {TL : List (Addr × Str)} (vs : List V) (H : Hp) (Q : VK) (E : XK) (h : SpW TL W__law_draw vs H Q E) : SpDraw vs H Q E := by
  obtain ⟨G, s, l, c, T, vs', ds, post, rfl, hv, wd, nt, tb, ⟨n, rfl, n1, n2, hT, hp⟩, k⟩ := h
  cases hv with
  | @cons v0 vs d0 ds hv0 hn =>
    cases hn
    cases hv0
    exact ⟨G, s, l, c, T, n, rfl, wd, n1, n2, hT, fun r H' r0 r1 wd' ss => k _ _ (hp r r0 r1) _ (noT G) H' (wd_noT wd') (StN.of nt ss wd') (tabs_sts tb wd.st ss) (.int _)⟩
def W__law_mixed (ds : List D) (T : Int) (post : D → Int → Prop) : Prop := ∃ (as : List D) (k0 : Bool), ds = [sq k0 as] ∧ SeqAt.shaped (.list as) = true ∧ flatDs as = true ∧ as.length < 1000000 ∧ T + (as.length : Int) < 1000000000000 ∧ ∀ bs, bs.Perm as → post (.list bs) (T + (as.length : Int))
theorem pri_mixed {K : PySem.W.Frag} {TL : List (Addr × Str)} (vs : List V) (H : Hp) (Q : VK) (E : XK) (h : SpW TL W__law_mixed vs H Q E) : SpMixK K vs H Q E := by
  obtain ⟨G, s, l, c, T, vs', ds, post, rfl, hv, wd, nt, tb, ⟨as, k0, rfl, h1, h2, h3, h4, hp⟩, k⟩ := h
  cases hv with
  | @cons v0 vs d0 ds hv0 hn =>
    cases hn
    exact ⟨G, s, l, c, T, v0, as, k0, rfl, hv0, h1, h2, h3, wd, h4, fun v bs G' H' _ _ p wd' ss q => k _ _ (hp bs p) v (noT G') H' (wd_noT wd') (StN.of nt ss wd') (tabs_sts tb wd.st ss) q.noT⟩
end Mv
namespace Mv
open PySem L2 Evl LamX
section
variable {X : Cw} {s l c : Addr} {T T' : Int} {G H G' H' G1 H1 G2 H2 G0 H0 : Hp} {σ : L2.St} {Γ Γ' : En} {K : PySem.W.Frag}
variable {E : XK} {ad : Str → Addr} {te ta tb : TE} {fe : En → Re} {tt tu : TT} {wi : TI} {src : En → Ra} {g : TG} {st : Fs} {js vs : List Nat} {Fa Fb Fe F : WE} {FT FU : WB} {tas : TA} {FA : WA}
def wIL (F : WE) : WA := fun Γ T post => F Γ T fun d T1 => match d with
  | .list as => post as T1
  | _ => False
def wIT (F : WE) : WA := fun Γ T post => F Γ T fun d T1 => match d with
  | .tuple as => post as T1
  | _ => False
def wR1 (FA : WA) : WA := fun Γ T post => FA Γ T fun ds T1 => match ds with
  | [.int j] => small j.toNat = true ∧ -1000000 ≤ j ∧ post (upFrom 0 j.toNat) T1
  | _ => False
theorem w_rng1 (h : Swa X tas FA) : Swi X (iRng1 tas) (wR1 FA) := fun s l c T σ Γ G H R post hp Q q => by
  refine h s l c T σ Γ G H R _ hp _ fun ds T1 h1 vs G2 H2 R2 x2 q2 => ?_
  split at h1
  · rename_i j
    obtain ⟨k1, k2, h1⟩ := h1
    have := small_le k1
    cases q2 with
    | cons q3 q4 =>
      cases q4
      cases q3
      exact ⟨j, rfl, by omega, by omega, q _ T1 h1 _ G2 H2 R2 x2 (wlk_rng 0 _)⟩
  · exact h1.elim
def wZ2 (k1 k2 : Bool) (FA : WA) : WA := fun Γ T post => FA Γ T fun ds T1 => match ds with
  | [x, y] => match sqOf k1 x, sqOf k2 y with
    | some as, some bs => post (zipT as bs) T1
    | _, _ => False
  | _ => False
def wLenS (a : Addr) (n : Nat) : WE := fun Γ T post => Γ[0]? = some (.fx (.ref a)) ∧ post (.int (n : Nat)) T
theorem w_lenS {a : Addr} {ns : List Int} (hseq : ∀ H', Ex X.Z H' → SqL K H' a (ns.map V.int)) : Sw X (tCB (rLenA K) (tCons (tVar 0) tNil)) (wLenS a ns.length) := fun s l c T σ Γ G H R post hp Q q => by
  obtain ⟨h0, hp⟩ := hp
  refine ⟨.ref a, R.r.c 0 _ h0, a, ns.map V.int, rfl, .inl (hseq H (R.z.trans R.r.w)), ?_⟩
  rw [List.length_map]
  exact q _ T hp _ G H R R.rf (.int _)
def onlyA (H : Hp) (a : Addr) : Hp := fun b => if b = a then H a else none
theorem onlyA_ex {H : Hp} {a : Addr} : Ex (onlyA H a) H := fun b o q => by
  unfold onlyA at q
  split at q
  · rename_i e; rw [e]; exact q
  · cases q
def XL (TL : List (Addr × Str)) (H : Hp) (a : Addr) : Cw := ⟨TL, 1, noT (onlyA H a)⟩
theorem XL_seq {TL : List (Addr × Str)} {H : Hp} {a : Addr} {ns : List Int} (hS : SqL K H a (ns.map V.int)) : ∀ H', Ex (XL TL H a).Z H' → SqL K H' a (ns.map V.int) := fun H' e => by
  have g : onlyA H a a = H a := if_pos rfl
  rcases hS with (z | ⟨o, z⟩) | z
  · exact .inl (.inl (e _ _ (noT_at (g.trans z) fun _ z => by cases z)))
  · exact .inl (.inr ⟨o, e _ _ (noT_at (g.trans z) fun _ z => by cases z)⟩)
  · exact .inr z
theorem law_go {TL : List (Addr × Str)} {N : List Str} {n : Nat} {ts : TS} {F : WS} {H : Hp} {a : Addr} {ns : List Int} {Q : VK} {E' : XK} (hN : N.length = 2 + n) (hs : Sws (XL TL H a) ts F) (hS : SqL K H a (ns.map V.int)) (hlen : ns.length ≤ 63) (hTL : ∀ p ∈ TL, H p.1 = some (.tbl #[]))
    (hF : ∀ s : Addr, F (Ce.fx (.ref a) :: Ce.fx (.ref s) :: List.replicate n .un) 0 (fun _ _ => False) (fun d _ => d = .bool true)) (q : ∀ H', Q (.bl true) H') :
    tSeq (tAsg (tCall (SpBegun K) [] E' (tCons (tVar 0) tNil)) (gName 1)) ts { nx := fun _ H' => Q .non H', rt := Q } (L2.start N [.ref a]) H := by
  have e : L2.start N [.ref a] = some (.ref a) :: none :: List.replicate n none := by
    unfold L2.start
    rw [List.length_singleton, show N.length - 1 = n + 1 by omega, List.replicate_succ]; rfl
  rw [e]
  refine ⟨.ref a, rfl, onlyA H a, a, ns, rfl, onlyA_ex, hS, by omega, fun s l c H1 wd1 e1 => ?_⟩
  dsimp only [gName]
  have ex00 : Ex (noT (onlyA H a)) (onlyA H a) := fun b o q => (of_noT q).1
  have wd := wd_noT wd1
  have nm : ∀ {i : Nat} {c' : Ce}, (Ce.fx (.ref a) :: Ce.fx (.ref s) :: List.replicate n Ce.un)[i]? = some c' → isMut c' = false ∧ CellOk (noT (onlyA H a)) H1 ((some (.ref a) :: some (.ref s) :: List.replicate n none : L2.St)[i]?) c' := fun {i c'} e => by
    match i with
    | 0 => cases e; exact ⟨rfl, rfl⟩
    | 1 => cases e; exact ⟨rfl, rfl⟩
    | i + 2 =>
      rw [List.getElem?_cons_succ, List.getElem?_cons_succ, List.getElem?_replicate] at e
      split at e
      · cases e; exact ⟨rfl, trivial⟩
      · cases e
  have R : RelWS (XL TL H a) s l c (noT (onlyA H a)) H1 0 (noT (onlyA H a)) H1 (some (.ref a) :: some (.ref s) :: List.replicate n none) (Ce.fx (.ref a) :: Ce.fx (.ref s) :: List.replicate n Ce.un) := by
    refine ⟨⟨⟨wd.w, by simp, fun i c' e => (nm e).2, fun i j p ci cj e1 _ m1 _ _ _ => ?_⟩, wd, rfl, fun i c' p e m _ => ?_, fun b ps z => (of_noT z).2 ps rfl, fun p hp => TabS.nil (e1 _ _ (hTL p hp)), .refl _⟩, .refl fun b o e => noT_at (wd.w _ _ e) fun ps z => (of_noT e).2 ps (z ▸ rfl), fun i c' p e m _ => ?_⟩
    · rw [(nm e1).1] at m1; cases m1
    · rw [(nm e).1] at m; cases m
    · rw [(nm e).1] at m; cases m
  exact hs s l c _ _ 0 _ _ _ _ R _ _ (hF s) _ (fun _ _ z => z.elim) fun d T' h v G2 H2 _ _ _ q2 => by
    rw [h] at q2
    cases q2
    exact q _
end
end Mv
namespace Mv
open PySem PySem.Spec L2 PyProof.Rows
section
variable {X : Cx} {pins : List (Addr × Obj)} {σ : L2.St} {H : Hp} {s : Shared} {a : Addr} {oe : Obj}
end
section
variable {X : Cx} {x n : Str} {c : Value} {i : Nat} {body suite : List Stmt} {b₀ : Stmt} {pa pb pc : Pos} {tb : WX → TS} {ts : Addr → Value → Option Addr → TS} {Wo : WX}
end
end Mv
namespace Mv
open PySem L2 Evl LamX
section
variable {X : Cw} {s l c : Addr} {T T' : Int} {G H G' H' G1 H1 G2 H2 G0 H0 : Hp} {σ : L2.St} {Γ Γ' : En} {K : PySem.W.Frag}
variable {ad : Str → Addr} {fas : En → Ra} {tas : TA}
end
end Mv
namespace Mv
open PySem L2 Evl LamX
theorem passF {P : Program} {w : World} {X : Cx} : Passes (L2.CX P w) X (fun _ _ _ => False) := fun _ _ _ _ _ _ _ ⟨_, _, _, _, _, _, _, _, _, _, _, _, z⟩ => z.elim
section
variable {X : Cw} {s l c : Addr} {T T' : Int} {G H G' H' G1 H1 G2 H2 G0 H0 : Hp} {σ : L2.St} {Γ Γ' : En} {K : PySem.W.Frag}
variable {E : XK} {ad : Str → Addr} {te ta tb : TE} {fe : En → Re} {Fa Fb Fe F : WE}
theorem RelWS.setM {p : Addr} {ds : List D} {j : Nat} (R : RelWS X s l c G0 H0 T G H σ Γ) (st : Stp G H G2 H2) (hp : H p = none) (m : ML G2 H2 p ds) (hj : X.i0 ≠ j) : RelWS X s l c G0 H0 T (noT G2) H2 (σ.set j (some (.ref p))) (Γ.set j (.ml ds)) := by
  have R1 := R.r.sts (st.toS (S := [s, l, c])) (R.r.wd.stp st)
  have x1 := R.x.trans (R.r.toN st)
  obtain ⟨us, e2, q⟩ := m.at_
  have apart : ∀ {i : Nat} {c' : Ce}, Γ[i]? = some c' → isMut c' = true → σ[i]? ≠ some (some (.ref p)) := fun {i c'} e mc z => by
    have := R.r.r.c i c' e
    cases c' with
    | ml d => obtain ⟨p2, e2, m2⟩ := this; rw [z] at e2; cases e2; obtain ⟨us, e3, _⟩ := m2.at_; rw [hp] at e3; cases e3
    | md d => obtain ⟨p2, e2, m2⟩ := this; rw [z] at e2; cases e2; obtain ⟨us, e3, _⟩ := m2.at_; rw [hp] at e3; cases e3
    | _ => cases mc
  have old0 : noT H0 p = none := by
    cases e : noT H0 p with
    | none => rfl
    | some o =>
      by_cases hb : p ∈ [s, l, c]
      · obtain ⟨⟨lg, cs, left, turn, f1, f2, f3, _⟩, _⟩ := R.r.wd.st
        simp only [List.mem_cons, List.not_mem_nil, or_false] at hb
        rcases hb with z | z | z
        · rw [z, f1] at hp; cases hp
        · rw [z, f2] at hp; cases hp
        · rw [z, f3] at hp; cases hp
      · have := (of_noT (R.x.h p o hb e)).1
        rw [hp] at this; cases this
  have pS : p ∉ [s, l, c] := fun hb => by
    obtain ⟨⟨lg, cs, left, turn, f1, f2, f3, _⟩, _⟩ := R.r.wd.st
    simp only [List.mem_cons, List.not_mem_nil, or_false] at hb
    rcases hb with z | z | z
    · rw [z, f1] at hp; cases hp
    · rw [z, f2] at hp; cases hp
    · rw [z, f3] at hp; cases hp
  have R2 := R.r.r.stp st
  refine ⟨⟨⟨R1.r.w, by rw [List.length_set, List.length_set]; exact R1.r.len, fun i c' e => ?_, fun i j' q' ci cj e1 e2' m1 m2 s1 s2 => ?_⟩, R1.wd, by rw [List.getElem?_set_ne (fun z => hj z.symm)]; exact R1.st, fun i c' q' e mc ep => ?_, R1.nt, R1.tb, R1.z⟩, x1, fun i c' q' e mc ep => ?_⟩
  · rcases set_at e with ⟨rfl, hl, rfl⟩ | ⟨ne, e⟩
    · exact ⟨p, by rw [List.getElem?_set_self (by rw [R.r.r.len]; exact hl)], noT_none m.g, us, e2, q.noT⟩
    · have := R1.r.c i c' e
      rw [List.getElem?_set_ne (fun z => ne z.symm)]
      exact this
  · rcases set_at e1 with ⟨rfl, hl, rfl⟩ | ⟨ne, k1⟩
    · rw [List.getElem?_set_self (by rw [R.r.r.len]; exact hl)] at s1
      cases s1
      rcases set_at e2' with ⟨rfl, _, _⟩ | ⟨ne2, k2⟩
      · rfl
      · rw [List.getElem?_set_ne (fun z => ne2 z.symm)] at s2
        exact (apart k2 m2 s2).elim
    · rw [List.getElem?_set_ne (fun z => ne z.symm)] at s1
      rcases set_at e2' with ⟨rfl, hl, rfl⟩ | ⟨ne2, k2⟩
      · rw [List.getElem?_set_self (by rw [R.r.r.len]; exact hl)] at s2
        cases s2
        exact (apart k1 m1 s1).elim
      · rw [List.getElem?_set_ne (fun z => ne2 z.symm)] at s2
        exact R.r.r.sep i j' q' ci cj k1 k2 m1 m2 s1 s2
  · rcases set_at e with ⟨rfl, hl, rfl⟩ | ⟨ne, e⟩
    · rw [List.getElem?_set_self (by rw [R.r.r.len]; exact hl)] at ep
      cases ep
      exact pS
    · rw [List.getElem?_set_ne (fun z => ne z.symm)] at ep
      exact R.r.ap i c' q' e mc ep
  · rcases set_at e with ⟨rfl, hl, rfl⟩ | ⟨ne, e⟩
    · rw [List.getElem?_set_self (by rw [R.r.r.len]; exact hl)] at ep
      cases ep
      exact old0
    · rw [List.getElem?_set_ne (fun z => ne z.symm)] at ep
      exact R.n i c' q' e mc ep
def wParM (i j : Nat) (Fa : WE) (fb : En → Re) : WS := fun Γ T nx _ => Fa Γ T fun x T1 => match fb Γ with
  | some (.val (.list ds)) => nx ((Γ.set i (.d x)).set j (.ml ds)) T1
  | _ => False
theorem w_parM {i j : Nat} (ha : Sw X ta Fa) (hb : Sm E ad tb fe) (hi : X.i0 ≠ i) (hj : X.i0 ≠ j) : Sws X (tPar i j (tCons ta (tCons tb tNil))) (wParM i j Fa fe) := fun s l c G0 H0 T σ Γ G H R nx rt hp D' hn hr =>
  ha s l c T σ Γ G H R.r _ hp _ fun d T1 h1 v G2 H2 R2 x2 q2 => by
    split at h1
    · rename_i ds e
      refine hb σ Γ G2 H2 R2.r _ e _ fun p G3 H3 s3 h0 m => ?_
      exact ⟨v, .ref p, rfl, hn _ T1 h1 _ (noT G3) H3 (((R.sts R2 x2).setD q2 hi).setM s3 h0 m hj) (x2.g.trans (R2.toN s3).g)⟩
    · exact h1.elim
def wAsgL (i : Nat) (FA : WA) : WS := fun Γ T nx _ => FA Γ T fun ds T1 => small ds.length = true ∧ nx (Γ.set i (.ml ds)) T1
def wAndV (Fa Fb : WE) : WE := fun Γ T post => Fa Γ T fun d T1 => match d with
  | .bool b => if b = true then Fb Γ T1 post else post (.bool false) T1
  | _ => False
def wOrV (Fa Fb : WE) : WE := fun Γ T post => Fa Γ T fun d T1 => match d with
  | .bool b => if b = true then post (.bool true) T1 else Fb Γ T1 post
  | _ => False
def wNotV (Fa : WE) : WE := fun Γ T post => Fa Γ T fun d T1 => match d with
  | .bool b => post (.bool (!b)) T1
  | _ => False
end
end Mv
namespace Mv
open PySem L2 Evl LamX
def permL {α : Type} (is : List Nat) (xs : List α) : List α := is.filterMap fun i => xs[i]?
section
variable {E : XK} {ad : Str → Addr} {G H : Hp} {tas : TA} {fas : En → Ra} {X : Cw} {FA : WA}
def fCallP (is : List Nat) (n : Nat) (g : List D → Re) (fas : En → Ra) (Γ : En) : Re := bndA (fas Γ) fun ds => if Nat.beq ds.length n = true then g (permL is ds) else none
end
end Mv
namespace Mv
open PySem PySem.Spec PyProof.Rows L2 Evl LamX
section
variable {P : Program} {w : World} {mg : Str → Option Value} {base : Heap} {K : PySem.W.Frag}
end
end Mv
namespace Mv
open PySem L2 Evl
mutual
def sameD : D → D → Bool
  | .none, .none => true
  | .bool a, .bool b => a == b
  | .int a, .int b => decide (a = b)
  | .str a, .str b => decide (a = b)
  | .list a, .list b => sameDs a b
  | .tuple a, .tuple b => sameDs a b
  | _, _ => false
def sameDs : List D → List D → Bool
  | [], [] => true
  | a :: as, b :: bs => sameD a b && sameDs as bs
  | _, _ => false
end
mutual
theorem sameD_eq : ∀ {a b : D}, sameD a b = true → a = b
  | .none, .none, _ => rfl
  | .bool a, .bool b, h => by unfold sameD at h; rw [eq_of_beq h]
  | .int a, .int b, h => by unfold sameD at h; rw [of_decide_eq_true h]
  | .str a, .str b, h => by unfold sameD at h; rw [of_decide_eq_true h]
  | .list a, .list b, h => by unfold sameD at h; rw [sameDs_eq h]
  | .tuple a, .tuple b, h => by unfold sameD at h; rw [sameDs_eq h]
  | .none, .bool _, h => by cases h
  | .none, .int _, h => by cases h
  | .none, .str _, h => by cases h
  | .none, .list _, h => by cases h
  | .none, .tuple _, h => by cases h
  | .none, .dict _, h => by cases h
  | .bool _, .none, h => by cases h
  | .bool _, .int _, h => by cases h
  | .bool _, .str _, h => by cases h
  | .bool _, .list _, h => by cases h
  | .bool _, .tuple _, h => by cases h
  | .bool _, .dict _, h => by cases h
  | .int _, .none, h => by cases h
  | .int _, .bool _, h => by cases h
  | .int _, .str _, h => by cases h
  | .int _, .list _, h => by cases h
  | .int _, .tuple _, h => by cases h
  | .int _, .dict _, h => by cases h
  | .str _, .none, h => by cases h
  | .str _, .bool _, h => by cases h
  | .str _, .int _, h => by cases h
  | .str _, .list _, h => by cases h
  | .str _, .tuple _, h => by cases h
  | .str _, .dict _, h => by cases h
  | .list _, .none, h => by cases h
  | .list _, .bool _, h => by cases h
  | .list _, .int _, h => by cases h
  | .list _, .str _, h => by cases h
  | .list _, .tuple _, h => by cases h
  | .list _, .dict _, h => by cases h
  | .tuple _, .none, h => by cases h
  | .tuple _, .bool _, h => by cases h
  | .tuple _, .int _, h => by cases h
  | .tuple _, .str _, h => by cases h
  | .tuple _, .list _, h => by cases h
  | .tuple _, .dict _, h => by cases h
  | .dict _, .none, h => by cases h
  | .dict _, .bool _, h => by cases h
  | .dict _, .int _, h => by cases h
  | .dict _, .str _, h => by cases h
  | .dict _, .list _, h => by cases h
  | .dict _, .tuple _, h => by cases h
  | .dict _, .dict _, h => by cases h
theorem sameDs_eq : ∀ {a b : List D}, sameDs a b = true → a = b
  | [], [], _ => rfl
  | a :: as, b :: bs, h => by
    unfold sameDs at h
    rw [Bool.and_eq_true] at h
    rw [sameD_eq h.1, sameDs_eq h.2]
  | [], _ :: _, h => by cases h
  | _ :: _, [], h => by cases h
end
def isV (r : Re) (d : D) : Bool := match r with
  | some (.val z) => sameD z d
  | _ => false
theorem isV_eq {r : Re} {d : D} (h : isV r d = true) : r = some (.val d) := by
  unfold isV at h
  split at h
  · rw [sameD_eq h]
  · cases h
theorem few_V {L : List (List Int)} {f : List Int → Re} {g : List Int → D} (h : (L.all fun n => isV (f n) (g n)) = true) {n : List Int} (hn : n ∈ L) : f n = some (.val (g n)) := isV_eq (List.all_eq_true.mp h n hn)
section
variable {α β : Type} {st : Fs} {ft fe : En → Re} {Γ Γ1 : En} {vs : List Nat} {src : En → Ra}
theorem lc_of (e : α → D) (p : α → Bool) (g : α → D) : ∀ (as : List α), (∀ a ∈ as, ∃ Γ1, st (e a) Γ = some Γ1 ∧ ft Γ1 = some (.val (.bool (p a))) ∧ (p a = true → fe Γ1 = some (.val (g a)))) → lcGo st ft fe Γ (as.map e) = some ((as.filter p).map g)
  | [], _ => rfl
  | a :: as, h => by
    obtain ⟨Γ1, h1, h2, h3⟩ := h a (List.mem_cons_self ..)
    have ih := lc_of e p g as fun b hb => h b (List.mem_cons_of_mem _ hb)
    rw [List.map_cons]
    unfold lcGo
    rw [h1]; dsimp only
    rw [h2]; dsimp only
    cases hp : p a with
    | true =>
      rw [if_pos rfl, h3 hp]; dsimp only
      rw [ih, List.filter_cons_of_pos hp]; rfl
    | false =>
      rw [if_neg (by decide), ih, List.filter_cons_of_neg (by rw [hp]; decide)]
theorem flc_of (e : α → D) (p : α → Bool) (g : α → D) (as : List α) (h1 : src Γ = some (.vals (as.map e))) (h2 : as.length ≤ 1000000) (h3 : ∀ a ∈ as, ∃ Γ1, st (e a) (wipeC Γ vs) = some Γ1 ∧ ft Γ1 = some (.val (.bool (p a))) ∧ (p a = true → fe Γ1 = some (.val (g a)))) :
    fLc src st ft fe vs Γ = some (.val (.list ((as.filter p).map g))) := by
  unfold fLc
  rw [h1]; dsimp only
  rw [if_pos (by unfold small; rw [List.length_map]; exact Nat.ble_eq_true_of_le h2), lc_of e p g as h3]
theorem flc_map (e : α → D) (g : α → D) (as : List α) (h1 : src Γ = some (.vals (as.map e))) (h2 : as.length ≤ 1000000) (h3 : ∀ a ∈ as, ∃ Γ1, st (e a) (wipeC Γ vs) = some Γ1 ∧ ft Γ1 = some (.val (.bool true)) ∧ fe Γ1 = some (.val (g a))) :
    fLc src st ft fe vs Γ = some (.val (.list (as.map g))) := by
  have := flc_of (vs := vs) (fe := fe) (ft := ft) (st := st) e (fun _ => true) g as h1 h2 fun a ha => (h3 a ha).imp fun Γ1 h => ⟨h.1, h.2.1, fun _ => h.2.2⟩
  rw [this, List.filter_eq_self.mpr fun _ _ => rfl]
theorem zipT_map (e : α → D) (f : β → D) : ∀ (as : List α) (bs : List β), zipT (as.map e) (bs.map f) = (as.zip bs).map fun q => .tuple [e q.1, f q.2]
  | [], _ => by cases ‹List β› <;> rfl
  | _ :: _, [] => rfl
  | a :: as, b :: bs => by simp only [List.map_cons, zipT, List.zip_cons_cons, zipT_map e f as bs]
theorem for_inv {body : En → Rf} (P : Nat → En → Prop) : ∀ (as : List D) (k : Nat) (Γ : En), P k Γ → (∀ (i : Nat) (a : D) (Γ : En), as[i]? = some a → P (k + i) Γ → ∃ Γ1, st a Γ = some Γ1 ∧ ∃ Γ2, body Γ1 = some (.nx Γ2) ∧ P (k + i + 1) Γ2) → ∃ Γ', forGo st body as Γ = some (.nx Γ') ∧ P (k + as.length) Γ'
  | [], k, Γ, h0, _ => ⟨Γ, rfl, h0⟩
  | a :: as, k, Γ, h0, h => by
    obtain ⟨Γ1, h1, Γ2, h2, h3⟩ := h 0 a Γ rfl h0
    obtain ⟨Γ', h4, h5⟩ := for_inv P as (k + 1) Γ2 h3 fun i b Γ e hp => by
      have q := h (i + 1) b Γ e (by rw [show k + (i + 1) = k + 1 + i from by omega]; exact hp)
      rw [show k + (i + 1) + 1 = k + 1 + i + 1 from by omega] at q
      exact q
    refine ⟨Γ', ?_, by rw [List.length_cons, show k + (as.length + 1) = k + 1 + as.length from by omega]; exact h5⟩
    unfold forGo
    rw [h1]; dsimp only
    rw [h2]; exact h4
theorem ffor_inv {body : En → Rf} (P : Nat → En → Prop) {as : List D} (hs : src Γ = some (.vals as)) (h0 : P 0 Γ) (h : ∀ (i : Nat) (a : D) (Γ : En), as[i]? = some a → P i Γ → ∃ Γ1, st a Γ = some Γ1 ∧ ∃ Γ2, body Γ1 = some (.nx Γ2) ∧ P (i + 1) Γ2) : ∃ Γ', fFor src st body Γ = some (.nx Γ') ∧ P as.length Γ' := by
  obtain ⟨Γ', h1, h2⟩ := for_inv (st := st) (body := body) P as 0 Γ h0 fun i a Γ e hp => by rw [Nat.zero_add] at hp ⊢; exact h i a Γ e hp
  refine ⟨Γ', ?_, by rw [Nat.zero_add] at h2; exact h2⟩
  unfold fFor
  rw [hs]; exact h1
theorem for_go_st {body : En → Rf} {σ : Type} (e : α → D) (J : σ → En → Prop) (next : σ → α → σ) (Q : σ → Prop) : ∀ (as : List α) (s0 : σ) (Γ : En), J s0 Γ → Q s0 →
    (∀ a ∈ as, ∀ s Γ, Q s → J s Γ → Q (next s a) ∧ ∃ Γ1, st (e a) Γ = some Γ1 ∧ ∃ Γ2, body Γ1 = some (.nx Γ2) ∧ J (next s a) Γ2) → ∃ Γ', forGo st body (as.map e) Γ = some (.nx Γ') ∧ J (as.foldl next s0) Γ' ∧ Q (as.foldl next s0)
  | [], s0, Γ, h0, q0, _ => ⟨Γ, rfl, h0, q0⟩
  | a :: as, s0, Γ, h0, q0, h => by
    obtain ⟨q1, Γ1, h1, Γ2, h2, h3⟩ := h a (List.mem_cons_self ..) s0 Γ q0 h0
    obtain ⟨Γ', h4, h5⟩ := for_go_st e J next Q as (next s0 a) Γ2 h3 q1 fun b hb => h b (List.mem_cons_of_mem _ hb)
    refine ⟨Γ', ?_, h5⟩
    rw [List.map_cons]
    unfold forGo
    rw [h1]; dsimp only
    rw [h2]; exact h4
theorem ffor_st {body : En → Rf} {σ : Type} (e : α → D) (J : σ → En → Prop) (next : σ → α → σ) (Q : σ → Prop) (as : List α) (s0 : σ) (hs : src Γ = some (.vals (as.map e))) (h0 : J s0 Γ) (q0 : Q s0)
    (h : ∀ a ∈ as, ∀ s Γ, Q s → J s Γ → Q (next s a) ∧ ∃ Γ1, st (e a) Γ = some Γ1 ∧ ∃ Γ2, body Γ1 = some (.nx Γ2) ∧ J (next s a) Γ2) : ∃ Γ', fFor src st body Γ = some (.nx Γ') ∧ J (as.foldl next s0) Γ' ∧ Q (as.foldl next s0) := by
  unfold fFor
  rw [hs]
  exact for_go_st e J next Q as s0 Γ h0 q0 h
end
section
variable {Γ Γ' : En} {T : Int} {d : D} {i0 : Nat}
theorem pw_of {f : En → Re} {post : D → Int → Prop} (h : f Γ = some (.val d)) (k : post d T) : pw f Γ T post := by
  unfold pw; rw [h]; exact k
theorem pwb_of {f : En → Re} {post : Bool → Int → Prop} {b : Bool} (h : f Γ = some (.val (.bool b))) (k : post b T) : pwb f Γ T post := by
  unfold pwb; rw [h]; exact k
theorem pwa_of {f : En → Ra} {post : List D → Int → Prop} {ds : List D} (h : f Γ = some (.vals ds)) (k : post ds T) : pwa f Γ T post := by
  unfold pwa; rw [h]; exact k
theorem pws_nx {f : En → Rf} {nx : En → Int → Prop} {rt : D → Int → Prop} (h : f Γ = some (.nx Γ')) (e : Γ'[i0]? = Γ[i0]?) (k : nx Γ' T) : pws i0 f Γ T nx rt := by
  unfold pws; rw [h]; exact ⟨e, k⟩
theorem pws_rt {f : En → Rf} {nx : En → Int → Prop} {rt : D → Int → Prop} (h : f Γ = some (.rt d)) (k : rt d T) : pws i0 f Γ T nx rt := by
  unfold pws; rw [h]; exact k
theorem draw_of {n : Int} {post : D → Int → Prop} (h1 : 0 < n) (h2 : n < 1073741824) (hT : T < 1000000000000) (h : ∀ r : Nat, (r : Int) < n → post (.int r) (T + 1)) : W__law_draw [.int n] T post :=
  ⟨n, rfl, h1, h2, hT, fun r r0 r1 => by
    have := h r.toNat (by omega)
    rwa [Int.toNat_of_nonneg r0] at this⟩
theorem bodyW_of {F : WS} {k n : Nat} {ds : List D} {post : D → Int → Prop} (h1 : ds.length = k) (h : ∀ s : Addr, F (Ce.fx (.ref s) :: (ds.map Ce.d ++ List.replicate n .un)) T (fun _ T' => post .none T') post) : bodyW F k n ds T post := ⟨h1, h⟩
variable {nx : En → Int → Prop} {rt : D → Int → Prop} {post : D → Int → Prop} {postA : List D → Int → Prop} {postB : Bool → Int → Prop} {Fa Fb F : WE} {FA FR : WA} {FT FU : WB} {F1 F2 : WS} {st : Fs} {src : En → Ra} {vs : List Nat} {k : Nat → Bool} {g : List D → Re} {as : List D}
theorem wRet_of (h : F Γ T rt) : wRet F Γ T nx rt := h
theorem wSeq_of (h : F1 Γ T (fun Γ1 T1 => F2 Γ1 T1 nx rt) rt) : wSeq F1 F2 Γ T nx rt := h
theorem wCons_of (h : Fa Γ T fun d T1 => FR Γ T1 fun ds T2 => postA (d :: ds) T2) : wCons Fa FR Γ T postA := h
theorem wNil_of (h : postA [] T) : wNil Γ T postA := h
theorem wCb_of {o : List D → Option D} (h : FA Γ T fun ds T1 => match o ds with | some z => post z T1 | none => False) : wCb o FA Γ T post := h
theorem wOp_of {o : D → D → Option D} (h : Fa Γ T fun x T1 => Fb Γ T1 fun y T2 => match o x y with | some z => post z T2 | none => False) : wOp o Fa Fb Γ T post := h
theorem wDraw_of {W : List D → Int → (D → Int → Prop) → Prop} (h : FA Γ T fun ds T1 => W ds T1 post) : wDraw W FA Γ T post := h
theorem wAsg_of (h : F Γ T fun d T1 => match st d Γ with | some Γ1 => nx Γ1 T1 | none => False) : wAsg F st Γ T nx rt := h
theorem wIfS_of (h : FT Γ T fun b T1 => if b = true then F1 Γ T1 nx rt else F2 Γ T1 nx rt) : wIfS FT F1 F2 Γ T nx rt := h
theorem wIf_of (h : FT Γ T fun b T1 => if b = true then Fa Γ T1 post else Fb Γ T1 post) : wIf FT Fa Fb Γ T post := h
theorem wTup_of (h : FA Γ T fun ds T1 => small ds.length = true ∧ post (.tuple ds) T1) : wTup FA Γ T post := h
theorem wLst_of (h : FA Γ T fun ds T1 => small ds.length = true ∧ post (.list ds) T1) : wLst FA Γ T post := h
theorem wNext_of (h : nx Γ T) : wNext Γ T nx rt := h
theorem wT_of (h : Fa Γ T fun d T1 => match d with | .bool b => postB b T1 | _ => False) : wT Fa Γ T postB := h
theorem wNot_of (h : FT Γ T fun b T1 => postB (!b) T1) : wNot FT Γ T postB := h
theorem wAnd_of (h : FT Γ T fun b T1 => if b = true then FU Γ T1 postB else postB false T1) : wAnd FT FU Γ T postB := h
theorem wOr_of (h : FT Γ T fun b T1 => if b = true then postB true T1 else FU Γ T1 postB) : wOr FT FU Γ T postB := h
theorem wFor_of {FS : WA} (h : FS Γ T fun as T1 => forWGo st F1 as Γ T1 nx rt) : wFor FS st F1 Γ T nx rt := h
theorem wLc_of {FT : WB} (h : src Γ = some (.vals as)) (hs : as.length ≤ 1000000) (k : lcW st FT F (wipeC Γ vs) as T fun ds T' => post (.list ds) T') : wLc src st FT F vs Γ T post := by
  unfold wLc
  rw [h]
  exact ⟨Nat.ble_eq_true_of_le hs, k⟩
theorem lcW_all (Pv : D → Prop) {c : Int} {FT : WB} : ∀ (as : List D) (T : Int) (postA : List D → Int → Prop), (∀ a ∈ as, ∀ T' (q : D → Int → Prop), T ≤ T' → T' ≤ T + c * as.length → (∀ d T2, Pv d → T' ≤ T2 → T2 ≤ T' + c → q d T2) → ∃ Γ1, st a Γ = some Γ1 ∧ FT Γ1 T' fun b T1 => if b = true then F Γ1 T1 q else False) →
    0 ≤ c → (∀ ds T', (∀ d ∈ ds, Pv d) → ds.length = as.length → T ≤ T' → T' ≤ T + c * as.length → postA ds T') → (∀ Γ1 T (p q : Bool → Int → Prop), FT Γ1 T p → (∀ b T', p b T' → q b T') → FT Γ1 T q) → lcW st FT F Γ as T postA
  | [], T, postA, _, hc, h, _ => by
    have := h [] T (fun _ hd => by cases hd) rfl (Int.le_refl _) (by simp)
    exact this
  | a :: as, T, postA, hd, hc, h, hm => by
    have e : ((a :: as).length : Int) = (as.length : Int) + 1 := by simp
    have e2 : c * ((a :: as).length : Int) = c * (as.length : Int) + c := by rw [e, Int.mul_add, Int.mul_one]
    have e3 : 0 ≤ c * (as.length : Int) := Int.mul_nonneg hc (by omega)
    unfold lcW
    obtain ⟨Γ1, h1, h2⟩ := hd a (List.mem_cons_self ..) T (fun d T2 => lcW st FT F Γ as T2 fun ds T3 => postA (d :: ds) T3) (Int.le_refl _) (by omega) fun d T2 p1 p2 p3 => by
      refine lcW_all Pv as T2 _ (fun b hb T' q q1 q2 q3 => hd b (List.mem_cons_of_mem _ hb) T' q (by omega) (by omega) q3) hc (fun ds T' r1 r2 r3 r4 => ?_) hm
      exact h (d :: ds) T' (fun x hx => by
        rcases (List.mem_cons.mp hx) with rfl | hx
        · exact p1
        · exact r1 x hx) (by rw [List.length_cons, r2]; rfl) (by omega) (by omega)
    rw [h1]
    exact hm Γ1 T _ _ h2 fun b T' hb => by
      cases b with
      | true => rw [if_pos rfl] at hb ⊢; exact hb
      | false => rw [if_neg (by decide)] at hb; exact hb.elim
end
end Mv
namespace Mv
open PySem PySem.Spec L2 LamX PyProof.Rows
section
variable {X : Cx} {pins : List (Addr × Obj)} {σ : L2.St} {H : Hp} {s : Shared} {f : Addr} {o : HO}
end
section
variable {X : Cx}
end
end Mv
namespace Mv
open PySem L2 Evl LamX
section
variable {X : Cw} {Xc : Cx} {s l c : Addr} {T T' : Int} {G H G' H' G1 H1 G2 H2 G0 H0 : Hp} {σ : L2.St} {Γ Γ' : En} {K : PySem.W.Frag} {k : Nat}
theorem noT_id (nt : ∀ (b : Addr) (ps : Array Value), G b ≠ some (.tbl ps)) : noT G = G := by
  funext b
  cases e : G b with
  | none => exact noT_none e
  | some o => exact noT_at e fun ps z => nt b ps (z ▸ e)
theorem RelW.new {a : Addr} {o : HO} (R : RelW X s l c T G H σ Γ) (h : H a = none) : RelW X s l c T G (upd H a o) σ Γ ∧ StN s l c G H G (upd H a o) := by
  have s3 : Stp G H G (upd H a o) := Stp.old R.r.w (.new h)
  have R1 := R.sts (s3.toS (S := [s, l, c])) (R.wd.stp s3)
  have x1 := R.toN s3
  rw [noT_id R.nt] at R1 x1
  exact ⟨R1, x1⟩
structure La where
  g : List D → Re
  ta : TA
  fa : En → Ra
variable {ad : Str → Addr}
def La.t (ad : Str → Addr) (a : La) : XK → TE := fun E => tCall (SpF ad a.g) [] E a.ta
def La.p (a : La) : (List D → Re) × (En → Ra) := (a.g, a.fa)
end
end Mv
namespace Mv
open PySem L2 Evl
section
variable {X : Cx} {pins : List (Addr × Obj)} {σ : L2.St} {H : Hp} {s : Shared}
end
section
variable {E : XK} {ad : Str → Addr} {K : PySem.W.Frag} {G G' H H' : Hp} {tas : TA} {fas : En → Ra}
end
section
variable {X : Cx}
end
end Mv
namespace Mv
open PySem PySem.Spec PyProof.Rows L2 Evl
section
variable {X : Cx} {pins : List (Addr × Obj)} {σ : L2.St} {A : Around} {E : Value → Shared → Prop} {H : Hp} {s : Shared} {z TI TO i1 i2 a b S : Addr} {k1 k2 : Bool} {xs ys : List V}
end
section
variable {K : PySem.W.Frag} {E : XK} {ad : Str → Addr} {tas : TA} {fas : En → Ra} {k1 k2 : Bool}
end
end Mv
namespace Mv
open PySem L2 Evl PyProof.Rows
section
variable {X : Cx} {pos : Pos}
end
section
variable {X : Cw} {ta tb tc : TE} {Fa Fb Fc : WE}
end
section
variable {E : XK} {ad : Str → Addr} {ta tb tc : TE} {fa fb fc : En → Re}
end
end Mv
namespace Mv
open PySem PySem.Spec PyProof.Rows L2 Evl
section
variable {E : XK} {ad : Str → Addr} {K : PySem.W.Frag} {td : TE} {fd : En → Re}
end
end Mv
namespace Mv
open PySem PySem.Spec PyProof.Rows L2 Evl
section
variable {E : XK} {ad : Str → Addr} {K : PySem.W.Frag} {te tk tv : TE} {fe fk fv : En → Re} {G H G' H' G0 H0 : Hp} {σ : L2.St} {Γ : En} {i : Nat} {tas : TA} {fas : En → Ra}
theorem DqA.erase : ∀ {us : List V} {ds : List D} (j : Nat), DqA G us ds → DqA G (us.eraseIdx j) (ds.eraseIdx j)
  | _, _, _, .nil => .nil
  | _, _, 0, .cons _ k => k
  | _, _, j + 1, .cons q k => .cons q (DqA.erase j k)
def fTL (fe : En → Re) (Γ : En) : Re := match fe Γ with
  | some (.val (.list ds)) => some (.val (.bool (!ds.isEmpty)))
  | some (.val (.tuple ds)) => some (.val (.bool (!ds.isEmpty)))
  | some (.exc x) => some (.exc x)
  | _ => none
theorem DqA.isE {us : List V} {ds : List D} (h : DqA G us ds) : us.isEmpty = ds.isEmpty := by cases h <;> rfl
theorem u_tTru (h : Se E ad te fe) : Sb E ad (fun σ H Q => te σ H fun x H' => ∃ k, TruV K x H' k ∧ Q k H') (fTL fe) := fun σ Γ G H R r e Q q => by
  unfold fTL at e
  split at e
  · rename_i ds e1
    cases e
    refine h σ Γ G H R _ e1 _ fun v G2 H2 s2 q2 => ?_
    cases q2 with
    | lst ha hx => exact ⟨_, .inl ⟨_, SqL.of (s2.w _ _ ha), rfl⟩, by rw [hx.isE]; exact q G2 H2 s2⟩
  · rename_i ds e1
    cases e
    refine h σ Γ G H R _ e1 _ fun v G2 H2 s2 q2 => ?_
    cases q2 with
    | tup ha hx => exact ⟨_, .inr (.inl ⟨_, TupA.sq (TupA.mono ha s2.w), rfl⟩), by rw [hx.isE]; exact q G2 H2 s2⟩
  · rename_i x e1
    cases e
    exact h σ Γ G H R _ e1 _ q
  · cases e
theorem PoD.stp {Q : VK} {r : Ou} (h : PoD E ad G H Q r) (s : Stp G H G' H') : PoD E ad G' H' Q r := by
  cases r with
  | val d => cases d with
    | dict ps => exact fun es e p G2 H2 s2 h0 m => h es e p G2 H2 (s.trans s2) (by
        cases z : H p with
        | none => rfl
        | some o => rw [s.h _ _ z] at h0; cases h0) m
    | _ => exact h
  | exc x => exact fun G2 H2 s2 => h G2 H2 (s.trans s2)
end
end Mv
namespace Mv
open PySem L2 Evl
section
variable {X : Cw} {s l c : Addr} {T T' : Int} {G H G' H' G1 H1 G2 H2 G0 H0 : Hp} {σ : L2.St} {Γ Γ' : En} {K : PySem.W.Frag}
variable {E : XK} {ad : Str → Addr} {te ta tb : TE} {fe : En → Re} {tt tu : TT} {wi : TI} {src : En → Ra} {g : TG} {st : Fs} {js vs : List Nat} {Fa Fb Fe F : WE} {FT FU : WB} {tas : TA} {FA : WA}
end
end Mv
namespace Mv
open PySem L2 Evl LamX
mutual
def noLst : D → Bool
  | .list _ => false
  | .tuple ds => noLsts ds
  | .dict kvs => noLstP kvs
  | _ => true
def noLsts : List D → Bool
  | [] => true
  | d :: ds => noLst d && noLsts ds
def noLstP : List (D × D) → Bool
  | [] => true
  | (_, d) :: ds => noLst d && noLstP ds
end
theorem and_tt {a b : Bool} (h : (a && b) = true) : a = true ∧ b = true := by
  cases a <;> cases b <;> first | exact ⟨rfl, rfl⟩ | cases h
section
variable {G : Hp} {p : Addr} {xs : List V} {o : HO}
theorem upd_off {b : Addr} {u : HO} (hp : G p = some (.lst xs)) (h : G b = some u) (n : ∀ ys, u ≠ .lst ys) : upd G p o b = some u := by
  have : b ≠ p := fun z => by rw [z, hp] at h; cases h; exact n _ rfl
  rw [upd_ne this]; exact h
theorem noP_map {es : List (List L2.Key × D)} : ∀ {ds : List (D × D)}, ds = es.map (fun e => (kD e.1, e.2)) → noLstP ds = true → noLsts (es.map (·.2)) = true := by
  induction es with
  | nil => intro ds e h; rfl
  | cons x es ih =>
    intro ds e h
    subst e
    have h' : (noLst x.2 && noLstP (es.map (fun e => (kD e.1, e.2)))) = true := h
    obtain ⟨h1, h2⟩ := and_tt h'
    show (noLst x.2 && noLsts (es.map (·.2))) = true
    rw [h1, ih rfl h2]; rfl
mutual
theorem Dq.upd (hp : G p = some (.lst xs)) : ∀ {v : V} {d : D}, Dq G v d → noLst d = true → Dq (upd G p o) v d
  | _, _, .non, _ => .non
  | _, _, .bl b, _ => .bl b
  | _, _, .int i, _ => .int i
  | _, _, .str x, _ => .str x
  | _, _, .lst h k, n => by cases n
  | _, _, .tup h k, n => .tup (h.by fun o z e => upd_off hp e fun _ q => by rcases z with rfl | ⟨_, rfl⟩ <;> cases q) (DqA.upd hp k n)
  | _, _, .emp h r, n => .emp (upd_off hp h fun _ z => by cases z) r
  | _, _, .dct h k r, n => .dct (upd_off hp h fun _ z => by cases z) (DqP.upd hp k (noP_map r n)) r
theorem DqA.upd (hp : G p = some (.lst xs)) : ∀ {vs : List V} {ds : List D}, DqA G vs ds → noLsts ds = true → DqA (upd G p o) vs ds
  | _, _, .nil, _ => .nil
  | _, _, .cons h k, n => .cons (Dq.upd hp h (and_tt n).1) (DqA.upd hp k (and_tt n).2)
theorem DqP.upd (hp : G p = some (.lst xs)) : ∀ {kvs : List (List L2.Key × V)} {es : List (List L2.Key × D)}, DqP G kvs es → noLsts (es.map (·.2)) = true → DqP (upd G p o) kvs es
  | _, _, .nil, _ => .nil
  | _, _, .cons ne h k, n => .cons ne (Dq.upd hp h (and_tt n).1) (DqP.upd hp k (and_tt n).2)
end
end
section
variable {X : Cw} {s l c : Addr} {T T' : Int} {G H G' H' G1 H1 G2 H2 G0 H0 : Hp} {σ σ' : L2.St} {Γ Γ' : En} {K : PySem.W.Frag}
variable {E : XK} {ad : Str → Addr} {te ta tb : TE} {fe : En → Re} {tt tu : TT} {wi : TI} {src : En → Ra} {g : TG} {st : Fs} {js vs : List Nat} {Fa Fb Fe F : WE} {FT FU : WB} {tas : TA} {FA : WA} {ts tz : TS} {F1 F2 : WS}
end
end Mv
namespace Mv
open PySem L2 Evl
section
variable {E : XK} {ad : Str → Addr} {K : PySem.W.Frag} {ta tb tj tk : TE} {fa fb fj fk : En → Re}
def fSet2 (i : Nat) (fa fb fj fk : En → Re) (Γ : En) : Rf := match Γ[i]? with
  | some (.ml ds) => match fa Γ, fb Γ, fj Γ with
    | some (.val a), some (.val b), some (.val (.int j)) => match ixN ds.length j with
      | some j' => match fk (Γ.set i (.ml (ds.set j' a))) with
        | some (.val (.int k)) => match ixN ds.length k with
          | some k' => some (.nx (Γ.set i (.ml ((ds.set j' a).set k' b))))
          | none => none
        | _ => none
      | none => none
    | _, _, _ => none
  | _ => none
end
end Mv
namespace Mv
open PySem L2 Evl LamX
theorem pt_truthK {X : Cx} {K : PySem.W.Frag} {a : Expr} {ta : TE} (hK : X.K = K) (ha : PE X a ta) (he : ∀ whole, isTrue a X.env whole = (do let v ← whole; standAt a.pos; holding [v] (truthy v))) : PT X a (fun σ H Q => ta σ H fun x H' => ∃ k, TruV K x H' k ∧ Q k H') := by
  subst hK
  exact pt_truth ha he
structure CalV (P : Program) (w : World) (K : PySem.W.Frag) (mg : Str → Option Value) (base : Heap) (CX : CXT) (k : Nat) (f : Addr) (sp : Sp) : Prop where
  ex : ∃ (ps : List Str) (fd : FuncData), FnOk P w K mg base CX k f fd ps sp ∧ PySem.W.keepIn K (.ref f) = true ∧ Binds K fd ps []
theorem Cal.at_ {P : Program} {w : World} {K : PySem.W.Frag} {mg : Str → Option Value} {base : Heap} {CX : CXT} {k : Nat} {x : Str} {ps : List Str} {sp : Sp} (C : Cal P w K mg base CX k x ps sp) : ∃ f : Addr, mg x = some (.ref f) ∧ CalV P w K mg base CX k f sp := by
  obtain ⟨f, fd, F, hm, hk, hb⟩ := C.ex
  exact ⟨f, hm, ps, fd, F, hk, hb⟩
section
variable {X : Cw} {s l c : Addr} {T T' : Int} {G H G' H' G1 H1 G2 H2 G0 H0 : Hp} {σ : L2.St} {Γ Γ' : En} {K : PySem.W.Frag} {k : Nat} {ad : Str → Addr} {fas : En → Ra} {tas : TA}
end
section
variable {E : XK} {ad : Str → Addr} {ta tb tc : TE} {fa fb fc : En → Re}
end
end Mv
namespace Mv
open PySem L2 Evl
section
variable {src : En → Ra} {st : Fs} {body : En → Rf} {α : Type} {Γ : En}
theorem for_find (e : α → D) (J : En → Prop) (c : α → Option D) : ∀ (as : List α) (Γ : En), J Γ →
    (∀ a ∈ as, ∀ Γ, J Γ → ∃ Γ1, st (e a) Γ = some Γ1 ∧ (∀ d, c a = some d → body Γ1 = some (.rt d)) ∧ (c a = none → ∃ Γ2, body Γ1 = some (.nx Γ2) ∧ J Γ2)) →
    (∀ d, as.findSome? c = some d → forGo st body (as.map e) Γ = some (.rt d)) ∧ (as.findSome? c = none → ∃ Γ', forGo st body (as.map e) Γ = some (.nx Γ') ∧ J Γ')
  | [], Γ, h0, _ => ⟨(fun d h => by cases h), fun _ => ⟨Γ, rfl, h0⟩⟩
  | a :: as, Γ, h0, h => by
    obtain ⟨Γ1, h1, h2, h3⟩ := h a (List.mem_cons_self ..) Γ h0
    cases ec : c a with
    | some d0 =>
      refine ⟨fun d hd => ?_, fun hn => ?_⟩
      · rw [List.findSome?_cons, ec] at hd
        cases hd
        show forGo st body (e a :: as.map e) Γ = _
        unfold forGo
        rw [h1]; dsimp only
        rw [h2 d0 ec]
      · rw [List.findSome?_cons, ec] at hn
        cases hn
    | none =>
      obtain ⟨Γ2, h4, h5⟩ := h3 ec
      obtain ⟨i1, i2⟩ := for_find e J c as Γ2 h5 fun b hb => h b (List.mem_cons_of_mem _ hb)
      refine ⟨fun d hd => ?_, fun hn => ?_⟩
      · rw [List.findSome?_cons, ec] at hd
        show forGo st body (e a :: as.map e) Γ = _
        unfold forGo
        rw [h1]; dsimp only
        rw [h4]; exact i1 d hd
      · rw [List.findSome?_cons, ec] at hn
        obtain ⟨Γ', q1, q2⟩ := i2 hn
        refine ⟨Γ', ?_, q2⟩
        show forGo st body (e a :: as.map e) Γ = _
        unfold forGo
        rw [h1]; dsimp only
        rw [h4]; exact q1
theorem ffor_find (e : α → D) (J : En → Prop) (c : α → Option D) (as : List α) (hs : src Γ = some (.vals (as.map e))) (h0 : J Γ)
    (h : ∀ a ∈ as, ∀ Γ, J Γ → ∃ Γ1, st (e a) Γ = some Γ1 ∧ (∀ d, c a = some d → body Γ1 = some (.rt d)) ∧ (c a = none → ∃ Γ2, body Γ1 = some (.nx Γ2) ∧ J Γ2)) :
    (∀ d, as.findSome? c = some d → fFor src st body Γ = some (.rt d)) ∧ (as.findSome? c = none → ∃ Γ', fFor src st body Γ = some (.nx Γ') ∧ J Γ') := by
  unfold fFor
  rw [hs]
  exact for_find e J c as Γ h0 h
end
end Mv
namespace Mv
open PySem L2 Evl
section
variable {src : En → Ra} {st : Fs} {body rest : En → Rf} {α β : Type} {Γ : En} {R : Rf}
theorem seq_on {fa fb : En → Rf} {Γ1 : En} (h : fa Γ = some (.nx Γ1)) : fSeq fa fb Γ = fb Γ1 := by unfold fSeq; rw [h]
theorem seq_for_find (e : α → D) (J : En → Prop) (c : α → Option D) (as : List α) (hs : src Γ = some (.vals (as.map e))) (h0 : J Γ)
    (h : ∀ a ∈ as, ∀ Γ, J Γ → ∃ Γ1, st (e a) Γ = some Γ1 ∧ (∀ d, c a = some d → body Γ1 = some (.rt d)) ∧ (c a = none → ∃ Γ2, body Γ1 = some (.nx Γ2) ∧ J Γ2))
    (k1 : ∀ d, as.findSome? c = some d → R = some (.rt d)) (k2 : as.findSome? c = none → ∀ Γ', J Γ' → rest Γ' = R) : fSeq (fFor src st body) rest Γ = R := by
  obtain ⟨h1, h2⟩ := ffor_find (src := src) (st := st) (body := body) (Γ := Γ) e J c as hs h0 h
  unfold fSeq
  cases hf : as.findSome? c with
  | some d => rw [h1 d hf, k1 d hf]
  | none =>
    obtain ⟨Γ', e1, j⟩ := h2 hf
    rw [e1]; exact k2 hf Γ' j
end
section
variable {Γ : En} {T : Int} {nx : En → Int → Prop} {rt post : D → Int → Prop} {F : WE} {FA : WA}
theorem fAsg_of {fe : En → Re} {st : Fs} {d : D} {Γ' : En} (h : fe Γ = some (.val d)) (hs : st d Γ = some Γ') : fAsg fe st Γ = some (.nx Γ') := by
  unfold fAsg
  rw [h]; dsimp only
  rw [hs]
theorem wCall_of {g : List D → Re} (h : FA Γ T fun ds T1 => match g ds with | some (.val z) => post z T1 | _ => False) : wCall g FA Γ T post := h
end
end Mv
namespace PySem
namespace TmX
open PySem.W PySem.HandSPX PyProof.Rows PySem.Calls
def iS : Scope := { kind := .function, names := [(PySem.Str.ofString "self", .local), (PySem.Str.ofString "most", .local)], isGenerator := false, isCoroutine := false, more := [] }
section
variable {prog : Program} {w : World} {A : Around} {E : Value → Shared → Prop} {R : Result → Shared → Prop} {s : Shared} {K : Frag} {mg : Str → Option Value} {C fI : Addr}
end
end TmX
end PySem
namespace L2
open PySem PyProof.Rows PySem.Spec
section
variable {X : Cx} {C fI : Addr}
end
end L2
namespace Mv
open PySem L2 Evl LamX
section
variable {E : XK} {ad : Str → Addr} {ta : TA} {fa : En → Ra}
end
end Mv
namespace Mv
open PySem L2 Evl LamX
section
variable {X : Cw} {Xc : Cx} {s l c : Addr} {T T' : Int} {G H G' H' G1 H1 G2 H2 G0 H0 : Hp} {σ : L2.St} {Γ Γ' : En} {K : PySem.W.Frag} {k : Nat} {ad : Str → Addr}
theorem tabsU_put {T : List (Addr × Str)} {H : Hp} {p : Addr} {xs ys : List V} (x : Tabs T H) (hp : H p = some (.lst xs)) : Tabs T (upd H p (.lst ys)) := fun q hq => by
  obtain ⟨ps, h1, h2, h3⟩ := x q hq
  refine ⟨ps, ?_, h2, fun pos cv hc => ?_⟩
  · rw [upd_ne (fun z => by rw [z, hp] at h1; cases h1)]; exact h1
  · obtain ⟨c, e1, e2⟩ := h3 pos cv hc
    refine ⟨c, e1, ?_⟩
    rw [upd_ne (fun z => by rw [z, hp] at e2; unfold CodeO at e2; cases e2)]; exact e2
theorem WdU.put {p : Addr} {o : HO} (x : Wd G H s l c T) (gp : G p = none) (na : p ∉ [s, l, c]) : Wd G (upd H p o) s l c T := by
  simp only [List.mem_cons, List.not_mem_nil, or_false, not_or] at na
  obtain ⟨⟨⟨lg, cs, left, turn, h1, h2, h3, h⟩, q⟩, _⟩ := id (And.intro x.st trivial)
  refine ⟨fun b o z => ?_, ⟨⟨lg, cs, left, turn, by rw [upd_ne (Ne.symm na.1)]; exact h1, by rw [upd_ne (Ne.symm na.2.1)]; exact h2, by rw [upd_ne (Ne.symm na.2.2)]; exact h3, h⟩, q⟩, x.gs, x.gl, x.gc⟩
  have nb : b ≠ p := fun e => by rw [e, gp] at z; cases z
  rw [upd_ne nb]
  exact x.w b o z
theorem RelW.put {p : Addr} {xs ys : List V} (R : RelW X s l c T G H σ Γ) (gp : G p = none) (hp : H p = some (.lst xs)) (na : p ∉ [s, l, c]) (ap : ∀ (i : Nat) (c' : Ce), Γ[i]? = some c' → isMut c' = true → σ[i]? ≠ some (some (.ref p))) : RelW X s l c T G (upd H p (.lst ys)) σ Γ := by
  have wd := WdU.put (o := .lst ys) R.wd gp na
  refine ⟨⟨wd.w, R.r.len, fun i c2 e => ?_, R.r.sep⟩, wd, R.st, R.ap, R.nt, tabsU_put R.tb hp, R.z⟩
  have hc := R.r.c i c2 e
  cases c2 with
  | un => trivial
  | fx v => exact hc
  | d z => exact hc
  | ml ds =>
    obtain ⟨q, e1, m⟩ := hc
    obtain ⟨us, e2, q2⟩ := m.at_
    exact ⟨q, e1, m.g, us, by rw [upd_ne (fun z => ap i _ e rfl (by rw [z] at e1; exact e1))]; exact e2, q2⟩
  | md es =>
    obtain ⟨q, e1, m⟩ := hc
    obtain ⟨us, e2, q2⟩ := m.at_
    exact ⟨q, e1, m.g, us, by rw [upd_ne (fun z => ap i _ e rfl (by rw [z] at e1; exact e1))]; exact e2, q2⟩
theorem StN.back {b : Addr} (x : StN s l c G0 H0 G H) (hb : b ∉ [s, l, c]) (e : noT H b = none) : noT H0 b = none := by
  cases e0 : noT H0 b with
  | none => rfl
  | some o => rw [x.h b o hb e0] at e; cases e
theorem RelW.fresh {p : Addr} (R : RelW X s l c T G H σ Γ) (hp : H p = none) : p ∉ [s, l, c] := fun hm => by
  obtain ⟨⟨lg, cs, left, turn, a1, a2, a3, _⟩, _⟩ := R.wd.st
  simp only [List.mem_cons, List.not_mem_nil, or_false] at hm
  rcases hm with z | z | z
  · rw [z, a1] at hp; cases hp
  · rw [z, a2] at hp; cases hp
  · rw [z, a3] at hp; cases hp
theorem RelW.self (R : RelW X s l c T G H σ Γ) : StN s l c G H G H := by
  have x1 := R.toN (.refl R.r.w)
  rw [noT_id R.nt] at x1
  exact x1
end
end Mv
namespace Mv
open PySem PySem.Spec L2 LamX PyProof.Rows
end Mv
namespace Mv
open PySem L2 Evl LamX
section
variable {X : Cw} {Xc : Cx} {s l c : Addr} {T T' : Int} {G H G' H' G1 H1 G2 H2 G0 H0 : Hp} {σ : L2.St} {Γ Γ' : En} {K : PySem.W.Frag} {k : Nat} {ad : Str → Addr}
end
end Mv
namespace Mv
open PySem L2 Evl
section
variable {E : XK} {ad : Str → Addr} {K : PySem.W.Frag} {ta tb tj tk : TE} {fa fb fj fk : En → Re}
end
section
variable {X : Cw} {s l c : Addr} {T T' : Int} {G H G' H' G1 H1 G2 H2 G0 H0 : Hp} {σ : L2.St} {Γ Γ' : En} {K : PySem.W.Frag} {ta tj : TE} {Fa : WE} {fj : En → Re} {E : XK} {ad : Str → Addr}
end
end Mv
namespace Mv
open PySem PySem.Spec PyProof.Rows L2 Evl
section
variable {E : XK} {ad : Str → Addr} {K : PySem.W.Frag} {ta tb tc : TE} {fa fb fc : En → Re}
def idxB (ds : List D) (d : D) : Bool := SeqAt.shaped (.list ds) && SeqAt.shaped d && flatD d && flatDs ds
end
end Mv
namespace PySem
section
variable {prog : Program} {w : World} {K : Type} [DecidableEq K] {knd : HeapKind prog w K} {A : Around} {E : Value → Shared → Prop} {s : Shared}
end
section
variable {prog : Program} {w : World} {K : Type} [DecidableEq K] {knd : HeapKind prog w K}
end
end PySem
namespace Mv
open PySem PySem.Spec PyProof.Rows L2 L2.DX Evl
section
variable {X : Cx}
end
end Mv
namespace Mv
open PySem PySem.Spec PyProof.Rows L2 Evl
section
variable {E : XK} {ad : Str → Addr} {K : PySem.W.Frag} {te ta tb tc td tk tv : TE} {tt : TT} {fe fa fb fc fd fk ft : En → Re} {G H G' H' G0 H0 : Hp} {σ : L2.St} {Γ : En} {i : Nat} {tas : TA} {fas : En → Ra} {P : Program} {w : World}
def PoT (G H : Hp) (Q : VK) : Ou → Prop
  | .val (.tuple [.list _, .dict ps]) => ∀ es, dctOf (.dict ps) = some es → ∀ t v1 p G2 H2, Stp G H G2 H2 → H p = none → TupA H2 t [v1, .ref p] → MD G2 H2 p es → Q (.ref t) H2
  | _ => False
theorem fr_back {p : Addr} {s : Stp G H G' H'} (h : H' p = none) : H p = none := by
  cases z : H p with
  | none => rfl
  | some o => rw [s.h _ _ z] at h; cases h
theorem PoT.stp {Q : VK} {r : Ou} (h : PoT G H Q r) (s : Stp G H G' H') : PoT G' H' Q r := by
  unfold PoT at h ⊢
  split at h
  · exact fun es e t v1 p G2 H2 s2 h0 e2 m => h es e t v1 p G2 H2 (s.trans s2) (fr_back (s := s) h0) e2 m
  · exact h.elim
end
section
variable {X : Cw} {s l c : Addr} {T T' : Int} {G H G' H' G1 H1 G2 H2 G0 H0 : Hp} {σ : L2.St} {Γ Γ' : En} {K : PySem.W.Frag}
variable {E : XK} {ad : Str → Addr} {te ta tb : TE} {fe : En → Re} {Fa : WE}
end
end Mv
namespace Mv
open PySem PySem.Spec PyProof.Rows L2 Evl
section
variable {E : XK} {ad : Str → Addr} {K : PySem.W.Frag} {G H G' H' G0 H0 : Hp} {σ : L2.St} {Γ : En}
end
section
variable {E : XK} {ad : Str → Addr} {ts : TS} {fs : En → Rf}
end
mutual
def readB : D → Bool
  | .dict ps => readBP ps
  | .list ds => readBs ds
  | .tuple ds => readBs ds
  | _ => true
def readBs : List D → Bool
  | [] => true
  | d :: ds => readB d && readBs ds
def readBP : List (D × D) → Bool
  | [] => true
  | (.tuple _, v) :: ps => readB v && readBP ps
  | _ :: _ => false
end
section
variable {X : Cx} {pins : List (Addr × Obj)} {σ : L2.St} {H : Hp} {s : Shared}
theorem key_reads (I : Inv X pins σ H s) {b : Addr} {k : KK} (hb : H b = some (.tup (k.map kV))) : Reads s.heap (.ref b) (kD k) [] := by
  obtain ⟨its, rv, ⟨o, ho, hc, n, hd⟩, _⟩ := I.tuple (SqT.of hb)
  have go : ∀ {k : KK} {us : List Value}, Vals (k.map kV) us → ReadsAll s.heap us (k.map keyD) [] := fun {k} => by
    induction k with
    | nil => intro us h; cases h; exact .nil
    | cons x k ih =>
      intro us h
      cases h with
      | cons h1 h2 =>
        cases x with
        | inl i => obtain ⟨t, rfl⟩ := h1; exact ReadsAll.cons (Reads.int i t) (ih h2)
        | inr x => obtain ⟨t, rfl⟩ := h1; exact ReadsAll.cons (Reads.str x t) (ih h2)
  exact Reads.tuple ho hc hd (go rv)
mutual
theorem Dq.readsH (I : Inv X pins σ H s) : ∀ {v : V} {d : D}, Dq H v d → readB d = true → ∀ {u : Value}, RelV v u → ∃ as, Reads s.heap u d as ∧ ∀ b ∈ as, H b ≠ none
  | _, _, .non, _, _, r => by cases r; exact ⟨_, Reads.none, fun b h => by cases h⟩
  | _, _, .bl b, _, _, r => by cases r; exact ⟨_, Reads.bool b, fun b h => by cases h⟩
  | _, _, .int i, _, _, r => by obtain ⟨t, rfl⟩ := r; exact ⟨_, Reads.int i t, fun b h => by cases h⟩
  | _, _, .str x, _, _, r => by obtain ⟨t, rfl⟩ := r; exact ⟨_, Reads.str x t, fun b h => by cases h⟩
  | _, _, .lst (a := a) h k, hb, _, r => by
    cases r
    obtain ⟨its, rv, ⟨o, n, ho, hc, _, hd⟩, _⟩ := I.list (SqL.of h)
    obtain ⟨as, hr, hn⟩ := DqA.readsH I k (by rw [readB] at hb; exact hb) rv
    exact ⟨_, Reads.list ho hc hd hr, fun b hb => by
      rcases (List.mem_cons.mp hb) with e | e
      · rw [e, h]; simp
      · exact hn b e⟩
  | _, _, .tup h k, hb, _, r => by
    cases r
    obtain ⟨its, rv, ⟨o, ho, hc, n, hd⟩, _⟩ := I.tuple h.sq
    obtain ⟨as, hr, hn⟩ := DqA.readsH I k (by rw [readB] at hb; exact hb) rv
    exact ⟨_, Reads.tuple ho hc hd hr, hn⟩
  | _, _, .emp (ds := ds) h q, hb, _, r => by
    rw [readB] at hb
    match ds, q, hb with
    | [], q, _ => cases q
    | (.tuple _, _) :: _, q, _ => cases q
    | (.none, _) :: _, _, hb => cases hb
    | (.bool _, _) :: _, _, hb => cases hb
    | (.int _, _) :: _, _, hb => cases hb
    | (.str _, _) :: _, _, hb => cases hb
    | (.list _, _) :: _, _, hb => cases hb
    | (.dict _, _) :: _, _, hb => cases hb
  | _, _, .dct (a := a) (o := o) (es := es) h k e, hb, _, r => by
    cases r
    subst e
    rw [readB] at hb
    obtain ⟨hg, hl, hs, xs, hp, o2, es2, ep, ho, hx, hd, hes, hnd⟩ := I.hok a _ h
    obtain ⟨as, bs, r1, r2, n1, n2⟩ := DqP.readsH I k hb hp
    have e1 : es2.toList.map (·.key) = xs.map fun x => Value.ref x.2.1 := by rw [hes, List.map_map]; rfl
    have e2 : es2.toList.map (·.val) = xs.map fun x => x.2.2 := by rw [hes, List.map_map]; rfl
    refine ⟨_, Reads.dict ho hx.1 hd (as := as) (bs := bs) ?_ ?_, fun b hb => ?_⟩
    · rw [e1, List.map_map]; exact r1
    · rw [e2, List.map_map]; exact r2
    · rcases List.mem_cons.mp (by simpa using hb : b ∈ a :: (as ++ bs)) with z | z
      · rw [z, h]; simp
      · rcases List.mem_append.mp z with z | z
        · exact n1 b z
        · exact n2 b z
theorem DqA.readsH (I : Inv X pins σ H s) : ∀ {vs : List V} {ds : List D}, DqA H vs ds → readBs ds = true → ∀ {us : List Value}, Vals vs us → ∃ as, ReadsAll s.heap us ds as ∧ ∀ b ∈ as, H b ≠ none
  | _, _, .nil, _, _, r => by cases r; exact ⟨_, .nil, fun b h => by cases h⟩
  | _, _, .cons h k, hb, _, r => by
    rw [readBs, Bool.and_eq_true] at hb
    cases r with
    | cons r1 r2 =>
      obtain ⟨as, q1, n1⟩ := Dq.readsH I h hb.1 r1
      obtain ⟨bs, q2, n2⟩ := DqA.readsH I k hb.2 r2
      exact ⟨_, .cons q1 q2, fun b hb => (List.mem_append.mp hb).elim (n1 b) (n2 b)⟩
theorem DqP.readsH (I : Inv X pins σ H s) : ∀ {kvs : List (KK × V)} {es : List (KK × D)}, DqP H kvs es → readBP (es.map fun e => (kD e.1, e.2)) = true → ∀ {xs : List (KK × Addr × Value)}, Paired (fun (p : KK × V) (q : KK × Addr × Value) => p.1 = q.1 ∧ H q.2.1 = some (.tup (p.1.map kV)) ∧ RelV p.2 q.2.2) kvs xs →
    ∃ as bs, ReadsAll s.heap (xs.map fun x => .ref x.2.1) (es.map fun e => kD e.1) as ∧ ReadsAll s.heap (xs.map fun x => x.2.2) (es.map fun e => e.2) bs ∧ (∀ b ∈ as, H b ≠ none) ∧ ∀ b ∈ bs, H b ≠ none
  | _, _, .nil, _, _, r => by cases r; exact ⟨[], [], .nil, .nil, (fun b h => by cases h), fun b h => by cases h⟩
  | _, _, .cons _ h k, hb, _, r => by
    have hb' : (readB _ && readBP _) = true := hb
    rw [Bool.and_eq_true] at hb'
    cases r with
    | cons r1 r2 =>
      obtain ⟨e1, e2, e3⟩ := r1
      obtain ⟨cs, q1, n1⟩ := Dq.readsH I h hb'.1 e3
      obtain ⟨as, bs, q2, q3, n2, n3⟩ := DqP.readsH I k hb'.2 r2
      exact ⟨_, _, .cons (key_reads I e2) q2, .cons q1 q3, n2, fun b hb => (List.mem_append.mp hb).elim (n1 b) (n3 b)⟩
end
end
end Mv
namespace Mv
open PySem PySem.Spec PyProof.Rows L2 Evl
section
variable {E : XK} {ad : Str → Addr}
end
def rCountD (K : PySem.W.Frag) (k : Bool) : V → List V → Hp → VK → Prop := fun x xs H Q => ∃ (a : Addr) (y : V) (d : PyData) (ds : List PyData), x = V.ref a ∧ xs = [y] ∧ Dp K H (V.ref a) (sq k ds) ∧ Dp K H y d ∧
  SeqAt.shaped (.list ds) = true ∧ SeqAt.shaped d = true ∧ Q (.int ((ds.countP fun y => PyData.eqv y d : Nat) : Int)) H
section
variable {X : Cx}
theorem mt_countT (hu : X.A.units + 65 < cLine) : MtR X "tuple.count" (rCountD X.K false) := by
  intro pins; intro s σ H x xs v us Q I rx rxs h
  obtain ⟨a, y, d, ds, rfl, rfl, hl, hy, sl, sd, q⟩ := h
  cases rx
  cases rxs with
  | cons ry rt =>
    rename_i uy ut
    cases rt
    obtain ⟨bs, r1⟩ := (Dp.reads I d y uy hy ry)
    have hxs : (PyData.canLayAll0 ds = true) := SeqAt.canLay_of_shaped sl
    have hroom : (X.A.units + 1 + min (PyData.depthAll ds) d.depth < cLine) := room_in_shaped sd hu
    cases hl with
    | tup hs ha =>
      obtain ⟨its, rv, ⟨o, ho, hc, n, hdt⟩, hlen⟩ := I.tuple hs
      obtain ⟨as, h4⟩ := (Dp.readsAll I ds _ its ha rv)
      exact SeqAt.count_tuple_data (vs := its.toArray) ⟨o, ho, hc, n, hdt⟩ (show ReadsAll s.heap its.toArray.toList ds as from h4) r1 (PyData.plainAll_of_canLay0 ds hxs) (PyData.plain_of_canLay0 d (SeqAt.canLay_of_shaped sd)) hroom ⟨.int _, H, I.tok _, ⟨_, rfl⟩, q⟩
end
section
variable {E : XK} {ad : Str → Addr} {K : PySem.W.Frag} {ta tb : TE} {fa fb : En → Re}
end
section
variable {E : XK} {ad : Str → Addr} {K : PySem.W.Frag} {ta tb : TE} {fa fb : En → Re}
end
end Mv
namespace Mv
open PySem PySem.Spec PyProof.Rows L2 Evl HT
section
variable {X : Cx}
end
section
variable {E : XK} {ad : Str → Addr} {K : PySem.W.Frag} {te : TE} {fe : En → Re}
def fRevL (fe : En → Re) (Γ : En) : Re := match fe Γ with
  | some (.val (.list ds)) => some (.val (.list ds.reverse))
  | some (.exc x) => some (.exc x)
  | _ => none
end
end Mv
namespace Mv
open PySem PySem.Spec PyProof.Rows L2 Evl
section
variable {prog : Program} {w : World} {A : Around} {E : Value → Shared → Prop} {s : Shared} {z TI TO i1 i2 T : Addr} {fp1 fp2 : List Addr} {n1 n2 i : Nat} {P1 P2 : Nat → Value → Prop} {St1 St2 : Nat → Heap → Prop} {f : Bool} {oT : Obj}
end
section
variable {prog : Program} {w : World} {A : Around} {E : Value → Shared → Prop} {s : Shared} {z TI TO i1 i2 T : Addr} {fp1 fp2 : List Addr} {n1 n2 i : Nat} {P1 P2 : Nat → Value → Prop} {St1 St2 : Nat → Heap → Prop} {f : Bool} {oT : Obj}
end
def ZS2 (k1 k2 : Bool) (z TI TO i1 i2 a b : Addr) (i : Nat) (H : Hp) (h : Heap) : Prop :=
  IsTupOf2 h TI (.ref i1) (.ref i2) ∧ ItrK k1 h i1 a i ∧ ItrK k2 h i2 b i ∧ (∃ o, h.get? TO = some o) ∧ ((i = 0 ∧ IsZip h z TI TO .none ∧ ∃ x y, IsTupOf2 h TO x y) ∨ ∃ T f u v, IsZipHeld h z TI TO T f ∧ Rd H T (.tup [u, v]))
section
variable {X : Cx} {pins : List (Addr × Obj)} {σ : L2.St} {H : Hp} {s : Shared} {A : Around} {E : Value → Shared → Prop} {z TI TO i1 i2 a b : Addr} {k1 k2 : Bool} {xs ys : List V} {i : Nat}
theorem ZS2.keep {h h' : Heap} (st : ZS2 k1 k2 z TI TO i1 i2 a b i H h) (k : ∀ c ∈ [z, TI, TO, i1, i2], ∀ o, h.get? c = some o → h'.get? c = some o) : ZS2 k1 k2 z TI TO i1 i2 a b i H h' := by
  obtain ⟨t, h1, h2, ⟨oO, eO⟩, q⟩ := st
  refine ⟨k TI (by simp) _ t, h1.at fun o q => k i1 (by simp) o q, h2.at fun o q => k i2 (by simp) o q, ⟨oO, k TO (by simp) _ eO⟩, ?_⟩
  rcases q with ⟨hi0, hz, x, y, hTO⟩ | ⟨T, f, u, v, hz, hT⟩
  · exact .inl ⟨hi0, k z (by simp) _ hz, x, y, k TO (by simp) _ hTO⟩
  · exact .inr ⟨T, f, u, v, k z (by simp) _ hz, hT⟩
end
section
variable {X : Cx} {pins : List (Addr × Obj)} {σ : L2.St} {A : Around} {z TI TO i1 i2 a b : Addr} {k1 k2 : Bool} {xs ys : List V}
end
section
variable {X : Cx} {pins : List (Addr × Obj)} {σ : L2.St} {A : Around} {E : Value → Shared → Prop} {H : Hp} {s : Shared} {z TI TO i1 i2 a b S : Addr} {k1 k2 : Bool} {xs ys : List V}
end
section
variable {as bs : List D}
end
section
variable {K : PySem.W.Frag} {E : XK} {ad : Str → Addr} {tas : TA} {fas : En → Ra} {k1 k2 : Bool}
end
end Mv
namespace Mv
open PySem L2 Evl LamX
theorem ps_dead {X : Cx} {st : Stmt} : PS X st (fun _ _ _ => False) := ⟨fun pins s σ H D I h => h.elim⟩
theorem u_dead {E : XK} {ad : Str → Addr} : Ss E ad (fun _ _ _ => False) (fun _ => none) := fun G0 H0 σ Γ G H R r e D' q => by cases e
section
variable {E : XK} {ad : Str → Addr} {tas tks : TA} {fas fks : En → Ra}
end
section
variable {X : Cw} {s l c : Addr} {T T' : Int} {G H G' H' G1 H1 G2 H2 G0 H0 : Hp} {σ : L2.St} {Γ Γ' : En} {K : PySem.W.Frag} {ta tb te : TE} {Fa Fb F : WE}
end
end Mv
namespace Mv
open PySem L2 Evl LamX
section
variable {X : Cw} {s l c : Addr} {T T' : Int} {G H G' H' G1 H1 G2 H2 G0 H0 : Hp} {σ : L2.St} {Γ Γ' : En} {K : PySem.W.Frag} {ta te tb : TE} {Fa Fb F : WE} {tas : TA} {FA : WA} {E : XK} {ad : Str → Addr}
end
end Mv
namespace Mv
open PySem PySem.Spec PyProof.Rows L2 Evl
def tyT (x : V) (H : Hp) : Prop := ∃ (a : Addr) (o : Obj) (xs : List V), x = .ref a ∧ H a = some (.frz o (.tup xs)) ∧ o.dict = none
def tTM (r : V → List V → Hp → VK → Prop) (to : TE) (t : TA) : TE := fun σ H Q => to σ H fun x H1 => tyT x H1 ∧ t σ H1 fun xs H2 => r x xs H2 Q
section
variable {X : Cx}
theorem tyT_is {pins : List (Addr × Obj)} {σ : L2.St} {H : Hp} {s : Shared} {x : V} {v : Value} (I : Inv X pins σ H s) (r : RelV x v) (ty : tyT x H) : s.TypeIs v "tuple" ∧ ∀ a, v = .ref a → ∃ ob, s.heap.get? a = some ob ∧ ob.dict = none := by
  obtain ⟨a, o, xs, rfl, at_, nd⟩ := ty
  cases r
  obtain ⟨e, _, its, _, tt⟩ := (show ObjOk X.prog X.w H s.heap a (.frz o (.tup xs)) from I.hok a _ at_)
  refine ⟨tt.typeIs, fun b z => ?_⟩
  cases z
  exact ⟨o, e, nd⟩
theorem pe_tm {o e : Expr} {es : List Expr} {to : TE} {t : TA} {name : Str} {apos cpos : Pos} {id : String} {r : V → List V → Hp → VK → Prop} (slot : Slot "tuple" name id) (hty : typeOf (.builtin id) = pure (.type "method_descriptor")) (hm : MtR X id r) (ho : PE X o to) (ha : PA X (e :: es) t)
    (hbase : attributeBase o name X.env (eval o X.env) = eval o X.env := by rfl)
    (hfew : ((backTo cpos (starEach (e :: es) X.env)).all (fun x => !x.1) && (backToKw cpos (keywordEach [] X.env)).all (fun x => x.1.isSome)
      && decide ((e :: es).length + ([] : List Keyword).length + (if ([] : List Keyword).isEmpty then 0 else 1) < 30)) = true := by rfl)
    (hline : (apos.endLine == cpos.line) = true := by rfl) (hs : starEach (e :: es) X.env = (false, eval e X.env) :: starEach es X.env := by rfl) (hplain : (backTo cpos (starEach es X.env)).any (·.1) = false := by rfl) :
    PE X (.Call (.Attribute o name apos) (e :: es) [] cpos) (tTM r to t) := by
  constructor
  intro pns s σ H Q I h
  refine wpAny_Call_method_late hbase hfew hline rfl (thn (ho.run pns s σ H _ I h) ?_)
  rintro v s1 ⟨x, H1, J, rv, ty, q1⟩
  obtain ⟨h1, h2⟩ := tyT_is J rv ty
  refine ⟨"tuple", id, PySem.F.plainAttrs_tuple, slot, hty, h1, h2, ?_⟩
  have hA := ha.run cpos pns s1 σ H1 _ J q1
  rw [hs] at hA ⊢
  refine Calls.callWith_builtin (by show (false || (backTo cpos (starEach es X.env)).any (·.1)) = false; rw [hplain] <;> rfl) (Calls.evalArgs_plain (thn hA ?_))
  rintro us s2 ⟨vs, H2, J2, r2, q2⟩
  exact hm pns s2 σ H2 x vs v us Q J2 rv r2 q2
theorem pi_listK {K : PySem.W.Frag} {tg l : Expr} {tl : TE} (hK : X.K = K) (hl : PE X l tl) : PI X tg l (iList K tl) := by
  rw [← hK]; exact pi_list hl
end
def keyDB : D → Bool
  | .int _ => true
  | .str _ => true
  | _ => false
def keyAD (ds : List D) : Bool := !ds.isEmpty && ds.all keyDB
theorem DqA.keyB {G : Hp} : ∀ {xs : List V} {ds : List D}, DqA G xs ds → xs.all keyV = ds.all keyDB
  | _, _, .nil => rfl
  | _, _, .cons h t => by
    rw [List.all_cons, List.all_cons, DqA.keyB t]
    congr 1
    cases h <;> rfl
theorem DqA.keyA {G : Hp} {xs : List V} {ds : List D} (h : DqA G xs ds) : Mv.keyA xs = keyAD ds := by
  unfold Mv.keyA keyAD
  rw [h.keyB]
  cases h <;> rfl
theorem tyT_of {G H : Hp} {a : Addr} {xs : List V} {ds : List D} (w : Ex G H) (h : TupA G a xs) (hx : DqA G xs ds) (k : keyAD ds = false) : tyT (.ref a) H := by
  obtain ⟨o, n, e⟩ := h
  rw [tupO_frz (by rw [hx.keyA]; exact k)] at e
  exact ⟨a, o, xs, rfl, w _ _ e, n⟩
section
variable {E : XK} {ad : Str → Addr} {K : PySem.W.Frag} {ta tb : TE} {fa fb : En → Re}
def fTM (f : List D → D → Option Int) (fa fb : En → Re) (Γ : En) : Re := match fa Γ with
  | some (.val (.tuple ds)) => if keyAD ds = true then none else match fb Γ with
    | some (.val d) => if idxB ds d = true then (f ds d).map fun z => .val (.int z) else none
    | some (.exc x) => some (.exc x)
    | none => none
  | some (.exc x) => some (.exc x)
  | _ => none
theorem u_tm {f : List D → D → Option Int} {r : V → List V → Hp → VK → Prop}
    (hr : ∀ {H : Hp} {a : Addr} {y : V} {ds : List D} {d : D} {z : Int} {Q : VK}, f ds d = some z → Dp K H (.ref a) (.tuple ds) → Dp K H y d → SeqAt.shaped (.list ds) = true → SeqAt.shaped d = true → Q (.int z) H → r (.ref a) [y] H Q)
    (ha : Se E ad ta fa) (hb : Se E ad tb fb) : Se E ad (tTM r ta (tCons tb tNil)) (fTM f fa fb) := fun σ Γ G H R r e Q q => by
  unfold fTM at e
  split at e
  · rename_i ds e1
    split at e
    · cases e
    · rename_i nk
      have nk : keyAD ds = false := by simpa using nk
      split at e
      · rename_i d e2
        by_cases hz : idxB ds d = true
        · rw [if_pos hz] at e
          obtain ⟨z, hf, rfl⟩ := Option.map_eq_some_iff.mp e
          unfold idxB at hz
          simp only [Bool.and_eq_true] at hz
          obtain ⟨⟨⟨b1, b2⟩, b3⟩, b4⟩ := hz
          refine ha σ Γ G H R _ e1 _ fun v G2 H2 s2 q2 => ?_
          cases q2 with
          | @tup a xs _ hg hx =>
            refine ⟨tyT_of s2.w hg hx nk, hb σ Γ G2 H2 (R.stp s2) _ e2 _ fun u G3 H3 s3 q3 => ?_⟩
            have hl : Dq G3 (.ref a) (.tuple ds) := (Dq.tup hg hx).mono s3.g
            exact hr hf (dp_of s3.w hl (by simpa [flatD] using b4)) (dp_of s3.w q3 b3) b1 b2 (q _ G3 H3 (s2.trans s3) (.int _))
        · rw [if_neg hz] at e; cases e
      · rename_i x e2
        cases e
        refine ha σ Γ G H R _ e1 _ fun v G2 H2 s2 q2 => ?_
        cases q2 with
        | @tup a xs _ hg hx => exact ⟨tyT_of s2.w hg hx nk, hb σ Γ G2 H2 (R.stp s2) _ e2 _ fun G3 H3 s3 => q G3 H3 (s2.trans s3)⟩
      · cases e
  · rename_i x e1
    cases e
    exact ha σ Γ G H R _ e1 _ q
  · cases e
def cntT (ds : List D) (d : D) : Option Int := some ((ds.countP fun y => PyData.eqv y d : Nat) : Int)
theorem u_cntT (ha : Se E ad ta fa) (hb : Se E ad tb fb) : Se E ad (tTM (rCountD K false) ta (tCons tb tNil)) (fTM cntT fa fb) := u_tm (fun hf h1 h2 b1 b2 q => by
  cases hf
  exact ⟨_, _, _, _, rfl, rfl, h1, h2, b1, b2, q⟩) ha hb
end
end Mv
namespace Mv
open PySem L2 Evl
section
variable {X : Cx} {K : PySem.W.Frag} {P : Program} {w : World} {σ : L2.St} {G : Hp} {te : TE} {E : XK} {ad : Str → Addr} {fe : En → Re}
end
end Mv
namespace Mv
open PySem L2 Evl
section
variable {prog : Program} {w : World} {A : Around} {E : Value → Shared → Prop} {s : Shared}
end
section
variable {K : PySem.W.Frag}
end
end Mv
namespace Mv
open PySem L2 Evl
def top (i : Nat) : Stmt := PySem.Challenge.pw_movedround_k65_whole_fewer_than_a_prime.main.body.getD i (.Pass ⟨0, 0, 0, 0⟩)
section
variable {P : Program} {w : World} {K : PySem.W.Frag} {mg : Str → Option Value} {base : Heap} {ad : Str → Addr} {TL : List (Addr × Str)}
abbrev s_place_count : Stmt := top 1
def b_place_count : En → Rf := (fSeq (fAsg (fC (.int 1)) (sName 1)) (fSeq (fFor (iT (fVar 0)) (sName 2) (fAsg (fOp oMul (fVar 1) (fVar 2)) (sName 1))) (fRet (fVar 1))))
def f_place_count : List D → Re := guardN 1 (bodyD b_place_count 2)
theorem ok_place_count {f : Addr} {fd : FuncData}  (F : Fun K "place_count" "place_count" s_place_count f fd) : FnOk P w K mg base CX0 1 f fd ["dials"] (SpF ad f_place_count) := by
  have sc : FnScope ["dials", "many", "size"] ["dials"] (defScope s_place_count) := ⟨rfl, rfl, rfl, by decide +kernel, rfl, by decide +kernel, by decide +kernel⟩
  refine F.ok sc (fun vs H Q E h => ?_) (fun cdv A outer s H vs Q E hr h => ?_)
  · obtain ⟨G, ds, r, _, hv, e, _⟩ := h
    unfold f_place_count at e
    exact hv.len.trans (guard_len e)
  · obtain ⟨G, ds, r, wf, hv, e, k⟩ := h
    unfold f_place_count at e
    refine ⟨_, (pss_cons (ps_set (i := 1) sc.nd rfl (Or.inl rfl) pe_int) (pss_cons (ps_for PassesOwn.never rfl (pi_tup (pv 0)) (pg_name (i := 2) sc.nd rfl (Or.inl rfl)) (pss_one (ps_set (i := 1) sc.nd rfl (Or.inl rfl) (pe_op op_mul (pv 1) (pv 2))))) (pss_one (ps_ret (pv 1))))), ?_⟩
    exact body_start (k := 1) (n := 2) rfl (hv.len.trans (guard_len e)) (show Ss E ad _ b_place_count from (u_seq (u_asg (u_c fun _ => .int 1) g_name) (u_seq (u_for (i_tup u_var) g_name (u_asg (u_op os_mul u_var u_var) g_name)) (u_ret u_var)))) wf hv (guard_get e) k
abbrev s_all_places : Stmt := top 2
def f_all_places : List D → Re := fun _ => none
theorem ok_all_places {f : Addr} {fd : FuncData} (F : Fun K "all_places" "all_places" s_all_places f fd) : FnOk P w K mg base CX0 1 f fd ["dials"] (SpF ad f_all_places) := ⟨(fun vs H Q E h => by obtain ⟨G, ds, r, _, _, e, _⟩ := h; cases e), (fun A outer s H args us vs Q E _ _ _ _ h => by obtain ⟨G, ds, r, _, _, e, _⟩ := h; cases e)⟩
abbrev s_nothing_of : Stmt := top 3
def b_nothing_of : En → Rf := (fRet (fOp oRepT (fTup (fCons (fC (.int 0)) fNil)) (fCb oLen (fCons (fVar 0) fNil))))
def f_nothing_of : List D → Re := guardN 1 (bodyD b_nothing_of 0)
theorem ok_nothing_of {f : Addr} {fd : FuncData} (Z : Zs mg) (F : Fun K "nothing_of" "nothing_of" s_nothing_of f fd) : FnOk P w K mg base CX0 1 f fd ["dials"] (SpF ad f_nothing_of) := by
  have sc : FnScope ["dials"] ["dials"] (defScope s_nothing_of) := ⟨rfl, rfl, rfl, by decide +kernel, rfl, by decide +kernel, by decide +kernel⟩
  refine F.ok sc (fun vs H Q E h => ?_) (fun cdv A outer s H vs Q E hr h => ?_)
  · obtain ⟨G, ds, r, _, hv, e, _⟩ := h
    unfold f_nothing_of at e
    exact hv.len.trans (guard_len e)
  · obtain ⟨G, ds, r, wf, hv, e, k⟩ := h
    unfold f_nothing_of at e
    refine ⟨_, (pss_one (ps_ret (pe_op (r := rRepA K) op_repA (pe_tup (pa_cons pe_int pa_nil)) (pe_callB (r := rLenA K) call_len_seq (by rfl) Z.len PySem.boot_len (pa_cons (pv 0) pa_nil))))), ?_⟩
    exact body_start (k := 1) (n := 0) rfl (hv.len.trans (guard_len e)) (show Ss E ad _ b_nothing_of from (u_ret (u_op os_repT (u_tup (u_cons (u_c fun _ => .int 0) u_nil)) (u_cb cs_len (u_cons u_var u_nil))))) wf hv (guard_get e) k
abbrev s_add : Stmt := top 4
def b_add : En → Rf := (fRet (fCb oTuple (fCons (fLc (iZ3 false false false (fCons (fVar 1) (fCons (fVar 2) (fCons (fVar 0) fNil)))) (sTup 3 (sCons (sName 3) (sCons (sName 4) (sCons (sName 5) sNil)))) (fC (.bool true)) (fOp oMod (fOp oAdd (fVar 3) (fVar 4)) (fVar 5)) [3, 4, 5]) fNil)))
def f_add : List D → Re := guardN 3 (bodyD b_add 3)
theorem ok_add {f : Addr} {fd : FuncData} (Z : Zs mg) (F : Fun K "add" "add" s_add f fd) : FnOk P w K mg base CX0 1 f fd ["dials", "one", "other"] (SpF ad f_add) := by
  have sc : FnScope ["dials", "one", "other", "here", "there", "size"] ["dials", "one", "other"] (defScope s_add) := ⟨rfl, rfl, rfl, by decide +kernel, rfl, by decide +kernel, by decide +kernel⟩
  refine F.ok sc (fun vs H Q E h => ?_) (fun cdv A outer s H vs Q E hr h => ?_)
  · obtain ⟨G, ds, r, _, hv, e, _⟩ := h
    unfold f_add at e
    exact hv.len.trans (guard_len e)
  · obtain ⟨G, ds, r, wf, hv, e, k⟩ := h
    unfold f_add at e
    refine ⟨_, (pss_one (ps_ret (pe_callTy (r := rTupOf K) call_tuple_of (by rfl) Z.tuple (by decide +kernel) (pa_cons (pe_lc (own := [("here", 3), ("there", 4), ("size", 5)]) (g := gTup K 3 (gCons (gName 3) (gCons (gName 4) (gCons (gName 5) gNil)))) (tt := tYes) (by rfl) sc.nd (pi_zip3 false false false (by rfl) Z.zip (pa_cons (pv 1) (pa_cons (pv 2) (pa_cons (pv 0) pa_nil)))) (blkOk_by (N := ["dials", "one", "other", "here", "there", "size"]) (sc := defScope s_add) (by decide +kernel)) (fun _ _ _ _ _ => (pg_tup rfl (pgs_cons (pg_name (i := 3) sc.nd rfl (Or.inl rfl)) (pgs_cons (pg_name (i := 4) sc.nd rfl (Or.inl rfl)) (pgs_cons (pg_name (i := 5) sc.nd rfl (Or.inl rfl)) pgs_nil))))) (fun _ _ _ _ _ => pts_nil) (fun _ _ _ _ _ => (pe_op op_mod (pe_op op_add (pv 3) (pv 4)) (pv 5)))) pa_nil)))), ?_⟩
    exact body_start (k := 3) (n := 3) rfl (hv.len.trans (guard_len e)) (show Ss E ad _ b_add from (u_ret (u_cb cs_tuple (u_cons (u_lc (i_zip3 (u_cons u_var (u_cons u_var (u_cons u_var u_nil)))) (g_tup (g_cons g_name (g_cons g_name (g_cons g_name g_nil)))) u_yes (u_op os_mod (u_op os_add u_var u_var) u_var) (by decide)) u_nil)))) wf hv (guard_get e) k
abbrev s_take_off : Stmt := top 5
def b_take_off : En → Rf := (fRet (fCb oTuple (fCons (fLc (iZ3 false false false (fCons (fVar 1) (fCons (fVar 2) (fCons (fVar 0) fNil)))) (sTup 3 (sCons (sName 3) (sCons (sName 4) (sCons (sName 5) sNil)))) (fC (.bool true)) (fOp oMod (fOp oSub (fVar 3) (fVar 4)) (fVar 5)) [3, 4, 5]) fNil)))
def f_take_off : List D → Re := guardN 3 (bodyD b_take_off 3)
theorem ok_take_off {f : Addr} {fd : FuncData} (Z : Zs mg) (F : Fun K "take_off" "take_off" s_take_off f fd) : FnOk P w K mg base CX0 1 f fd ["dials", "one", "other"] (SpF ad f_take_off) := by
  have sc : FnScope ["dials", "one", "other", "here", "there", "size"] ["dials", "one", "other"] (defScope s_take_off) := ⟨rfl, rfl, rfl, by decide +kernel, rfl, by decide +kernel, by decide +kernel⟩
  refine F.ok sc (fun vs H Q E h => ?_) (fun cdv A outer s H vs Q E hr h => ?_)
  · obtain ⟨G, ds, r, _, hv, e, _⟩ := h
    unfold f_take_off at e
    exact hv.len.trans (guard_len e)
  · obtain ⟨G, ds, r, wf, hv, e, k⟩ := h
    unfold f_take_off at e
    refine ⟨_, (pss_one (ps_ret (pe_callTy (r := rTupOf K) call_tuple_of (by rfl) Z.tuple (by decide +kernel) (pa_cons (pe_lc (own := [("here", 3), ("there", 4), ("size", 5)]) (g := gTup K 3 (gCons (gName 3) (gCons (gName 4) (gCons (gName 5) gNil)))) (tt := tYes) (by rfl) sc.nd (pi_zip3 false false false (by rfl) Z.zip (pa_cons (pv 1) (pa_cons (pv 2) (pa_cons (pv 0) pa_nil)))) (blkOk_by (N := ["dials", "one", "other", "here", "there", "size"]) (sc := defScope s_take_off) (by decide +kernel)) (fun _ _ _ _ _ => (pg_tup rfl (pgs_cons (pg_name (i := 3) sc.nd rfl (Or.inl rfl)) (pgs_cons (pg_name (i := 4) sc.nd rfl (Or.inl rfl)) (pgs_cons (pg_name (i := 5) sc.nd rfl (Or.inl rfl)) pgs_nil))))) (fun _ _ _ _ _ => pts_nil) (fun _ _ _ _ _ => (pe_op op_mod (pe_op op_sub (pv 3) (pv 4)) (pv 5)))) pa_nil)))), ?_⟩
    exact body_start (k := 3) (n := 3) rfl (hv.len.trans (guard_len e)) (show Ss E ad _ b_take_off from (u_ret (u_cb cs_tuple (u_cons (u_lc (i_zip3 (u_cons u_var (u_cons u_var (u_cons u_var u_nil)))) (g_tup (g_cons g_name (g_cons g_name (g_cons g_name g_nil)))) u_yes (u_op os_mod (u_op os_sub u_var u_var) u_var) (by decide)) u_nil)))) wf hv (guard_get e) k
abbrev s_add_up : Stmt := top 6
def b_add_up : En → Rf := (fSeq (fAsg (fCall0 f_nothing_of (fCons (fVar 0) fNil)) (sName 2)) (fSeq (fFor (iT (fVar 1)) (sName 3) (fAsg (fCall0 f_add (fCons (fVar 0) (fCons (fVar 2) (fCons (fVar 3) fNil)))) (sName 2))) (fRet (fVar 2))))
def f_add_up : List D → Re := guardN 2 (bodyD b_add_up 2)
theorem ok_add_up {f : Addr} {fd : FuncData} (C_nothing_of : Cal P w K mg base CX0 1 "nothing_of" ["dials"] (SpF ad f_nothing_of)) (C_add : Cal P w K mg base CX0 1 "add" ["dials", "one", "other"] (SpF ad f_add)) (F : Fun K "add_up" "add_up" s_add_up f fd) : FnOk P w K mg base CX0 2 f fd ["dials", "several"] (SpF ad f_add_up) := by
  have sc : FnScope ["dials", "several", "sum_so_far", "place"] ["dials", "several"] (defScope s_add_up) := ⟨rfl, rfl, rfl, by decide +kernel, rfl, by decide +kernel, by decide +kernel⟩
  refine F.ok sc (fun vs H Q E h => ?_) (fun cdv A outer s H vs Q E hr h => ?_)
  · obtain ⟨G, ds, r, _, hv, e, _⟩ := h
    unfold f_add_up at e
    exact hv.len.trans (guard_len e)
  · obtain ⟨G, ds, r, wf, hv, e, k⟩ := h
    unfold f_add_up at e
    refine ⟨_, (pss_cons (ps_set (i := 2) sc.nd rfl (Or.inl rfl) (pe_cal C_nothing_of (hr.mono (by decide)) pass0 (pa_cons (pv 0) pa_nil))) (pss_cons (ps_for PassesOwn.never rfl (pi_tup (pv 1)) (pg_name (i := 3) sc.nd rfl (Or.inl rfl)) (pss_one (ps_set (i := 2) sc.nd rfl (Or.inl rfl) (pe_cal C_add (hr.mono (by decide)) pass0 (pa_cons (pv 0) (pa_cons (pv 2) (pa_cons (pv 3) pa_nil))))))) (pss_one (ps_ret (pv 2))))), ?_⟩
    exact body_start (k := 2) (n := 2) rfl (hv.len.trans (guard_len e)) (show Ss E ad _ b_add_up from (u_seq (u_asg (u_call0 (u_cons u_var u_nil)) g_name) (u_seq (u_for (i_tup u_var) g_name (u_asg (u_call0 (u_cons u_var (u_cons u_var (u_cons u_var u_nil)))) g_name)) (u_ret u_var)))) wf hv (guard_get e) k
abbrev s_multiply : Stmt := top 7
def b_multiply : En → Rf := (fRet (fCb oTuple (fCons (fLc (iZ2 false false (fCons (fVar 1) (fCons (fVar 0) fNil))) (sTup 2 (sCons (sName 3) (sCons (sName 4) sNil))) (fC (.bool true)) (fOp oMod (fOp oMul (fVar 3) (fVar 2)) (fVar 4)) [3, 4]) fNil)))
def f_multiply : List D → Re := guardN 3 (bodyD b_multiply 2)
theorem ok_multiply {f : Addr} {fd : FuncData} (Z : Zs mg) (F : Fun K "multiply" "multiply" s_multiply f fd) : FnOk P w K mg base CX0 1 f fd ["dials", "place", "number"] (SpF ad f_multiply) := by
  have sc : FnScope ["dials", "place", "number", "at", "size"] ["dials", "place", "number"] (defScope s_multiply) := ⟨rfl, rfl, rfl, by decide +kernel, rfl, by decide +kernel, by decide +kernel⟩
  refine F.ok sc (fun vs H Q E h => ?_) (fun cdv A outer s H vs Q E hr h => ?_)
  · obtain ⟨G, ds, r, _, hv, e, _⟩ := h
    unfold f_multiply at e
    exact hv.len.trans (guard_len e)
  · obtain ⟨G, ds, r, wf, hv, e, k⟩ := h
    unfold f_multiply at e
    refine ⟨_, (pss_one (ps_ret (pe_callTy (r := rTupOf K) call_tuple_of (by rfl) Z.tuple (by decide +kernel) (pa_cons (pe_lc (own := [("at", 3), ("size", 4)]) (g := gTup K 2 (gCons (gName 3) (gCons (gName 4) gNil))) (tt := tYes) (by rfl) sc.nd (pi_zip2 false false (by rfl) Z.zip (pa_cons (pv 1) (pa_cons (pv 0) pa_nil))) (blkOk_by (N := ["dials", "place", "number", "at", "size"]) (sc := defScope s_multiply) (by decide +kernel)) (fun _ _ _ _ _ => (pg_tup rfl (pgs_cons (pg_name (i := 3) sc.nd rfl (Or.inl rfl)) (pgs_cons (pg_name (i := 4) sc.nd rfl (Or.inl rfl)) pgs_nil)))) (fun _ _ _ _ _ => pts_nil) (fun _ _ _ _ _ => (pe_op op_mod (pe_op op_mul (pv 3) (pv 2)) (pv 4)))) pa_nil)))), ?_⟩
    exact body_start (k := 3) (n := 2) rfl (hv.len.trans (guard_len e)) (show Ss E ad _ b_multiply from (u_ret (u_cb cs_tuple (u_cons (u_lc (i_zip2 (u_cons u_var (u_cons u_var u_nil))) (g_tup (g_cons g_name (g_cons g_name g_nil))) u_yes (u_op os_mod (u_op os_mul u_var u_var) u_var) (by decide)) u_nil)))) wf hv (guard_get e) k
abbrev s_moves_to : Stmt := top 8
def f_moves_to : List D → Re := fun _ => none
theorem ok_moves_to {f : Addr} {fd : FuncData} (F : Fun K "moves_to" "moves_to" s_moves_to f fd) : FnOk P w K mg base CX0 2 f fd ["dials", "goals"] (SpF ad f_moves_to) := ⟨(fun vs H Q E h => by obtain ⟨G, ds, r, _, _, e, _⟩ := h; cases e), (fun A outer s H args us vs Q E _ _ _ _ h => by obtain ⟨G, ds, r, _, _, e, _⟩ := h; cases e)⟩
abbrev s_is_number : Stmt := top 16
def b_is_number : En → Rf := (fRet (fAnd (fIsi "int" (fVar 0)) (fNot (fIsi "bool" (fVar 0)))))
def f_is_number : List D → Re := guardN 1 (bodyD b_is_number 0)
theorem ok_is_number {f : Addr} {fd : FuncData} (Z : Zs mg) (F : Fun K "is_number" "is_number" s_is_number f fd) : FnOk P w K mg base CX0 1 f fd ["thing"] (SpF ad f_is_number) := by
  have sc : FnScope ["thing"] ["thing"] (defScope s_is_number) := ⟨rfl, rfl, rfl, by decide +kernel, rfl, by decide +kernel, by decide +kernel⟩
  refine F.ok sc (fun vs H Q E h => ?_) (fun cdv A outer s H vs Q E hr h => ?_)
  · obtain ⟨G, ds, r, _, hv, e, _⟩ := h
    unfold f_is_number at e
    exact hv.len.trans (guard_len e)
  · obtain ⟨G, ds, r, wf, hv, e, k⟩ := h
    unfold f_is_number at e
    refine ⟨_, (pss_one (ps_ret (pe_and (pe_callB (r := rIsiY K) call_isiY (by rfl) Z.isinstance (by decide +kernel) (pa_cons (pv 0) (pa_cons (pe_bltn (v := .ty "int") (u := .type "int") (by rfl) Z.int (by decide +kernel) rfl) pa_nil))) (pe_one (pe_not (pe_callB (r := rIsiY K) call_isiY (by rfl) Z.isinstance (by decide +kernel) (pa_cons (pv 0) (pa_cons (pe_bltn (v := .ty "bool") (u := .type "bool") (by rfl) Z.bool (by decide +kernel) rfl) pa_nil)))))))), ?_⟩
    exact body_start (k := 1) (n := 0) rfl (hv.len.trans (guard_len e)) (show Ss E ad _ b_is_number from (u_ret (u_and (u_isi (c := "int") (by decide) u_var) (u_not (u_isi (c := "bool") (by decide) u_var))))) wf hv (guard_get e) k
abbrev s_is_between : Stmt := top 17
def b_is_between : En → Rf := (fRet (fAnd (fCall0 f_is_number (fCons (fVar 0) fNil)) (fChain oLe oLe (fVar 1) (fVar 0) (fVar 2))))
def f_is_between : List D → Re := guardN 3 (bodyD b_is_between 0)
theorem ok_is_between {f : Addr} {fd : FuncData} (C_is_number : Cal P w K mg base CX0 1 "is_number" ["thing"] (SpF ad f_is_number)) (F : Fun K "is_between" "is_between" s_is_between f fd) : FnOk P w K mg base CX0 2 f fd ["thing", "low", "high"] (SpF ad f_is_between) := by
  have sc : FnScope ["thing", "low", "high"] ["thing", "low", "high"] (defScope s_is_between) := ⟨rfl, rfl, rfl, by decide +kernel, rfl, by decide +kernel, by decide +kernel⟩
  refine F.ok sc (fun vs H Q E h => ?_) (fun cdv A outer s H vs Q E hr h => ?_)
  · obtain ⟨G, ds, r, _, hv, e, _⟩ := h
    unfold f_is_between at e
    exact hv.len.trans (guard_len e)
  · obtain ⟨G, ds, r, wf, hv, e, k⟩ := h
    unfold f_is_between at e
    refine ⟨_, (pss_one (ps_ret (pe_and (pe_cal C_is_number (hr.mono (by decide)) pass0 (pa_cons (pv 0) pa_nil)) (pe_one (pe_chain op_le op_le (pv 1) (pv 0) (pv 2)))))), ?_⟩
    exact body_start (k := 3) (n := 0) rfl (hv.len.trans (guard_len e)) (show Ss E ad _ b_is_between from (u_ret (u_and (u_call0 (u_cons u_var u_nil)) (u_chain os_le os_le u_var u_var u_var)))) wf hv (guard_get e) k
abbrev s_is_listed : Stmt := top 18
def b_is_listed : En → Rf := (fRet (fIsiLT (fVar 0)))
def f_is_listed : List D → Re := guardN 1 (bodyD b_is_listed 0)
theorem ok_is_listed {f : Addr} {fd : FuncData} (Z : Zs mg) (F : Fun K "is_listed" "is_listed" s_is_listed f fd) : FnOk P w K mg base CX0 1 f fd ["thing"] (SpF ad f_is_listed) := by
  have sc : FnScope ["thing"] ["thing"] (defScope s_is_listed) := ⟨rfl, rfl, rfl, by decide +kernel, rfl, by decide +kernel, by decide +kernel⟩
  refine F.ok sc (fun vs H Q E h => ?_) (fun cdv A outer s H vs Q E hr h => ?_)
  · obtain ⟨G, ds, r, _, hv, e, _⟩ := h
    unfold f_is_listed at e
    exact hv.len.trans (guard_len e)
  · obtain ⟨G, ds, r, wf, hv, e, k⟩ := h
    unfold f_is_listed at e
    refine ⟨_, (pss_one (ps_ret (pe_callB (r := rIsiTY K) call_isiTY (by rfl) Z.isinstance (by decide +kernel) (pa_cons (pv 0) (pa_cons (pe_tup (pa_cons (pe_bltn (v := .ty "list") (u := .type "list") (by rfl) Z.list (by decide +kernel) rfl) (pa_cons (pe_bltn (v := .ty "tuple") (u := .type "tuple") (by rfl) Z.tuple (by decide +kernel) rfl) pa_nil))) pa_nil))))), ?_⟩
    exact body_start (k := 1) (n := 0) rfl (hv.len.trans (guard_len e)) (show Ss E ad _ b_is_listed from (u_ret (u_isiLT u_var))) wf hv (guard_get e) k
abbrev s_is_tuple_of : Stmt := top 19
def b_is_tuple_of : En → Rf := (fRet (fAnd (fIsi "tuple" (fVar 0)) (fOp oEqA (fCb oLen (fCons (fVar 0) fNil)) (fVar 1))))
def f_is_tuple_of : List D → Re := guardN 2 (bodyD b_is_tuple_of 0)
theorem ok_is_tuple_of {f : Addr} {fd : FuncData} (Z : Zs mg) (F : Fun K "is_tuple_of" "is_tuple_of" s_is_tuple_of f fd) : FnOk P w K mg base CX0 1 f fd ["thing", "many"] (SpF ad f_is_tuple_of) := by
  have sc : FnScope ["thing", "many"] ["thing", "many"] (defScope s_is_tuple_of) := ⟨rfl, rfl, rfl, by decide +kernel, rfl, by decide +kernel, by decide +kernel⟩
  refine F.ok sc (fun vs H Q E h => ?_) (fun cdv A outer s H vs Q E hr h => ?_)
  · obtain ⟨G, ds, r, _, hv, e, _⟩ := h
    unfold f_is_tuple_of at e
    exact hv.len.trans (guard_len e)
  · obtain ⟨G, ds, r, wf, hv, e, k⟩ := h
    unfold f_is_tuple_of at e
    refine ⟨_, (pss_one (ps_ret (pe_and (pe_callB (r := rIsiY K) call_isiY (by rfl) Z.isinstance (by decide +kernel) (pa_cons (pv 0) (pa_cons (pe_bltn (v := .ty "tuple") (u := .type "tuple") (by rfl) Z.tuple (by decide +kernel) rfl) pa_nil))) (pe_one (pe_cmpR op_eq (pe_callB (r := rLenA K) call_len_seq (by rfl) Z.len PySem.boot_len (pa_cons (pv 0) pa_nil)) (pv 1) (nomark _)))))), ?_⟩
    exact body_start (k := 2) (n := 0) rfl (hv.len.trans (guard_len e)) (show Ss E ad _ b_is_tuple_of from (u_ret (u_and (u_isi (c := "tuple") (by decide) u_var) (u_op os_eqA (u_cb cs_len (u_cons u_var u_nil)) u_var)))) wf hv (guard_get e) k
abbrev s_is_ascending : Stmt := top 20
def b_is_ascending : En → Rf := (fRet (fCb oAll (fCons (fLc (iZ2 false false (fCons (fVar 0) (fCons (fSl false (fVar 0) (pSome (fC (.int 1))) pNone) fNil))) (sTup 2 (sCons (sName 1) (sCons (sName 2) sNil))) (fC (.bool true)) (fOp oLeT (fVar 1) (fVar 2)) [1, 2]) fNil)))
def f_is_ascending : List D → Re := guardN 1 (bodyD b_is_ascending 2)
theorem ok_is_ascending {f : Addr} {fd : FuncData} (Z : Zs mg) (F : Fun K "is_ascending" "is_ascending" s_is_ascending f fd) : FnOk P w K mg base CX0 1 f fd ["items"] (SpF ad f_is_ascending) := by
  have sc : FnScope ["items", "one", "other"] ["items"] (defScope s_is_ascending) := ⟨rfl, rfl, rfl, by decide +kernel, rfl, by decide +kernel, by decide +kernel⟩
  refine F.ok sc (fun vs H Q E h => ?_) (fun cdv A outer s H vs Q E hr h => ?_)
  · obtain ⟨G, ds, r, _, hv, e, _⟩ := h
    unfold f_is_ascending at e
    exact hv.len.trans (guard_len e)
  · obtain ⟨G, ds, r, wf, hv, e, k⟩ := h
    unfold f_is_ascending at e
    refine ⟨_, (pss_one (ps_ret (pe_callB (r := rAll K) (cr_all (by rfl)) (by rfl) Z.all (by decide +kernel) (pa_cons (pe_lc (own := [("one", 1), ("other", 2)]) (g := gTup K 2 (gCons (gName 1) (gCons (gName 2) gNil))) (tt := tYes) (by rfl) sc.nd (pi_zip2 false false (by rfl) Z.zip (pa_cons (pv 0) (pa_cons (pe_slice (r := rSlA K) sl_tupA (pv 0) (po_some pe_int) po_none) pa_nil))) (blkOk_by (N := ["items", "one", "other"]) (sc := defScope s_is_ascending) (by decide +kernel)) (fun _ _ _ _ _ => (pg_tup rfl (pgs_cons (pg_name (i := 1) sc.nd rfl (Or.inl rfl)) (pgs_cons (pg_name (i := 2) sc.nd rfl (Or.inl rfl)) pgs_nil)))) (fun _ _ _ _ _ => pts_nil) (fun _ _ _ _ _ => (pe_cmpR (r := rLeT K) (op_leT hr.units0) (pv 1) (pv 2) (nomark _)))) pa_nil)))), ?_⟩
    exact body_start (k := 1) (n := 2) rfl (hv.len.trans (guard_len e)) (show Ss E ad _ b_is_ascending from (u_ret (u_cb cs_all (u_cons (u_lc (i_zip2 (u_cons u_var (u_cons (u_sl (k := false) u_var (p_some (E := E) (ad := ad) (u_c fun _ => .int 1)) p_none) u_nil))) (g_tup (g_cons g_name (g_cons g_name g_nil))) u_yes (u_op os_leT u_var u_var) (by decide)) u_nil)))) wf hv (guard_get e) k
abbrev s_is_rising : Stmt := top 21
def b_is_rising : En → Rf := (fRet (fCb oAll (fCons (fLc (iZ2 false false (fCons (fVar 0) (fCons (fSl false (fVar 0) (pSome (fC (.int 1))) pNone) fNil))) (sTup 2 (sCons (sName 1) (sCons (sName 2) sNil))) (fC (.bool true)) (fOp oLtT (fVar 1) (fVar 2)) [1, 2]) fNil)))
def f_is_rising : List D → Re := guardN 1 (bodyD b_is_rising 2)
theorem ok_is_rising {f : Addr} {fd : FuncData} (Z : Zs mg) (F : Fun K "is_rising" "is_rising" s_is_rising f fd) : FnOk P w K mg base CX0 1 f fd ["items"] (SpF ad f_is_rising) := by
  have sc : FnScope ["items", "one", "other"] ["items"] (defScope s_is_rising) := ⟨rfl, rfl, rfl, by decide +kernel, rfl, by decide +kernel, by decide +kernel⟩
  refine F.ok sc (fun vs H Q E h => ?_) (fun cdv A outer s H vs Q E hr h => ?_)
  · obtain ⟨G, ds, r, _, hv, e, _⟩ := h
    unfold f_is_rising at e
    exact hv.len.trans (guard_len e)
  · obtain ⟨G, ds, r, wf, hv, e, k⟩ := h
    unfold f_is_rising at e
    refine ⟨_, (pss_one (ps_ret (pe_callB (r := rAll K) (cr_all (by rfl)) (by rfl) Z.all (by decide +kernel) (pa_cons (pe_lc (own := [("one", 1), ("other", 2)]) (g := gTup K 2 (gCons (gName 1) (gCons (gName 2) gNil))) (tt := tYes) (by rfl) sc.nd (pi_zip2 false false (by rfl) Z.zip (pa_cons (pv 0) (pa_cons (pe_slice (r := rSlA K) sl_tupA (pv 0) (po_some pe_int) po_none) pa_nil))) (blkOk_by (N := ["items", "one", "other"]) (sc := defScope s_is_rising) (by decide +kernel)) (fun _ _ _ _ _ => (pg_tup rfl (pgs_cons (pg_name (i := 1) sc.nd rfl (Or.inl rfl)) (pgs_cons (pg_name (i := 2) sc.nd rfl (Or.inl rfl)) pgs_nil)))) (fun _ _ _ _ _ => pts_nil) (fun _ _ _ _ _ => (pe_cmpR (r := rLtT K) (op_ltT hr.units0) (pv 1) (pv 2) (nomark _)))) pa_nil)))), ?_⟩
    exact body_start (k := 1) (n := 2) rfl (hv.len.trans (guard_len e)) (show Ss E ad _ b_is_rising from (u_ret (u_cb cs_all (u_cons (u_lc (i_zip2 (u_cons u_var (u_cons (u_sl (k := false) u_var (p_some (E := E) (ad := ad) (u_c fun _ => .int 1)) p_none) u_nil))) (g_tup (g_cons g_name (g_cons g_name g_nil))) u_yes (u_op os_ltT u_var u_var) (by decide)) u_nil)))) wf hv (guard_get e) k
abbrev s_is_dials : Stmt := top 23
def b_is_dials : En → Rf := (fSeq (fIfS (fOr (fNot (fT (fIsi "tuple" (fVar 0)))) (fNot (fT (fChain oLe oLe (fC (.int 1)) (fCb oLen (fCons (fVar 0) fNil)) (fC (.int 4)))))) (fRet (fC (.bool false))) fNext) (fRet (fAnd (fCb oAll (fCons (fLc (iT (fVar 0)) (sName 1) (fC (.bool true)) (fCall0 f_is_between (fCons (fVar 1) (fCons (fC (.int 2)) (fCons (fC (.int 24)) fNil)))) [1]) fNil)) (fOp oLe (fCall0 f_place_count (fCons (fVar 0) fNil)) (fC (.int 24))))))
def f_is_dials : List D → Re := guardN 1 (bodyD b_is_dials 1)
theorem ok_is_dials {f : Addr} {fd : FuncData} (Z : Zs mg) (C_place_count : Cal P w K mg base CX0 1 "place_count" ["dials"] (SpF ad f_place_count)) (C_is_between : Cal P w K mg base CX0 2 "is_between" ["thing", "low", "high"] (SpF ad f_is_between)) (F : Fun K "is_dials" "is_dials" s_is_dials f fd) : FnOk P w K mg base CX0 3 f fd ["thing"] (SpF ad f_is_dials) := by
  have sc : FnScope ["thing", "size"] ["thing"] (defScope s_is_dials) := ⟨rfl, rfl, rfl, by decide +kernel, rfl, by decide +kernel, by decide +kernel⟩
  refine F.ok sc (fun vs H Q E h => ?_) (fun cdv A outer s H vs Q E hr h => ?_)
  · obtain ⟨G, ds, r, _, hv, e, _⟩ := h
    unfold f_is_dials at e
    exact hv.len.trans (guard_len e)
  · obtain ⟨G, ds, r, wf, hv, e, k⟩ := h
    unfold f_is_dials at e
    refine ⟨_, (pss_cons (ps_if (PW.pt (pw_or (pt_not (pt_val (pe_callB (r := rIsiY K) call_isiY (by rfl) Z.isinstance (by decide +kernel) (pa_cons (pv 0) (pa_cons (pe_bltn (v := .ty "tuple") (u := .type "tuple") (by rfl) Z.tuple (by decide +kernel) rfl) pa_nil))))) (pw_or1 (pt_not (pt_chain op_le op_le pe_int (pe_callB (r := rLenA K) call_len_seq (by rfl) Z.len PySem.boot_len (pa_cons (pv 0) pa_nil)) pe_int))))) (pss_one (ps_ret pe_bl)) pss_nil) (pss_one (ps_ret (pe_and (pe_callB (r := rAll K) (cr_all (by rfl)) (by rfl) Z.all (by decide +kernel) (pa_cons (pe_lc (own := [("size", 1)]) (g := gName 1) (tt := tYes) (by rfl) sc.nd (pi_tup (pv 0)) (blkOk_by (N := ["thing", "size"]) (sc := defScope s_is_dials) (by decide +kernel)) (fun _ _ _ _ _ => (pg_name (i := 1) sc.nd rfl (Or.inl rfl))) (fun _ _ _ _ _ => pts_nil) (fun _ _ _ _ _ => (pe_cal C_is_between (hr.mono (by decide)) pass0 (pa_cons (pv 1) (pa_cons pe_int (pa_cons pe_int pa_nil)))))) pa_nil)) (pe_one (pe_cmpR op_le (pe_cal C_place_count (hr.mono (by decide)) pass0 (pa_cons (pv 0) pa_nil)) pe_int (nomark _))))))), ?_⟩
    exact body_start (k := 1) (n := 1) rfl (hv.len.trans (guard_len e)) (show Ss E ad _ b_is_dials from (u_seq (u_ifS (u_tOr (u_tNot (u_tB (u_isi (c := "tuple") (by decide) u_var))) (u_tNot (u_test (u_chain os_le os_le (u_c fun _ => .int 1) (u_cb cs_len (u_cons u_var u_nil)) (u_c fun _ => .int 4))))) (u_ret (u_c fun _ => .bl false)) u_next) (u_ret (u_and (u_cb cs_all (u_cons (u_lc (i_tup u_var) g_name u_yes (u_call0 (u_cons u_var (u_cons (u_c fun _ => .int 2) (u_cons (u_c fun _ => .int 24) u_nil)))) (by decide)) u_nil)) (u_op os_le (u_call0 (u_cons u_var u_nil)) (u_c fun _ => .int 24)))))) wf hv (guard_get e) k
abbrev s_is_place : Stmt := top 24
def b_is_place : En → Rf := (fSeq (fIfS (fNot (fT (fCall0 f_is_tuple_of (fCons (fVar 1) (fCons (fCb oLen (fCons (fVar 0) fNil)) fNil))))) (fRet (fC (.bool false))) fNext) (fRet (fCb oAll (fCons (fLc (iZ2 false false (fCons (fVar 1) (fCons (fVar 0) fNil))) (sTup 2 (sCons (sName 2) (sCons (sName 3) sNil))) (fC (.bool true)) (fCall0 f_is_between (fCons (fVar 2) (fCons (fC (.int 0)) (fCons (fOp oSub (fVar 3) (fC (.int 1))) fNil)))) [2, 3]) fNil))))
def f_is_place : List D → Re := guardN 2 (bodyD b_is_place 2)
theorem ok_is_place {f : Addr} {fd : FuncData} (Z : Zs mg) (C_is_tuple_of : Cal P w K mg base CX0 1 "is_tuple_of" ["thing", "many"] (SpF ad f_is_tuple_of)) (C_is_between : Cal P w K mg base CX0 2 "is_between" ["thing", "low", "high"] (SpF ad f_is_between)) (F : Fun K "is_place" "is_place" s_is_place f fd) : FnOk P w K mg base CX0 3 f fd ["dials", "thing"] (SpF ad f_is_place) := by
  have sc : FnScope ["dials", "thing", "at", "size"] ["dials", "thing"] (defScope s_is_place) := ⟨rfl, rfl, rfl, by decide +kernel, rfl, by decide +kernel, by decide +kernel⟩
  refine F.ok sc (fun vs H Q E h => ?_) (fun cdv A outer s H vs Q E hr h => ?_)
  · obtain ⟨G, ds, r, _, hv, e, _⟩ := h
    unfold f_is_place at e
    exact hv.len.trans (guard_len e)
  · obtain ⟨G, ds, r, wf, hv, e, k⟩ := h
    unfold f_is_place at e
    refine ⟨_, (pss_cons (ps_if (pt_not (pt_val (pe_cal C_is_tuple_of (hr.mono (by decide)) pass0 (pa_cons (pv 1) (pa_cons (pe_callB (r := rLenA K) call_len_seq (by rfl) Z.len PySem.boot_len (pa_cons (pv 0) pa_nil)) pa_nil))))) (pss_one (ps_ret pe_bl)) pss_nil) (pss_one (ps_ret (pe_callB (r := rAll K) (cr_all (by rfl)) (by rfl) Z.all (by decide +kernel) (pa_cons (pe_lc (own := [("at", 2), ("size", 3)]) (g := gTup K 2 (gCons (gName 2) (gCons (gName 3) gNil))) (tt := tYes) (by rfl) sc.nd (pi_zip2 false false (by rfl) Z.zip (pa_cons (pv 1) (pa_cons (pv 0) pa_nil))) (blkOk_by (N := ["dials", "thing", "at", "size"]) (sc := defScope s_is_place) (by decide +kernel)) (fun _ _ _ _ _ => (pg_tup rfl (pgs_cons (pg_name (i := 2) sc.nd rfl (Or.inl rfl)) (pgs_cons (pg_name (i := 3) sc.nd rfl (Or.inl rfl)) pgs_nil)))) (fun _ _ _ _ _ => pts_nil) (fun _ _ _ _ _ => (pe_cal C_is_between (hr.mono (by decide)) pass0 (pa_cons (pv 2) (pa_cons pe_int (pa_cons (pe_op op_sub (pv 3) pe_int) pa_nil)))))) pa_nil))))), ?_⟩
    exact body_start (k := 2) (n := 2) rfl (hv.len.trans (guard_len e)) (show Ss E ad _ b_is_place from (u_seq (u_ifS (u_tNot (u_tB (u_call0 (u_cons u_var (u_cons (u_cb cs_len (u_cons u_var u_nil)) u_nil))))) (u_ret (u_c fun _ => .bl false)) u_next) (u_ret (u_cb cs_all (u_cons (u_lc (i_zip2 (u_cons u_var (u_cons u_var u_nil))) (g_tup (g_cons g_name (g_cons g_name g_nil))) u_yes (u_call0 (u_cons u_var (u_cons (u_c fun _ => .int 0) (u_cons (u_op os_sub u_var (u_c fun _ => .int 1)) u_nil)))) (by decide)) u_nil))))) wf hv (guard_get e) k
abbrev s_are_places : Stmt := top 25
def b_are_places : En → Rf := (fRet (fAnd (fCall0 f_is_listed (fCons (fVar 1) fNil)) (fCb oAll (fCons (fLc (iT (fVar 1)) (sName 2) (fC (.bool true)) (fCall0 f_is_place (fCons (fVar 0) (fCons (fVar 2) fNil))) [2]) fNil))))
def f_are_places : List D → Re := guardN 2 (bodyD b_are_places 1)
theorem ok_are_places {f : Addr} {fd : FuncData} (Z : Zs mg) (C_is_listed : Cal P w K mg base CX0 1 "is_listed" ["thing"] (SpF ad f_is_listed)) (C_is_place : Cal P w K mg base CX0 3 "is_place" ["dials", "thing"] (SpF ad f_is_place)) (F : Fun K "are_places" "are_places" s_are_places f fd) : FnOk P w K mg base CX0 4 f fd ["dials", "thing"] (SpF ad f_are_places) := by
  have sc : FnScope ["dials", "thing", "item"] ["dials", "thing"] (defScope s_are_places) := ⟨rfl, rfl, rfl, by decide +kernel, rfl, by decide +kernel, by decide +kernel⟩
  refine F.ok sc (fun vs H Q E h => ?_) (fun cdv A outer s H vs Q E hr h => ?_)
  · obtain ⟨G, ds, r, _, hv, e, _⟩ := h
    unfold f_are_places at e
    exact hv.len.trans (guard_len e)
  · obtain ⟨G, ds, r, wf, hv, e, k⟩ := h
    unfold f_are_places at e
    refine ⟨_, (pss_one (ps_ret (pe_and (pe_cal C_is_listed (hr.mono (by decide)) pass0 (pa_cons (pv 1) pa_nil)) (pe_one (pe_callB (r := rAll K) (cr_all (by rfl)) (by rfl) Z.all (by decide +kernel) (pa_cons (pe_lc (own := [("item", 2)]) (g := gName 2) (tt := tYes) (by rfl) sc.nd (pi_tup (pv 1)) (blkOk_by (N := ["dials", "thing", "item"]) (sc := defScope s_are_places) (by decide +kernel)) (fun _ _ _ _ _ => (pg_name (i := 2) sc.nd rfl (Or.inl rfl))) (fun _ _ _ _ _ => pts_nil) (fun _ _ _ _ _ => (pe_cal C_is_place (hr.mono (by decide)) pass0 (pa_cons (pv 0) (pa_cons (pv 2) pa_nil))))) pa_nil)))))), ?_⟩
    exact body_start (k := 2) (n := 1) rfl (hv.len.trans (guard_len e)) (show Ss E ad _ b_are_places from (u_ret (u_and (u_call0 (u_cons u_var u_nil)) (u_cb cs_all (u_cons (u_lc (i_tup u_var) g_name u_yes (u_call0 (u_cons u_var (u_cons u_var u_nil))) (by decide)) u_nil))))) wf hv (guard_get e) k
abbrev s_is_part_of_dials : Stmt := top 26
def b_is_part_of_dials : En → Rf := (fSeq (fIfS (fOr (fNot (fT (fIsi "tuple" (fVar 1)))) (fNot (fT (fCall0 f_are_places (fCons (fVar 0) (fCons (fVar 1) fNil)))))) (fRet (fC (.bool false))) fNext) (fSeq (fIfS (fOr (fNot (fT (fCall0 f_is_rising (fCons (fVar 1) fNil)))) (fT (fOp (oIn true) (fCall0 f_nothing_of (fCons (fVar 0) fNil)) (fVar 1)))) (fRet (fC (.bool false))) fNext) (fRet (fCb oAll (fCons (fLc2 (iT (fVar 1)) (sName 2) (fC (.bool true)) (iT (fVar 1)) (sName 3) (fC (.bool true)) (fOp (oIn false) (fCall0 f_add (fCons (fVar 0) (fCons (fVar 2) (fCons (fVar 3) fNil)))) (fVar 1)) [2, 3] [3]) fNil)))))
def f_is_part_of_dials : List D → Re := guardN 2 (bodyD b_is_part_of_dials 2)
theorem ok_is_part_of_dials {f : Addr} {fd : FuncData} (Z : Zs mg) (C_are_places : Cal P w K mg base CX0 4 "are_places" ["dials", "thing"] (SpF ad f_are_places)) (C_is_rising : Cal P w K mg base CX0 1 "is_rising" ["items"] (SpF ad f_is_rising)) (C_nothing_of : Cal P w K mg base CX0 1 "nothing_of" ["dials"] (SpF ad f_nothing_of)) (C_add : Cal P w K mg base CX0 1 "add" ["dials", "one", "other"] (SpF ad f_add)) (F : Fun K "is_part_of_dials" "is_part_of_dials" s_is_part_of_dials f fd) : FnOk P w K mg base CX0 5 f fd ["dials", "thing"] (SpF ad f_is_part_of_dials) := by
  have sc : FnScope ["dials", "thing", "one", "other"] ["dials", "thing"] (defScope s_is_part_of_dials) := ⟨rfl, rfl, rfl, by decide +kernel, rfl, by decide +kernel, by decide +kernel⟩
  refine F.ok sc (fun vs H Q E h => ?_) (fun cdv A outer s H vs Q E hr h => ?_)
  · obtain ⟨G, ds, r, _, hv, e, _⟩ := h
    unfold f_is_part_of_dials at e
    exact hv.len.trans (guard_len e)
  · obtain ⟨G, ds, r, wf, hv, e, k⟩ := h
    unfold f_is_part_of_dials at e
    refine ⟨_, (pss_cons (ps_if (PW.pt (pw_or (pt_not (pt_val (pe_callB (r := rIsiY K) call_isiY (by rfl) Z.isinstance (by decide +kernel) (pa_cons (pv 1) (pa_cons (pe_bltn (v := .ty "tuple") (u := .type "tuple") (by rfl) Z.tuple (by decide +kernel) rfl) pa_nil))))) (pw_or1 (pt_not (pt_val (pe_cal C_are_places (hr.mono (by decide)) pass0 (pa_cons (pv 0) (pa_cons (pv 1) pa_nil)))))))) (pss_one (ps_ret pe_bl)) pss_nil) (pss_cons (ps_if (PW.pt (pw_or (pt_not (pt_val (pe_cal C_is_rising (hr.mono (by decide)) pass0 (pa_cons (pv 1) pa_nil)))) (pw_or1 (pt_cmpR (r := rInA K true) (op_notInA (room65 hr)) (pe_cal C_nothing_of (hr.mono (by decide)) pass0 (pa_cons (pv 0) pa_nil)) (pv 1) (by rfl))))) (pss_one (ps_ret pe_bl)) pss_nil) (pss_one (ps_ret (pe_callB (r := rAll K) (cr_all (by rfl)) (by rfl) Z.all (by decide +kernel) (pa_cons (pe_lc2 (own := [("one", 2), ("other", 3)]) (vs1 := [3]) (wi1 := iTup K (tVar 1))  (g := gName 2) (g1 := gName 3) (by rfl) sc.nd (pi_tup (pv 1)) (blkOk_by (N := ["dials", "thing", "one", "other"]) (sc := defScope s_is_part_of_dials) (by decide +kernel)) (by decide) (fun _ _ _ _ _ => (pg_name (i := 2) sc.nd rfl (Or.inl rfl))) (fun _ _ _ _ _ => pts_nil) (fun _ _ _ _ _ => (pi_tup (pv 1))) (fun _ _ _ _ _ => (pg_name (i := 3) sc.nd rfl (Or.inl rfl))) (fun _ _ _ _ _ => pts_nil) (fun _ _ _ _ _ => (pe_cmpR (r := rInA K false) (op_inA (room65 hr)) (pe_cal C_add (hr.mono (by decide)) pass0 (pa_cons (pv 0) (pa_cons (pv 2) (pa_cons (pv 3) pa_nil)))) (pv 1) (by rfl)))) pa_nil)))))), ?_⟩
    exact body_start (k := 2) (n := 2) rfl (hv.len.trans (guard_len e)) (show Ss E ad _ b_is_part_of_dials from (u_seq (u_ifS (u_tOr (u_tNot (u_tB (u_isi (c := "tuple") (by decide) u_var))) (u_tNot (u_tB (u_call0 (u_cons u_var (u_cons u_var u_nil)))))) (u_ret (u_c fun _ => .bl false)) u_next) (u_seq (u_ifS (u_tOr (u_tNot (u_tB (u_call0 (u_cons u_var u_nil)))) (u_test (u_op os_in (u_call0 (u_cons u_var u_nil)) u_var))) (u_ret (u_c fun _ => .bl false)) u_next) (u_ret (u_cb cs_all (u_cons (u_lc2 (i_tup u_var) g_name u_yes (i_tup u_var) g_name u_yes (u_op os_in (u_call0 (u_cons u_var (u_cons u_var (u_cons u_var u_nil)))) u_var) (by decide) (by decide)) u_nil)))))) wf hv (guard_get e) k
abbrev s_check_dials : Stmt := top 27
def b_check_dials : En → Rf := (fIfS (fNot (fT (fCall0 f_is_dials (fCons (fVar 0) fNil)))) (fRaise "BadDials") fNext)
def f_check_dials : List D → Re := guardN 1 (bodyD b_check_dials 0)
theorem ok_check_dials {f : Addr} {fd : FuncData} (B_BadDials : ExcC K mg "BadDials" (ad "BadDials")) (C_is_dials : Cal P w K mg base CX0 3 "is_dials" ["thing"] (SpF ad f_is_dials)) (F : Fun K "check_dials" "check_dials" s_check_dials f fd) : FnOk P w K mg base (L2.CX P w) 4 f fd ["dials"] (SpF ad f_check_dials) := by
  have sc : FnScope ["dials"] ["dials"] (defScope s_check_dials) := ⟨rfl, rfl, rfl, by decide +kernel, rfl, by decide +kernel, by decide +kernel⟩
  refine F.okX sc (fun vs H Q E h => ?_) (fun cdv A outer s H vs Q E hr h => ?_)
  · obtain ⟨G, ds, r, _, hv, e, _⟩ := h
    unfold f_check_dials at e
    exact hv.len.trans (guard_len e)
  · obtain ⟨G, ds, r, wf, hv, e, k⟩ := h
    unfold f_check_dials at e
    refine ⟨_, (pss_one (ps_if (pt_not (pt_val (pe_cal C_is_dials (hr.mono (by decide)) pass0 (pa_cons (pv 0) pa_nil)))) (pss_one (ps_raise rfl (takes_of rfl rfl rfl rfl) (pmk_own PySem.F.excBase_ValueError B_BadDials.ex B_BadDials.g B_BadDials.k (raises_own B_BadDials.b B_BadDials.t) rfl))) pss_nil)), ?_⟩
    exact body_start (k := 1) (n := 0) rfl (hv.len.trans (guard_len e)) (show Ss E ad _ b_check_dials from (u_ifS (u_tNot (u_tB (u_call0 (u_cons u_var u_nil)))) u_raise u_next)) wf hv (guard_get e) k
abbrev s_pass_on : Stmt := top 29
def fz_pass_on : List D → Re := fun _ => none
theorem ok_pass_on {f : Addr} {fd : FuncData} (F : Fun K "pass_on" "pass_on" s_pass_on f fd) : FnOk P w K mg base CX0 2 f fd ["dials", "begun", "first", "second", "move"] (SpF ad fz_pass_on) := ⟨(fun vs H Q E h => by obtain ⟨G, ds, r, _, _, e, _⟩ := h; cases e), (fun A outer s H args us vs Q E _ _ _ _ h => by obtain ⟨G, ds, r, _, _, e, _⟩ := h; cases e)⟩
abbrev s_finished : Stmt := top 30
def f_finished : List D → Re := fun _ => none
theorem ok_finished {f : Addr} {fd : FuncData} (F : Fun K "finished" "finished" s_finished f fd) : FnOk P w K mg base CX0 3 f fd ["dials", "held"] (SpF ad f_finished) := ⟨(fun vs H Q E h => by obtain ⟨G, ds, r, _, _, e, _⟩ := h; cases e), (fun A outer s H args us vs Q E _ _ _ _ h => by obtain ⟨G, ds, r, _, _, e, _⟩ := h; cases e)⟩
abbrev s_hand_all : Stmt := top 31
def f_hand_all : List D → Re := fun _ => none
theorem ok_hand_all {f : Addr} {fd : FuncData} (F : Fun K "hand_all" "hand_all" s_hand_all f fd) : FnOk P w K mg base CX0 3 f fd ["dials", "persons", "moves"] (SpF ad f_hand_all) := ⟨(fun vs H Q E h => by obtain ⟨G, ds, r, _, _, e, _⟩ := h; cases e), (fun A outer s H args us vs Q E _ _ _ _ h => by obtain ⟨G, ds, r, _, _, e, _⟩ := h; cases e)⟩
abbrev s_deal : Stmt := top 32
def f_deal : List D → Re := fun _ => none
theorem ok_deal {f : Addr} {fd : FuncData} (F : Fun K "deal" "deal" s_deal f fd) : FnOk P w K mg base CX0 4 f fd ["dials", "row"] (SpF ad f_deal) := ⟨(fun vs H Q E h => by obtain ⟨G, ds, r, _, _, e, _⟩ := h; cases e), (fun A outer s H args us vs Q E _ _ _ _ h => by obtain ⟨G, ds, r, _, _, e, _⟩ := h; cases e)⟩
abbrev s_with_next : Stmt := top 34
def b_with_next : En → Rf := (fSeq (fAsg (fVar 0) (sTup 2 (sCons (sName 3) (sCons (sName 4) sNil)))) (fRet (fLc (iKy (fVar 1)) (sName 5) (fAnd (fT (fOp (oIn true) (fDGet (fVar 1) (fVar 5)) (fVar 4))) (fT (fOp oLt (fTM cntT (fVar 3) (fVar 5)) (fDGet (fVar 2) (fVar 5))))) (fTup (fCons (fOp oCatT (fVar 3) (fTup (fCons (fVar 5) fNil))) (fCons (fOp oCatT (fVar 4) (fTup (fCons (fDGet (fVar 1) (fVar 5)) fNil))) fNil))) [5])))
def f_with_next : List D → Re := guardN 3 (bodyD b_with_next 3)
theorem ok_with_next {f : Addr} {fd : FuncData}  (F : Fun K "with_next" "with_next" s_with_next f fd) : FnOk P w K mg base CX0 1 f fd ["begun", "goals", "limits"] (SpF ad f_with_next) := by
  have sc : FnScope ["begun", "goals", "limits", "moves", "taken", "move"] ["begun", "goals", "limits"] (defScope s_with_next) := ⟨rfl, rfl, rfl, by decide +kernel, rfl, by decide +kernel, by decide +kernel⟩
  refine F.ok sc (fun vs H Q E h => ?_) (fun cdv A outer s H vs Q E hr h => ?_)
  · obtain ⟨G, ds, r, _, hv, e, _⟩ := h
    unfold f_with_next at e
    exact hv.len.trans (guard_len e)
  · obtain ⟨G, ds, r, wf, hv, e, k⟩ := h
    unfold f_with_next at e
    have hu := hu_of hr
    refine ⟨_, (pss_cons (ps_asg (pv 0) (pg_tup rfl (pgs_cons (pg_name (i := 3) sc.nd rfl (Or.inr rfl)) (pgs_cons (pg_name (i := 4) sc.nd rfl (Or.inr rfl)) pgs_nil)))) (pss_one (ps_ret (pe_lc (own := [("move", 5)]) (g := gName 5) (tt := _) (by rfl) sc.nd (pi_keys (pv 1)) (blkOk_by (N := ["begun", "goals", "limits", "moves", "taken", "move"]) (sc := defScope s_with_next) (by decide +kernel)) (fun _ _ _ _ _ => (pg_name (i := 5) sc.nd rfl (Or.inl rfl))) (fun _ _ _ _ _ => (pts_one (PW.pt (pw_and (pt_cmpR (r := rInA K true) (op_notInA (room65 hr)) (pe_dget hu (pv 1) (pv 5) (fun _ _ => rfl)) (pv 4) (by rfl)) (pw_and1 (pt_cmpR op_lt (pe_tm (r := rCountD K false) PySem.F.slot_tuple_count PySem.F.type_tuple_count (mt_countT (room65 hr)) (pv 3) (pa_cons (pv 5) pa_nil)) (pe_dget hu (pv 2) (pv 5) (fun _ _ => rfl)) (nomark _))))))) (fun _ _ _ _ _ => (pe_tup (pa_cons (pe_op (r := rCatA K) op_catA (pv 3) (pe_tup (pa_cons (pv 5) pa_nil))) (pa_cons (pe_op (r := rCatA K) op_catA (pv 4) (pe_tup (pa_cons (pe_dget hu (pv 1) (pv 5) (fun _ _ => rfl)) pa_nil))) pa_nil)))))))), ?_⟩
    exact body_start (k := 3) (n := 3) rfl (hv.len.trans (guard_len e)) (show Ss E ad _ b_with_next from (u_seq (u_asg u_var (g_tup (g_cons g_name (g_cons g_name g_nil)))) (u_ret (u_lc (i_keys u_var) g_name (u_tAnd (u_test (u_op os_in (u_dget u_var u_var) u_var)) (u_test (u_op os_lt (u_cntT u_var u_var) (u_dget u_var u_var)))) (u_tup (u_cons (u_op os_catT u_var (u_tup (u_cons u_var u_nil))) (u_cons (u_op os_catT u_var (u_tup (u_cons (u_dget u_var u_var) u_nil))) u_nil))) (by decide))))) wf hv (guard_get e) k
abbrev s_list_dealt : Stmt := top 35
def b_list_dealt : En → Rf := (fSeq (fAsg (fDc (iT (fVar 1)) (sName 3) (fC (.bool true)) (fVar 3) (fTM cntT (fVar 1) (fVar 3)) [3]) (sName 2)) (fSeq (fAsg (fLst (fCons (fTup (fCons (fTup fNil) (fCons (fTup fNil) fNil))) fNil)) (sName 4)) (fSeq (fFor (iL (fVar 0)) (sName 5) (fAsg (fLc2 (iL (fVar 4)) (sName 6) (fC (.bool true)) (iL (fCall0 f_with_next (fCons (fVar 6) (fCons (fVar 5) (fCons (fVar 2) fNil))))) (sName 7) (fC (.bool true)) (fVar 7) [6, 7] [7]) (sName 4))) (fRet (fLc (iL (fVar 4)) (sTup 2 (sCons (sName 8) (sCons (sName 9) sNil))) (fC (.bool true)) (fVar 8) [8, 9])))))
def f_list_dealt : List D → Re := guardN 2 (bodyD b_list_dealt 8)
theorem ok_list_dealt {f : Addr} {fd : FuncData} (C_with_next : Cal P w K mg base CX0 1 "with_next" ["begun", "goals", "limits"] (SpF ad f_with_next)) (F : Fun K "list_dealt" "list_dealt" s_list_dealt f fd) : FnOk P w K mg base CX0 2 f fd ["ends_of", "row"] (SpF ad f_list_dealt) := by
  have sc : FnScope ["ends_of", "row", "limits", "move", "begun", "goals", "short", "longer", "moves", "_"] ["ends_of", "row"] (defScope s_list_dealt) := ⟨rfl, rfl, rfl, by decide +kernel, rfl, by decide +kernel, by decide +kernel⟩
  refine F.ok sc (fun vs H Q E h => ?_) (fun cdv A outer s H vs Q E hr h => ?_)
  · obtain ⟨G, ds, r, _, hv, e, _⟩ := h
    unfold f_list_dealt at e
    exact hv.len.trans (guard_len e)
  · obtain ⟨G, ds, r, wf, hv, e, k⟩ := h
    unfold f_list_dealt at e
    have hu := hu_of hr
    refine ⟨_, (pss_cons (ps_set (i := 2) sc.nd rfl (Or.inr rfl) (pe_fix (pe_dcT (own := [("move", 3)]) (g := gName 3) (tt := tYes) hu (by rfl) sc.nd (pi_tup (pv 1)) (blkOk_by (N := ["ends_of", "row", "limits", "move", "begun", "goals", "short", "longer", "moves", "_"]) (sc := defScope s_list_dealt) (by decide +kernel)) (fun _ _ _ _ _ => (pg_name (i := 3) sc.nd rfl (Or.inl rfl))) (fun _ _ _ _ _ => pts_nil) (fun _ _ _ _ _ => (pv 3)) (fun _ _ _ _ _ => (pe_tm (r := rCountD K false) PySem.F.slot_tuple_count PySem.F.type_tuple_count (mt_countT (room65 hr)) (pv 1) (pa_cons (pv 3) pa_nil)))))) (pss_cons (ps_set (i := 4) sc.nd rfl (Or.inl rfl) (pe_lst (pa_cons (pe_tup (pa_cons (pe_tup pa_nil) (pa_cons (pe_tup pa_nil) pa_nil))) pa_nil))) (pss_cons (ps_for PassesOwn.never rfl (pi_list (pv 0)) (pg_name (i := 5) sc.nd rfl (Or.inr rfl)) (pss_one (ps_setLc2 (i := 4) (own := [("short", 6), ("longer", 7)]) (vs1 := [7])  (g := gName 6) (g1 := gName 7) (by rfl) sc.nd rfl rfl (sw_true rfl rfl rfl (by decide +kernel)) (pi_list (pv 4)) (blkOk_by (N := ["ends_of", "row", "limits", "move", "begun", "goals", "short", "longer", "moves", "_"]) (sc := defScope s_list_dealt) (by decide +kernel)) (by decide) (fun _ _ _ _ _ => (pg_name (i := 6) sc.nd rfl (Or.inl rfl))) (fun _ _ _ _ _ => pts_nil) (fun _ _ _ _ _ => (pi_listK (K := K) rfl (pe_cal C_with_next (hr.mono (by decide)) pass0 (pa_cons (pv 6) (pa_cons (pv 5) (pa_cons (pv 2) pa_nil)))))) (fun _ _ _ _ _ => (pg_name (i := 7) sc.nd rfl (Or.inl rfl))) (fun _ _ _ _ _ => pts_nil) (fun _ _ _ _ _ => (pv 7))))) (pss_one (ps_ret (pe_lc (own := [("moves", 8), ("_", 9)]) (g := gTup K 2 (gCons (gName 8) (gCons (gName 9) gNil))) (tt := tYes) (by rfl) sc.nd (pi_list (pv 4)) (blkOk_by (N := ["ends_of", "row", "limits", "move", "begun", "goals", "short", "longer", "moves", "_"]) (sc := defScope s_list_dealt) (by decide +kernel)) (fun _ _ _ _ _ => (pg_tup rfl (pgs_cons (pg_name (i := 8) sc.nd rfl (Or.inl rfl)) (pgs_cons (pg_name (i := 9) sc.nd rfl (Or.inl rfl)) pgs_nil)))) (fun _ _ _ _ _ => pts_nil) (fun _ _ _ _ _ => (pv 8)))))))), ?_⟩
    exact body_start (k := 2) (n := 8) rfl (hv.len.trans (guard_len e)) (show Ss E ad _ b_list_dealt from (u_seq (u_asg (u_dc (i_tup u_var) g_name u_yes u_var (u_cntT u_var u_var) (by decide)) g_name) (u_seq (u_asg (u_lst (u_cons (u_tup (u_cons (u_tup u_nil) (u_cons (u_tup u_nil) u_nil))) u_nil)) g_name) (u_seq (u_for (i_list u_var) g_name (u_asg (u_lc2 (i_list u_var) g_name u_yes (i_list (u_call0 (u_cons u_var (u_cons u_var (u_cons u_var u_nil))))) g_name u_yes u_var (by decide) (by decide)) g_name)) (u_ret (u_lc (i_list u_var) (g_tup (g_cons g_name (g_cons g_name g_nil))) u_yes u_var (by decide))))))) wf hv (guard_get e) k
abbrev s_first_dealt : Stmt := top 36
def b_first_dealt (g_ : List D → Re) : En → Rf := (fSeq (fIfS (fNot (fTL (fVar 0))) (fRet (fTup fNil)) fNext) (fSeq (fAsg (fOp oIxL (fVar 0) (fC (.int 0))) (sName 3)) (fSeq (fFor (iEn false (fCons (fVar 1) fNil)) (sTup 2 (sCons (sName 4) (sCons (sName 5) sNil))) (fIfS (fAnd (fT (fDIn false (fVar 5) (fVar 3))) (fAnd (fT (fOp (oIn true) (fVar 5) (fSl false (fVar 1) pNone (pSome (fVar 4))))) (fT (fOp (oIn true) (fDGet (fVar 3) (fVar 5)) (fVar 2))))) (fSeq (fAsg (fCall0 g_ (fCons (fSl true (fVar 0) (pSome (fC (.int 1))) pNone) (fCons (fOp oCatT (fSl false (fVar 1) pNone (pSome (fVar 4))) (fSl false (fVar 1) (pSome (fOp oAdd (fVar 4) (fC (.int 1)))) pNone)) (fCons (fOp oCatT (fVar 2) (fTup (fCons (fDGet (fVar 3) (fVar 5)) fNil))) fNil)))) (sName 6)) (fIfS (fT (fOp oNotN (fVar 6) (fC .none))) (fRet (fOp oCatT (fTup (fCons (fVar 5) fNil)) (fVar 6))) fNext)) fNext)) (fRet (fC .none)))))
def f_first_dealt_ : Nat → List D → Re
  | 0 => fun _ => none
  | k + 1 => guardN 3 (bodyD (b_first_dealt (f_first_dealt_ k)) 4)
def f_first_dealt : List D → Re := f_first_dealt_ 10
theorem ok_first_dealt_ {f : Addr} {fd : FuncData} (Z_enumerate : mg "enumerate" = none) (m_self : mg "first_dealt" = some (.ref f)) (k_self : PySem.W.keepIn K (.ref f) = true) (b_self : Binds K fd ["ends_of", "left", "taken"] []) (F : Fun K "first_dealt" "first_dealt" s_first_dealt f fd) : ∀ k, FnOk P w K mg base CX0 (1 + k) f fd ["ends_of", "left", "taken"] (SpF ad (f_first_dealt_ k))
  | 0 => ⟨(fun vs H Q E h => by obtain ⟨G, ds, r, _, _, e, _⟩ := h; cases e), (fun A outer s H args us vs Q E _ _ _ _ h => by obtain ⟨G, ds, r, _, _, e, _⟩ := h; cases e)⟩
  | k + 1 => by
    have C_first_dealt : Cal P w K mg base CX0 (1 + k) "first_dealt" ["ends_of", "left", "taken"] (SpF ad (f_first_dealt_ k)) := ⟨f, fd, ok_first_dealt_ Z_enumerate m_self k_self b_self F k, m_self, k_self, b_self⟩
    have sc : FnScope ["ends_of", "left", "taken", "goals", "at", "move", "rest"] ["ends_of", "left", "taken"] (defScope s_first_dealt) := ⟨rfl, rfl, rfl, by decide +kernel, rfl, by decide +kernel, by decide +kernel⟩
    refine F.ok sc (fun vs H Q E h => ?_) (fun cdv A outer s H vs Q E hr h => ?_)
    · obtain ⟨G, ds, r, _, hv, e, _⟩ := h
      unfold f_first_dealt_ at e
      exact hv.len.trans (guard_len e)
    · obtain ⟨G, ds, r, wf, hv, e, k⟩ := h
      unfold f_first_dealt_ at e
      have hu := hu_of hr
      refine ⟨_, (pss_cons (ps_if (pt_not (pt_truthK (K := K) rfl (pv 0) (fun _ => rfl))) (pss_one (ps_ret (pe_tup pa_nil))) pss_nil) (pss_cons (ps_set (i := 3) sc.nd rfl (Or.inl rfl) (pe_ix (r := rIxL K) ix_list (pv 0) pe_int (fun _ _ => rfl))) (pss_cons (ps_for PassesOwn.never rfl (pi_enumk false (by rfl) Z_enumerate (pa_cons (pv 1) pa_nil)) (pg_tup rfl (pgs_cons (pg_name (i := 4) sc.nd rfl (Or.inl rfl)) (pgs_cons (pg_name (i := 5) sc.nd rfl (Or.inl rfl)) pgs_nil))) (pss_one (ps_if (PW.pt (pw_and (pt_cmp (pc_din hu (pv 5) (pv 3))) (pw_and (pt_cmpR (r := rInA K true) (op_notInA (room65 hr)) (pv 5) (pe_slice (r := rSlA K) sl_tupA (pv 1) po_none (po_some (pv 4))) (by rfl)) (pw_and1 (pt_cmpR (r := rInA K true) (op_notInA (room65 hr)) (pe_dget hu (pv 3) (pv 5) (fun _ _ => rfl)) (pv 2) (by rfl)))))) (pss_cons (ps_set (i := 6) sc.nd rfl (Or.inl rfl) (pe_cal C_first_dealt (hr.mono (by first | exact Nat.le_refl _ | exact Nat.le_trans (by decide) (Nat.le_add_right 1 _))) pass0 (pa_cons (pe_slice (r := rSlL K) sl_list (pv 0) (po_some pe_int) po_none) (pa_cons (pe_op (r := rCatA K) op_catA (pe_slice (r := rSlA K) sl_tupA (pv 1) po_none (po_some (pv 4))) (pe_slice (r := rSlA K) sl_tupA (pv 1) (po_some (pe_op op_add (pv 4) pe_int)) po_none)) (pa_cons (pe_op (r := rCatA K) op_catA (pv 2) (pe_tup (pa_cons (pe_dget hu (pv 3) (pv 5) (fun _ _ => rfl)) pa_nil))) pa_nil))))) (pss_one (ps_if (pt_cmpR op_notN (pv 6) pe_non (nomark _)) (pss_one (ps_ret (pe_op (r := rCatA K) op_catA (pe_tup (pa_cons (pv 5) pa_nil)) (pv 6)))) pss_nil))) pss_nil))) (pss_one (ps_ret pe_non))))), ?_⟩
      exact body_start (k := 3) (n := 4) rfl (hv.len.trans (guard_len e)) (show Ss E ad _ (b_first_dealt (f_first_dealt_ _)) from (u_seq (u_ifS (u_tNot (u_tTru u_var)) (u_ret (u_tup u_nil)) u_next) (u_seq (u_asg (u_op os_ixL u_var (u_c fun _ => .int 0)) g_name) (u_seq (u_for (i_enum (u_cons u_var u_nil)) (g_tup (g_cons g_name (g_cons g_name g_nil))) (u_ifS (u_tAnd (u_tB (u_din u_var u_var)) (u_tAnd (u_test (u_op os_in u_var (u_sl (k := false) u_var p_none (p_some (E := E) (ad := ad) u_var)))) (u_test (u_op os_in (u_dget u_var u_var) u_var)))) (u_seq (u_asg (u_call0 (u_cons (u_sl (k := true) u_var (p_some (E := E) (ad := ad) (u_c fun _ => .int 1)) p_none) (u_cons (u_op os_catT (u_sl (k := false) u_var p_none (p_some (E := E) (ad := ad) u_var)) (u_sl (k := false) u_var (p_some (E := E) (ad := ad) (u_op os_add u_var (u_c fun _ => .int 1))) p_none)) (u_cons (u_op os_catT u_var (u_tup (u_cons (u_dget u_var u_var) u_nil))) u_nil)))) g_name) (u_ifS (u_test (u_op os_notN u_var (u_c fun _ => .non))) (u_ret (u_op os_catT (u_tup (u_cons u_var u_nil)) u_var)) u_next)) u_next)) (u_ret (u_c fun _ => .non)))))) wf hv (guard_get e) k
theorem ok_first_dealt {f : Addr} {fd : FuncData} (Z_enumerate : mg "enumerate" = none) (m_self : mg "first_dealt" = some (.ref f)) (k_self : PySem.W.keepIn K (.ref f) = true) (b_self : Binds K fd ["ends_of", "left", "taken"] []) (F : Fun K "first_dealt" "first_dealt" s_first_dealt f fd) : FnOk P w K mg base CX0 11 f fd ["ends_of", "left", "taken"] (SpF ad f_first_dealt) := ok_first_dealt_ Z_enumerate m_self k_self b_self F 10
abbrev s_list_ends : Stmt := top 37
def b_list_ends : En → Rf := (fRet (fLc (iT (fVar 1)) (sName 4) (fC (.bool true)) (fDc (iT (fVar 2)) (sName 3) (fC (.bool true)) (fVar 3) (fCall0 f_add (fCons (fVar 0) (fCons (fVar 4) (fCons (fVar 3) fNil)))) [3]) [4]))
def f_list_ends : List D → Re := guardN 3 (bodyD b_list_ends 2)
theorem ok_list_ends {f : Addr} {fd : FuncData} (C_add : Cal P w K mg base CX0 1 "add" ["dials", "one", "other"] (SpF ad f_add)) (F : Fun K "list_ends" "list_ends" s_list_ends f fd) : FnOk P w K mg base CX0 2 f fd ["dials", "persons", "row"] (SpF ad f_list_ends) := by
  have sc : FnScope ["dials", "persons", "row", "move", "person"] ["dials", "persons", "row"] (defScope s_list_ends) := ⟨rfl, rfl, rfl, by decide +kernel, rfl, by decide +kernel, by decide +kernel⟩
  refine F.ok sc (fun vs H Q E h => ?_) (fun cdv A outer s H vs Q E hr h => ?_)
  · obtain ⟨G, ds, r, _, hv, e, _⟩ := h
    unfold f_list_ends at e
    exact hv.len.trans (guard_len e)
  · obtain ⟨G, ds, r, wf, hv, e, k⟩ := h
    unfold f_list_ends at e
    have hu := hu_of hr
    refine ⟨_, (pss_one (ps_ret (pe_lc (own := [("person", 4)]) (g := gName 4) (tt := tYes) (by rfl) sc.nd (pi_tup (pv 1)) (blkOk_by (N := ["dials", "persons", "row", "move", "person"]) (sc := defScope s_list_ends) (by decide +kernel)) (fun _ _ _ _ _ => (pg_name (i := 4) sc.nd rfl (Or.inr rfl))) (fun _ _ _ _ _ => pts_nil) (fun _ _ _ _ _ => (pe_fix (pe_dcT (wi := iTup K (tVar 2)) (own := [("move", 3)]) (g := gName 3) (tt := tYes) (by exact hu) (by rfl) sc.nd (by exact (pi_tup (pv 2))) (blkOk_by (N := ["dials", "persons", "row", "move", "person"]) (sc := _) (by rfl)) (fun _ _ _ _ _ => (pg_name (i := 3) sc.nd rfl (Or.inl rfl))) (fun _ _ _ _ _ => pts_nil) (fun _ _ _ _ _ => (pv 3)) (fun _ _ _ _ _ => (pe_cal C_add (hr.mono (by decide)) pass0 (pa_cons (pv 0) (pa_cons (pv 4) (pa_cons (pv 3) pa_nil))))))))))), ?_⟩
    exact body_start (k := 3) (n := 2) rfl (hv.len.trans (guard_len e)) (show Ss E ad _ b_list_ends from (u_ret (u_lc (i_tup u_var) g_name u_yes (u_dc (i_tup u_var) g_name u_yes u_var (u_call0 (u_cons u_var (u_cons u_var (u_cons u_var u_nil)))) (by decide)) (by decide)))) wf hv (guard_get e) k
abbrev s_is_lot_of : Stmt := top 39
def b_is_lot_of : En → Rf := (fRet (fAnd (fIsi "tuple" (fVar 1)) (fAnd (fOp oGt (fCb oLen (fCons (fVar 1) fNil)) (fC (.int 0))) (fAnd (fCall0 f_are_places (fCons (fVar 0) (fCons (fVar 1) fNil))) (fCall0 f_is_rising (fCons (fVar 1) fNil))))))
def f_is_lot_of : List D → Re := guardN 2 (bodyD b_is_lot_of 0)
theorem ok_is_lot_of {f : Addr} {fd : FuncData} (Z : Zs mg) (C_are_places : Cal P w K mg base CX0 4 "are_places" ["dials", "thing"] (SpF ad f_are_places)) (C_is_rising : Cal P w K mg base CX0 1 "is_rising" ["items"] (SpF ad f_is_rising)) (F : Fun K "is_lot_of" "is_lot_of" s_is_lot_of f fd) : FnOk P w K mg base CX0 5 f fd ["dials", "thing"] (SpF ad f_is_lot_of) := by
  have sc : FnScope ["dials", "thing"] ["dials", "thing"] (defScope s_is_lot_of) := ⟨rfl, rfl, rfl, by decide +kernel, rfl, by decide +kernel, by decide +kernel⟩
  refine F.ok sc (fun vs H Q E h => ?_) (fun cdv A outer s H vs Q E hr h => ?_)
  · obtain ⟨G, ds, r, _, hv, e, _⟩ := h
    unfold f_is_lot_of at e
    exact hv.len.trans (guard_len e)
  · obtain ⟨G, ds, r, wf, hv, e, k⟩ := h
    unfold f_is_lot_of at e
    refine ⟨_, (pss_one (ps_ret (pe_and (pe_callB (r := rIsiY K) call_isiY (by rfl) Z.isinstance (by decide +kernel) (pa_cons (pv 1) (pa_cons (pe_bltn (v := .ty "tuple") (u := .type "tuple") (by rfl) Z.tuple (by decide +kernel) rfl) pa_nil))) (pe_and (pe_cmpR op_gt (pe_callB (r := rLenA K) call_len_seq (by rfl) Z.len PySem.boot_len (pa_cons (pv 1) pa_nil)) pe_int (nomark _)) (pe_and (pe_cal C_are_places (hr.mono (by decide)) pass0 (pa_cons (pv 0) (pa_cons (pv 1) pa_nil))) (pe_one (pe_cal C_is_rising (hr.mono (by decide)) pass0 (pa_cons (pv 1) pa_nil)))))))), ?_⟩
    exact body_start (k := 2) (n := 0) rfl (hv.len.trans (guard_len e)) (show Ss E ad _ b_is_lot_of from (u_ret (u_and (u_isi (c := "tuple") (by decide) u_var) (u_and (u_op os_gt (u_cb cs_len (u_cons u_var u_nil)) (u_c fun _ => .int 0)) (u_and (u_call0 (u_cons u_var (u_cons u_var u_nil))) (u_call0 (u_cons u_var u_nil))))))) wf hv (guard_get e) k
abbrev s_check_lot : Stmt := top 40
def b_check_lot : En → Rf := (fIfS (fNot (fT (fCall0 f_is_lot_of (fCons (fVar 0) (fCons (fVar 1) fNil))))) (fRaise "BadLot") fNext)
def f_check_lot : List D → Re := guardN 2 (bodyD b_check_lot 0)
theorem ok_check_lot {f : Addr} {fd : FuncData} (B_BadLot : ExcC K mg "BadLot" (ad "BadLot")) (C_is_lot_of : Cal P w K mg base CX0 5 "is_lot_of" ["dials", "thing"] (SpF ad f_is_lot_of)) (F : Fun K "check_lot" "check_lot" s_check_lot f fd) : FnOk P w K mg base (L2.CX P w) 6 f fd ["dials", "lot"] (SpF ad f_check_lot) := by
  have sc : FnScope ["dials", "lot"] ["dials", "lot"] (defScope s_check_lot) := ⟨rfl, rfl, rfl, by decide +kernel, rfl, by decide +kernel, by decide +kernel⟩
  refine F.okX sc (fun vs H Q E h => ?_) (fun cdv A outer s H vs Q E hr h => ?_)
  · obtain ⟨G, ds, r, _, hv, e, _⟩ := h
    unfold f_check_lot at e
    exact hv.len.trans (guard_len e)
  · obtain ⟨G, ds, r, wf, hv, e, k⟩ := h
    unfold f_check_lot at e
    refine ⟨_, (pss_one (ps_if (pt_not (pt_val (pe_cal C_is_lot_of (hr.mono (by decide)) pass0 (pa_cons (pv 0) (pa_cons (pv 1) pa_nil))))) (pss_one (ps_raise rfl (takes_of rfl rfl rfl rfl) (pmk_own PySem.F.excBase_ValueError B_BadLot.ex B_BadLot.g B_BadLot.k (raises_own B_BadLot.b B_BadLot.t) rfl))) pss_nil)), ?_⟩
    exact body_start (k := 2) (n := 0) rfl (hv.len.trans (guard_len e)) (show Ss E ad _ b_check_lot from (u_ifS (u_tNot (u_tB (u_call0 (u_cons u_var (u_cons u_var u_nil))))) u_raise u_next)) wf hv (guard_get e) k
abbrev s_is_row_for : Stmt := top 41
def b_is_row_for : En → Rf := (fRet (fAnd (fCall0 f_is_tuple_of (fCons (fVar 2) (fCons (fCb oLen (fCons (fVar 1) fNil)) fNil))) (fAnd (fCall0 f_are_places (fCons (fVar 0) (fCons (fVar 2) fNil))) (fCall0 f_is_ascending (fCons (fVar 2) fNil)))))
def f_is_row_for : List D → Re := guardN 3 (bodyD b_is_row_for 0)
theorem ok_is_row_for {f : Addr} {fd : FuncData} (Z : Zs mg) (C_is_tuple_of : Cal P w K mg base CX0 1 "is_tuple_of" ["thing", "many"] (SpF ad f_is_tuple_of)) (C_are_places : Cal P w K mg base CX0 4 "are_places" ["dials", "thing"] (SpF ad f_are_places)) (C_is_ascending : Cal P w K mg base CX0 1 "is_ascending" ["items"] (SpF ad f_is_ascending)) (F : Fun K "is_row_for" "is_row_for" s_is_row_for f fd) : FnOk P w K mg base CX0 5 f fd ["dials", "lot", "thing"] (SpF ad f_is_row_for) := by
  have sc : FnScope ["dials", "lot", "thing"] ["dials", "lot", "thing"] (defScope s_is_row_for) := ⟨rfl, rfl, rfl, by decide +kernel, rfl, by decide +kernel, by decide +kernel⟩
  refine F.ok sc (fun vs H Q E h => ?_) (fun cdv A outer s H vs Q E hr h => ?_)
  · obtain ⟨G, ds, r, _, hv, e, _⟩ := h
    unfold f_is_row_for at e
    exact hv.len.trans (guard_len e)
  · obtain ⟨G, ds, r, wf, hv, e, k⟩ := h
    unfold f_is_row_for at e
    refine ⟨_, (pss_one (ps_ret (pe_and (pe_cal C_is_tuple_of (hr.mono (by decide)) pass0 (pa_cons (pv 2) (pa_cons (pe_callB (r := rLenA K) call_len_seq (by rfl) Z.len PySem.boot_len (pa_cons (pv 1) pa_nil)) pa_nil))) (pe_and (pe_cal C_are_places (hr.mono (by decide)) pass0 (pa_cons (pv 0) (pa_cons (pv 2) pa_nil))) (pe_one (pe_cal C_is_ascending (hr.mono (by decide)) pass0 (pa_cons (pv 2) pa_nil))))))), ?_⟩
    exact body_start (k := 3) (n := 0) rfl (hv.len.trans (guard_len e)) (show Ss E ad _ b_is_row_for from (u_ret (u_and (u_call0 (u_cons u_var (u_cons (u_cb cs_len (u_cons u_var u_nil)) u_nil))) (u_and (u_call0 (u_cons u_var (u_cons u_var u_nil))) (u_call0 (u_cons u_var u_nil)))))) wf hv (guard_get e) k
abbrev s_check_lot_row : Stmt := top 42
def b_check_lot_row : En → Rf := (fIfS (fNot (fT (fCall0 f_is_row_for (fCons (fVar 0) (fCons (fVar 1) (fCons (fVar 2) fNil)))))) (fRaise "BadRow") fNext)
def f_check_lot_row : List D → Re := guardN 3 (bodyD b_check_lot_row 0)
theorem ok_check_lot_row {f : Addr} {fd : FuncData} (B_BadRow : ExcC K mg "BadRow" (ad "BadRow")) (C_is_row_for : Cal P w K mg base CX0 5 "is_row_for" ["dials", "lot", "thing"] (SpF ad f_is_row_for)) (F : Fun K "check_lot_row" "check_lot_row" s_check_lot_row f fd) : FnOk P w K mg base (L2.CX P w) 6 f fd ["dials", "lot", "row"] (SpF ad f_check_lot_row) := by
  have sc : FnScope ["dials", "lot", "row"] ["dials", "lot", "row"] (defScope s_check_lot_row) := ⟨rfl, rfl, rfl, by decide +kernel, rfl, by decide +kernel, by decide +kernel⟩
  refine F.okX sc (fun vs H Q E h => ?_) (fun cdv A outer s H vs Q E hr h => ?_)
  · obtain ⟨G, ds, r, _, hv, e, _⟩ := h
    unfold f_check_lot_row at e
    exact hv.len.trans (guard_len e)
  · obtain ⟨G, ds, r, wf, hv, e, k⟩ := h
    unfold f_check_lot_row at e
    refine ⟨_, (pss_one (ps_if (pt_not (pt_val (pe_cal C_is_row_for (hr.mono (by decide)) pass0 (pa_cons (pv 0) (pa_cons (pv 1) (pa_cons (pv 2) pa_nil)))))) (pss_one (ps_raise rfl (takes_of rfl rfl rfl rfl) (pmk_own PySem.F.excBase_ValueError B_BadRow.ex B_BadRow.g B_BadRow.k (raises_own B_BadRow.b B_BadRow.t) rfl))) pss_nil)), ?_⟩
    exact body_start (k := 3) (n := 0) rfl (hv.len.trans (guard_len e)) (show Ss E ad _ b_check_lot_row from (u_ifS (u_tNot (u_tB (u_call0 (u_cons u_var (u_cons u_var (u_cons u_var u_nil)))))) u_raise u_next)) wf hv (guard_get e) k
abbrev s_check_lot_most : Stmt := top 44
def b_check_lot_most : En → Rf := (fIfS (fT (fOp oGt (fCb oLen (fCons (fVar 0) fNil)) (fVar 1))) (fun _ => none) fNext)
def f_check_lot_most : List D → Re := guardN 2 (bodyD b_check_lot_most 0)
theorem ok_check_lot_most {f : Addr} {fd : FuncData} (Z : Zs mg) (F : Fun K "check_lot_most" "check_lot_most" s_check_lot_most f fd) : FnOk P w K mg base (L2.CX P w) 1 f fd ["lot", "most"] (SpF ad f_check_lot_most) := by
  have sc : FnScope ["lot", "most"] ["lot", "most"] (defScope s_check_lot_most) := ⟨rfl, rfl, rfl, by decide +kernel, rfl, by decide +kernel, by decide +kernel⟩
  refine F.okX sc (fun vs H Q E h => ?_) (fun cdv A outer s H vs Q E hr h => ?_)
  · obtain ⟨G, ds, r, _, hv, e, _⟩ := h
    unfold f_check_lot_most at e
    exact hv.len.trans (guard_len e)
  · obtain ⟨G, ds, r, wf, hv, e, k⟩ := h
    unfold f_check_lot_most at e
    refine ⟨_, (pss_one (ps_if (pt_cmpR op_gt (pe_callB (r := rLenA K) call_len_seq (by rfl) Z.len PySem.boot_len (pa_cons (pv 0) pa_nil)) (pv 1) (nomark _)) (pss_one ps_dead) pss_nil)), ?_⟩
    exact body_start (k := 2) (n := 0) rfl (hv.len.trans (guard_len e)) (show Ss E ad _ b_check_lot_most from (u_ifS (u_test (u_op os_gt (u_cb cs_len (u_cons u_var u_nil)) u_var)) u_dead u_next)) wf hv (guard_get e) k
abbrev s_has_all_places : Stmt := top 45
def b_has_all_places : En → Rf := (fRet (fOp oEqA (fCb oLen (fCons (fVar 1) fNil)) (fCall0 f_place_count (fCons (fVar 0) fNil))))
def f_has_all_places : List D → Re := guardN 2 (bodyD b_has_all_places 0)
theorem ok_has_all_places {f : Addr} {fd : FuncData} (Z : Zs mg) (C_place_count : Cal P w K mg base CX0 1 "place_count" ["dials"] (SpF ad f_place_count)) (F : Fun K "has_all_places" "has_all_places" s_has_all_places f fd) : FnOk P w K mg base CX0 2 f fd ["dials", "lot"] (SpF ad f_has_all_places) := by
  have sc : FnScope ["dials", "lot"] ["dials", "lot"] (defScope s_has_all_places) := ⟨rfl, rfl, rfl, by decide +kernel, rfl, by decide +kernel, by decide +kernel⟩
  refine F.ok sc (fun vs H Q E h => ?_) (fun cdv A outer s H vs Q E hr h => ?_)
  · obtain ⟨G, ds, r, _, hv, e, _⟩ := h
    unfold f_has_all_places at e
    exact hv.len.trans (guard_len e)
  · obtain ⟨G, ds, r, wf, hv, e, k⟩ := h
    unfold f_has_all_places at e
    refine ⟨_, (pss_one (ps_ret (pe_cmpR op_eq (pe_callB (r := rLenA K) call_len_seq (by rfl) Z.len PySem.boot_len (pa_cons (pv 1) pa_nil)) (pe_cal C_place_count (hr.mono (by decide)) pass0 (pa_cons (pv 0) pa_nil)) (nomark _)))), ?_⟩
    exact body_start (k := 2) (n := 0) rfl (hv.len.trans (guard_len e)) (show Ss E ad _ b_has_all_places from (u_ret (u_op os_eqA (u_cb cs_len (u_cons u_var u_nil)) (u_call0 (u_cons u_var u_nil))))) wf hv (guard_get e) k
abbrev s_check_lot_or_all : Stmt := top 46
def b_check_lot_or_all : En → Rf := (fIfS (fNot (fT (fCall0 f_has_all_places (fCons (fVar 0) (fCons (fVar 1) fNil))))) (fDrop (fCall f_check_lot_most (fCons (fVar 1) (fCons (fVar 2) fNil)))) fNext)
def f_check_lot_or_all : List D → Re := guardN 3 (bodyD b_check_lot_or_all 0)
theorem ok_check_lot_or_all {f : Addr} {fd : FuncData} (C_has_all_places : Cal P w K mg base CX0 2 "has_all_places" ["dials", "lot"] (SpF ad f_has_all_places)) (C_check_lot_most : Cal P w K mg base (L2.CX P w) 1 "check_lot_most" ["lot", "most"] (SpF ad f_check_lot_most)) (F : Fun K "check_lot_or_all" "check_lot_or_all" s_check_lot_or_all f fd) : FnOk P w K mg base (L2.CX P w) 3 f fd ["dials", "lot", "most"] (SpF ad f_check_lot_or_all) := by
  have sc : FnScope ["dials", "lot", "most"] ["dials", "lot", "most"] (defScope s_check_lot_or_all) := ⟨rfl, rfl, rfl, by decide +kernel, rfl, by decide +kernel, by decide +kernel⟩
  refine F.okX sc (fun vs H Q E h => ?_) (fun cdv A outer s H vs Q E hr h => ?_)
  · obtain ⟨G, ds, r, _, hv, e, _⟩ := h
    unfold f_check_lot_or_all at e
    exact hv.len.trans (guard_len e)
  · obtain ⟨G, ds, r, wf, hv, e, k⟩ := h
    unfold f_check_lot_or_all at e
    refine ⟨_, (pss_one (ps_if (pt_not (pt_val (pe_cal C_has_all_places (hr.mono (by decide)) pass0 (pa_cons (pv 0) (pa_cons (pv 1) pa_nil))))) (pss_one (ps_expr (pe_cal C_check_lot_most (hr.mono (by decide)) (passes_call (E := E) (W := fun c d _ H => E c d H) (takes_of rfl rfl rfl rfl) (fun _ _ _ _ h => h)) (pa_cons (pv 1) (pa_cons (pv 2) pa_nil))))) pss_nil)), ?_⟩
    exact body_start (k := 3) (n := 0) rfl (hv.len.trans (guard_len e)) (show Ss E ad _ b_check_lot_or_all from (u_ifS (u_tNot (u_tB (u_call0 (u_cons u_var (u_cons u_var u_nil))))) (u_drop (u_call (u_cons u_var (u_cons u_var u_nil)))) u_next)) wf hv (guard_get e) k
abbrev s_find_part_bar : Stmt := top 47
def b_find_part_bar : En → Rf := (fSeq (fAsg (fCb oTuple (fCons (fCb oSorted (fCons (fLc (iT (fVar 1)) (sName 4) (fC (.bool true)) (fCall0 f_take_off (fCons (fVar 0) (fCons (fVar 4) (fCons (fOp oIxT (fVar 1) (fC (.int 0))) fNil)))) [4]) fNil)) fNil)) (sName 3)) (fSeq (fIfS (fNot (fT (fCall0 f_is_part_of_dials (fCons (fVar 0) (fCons (fVar 3) fNil))))) (fRet (fC .none)) fNext) (fSeq (fIfS (fNot (fT (fCb oAll (fCons (fLc (iT (fVar 2)) (sName 5) (fC (.bool true)) (fOp (oIn false) (fCall0 f_take_off (fCons (fVar 0) (fCons (fVar 5) (fCons (fOp oIxT (fVar 2) (fC (.int 0))) fNil)))) (fVar 3)) [5]) fNil)))) (fRet (fC .none)) fNext) (fSeq (fIfS (fT (fOp oEq (fCall0 f_add_up (fCons (fVar 0) (fCons (fVar 2) fNil))) (fCall0 f_multiply (fCons (fVar 0) (fCons (fOp oIxT (fVar 2) (fC (.int 0))) (fCons (fCb oLen (fCons (fVar 1) fNil)) fNil)))))) (fRet (fC .none)) fNext) (fRet (fVar 3))))))
def f_find_part_bar : List D → Re := guardN 3 (bodyD b_find_part_bar 3)
theorem ok_find_part_bar {f : Addr} {fd : FuncData} (Z : Zs mg) (Z_sorted : mg "sorted" = none) (C_is_part_of_dials : Cal P w K mg base CX0 5 "is_part_of_dials" ["dials", "thing"] (SpF ad f_is_part_of_dials)) (C_add_up : Cal P w K mg base CX0 2 "add_up" ["dials", "several"] (SpF ad f_add_up)) (C_multiply : Cal P w K mg base CX0 1 "multiply" ["dials", "place", "number"] (SpF ad f_multiply)) (C_take_off : Cal P w K mg base CX0 1 "take_off" ["dials", "one", "other"] (SpF ad f_take_off)) (F : Fun K "find_part_bar" "find_part_bar" s_find_part_bar f fd) : FnOk P w K mg base CX0 6 f fd ["dials", "lot", "row"] (SpF ad f_find_part_bar) := by
  have sc : FnScope ["dials", "lot", "row", "part", "person", "move"] ["dials", "lot", "row"] (defScope s_find_part_bar) := ⟨rfl, rfl, rfl, by decide +kernel, rfl, by decide +kernel, by decide +kernel⟩
  refine F.ok sc (fun vs H Q E h => ?_) (fun cdv A outer s H vs Q E hr h => ?_)
  · obtain ⟨G, ds, r, _, hv, e, _⟩ := h
    unfold f_find_part_bar at e
    exact hv.len.trans (guard_len e)
  · obtain ⟨G, ds, r, wf, hv, e, k⟩ := h
    unfold f_find_part_bar at e
    refine ⟨_, (pss_cons (ps_set (i := 3) sc.nd rfl (Or.inr rfl) (pe_callTy (r := rTupOf K) call_tuple_of (by rfl) Z.tuple (by decide +kernel) (pa_cons (pe_callB (r := rSortD K) (call_sortD hr.units) (by rfl) Z_sorted (by decide +kernel) (pa_cons (pe_lc (own := [("person", 4)]) (g := gName 4) (tt := tYes) (by rfl) sc.nd (pi_tup (pv 1)) (blkOk_by (N := ["dials", "lot", "row", "part", "person", "move"]) (sc := defScope s_find_part_bar) (by decide +kernel)) (fun _ _ _ _ _ => (pg_name (i := 4) sc.nd rfl (Or.inl rfl))) (fun _ _ _ _ _ => pts_nil) (fun _ _ _ _ _ => (pe_cal C_take_off (hr.mono (by decide)) pass0 (pa_cons (pv 0) (pa_cons (pv 4) (pa_cons (pe_ix (r := rIxT K) ix_tup (pv 1) pe_int (fun _ _ => rfl)) pa_nil)))))) pa_nil)) pa_nil))) (pss_cons (ps_if (pt_not (pt_val (pe_cal C_is_part_of_dials (hr.mono (by decide)) pass0 (pa_cons (pv 0) (pa_cons (pv 3) pa_nil))))) (pss_one (ps_ret pe_non)) pss_nil) (pss_cons (ps_if (pt_not (pt_val (pe_callB (r := rAll K) (cr_all (by rfl)) (by rfl) Z.all (by decide +kernel) (pa_cons (pe_lc (own := [("move", 5)]) (g := gName 5) (tt := tYes) (by rfl) sc.nd (pi_tup (pv 2)) (blkOk_by (N := ["dials", "lot", "row", "part", "person", "move"]) (sc := defScope s_find_part_bar) (by decide +kernel)) (fun _ _ _ _ _ => (pg_name (i := 5) sc.nd rfl (Or.inl rfl))) (fun _ _ _ _ _ => pts_nil) (fun _ _ _ _ _ => (pe_cmpR (r := rInA K false) (op_inA (room65 hr)) (pe_cal C_take_off (hr.mono (by decide)) pass0 (pa_cons (pv 0) (pa_cons (pv 5) (pa_cons (pe_ix (r := rIxT K) ix_tup (pv 2) pe_int (fun _ _ => rfl)) pa_nil)))) (pv 3) (by rfl)))) pa_nil)))) (pss_one (ps_ret pe_non)) pss_nil) (pss_cons (ps_if (pt_cmpR (r := rEqD K) (op_eqD hr.units) (pe_cal C_add_up (hr.mono (by decide)) pass0 (pa_cons (pv 0) (pa_cons (pv 2) pa_nil))) (pe_cal C_multiply (hr.mono (by decide)) pass0 (pa_cons (pv 0) (pa_cons (pe_ix (r := rIxT K) ix_tup (pv 2) pe_int (fun _ _ => rfl)) (pa_cons (pe_callB (r := rLenA K) call_len_seq (by rfl) Z.len PySem.boot_len (pa_cons (pv 1) pa_nil)) pa_nil)))) (nomark _)) (pss_one (ps_ret pe_non)) pss_nil) (pss_one (ps_ret (pv 3))))))), ?_⟩
    exact body_start (k := 3) (n := 3) rfl (hv.len.trans (guard_len e)) (show Ss E ad _ b_find_part_bar from (u_seq (u_asg (u_cb cs_tuple (u_cons (u_cb cs_sorted (u_cons (u_lc (i_tup u_var) g_name u_yes (u_call0 (u_cons u_var (u_cons u_var (u_cons (u_op os_ixT u_var (u_c fun _ => .int 0)) u_nil)))) (by decide)) u_nil)) u_nil)) g_name) (u_seq (u_ifS (u_tNot (u_tB (u_call0 (u_cons u_var (u_cons u_var u_nil))))) (u_ret (u_c fun _ => .non)) u_next) (u_seq (u_ifS (u_tNot (u_tB (u_cb cs_all (u_cons (u_lc (i_tup u_var) g_name u_yes (u_op os_in (u_call0 (u_cons u_var (u_cons u_var (u_cons (u_op os_ixT u_var (u_c fun _ => .int 0)) u_nil)))) u_var) (by decide)) u_nil)))) (u_ret (u_c fun _ => .non)) u_next) (u_seq (u_ifS (u_test (u_op os_eq (u_call0 (u_cons u_var (u_cons u_var u_nil))) (u_call0 (u_cons u_var (u_cons (u_op os_ixT u_var (u_c fun _ => .int 0)) (u_cons (u_cb cs_len (u_cons u_var u_nil)) u_nil)))))) (u_ret (u_c fun _ => .non)) u_next) (u_ret u_var)))))) wf hv (guard_get e) k
abbrev s_find_seating : Stmt := top 48
def b_find_seating : En → Rf := (fSeq (fIfS (fT (fCall0 f_has_all_places (fCons (fVar 0) (fCons (fVar 1) fNil)))) (fRet (fCall0 f_deal (fCons (fVar 0) (fCons (fVar 2) fNil)))) fNext) (fSeq (fIfS (fT (fOp oNotN (fCall0 f_find_part_bar (fCons (fVar 0) (fCons (fVar 1) (fCons (fVar 2) fNil)))) (fC .none))) (fRet (fC .none)) fNext) (fRet (fCall0 f_first_dealt (fCons (fCall0 f_list_ends (fCons (fVar 0) (fCons (fVar 1) (fCons (fVar 2) fNil)))) (fCons (fVar 2) (fCons (fTup fNil) fNil)))))))
def f_find_seating : List D → Re := guardN 3 (bodyD b_find_seating 0)
theorem ok_find_seating {f : Addr} {fd : FuncData} (C_has_all_places : Cal P w K mg base CX0 2 "has_all_places" ["dials", "lot"] (SpF ad f_has_all_places)) (C_first_dealt : Cal P w K mg base CX0 11 "first_dealt" ["ends_of", "left", "taken"] (SpF ad f_first_dealt)) (C_deal : Cal P w K mg base CX0 4 "deal" ["dials", "row"] (SpF ad f_deal)) (C_find_part_bar : Cal P w K mg base CX0 6 "find_part_bar" ["dials", "lot", "row"] (SpF ad f_find_part_bar)) (C_list_ends : Cal P w K mg base CX0 2 "list_ends" ["dials", "persons", "row"] (SpF ad f_list_ends)) (F : Fun K "find_seating" "find_seating" s_find_seating f fd) : FnOk P w K mg base CX0 12 f fd ["dials", "lot", "row"] (SpF ad f_find_seating) := by
  have sc : FnScope ["dials", "lot", "row"] ["dials", "lot", "row"] (defScope s_find_seating) := ⟨rfl, rfl, rfl, by decide +kernel, rfl, by decide +kernel, by decide +kernel⟩
  refine F.ok sc (fun vs H Q E h => ?_) (fun cdv A outer s H vs Q E hr h => ?_)
  · obtain ⟨G, ds, r, _, hv, e, _⟩ := h
    unfold f_find_seating at e
    exact hv.len.trans (guard_len e)
  · obtain ⟨G, ds, r, wf, hv, e, k⟩ := h
    unfold f_find_seating at e
    refine ⟨_, (pss_cons (ps_if (pt_val (pe_cal C_has_all_places (hr.mono (by decide)) pass0 (pa_cons (pv 0) (pa_cons (pv 1) pa_nil)))) (pss_one (ps_ret (pe_cal C_deal (hr.mono (by decide)) pass0 (pa_cons (pv 0) (pa_cons (pv 2) pa_nil))))) pss_nil) (pss_cons (ps_if (pt_cmpR op_notN (pe_cal C_find_part_bar (hr.mono (by decide)) pass0 (pa_cons (pv 0) (pa_cons (pv 1) (pa_cons (pv 2) pa_nil)))) pe_non (nomark _)) (pss_one (ps_ret pe_non)) pss_nil) (pss_one (ps_ret (pe_cal C_first_dealt (hr.mono (by decide)) pass0 (pa_cons (pe_cal C_list_ends (hr.mono (by decide)) pass0 (pa_cons (pv 0) (pa_cons (pv 1) (pa_cons (pv 2) pa_nil)))) (pa_cons (pv 2) (pa_cons (pe_tup pa_nil) pa_nil)))))))), ?_⟩
    exact body_start (k := 3) (n := 0) rfl (hv.len.trans (guard_len e)) (show Ss E ad _ b_find_seating from (u_seq (u_ifS (u_tB (u_call0 (u_cons u_var (u_cons u_var u_nil)))) (u_ret (u_call0 (u_cons u_var (u_cons u_var u_nil)))) u_next) (u_seq (u_ifS (u_test (u_op os_notN (u_call0 (u_cons u_var (u_cons u_var (u_cons u_var u_nil)))) (u_c fun _ => .non))) (u_ret (u_c fun _ => .non)) u_next) (u_ret (u_call0 (u_cons (u_call0 (u_cons u_var (u_cons u_var (u_cons u_var u_nil)))) (u_cons u_var (u_cons (u_tup u_nil) u_nil)))))))) wf hv (guard_get e) k
abbrev s_seating : Stmt := top 49
def b_seating : En → Rf := (fSeq (fDrop (fCall f_check_dials (fCons (fVar 0) fNil))) (fSeq (fDrop (fCall f_check_lot (fCons (fVar 0) (fCons (fVar 1) fNil)))) (fSeq (fDrop (fCall f_check_lot_row (fCons (fVar 0) (fCons (fVar 1) (fCons (fVar 2) fNil))))) (fSeq (fDrop (fCall f_check_lot_or_all (fCons (fVar 0) (fCons (fVar 1) (fCons (fC (.int 8)) fNil))))) (fRet (fCall0 f_find_seating (fCons (fVar 0) (fCons (fVar 1) (fCons (fVar 2) fNil)))))))))
def f_seating : List D → Re := guardN 3 (bodyD b_seating 0)
theorem ok_seating {f : Addr} {fd : FuncData} (C_check_dials : Cal P w K mg base (L2.CX P w) 4 "check_dials" ["dials"] (SpF ad f_check_dials)) (C_check_lot : Cal P w K mg base (L2.CX P w) 6 "check_lot" ["dials", "lot"] (SpF ad f_check_lot)) (C_check_lot_row : Cal P w K mg base (L2.CX P w) 6 "check_lot_row" ["dials", "lot", "row"] (SpF ad f_check_lot_row)) (C_check_lot_or_all : Cal P w K mg base (L2.CX P w) 3 "check_lot_or_all" ["dials", "lot", "most"] (SpF ad f_check_lot_or_all)) (C_find_seating : Cal P w K mg base CX0 12 "find_seating" ["dials", "lot", "row"] (SpF ad f_find_seating)) (F : Fun K "seating" "seating" s_seating f fd) : FnOk P w K mg base (L2.CX P w) 13 f fd ["dials", "lot", "row"] (SpF ad f_seating) := by
  have sc : FnScope ["dials", "lot", "row"] ["dials", "lot", "row"] (defScope s_seating) := ⟨rfl, rfl, rfl, by decide +kernel, rfl, by decide +kernel, by decide +kernel⟩
  refine F.okX sc (fun vs H Q E h => ?_) (fun cdv A outer s H vs Q E hr h => ?_)
  · obtain ⟨G, ds, r, _, hv, e, _⟩ := h
    unfold f_seating at e
    exact hv.len.trans (guard_len e)
  · obtain ⟨G, ds, r, wf, hv, e, k⟩ := h
    unfold f_seating at e
    refine ⟨_, (pss_cons (ps_expr (pe_cal C_check_dials (hr.mono (by decide)) (passes_call (E := E) (W := fun c d _ H => E c d H) (takes_of rfl rfl rfl rfl) (fun _ _ _ _ h => h)) (pa_cons (pv 0) pa_nil))) (pss_cons (ps_expr (pe_cal C_check_lot (hr.mono (by decide)) (passes_call (E := E) (W := fun c d _ H => E c d H) (takes_of rfl rfl rfl rfl) (fun _ _ _ _ h => h)) (pa_cons (pv 0) (pa_cons (pv 1) pa_nil)))) (pss_cons (ps_expr (pe_cal C_check_lot_row (hr.mono (by decide)) (passes_call (E := E) (W := fun c d _ H => E c d H) (takes_of rfl rfl rfl rfl) (fun _ _ _ _ h => h)) (pa_cons (pv 0) (pa_cons (pv 1) (pa_cons (pv 2) pa_nil))))) (pss_cons (ps_expr (pe_cal C_check_lot_or_all (hr.mono (by decide)) (passes_call (E := E) (W := fun c d _ H => E c d H) (takes_of rfl rfl rfl rfl) (fun _ _ _ _ h => h)) (pa_cons (pv 0) (pa_cons (pv 1) (pa_cons pe_int pa_nil))))) (pss_one (ps_ret (pe_cal C_find_seating (hr.mono (by decide)) pass0 (pa_cons (pv 0) (pa_cons (pv 1) (pa_cons (pv 2) pa_nil)))))))))), ?_⟩
    exact body_start (k := 3) (n := 0) rfl (hv.len.trans (guard_len e)) (show Ss E ad _ b_seating from (u_seq (u_drop (u_call (u_cons u_var u_nil))) (u_seq (u_drop (u_call (u_cons u_var (u_cons u_var u_nil)))) (u_seq (u_drop (u_call (u_cons u_var (u_cons u_var (u_cons u_var u_nil))))) (u_seq (u_drop (u_call (u_cons u_var (u_cons u_var (u_cons (u_c fun _ => .int 8) u_nil))))) (u_ret (u_call0 (u_cons u_var (u_cons u_var (u_cons u_var u_nil)))))))))) wf hv (guard_get e) k
abbrev s_list_seatings : Stmt := top 50
def b_list_seatings : En → Rf := (fRet (fCall0 f_list_dealt (fCons (fCall0 f_list_ends (fCons (fVar 0) (fCons (fVar 1) (fCons (fVar 2) fNil)))) (fCons (fVar 2) fNil))))
def f_list_seatings : List D → Re := guardN 3 (bodyD b_list_seatings 0)
theorem ok_list_seatings {f : Addr} {fd : FuncData} (C_list_dealt : Cal P w K mg base CX0 2 "list_dealt" ["ends_of", "row"] (SpF ad f_list_dealt)) (C_list_ends : Cal P w K mg base CX0 2 "list_ends" ["dials", "persons", "row"] (SpF ad f_list_ends)) (F : Fun K "list_seatings" "list_seatings" s_list_seatings f fd) : FnOk P w K mg base CX0 3 f fd ["dials", "lot", "row"] (SpF ad f_list_seatings) := by
  have sc : FnScope ["dials", "lot", "row"] ["dials", "lot", "row"] (defScope s_list_seatings) := ⟨rfl, rfl, rfl, by decide +kernel, rfl, by decide +kernel, by decide +kernel⟩
  refine F.ok sc (fun vs H Q E h => ?_) (fun cdv A outer s H vs Q E hr h => ?_)
  · obtain ⟨G, ds, r, _, hv, e, _⟩ := h
    unfold f_list_seatings at e
    exact hv.len.trans (guard_len e)
  · obtain ⟨G, ds, r, wf, hv, e, k⟩ := h
    unfold f_list_seatings at e
    refine ⟨_, (pss_one (ps_ret (pe_cal C_list_dealt (hr.mono (by decide)) pass0 (pa_cons (pe_cal C_list_ends (hr.mono (by decide)) pass0 (pa_cons (pv 0) (pa_cons (pv 1) (pa_cons (pv 2) pa_nil)))) (pa_cons (pv 2) pa_nil))))), ?_⟩
    exact body_start (k := 3) (n := 0) rfl (hv.len.trans (guard_len e)) (show Ss E ad _ b_list_seatings from (u_ret (u_call0 (u_cons (u_call0 (u_cons u_var (u_cons u_var (u_cons u_var u_nil)))) (u_cons u_var u_nil))))) wf hv (guard_get e) k
abbrev s_seatings_many : Stmt := top 51
def b_seatings_many : En → Rf := (fSeq (fDrop (fCall f_check_dials (fCons (fVar 0) fNil))) (fSeq (fDrop (fCall f_check_lot (fCons (fVar 0) (fCons (fVar 1) fNil)))) (fSeq (fDrop (fCall f_check_lot_row (fCons (fVar 0) (fCons (fVar 1) (fCons (fVar 2) fNil))))) (fSeq (fDrop (fCall f_check_lot_most (fCons (fVar 1) (fCons (fC (.int 8)) fNil)))) (fRet (fCb oLen (fCons (fCall0 f_list_seatings (fCons (fVar 0) (fCons (fVar 1) (fCons (fVar 2) fNil)))) fNil)))))))
def f_seatings_many : List D → Re := guardN 3 (bodyD b_seatings_many 0)
theorem ok_seatings_many {f : Addr} {fd : FuncData} (Z : Zs mg) (C_check_dials : Cal P w K mg base (L2.CX P w) 4 "check_dials" ["dials"] (SpF ad f_check_dials)) (C_check_lot : Cal P w K mg base (L2.CX P w) 6 "check_lot" ["dials", "lot"] (SpF ad f_check_lot)) (C_check_lot_row : Cal P w K mg base (L2.CX P w) 6 "check_lot_row" ["dials", "lot", "row"] (SpF ad f_check_lot_row)) (C_check_lot_most : Cal P w K mg base (L2.CX P w) 1 "check_lot_most" ["lot", "most"] (SpF ad f_check_lot_most)) (C_list_seatings : Cal P w K mg base CX0 3 "list_seatings" ["dials", "lot", "row"] (SpF ad f_list_seatings)) (F : Fun K "seatings_many" "seatings_many" s_seatings_many f fd) : FnOk P w K mg base (L2.CX P w) 7 f fd ["dials", "lot", "row"] (SpF ad f_seatings_many) := by
  have sc : FnScope ["dials", "lot", "row"] ["dials", "lot", "row"] (defScope s_seatings_many) := ⟨rfl, rfl, rfl, by decide +kernel, rfl, by decide +kernel, by decide +kernel⟩
  refine F.okX sc (fun vs H Q E h => ?_) (fun cdv A outer s H vs Q E hr h => ?_)
  · obtain ⟨G, ds, r, _, hv, e, _⟩ := h
    unfold f_seatings_many at e
    exact hv.len.trans (guard_len e)
  · obtain ⟨G, ds, r, wf, hv, e, k⟩ := h
    unfold f_seatings_many at e
    refine ⟨_, (pss_cons (ps_expr (pe_cal C_check_dials (hr.mono (by decide)) (passes_call (E := E) (W := fun c d _ H => E c d H) (takes_of rfl rfl rfl rfl) (fun _ _ _ _ h => h)) (pa_cons (pv 0) pa_nil))) (pss_cons (ps_expr (pe_cal C_check_lot (hr.mono (by decide)) (passes_call (E := E) (W := fun c d _ H => E c d H) (takes_of rfl rfl rfl rfl) (fun _ _ _ _ h => h)) (pa_cons (pv 0) (pa_cons (pv 1) pa_nil)))) (pss_cons (ps_expr (pe_cal C_check_lot_row (hr.mono (by decide)) (passes_call (E := E) (W := fun c d _ H => E c d H) (takes_of rfl rfl rfl rfl) (fun _ _ _ _ h => h)) (pa_cons (pv 0) (pa_cons (pv 1) (pa_cons (pv 2) pa_nil))))) (pss_cons (ps_expr (pe_cal C_check_lot_most (hr.mono (by decide)) (passes_call (E := E) (W := fun c d _ H => E c d H) (takes_of rfl rfl rfl rfl) (fun _ _ _ _ h => h)) (pa_cons (pv 1) (pa_cons pe_int pa_nil)))) (pss_one (ps_ret (pe_callB (r := rLenA K) call_len_seq (by rfl) Z.len PySem.boot_len (pa_cons (pe_cal C_list_seatings (hr.mono (by decide)) pass0 (pa_cons (pv 0) (pa_cons (pv 1) (pa_cons (pv 2) pa_nil)))) pa_nil)))))))), ?_⟩
    exact body_start (k := 3) (n := 0) rfl (hv.len.trans (guard_len e)) (show Ss E ad _ b_seatings_many from (u_seq (u_drop (u_call (u_cons u_var u_nil))) (u_seq (u_drop (u_call (u_cons u_var (u_cons u_var u_nil)))) (u_seq (u_drop (u_call (u_cons u_var (u_cons u_var (u_cons u_var u_nil))))) (u_seq (u_drop (u_call (u_cons u_var (u_cons (u_c fun _ => .int 8) u_nil)))) (u_ret (u_cb cs_len (u_cons (u_call0 (u_cons u_var (u_cons u_var (u_cons u_var u_nil)))) u_nil)))))))) wf hv (guard_get e) k
abbrev s_part_bar : Stmt := top 52
def b_part_bar : En → Rf := (fSeq (fDrop (fCall f_check_dials (fCons (fVar 0) fNil))) (fSeq (fDrop (fCall f_check_lot (fCons (fVar 0) (fCons (fVar 1) fNil)))) (fSeq (fDrop (fCall f_check_lot_row (fCons (fVar 0) (fCons (fVar 1) (fCons (fVar 2) fNil))))) (fRet (fCall0 f_find_part_bar (fCons (fVar 0) (fCons (fVar 1) (fCons (fVar 2) fNil))))))))
def f_part_bar : List D → Re := guardN 3 (bodyD b_part_bar 0)
theorem ok_part_bar {f : Addr} {fd : FuncData} (C_check_dials : Cal P w K mg base (L2.CX P w) 4 "check_dials" ["dials"] (SpF ad f_check_dials)) (C_check_lot : Cal P w K mg base (L2.CX P w) 6 "check_lot" ["dials", "lot"] (SpF ad f_check_lot)) (C_check_lot_row : Cal P w K mg base (L2.CX P w) 6 "check_lot_row" ["dials", "lot", "row"] (SpF ad f_check_lot_row)) (C_find_part_bar : Cal P w K mg base CX0 6 "find_part_bar" ["dials", "lot", "row"] (SpF ad f_find_part_bar)) (F : Fun K "part_bar" "part_bar" s_part_bar f fd) : FnOk P w K mg base (L2.CX P w) 7 f fd ["dials", "lot", "row"] (SpF ad f_part_bar) := by
  have sc : FnScope ["dials", "lot", "row"] ["dials", "lot", "row"] (defScope s_part_bar) := ⟨rfl, rfl, rfl, by decide +kernel, rfl, by decide +kernel, by decide +kernel⟩
  refine F.okX sc (fun vs H Q E h => ?_) (fun cdv A outer s H vs Q E hr h => ?_)
  · obtain ⟨G, ds, r, _, hv, e, _⟩ := h
    unfold f_part_bar at e
    exact hv.len.trans (guard_len e)
  · obtain ⟨G, ds, r, wf, hv, e, k⟩ := h
    unfold f_part_bar at e
    refine ⟨_, (pss_cons (ps_expr (pe_cal C_check_dials (hr.mono (by decide)) (passes_call (E := E) (W := fun c d _ H => E c d H) (takes_of rfl rfl rfl rfl) (fun _ _ _ _ h => h)) (pa_cons (pv 0) pa_nil))) (pss_cons (ps_expr (pe_cal C_check_lot (hr.mono (by decide)) (passes_call (E := E) (W := fun c d _ H => E c d H) (takes_of rfl rfl rfl rfl) (fun _ _ _ _ h => h)) (pa_cons (pv 0) (pa_cons (pv 1) pa_nil)))) (pss_cons (ps_expr (pe_cal C_check_lot_row (hr.mono (by decide)) (passes_call (E := E) (W := fun c d _ H => E c d H) (takes_of rfl rfl rfl rfl) (fun _ _ _ _ h => h)) (pa_cons (pv 0) (pa_cons (pv 1) (pa_cons (pv 2) pa_nil))))) (pss_one (ps_ret (pe_cal C_find_part_bar (hr.mono (by decide)) pass0 (pa_cons (pv 0) (pa_cons (pv 1) (pa_cons (pv 2) pa_nil))))))))), ?_⟩
    exact body_start (k := 3) (n := 0) rfl (hv.len.trans (guard_len e)) (show Ss E ad _ b_part_bar from (u_seq (u_drop (u_call (u_cons u_var u_nil))) (u_seq (u_drop (u_call (u_cons u_var (u_cons u_var u_nil)))) (u_seq (u_drop (u_call (u_cons u_var (u_cons u_var (u_cons u_var u_nil))))) (u_ret (u_call0 (u_cons u_var (u_cons u_var (u_cons u_var u_nil))))))))) wf hv (guard_get e) k
end
end Mv
namespace Mv
open PySem L2 Evl
theorem small_few0 : small 0 = true := rfl
theorem small_few1 : small 1 = true := rfl
theorem small_few2 : small 2 = true := rfl
theorem small_few3 : small 3 = true := rfl
section
variable {n a b : List Int}
theorem few_okd (hn : n ∈ fewD) : OkD n := okB_ok (List.all_eq_true.mp few_ok n hn)
theorem few_pos (hn : n ∈ fewD) : ∀ s ∈ n, 0 < s := fun s hs => by have := (few_okd hn).sz s hs; omega
theorem few_l4 (hn : n ∈ fewD) : n.length ≤ 4 := (few_okd hn).hi
theorem few_l1 (hn : n ∈ fewD) : 1 ≤ n.length := (few_okd hn).lo
theorem few_24 (hn : n ∈ fewD) : (placesOf n).length ≤ 24 := by
  have h1 := (few_okd hn).pl n.length
  rwa [List.take_length] at h1
theorem in_len (hn : n ∈ fewD) {p : List Int} (h : p ∈ placesOf n) : p.length = n.length := (few_inP hn h).len
theorem nothing_v (hn : n ∈ fewD) : f_nothing_of [dI n] = some (.val (dI (zeros n))) := few_V (f := fun n => f_nothing_of [dI n]) (g := fun n => dI (zeros n)) (by decide +kernel) hn
theorem chkDials_v (hn : n ∈ fewD) : f_check_dials [dI n] = some (.val .none) := few_V (f := fun n => f_check_dials [dI n]) (g := fun _ => .none) (by decide +kernel) hn
theorem add_go (X Y Z : Ce) : ∀ {n a b : List Int}, a.length = n.length → b.length = n.length → (∀ s ∈ n, 0 < s) →
    lcGo (sTup 3 (sCons (sName 3) (sCons (sName 4) (sCons (sName 5) sNil)))) (fC (.bool true)) (fOp oMod (fOp oAdd (fVar 3) (fVar 4)) (fVar 5)) [X, Y, Z, .un, .un, .un] (zipT3 (a.map .int) (b.map .int) (n.map .int)) = some ((addP n a b).map .int)
  | [], [], [], _, _, _ => rfl
  | s :: n, x :: a, y :: b, h1, h2, h3 => by
    have ih := add_go X Y Z (n := n) (a := a) (b := b) (by simpa using h1) (by simpa using h2) (fun s hs => h3 s (List.mem_cons_of_mem _ hs))
    have hs : 0 < s := h3 s (List.mem_cons_self ..)
    have e : (fOp oMod (fOp oAdd (fVar 3) (fVar 4)) (fVar 5)) [X, Y, Z, .d (.int x), .d (.int y), .d (.int s)] = some (.val (.int ((x + y) % s))) := by
      show (match oIc cMod (fun i j => PyData.int (i % j)) (.int (x + y)) (.int s) with | some z => some (Ou.val z) | none => none) = _
      simp [oIc, cMod, hs]
    simp only [List.map_cons, zipT3, addP]
    unfold lcGo
    show (match (fOp oMod (fOp oAdd (fVar 3) (fVar 4)) (fVar 5)) [X, Y, Z, .d (.int x), .d (.int y), .d (.int s)] with
        | some (.val d) => match lcGo (sTup 3 (sCons (sName 3) (sCons (sName 4) (sCons (sName 5) sNil)))) (fC (.bool true)) (fOp oMod (fOp oAdd (fVar 3) (fVar 4)) (fVar 5)) [X, Y, Z, .un, .un, .un] (zipT3 (a.map .int) (b.map .int) (n.map .int)) with
          | some ds => some (d :: ds)
          | none => none
        | _ => none) = _
    rw [e, ih]
theorem add_R (ds : List D) (z : D) (h : R_add ds z) : f_add ds = some (.val z) := by
  obtain ⟨n, a, b, rfl, h1, h2, h3, h4, rfl⟩ := h
  refine (guard_of rfl).trans (bodyD_rt (fRet_val ?_))
  rw [fCb_one (fLc_of (as := zipT3 (a.map PyData.int) (b.map .int) (n.map .int)) rfl (zipT3_small h3) (add_go _ _ _ h1 h2 h4))]
  rfl
theorem add_v (hn : n ∈ fewD) (h1 : a.length = n.length) (h2 : b.length = n.length) : f_add [dI n, dI a, dI b] = some (.val (dI (addP n a b))) :=
  add_R _ _ ⟨n, a, b, rfl, h1, h2, by have := few_l4 hn; omega, few_pos hn, rfl⟩
theorem take_go (X Y Z : Ce) : ∀ {n a b : List Int}, a.length = n.length → b.length = n.length → (∀ s ∈ n, 0 < s) →
    lcGo (sTup 3 (sCons (sName 3) (sCons (sName 4) (sCons (sName 5) sNil)))) (fC (.bool true)) (fOp oMod (fOp oSub (fVar 3) (fVar 4)) (fVar 5)) [X, Y, Z, .un, .un, .un] (zipT3 (a.map .int) (b.map .int) (n.map .int)) = some ((takeP n a b).map .int)
  | [], [], [], _, _, _ => rfl
  | s :: n, x :: a, y :: b, h1, h2, h3 => by
    have ih := take_go X Y Z (n := n) (a := a) (b := b) (by simpa using h1) (by simpa using h2) (fun s hs => h3 s (List.mem_cons_of_mem _ hs))
    have hs : 0 < s := h3 s (List.mem_cons_self ..)
    have e : (fOp oMod (fOp oSub (fVar 3) (fVar 4)) (fVar 5)) [X, Y, Z, .d (.int x), .d (.int y), .d (.int s)] = some (.val (.int ((x - y) % s))) := by
      show (match oIc cMod (fun i j => PyData.int (i % j)) (.int (x - y)) (.int s) with | some z => some (Ou.val z) | none => none) = _
      simp [oIc, cMod, hs]
    have e0 : sTup 3 (sCons (sName 3) (sCons (sName 4) (sCons (sName 5) sNil))) (.tuple [.int x, .int y, .int s]) [X, Y, Z, .un, .un, .un] = some [X, Y, Z, .d (.int x), .d (.int y), .d (.int s)] := rfl
    simp only [List.map_cons, zipT3, takeP]
    unfold lcGo
    rw [e0]; dsimp only [fC]
    rw [if_pos rfl, e, ih]
theorem take_v (hn : n ∈ fewD) (h1 : a.length = n.length) (h2 : b.length = n.length) : f_take_off [dI n, dI a, dI b] = some (.val (dI (takeP n a b))) := by
  refine (guard_of rfl).trans (bodyD_rt (fRet_val ?_))
  rw [fCb_one (fLc_of (as := zipT3 (a.map PyData.int) (b.map .int) (n.map .int)) rfl (zipT3_small (by have := few_l4 hn; omega)) (take_go _ _ _ h1 h2 (few_pos hn)))]
  rfl
theorem addUpT_v (hn : n ∈ fewD) {L : Rows} (hl : ∀ p ∈ L, p.length = n.length) : f_add_up [dI n, dT L] = some (.val (dI (addUp n L))) := by
  obtain ⟨Γ', h1, ⟨c, rfl⟩, _⟩ := ffor_st (Γ := [.d (dI n), .d (dT L), .d (dI (zeros n)), .un]) (src := iT (fVar 1)) (st := sName 3) (body := fAsg (fCall0 f_add (fCons (fVar 0) (fCons (fVar 2) (fCons (fVar 3) fNil)))) (sName 2)) dI (fun s Γ => ∃ c, Γ = [.d (dI n), .d (dT L), .d (dI s), c]) (fun s a => addP n s a) (fun s => s.length = n.length) L (zeros n) rfl ⟨_, rfl⟩ (zeros_len n) fun a ha s Γ qs ⟨c, e⟩ => by
    subst e
    refine ⟨addP_len qs (hl a ha), _, rfl, _, ?_, ⟨.d (dI a), rfl⟩⟩
    simp only [guardN, bodyD, fSeq, fAsg, fAsgM, fApp, fRet, fRetN, fDrop, fIfS, fNext, fRaise, fIf, fAnd, fOr, fNot, fT, bo, bnd, bndA, rB, fCall0, noEx, fCall, fCallP, permL, fCons, fNil, fTup, fLst, lim, fCb, ret, fOp, fUn, fVar, fC, fIsi, fIsiLT, isLT, fChain, fLk, fLkB, fLkM, fRevL, fSet2, fFrz, lockL, lockG, lkC, sName, sTup, sCons, sNil, wipeC, List.map_cons, List.map_nil, List.replicate_succ, List.replicate_zero, List.cons_append, List.nil_append, List.getElem?_cons_zero, List.getElem?_cons_succ, List.set_cons_zero, List.set_cons_succ, List.length_cons, List.length_nil, Nat.beq_refl, Nat.reduceAdd, Nat.reduceLeDiff, Nat.reduceEqDiff, Nat.zero_add, if_true, if_false, Bool.false_eq_true, reduceIte, Bool.not_true, Bool.not_false, small_few0, small_few1, small_few2, small_few3, add_v hn qs (hl a ha)]
  have h0 := nothing_v hn
  have hb : isLstAt 1 [dI n, dT L] = false := rfl
  simp only [f_add_up, b_add_up, guardN, bodyD, fSeq, fAsg, fAsgM, fApp, fRet, fRetN, fDrop, fIfS, fNext, fRaise, fIf, fAnd, fOr, fNot, fT, bo, bnd, bndA, rB, fCall0, noEx, fCall, fCallP, permL, fCons, fNil, fTup, fLst, lim, fCb, ret, fOp, fUn, fVar, fC, fIsi, fIsiLT, isLT, fChain, fLk, fLkB, fLkM, fRevL, fSet2, fFrz, lockL, lockG, lkC, sName, sTup, sCons, sNil, wipeC, List.map_cons, List.map_nil, List.replicate_succ, List.replicate_zero, List.cons_append, List.nil_append, List.getElem?_cons_zero, List.getElem?_cons_succ, List.set_cons_zero, List.set_cons_succ, List.length_cons, List.length_nil, Nat.beq_refl, Nat.reduceAdd, Nat.reduceLeDiff, Nat.reduceEqDiff, Nat.zero_add, if_true, if_false, Bool.false_eq_true, reduceIte, Bool.not_true, Bool.not_false, small_few0, small_few1, small_few2, small_few3, hb, h0, h1]
  rfl
theorem zipPl {P M : Rows} : zipT (P.map dI) (M.map dI) = (P.zip M).map fun q => .tuple [dI q.1, dI q.2] := zipT_map _ _ _ _
theorem zip_mem {P M : Rows} {q : List Int × List Int} (h : q ∈ P.zip M) : q.1 ∈ P ∧ q.2 ∈ M := ⟨(List.of_mem_zip h).1, (List.of_mem_zip h).2⟩
theorem MovesOk.inn (hn : n ∈ fewD) {M : Rows} (o : MovesOk n M) {p : List Int} (h : p ∈ M) : p.length = n.length := (o.inp p h).len
theorem number_v (d : D) : f_is_number [d] = some (.val (.bool (isNum d))) := by cases d <;> rfl
theorem between_v (d : D) (lo hi : Int) : f_is_between [d, .int lo, .int hi] = some (.val (.bool (btw lo hi d))) := by
  have h0 := number_v d
  cases d with
  | int i =>
    have e : isNum (.int i) = true := rfl
    simp only [f_is_between, b_is_between, guardN, bodyD, fSeq, fAsg, fAsgM, fApp, fRet, fRetN, fDrop, fIfS, fNext, fRaise, fIf, fAnd, fOr, fNot, fT, bo, bnd, bndA, rB, fCall0, noEx, fCall, fCallP, permL, fCons, fNil, fTup, fLst, lim, fCb, ret, fOp, fUn, fVar, fC, fIsi, fIsiLT, isLT, fChain, fLk, fLkB, fLkM, fRevL, fSet2, fFrz, lockL, lockG, lkC, sName, sTup, sCons, sNil, wipeC, List.map_cons, List.map_nil, List.replicate_succ, List.replicate_zero, List.cons_append, List.nil_append, List.getElem?_cons_zero, List.getElem?_cons_succ, List.set_cons_zero, List.set_cons_succ, List.length_cons, List.length_nil, Nat.beq_refl, Nat.reduceAdd, Nat.reduceLeDiff, Nat.reduceEqDiff, Nat.zero_add, if_true, if_false, Bool.false_eq_true, reduceIte, Bool.not_true, Bool.not_false, small_few0, small_few1, small_few2, small_few3, h0, e, oLe, oI, btw]
    by_cases h1 : lo ≤ i <;> simp [h1]
  | _ => rfl
theorem listed_v (d : D) : f_is_listed [d] = some (.val (.bool (isLT d))) := by cases d <;> rfl
theorem tupleOf_v (d : D) (m : Int) : f_is_tuple_of [d, .int m] = some (.val (.bool (isTup d m))) := by cases d <;> rfl
theorem isPlace_v (hn : n ∈ fewD) (d : D) : f_is_place [dI n, d] = some (.val (.bool (isPlace n d))) := by
  have hl : oLen [dI n] = some (.int (n.length : Nat)) := by show some (PyData.int ((n.map PyData.int).length : Nat)) = _; rw [List.length_map]
  have h0 := tupleOf_v d (n.length : Nat)
  cases d with
  | tuple xs =>
    by_cases hx : xs.length = n.length
    · have e : isTup (.tuple xs) (n.length : Nat) = true := decide_eq_true (by rw [hx])
      have hz : (xs.zip n).length ≤ 1000000 := by rw [List.length_zip]; have := few_l4 hn; omega
      have hp := flc_map (src := iZ2 false false (fCons (fVar 1) (fCons (fVar 0) fNil))) (st := sTup 2 (sCons (sName 2) (sCons (sName 3) sNil))) (ft := fC (.bool true)) (fe := fCall0 f_is_between (fCons (fVar 2) (fCons (fC (.int 0)) (fCons (fOp oSub (fVar 3) (fC (.int 1))) fNil)))) (vs := [2, 3])
        (Γ := [.d (dI n), .d (.tuple xs), .un, .un]) (fun q : D × Int => .tuple [q.1, .int q.2]) (fun q => .bool (btw 0 (q.2 - 1) q.1)) (xs.zip n)
        (by
          show some (Oa.vals (zipT xs (n.map PyData.int))) = _
          have := zipT_map id PyData.int xs n
          rw [List.map_id] at this
          rw [this]; rfl) hz fun q hq => by
          refine ⟨_, rfl, rfl, ?_⟩
          simp only [guardN, bodyD, fSeq, fAsg, fAsgM, fApp, fRet, fRetN, fDrop, fIfS, fNext, fRaise, fIf, fAnd, fOr, fNot, fT, bo, bnd, bndA, rB, fCall0, noEx, fCall, fCallP, permL, fCons, fNil, fTup, fLst, lim, fCb, ret, fOp, fUn, fVar, fC, fIsi, fIsiLT, isLT, fChain, fLk, fLkB, fLkM, fRevL, fSet2, fFrz, lockL, lockG, lkC, sName, sTup, sCons, sNil, wipeC, List.map_cons, List.map_nil, List.replicate_succ, List.replicate_zero, List.cons_append, List.nil_append, List.getElem?_cons_zero, List.getElem?_cons_succ, List.set_cons_zero, List.set_cons_succ, List.length_cons, List.length_nil, Nat.beq_refl, Nat.reduceAdd, Nat.reduceLeDiff, Nat.reduceEqDiff, Nat.zero_add, if_true, if_false, Bool.false_eq_true, reduceIte, Bool.not_true, Bool.not_false, small_few0, small_few1, small_few2, small_few3, oSub, oI, between_v]
      have hb : oAll [.list ((xs.zip n).map fun q => .bool (btw 0 (q.2 - 1) q.1))] = some (.bool ((xs.zip n).all fun q => btw 0 (q.2 - 1) q.1)) := by
        unfold oAll
        have := of_bools ((xs.zip n).map fun q => btw 0 (q.2 - 1) q.1)
        rw [List.map_map] at this
        show (match boolsOf ((xs.zip n).map (PyData.bool ∘ fun q => btw 0 (q.2 - 1) q.1)) with | some bs => some (PyData.bool (bs.all id)) | none => none) = _
        rw [this]
        simp [List.all_map]
      simp only [f_is_place, b_is_place, guardN, bodyD, fSeq, fAsg, fAsgM, fApp, fRet, fRetN, fDrop, fIfS, fNext, fRaise, fIf, fAnd, fOr, fNot, fT, bo, bnd, bndA, rB, fCall0, noEx, fCall, fCallP, permL, fCons, fNil, fTup, fLst, lim, fCb, ret, fOp, fUn, fVar, fC, fIsi, fIsiLT, isLT, fChain, fLk, fLkB, fLkM, fRevL, fSet2, fFrz, lockL, lockG, lkC, sName, sTup, sCons, sNil, wipeC, List.map_cons, List.map_nil, List.replicate_succ, List.replicate_zero, List.cons_append, List.nil_append, List.getElem?_cons_zero, List.getElem?_cons_succ, List.set_cons_zero, List.set_cons_succ, List.length_cons, List.length_nil, Nat.beq_refl, Nat.reduceAdd, Nat.reduceLeDiff, Nat.reduceEqDiff, Nat.zero_add, if_true, if_false, Bool.false_eq_true, reduceIte, Bool.not_true, Bool.not_false, small_few0, small_few1, small_few2, small_few3, hl, h0, e, hp, hb]
      simp [isPlace, hx]
    · have e : isTup (.tuple xs) (n.length : Nat) = false := decide_eq_false (by omega)
      simp only [f_is_place, b_is_place, guardN, bodyD, fSeq, fAsg, fAsgM, fApp, fRet, fRetN, fDrop, fIfS, fNext, fRaise, fIf, fAnd, fOr, fNot, fT, bo, bnd, bndA, rB, fCall0, noEx, fCall, fCallP, permL, fCons, fNil, fTup, fLst, lim, fCb, ret, fOp, fUn, fVar, fC, fIsi, fIsiLT, isLT, fChain, fLk, fLkB, fLkM, fRevL, fSet2, fFrz, lockL, lockG, lkC, sName, sTup, sCons, sNil, wipeC, List.map_cons, List.map_nil, List.replicate_succ, List.replicate_zero, List.cons_append, List.nil_append, List.getElem?_cons_zero, List.getElem?_cons_succ, List.set_cons_zero, List.set_cons_succ, List.length_cons, List.length_nil, Nat.beq_refl, Nat.reduceAdd, Nat.reduceLeDiff, Nat.reduceEqDiff, Nat.zero_add, if_true, if_false, Bool.false_eq_true, reduceIte, Bool.not_true, Bool.not_false, small_few0, small_few1, small_few2, small_few3, hl, h0, e]
      simp [isPlace, hx]
  | _ =>
    simp only [isTup] at h0
    simp only [f_is_place, b_is_place, guardN, bodyD, fSeq, fAsg, fAsgM, fApp, fRet, fRetN, fDrop, fIfS, fNext, fRaise, fIf, fAnd, fOr, fNot, fT, bo, bnd, bndA, rB, fCall0, noEx, fCall, fCallP, permL, fCons, fNil, fTup, fLst, lim, fCb, ret, fOp, fUn, fVar, fC, fIsi, fIsiLT, isLT, fChain, fLk, fLkB, fLkM, fRevL, fSet2, fFrz, lockL, lockG, lkC, sName, sTup, sCons, sNil, wipeC, List.map_cons, List.map_nil, List.replicate_succ, List.replicate_zero, List.cons_append, List.nil_append, List.getElem?_cons_zero, List.getElem?_cons_succ, List.set_cons_zero, List.set_cons_succ, List.length_cons, List.length_nil, Nat.beq_refl, Nat.reduceAdd, Nat.reduceLeDiff, Nat.reduceEqDiff, Nat.zero_add, if_true, if_false, Bool.false_eq_true, reduceIte, Bool.not_true, Bool.not_false, small_few0, small_few1, small_few2, small_few3, hl, h0]
    rfl
end
end Mv
namespace Mv
open PySem L2 Evl
section
variable {n a b : List Int}
theorem all_bools {α : Type} (l : List α) (f : α → Bool) : oAll [.list (l.map fun x => .bool (f x))] = some (.bool (l.all f)) := by
  unfold oAll
  have := of_bools (l.map f)
  rw [List.map_map] at this
  show (match boolsOf (l.map (PyData.bool ∘ f)) with | some bs => some (PyData.bool (bs.all id)) | none => none) = _
  rw [this]
  simp [List.all_map]
theorem arePlacesT_v (hn : n ∈ fewD) {xs : List D} (hx : xs.length ≤ 1000000) : f_are_places [dI n, .tuple xs] = some (.val (.bool (isPlaces n (.tuple xs)))) := by
  have hp := flc_map (src := iT (fVar 1)) (st := sName 2) (ft := fC (.bool true)) (fe := fCall0 f_is_place (fCons (fVar 0) (fCons (fVar 2) fNil))) (vs := [2])
    (Γ := [.d (dI n), .d (.tuple xs), .un]) (fun d : D => d) (fun d => .bool (isPlace n d)) xs (by show some (Oa.vals xs) = _; rw [List.map_id']) hx fun d hd => by
      refine ⟨_, rfl, rfl, ?_⟩
      simp only [guardN, bodyD, fSeq, fAsg, fAsgM, fApp, fRet, fRetN, fDrop, fIfS, fNext, fRaise, fIf, fAnd, fOr, fNot, fT, bo, bnd, bndA, rB, fCall0, noEx, fCall, fCallP, permL, fCons, fNil, fTup, fLst, lim, fCb, ret, fOp, fUn, fVar, fC, fIsi, fIsiLT, isLT, fChain, fLk, fLkB, fLkM, fRevL, fSet2, fFrz, lockL, lockG, lkC, sName, sTup, sCons, sNil, wipeC, List.map_cons, List.map_nil, List.replicate_succ, List.replicate_zero, List.cons_append, List.nil_append, List.getElem?_cons_zero, List.getElem?_cons_succ, List.set_cons_zero, List.set_cons_succ, List.length_cons, List.length_nil, Nat.beq_refl, Nat.reduceAdd, Nat.reduceLeDiff, Nat.reduceEqDiff, Nat.zero_add, if_true, if_false, Bool.false_eq_true, reduceIte, Bool.not_true, Bool.not_false, small_few0, small_few1, small_few2, small_few3, isPlace_v hn]
  have h0 := listed_v (.tuple xs)
  simp only [isLT] at h0
  simp only [f_are_places, b_are_places, guardN, bodyD, fSeq, fAsg, fAsgM, fApp, fRet, fRetN, fDrop, fIfS, fNext, fRaise, fIf, fAnd, fOr, fNot, fT, bo, bnd, bndA, rB, fCall0, noEx, fCall, fCallP, permL, fCons, fNil, fTup, fLst, lim, fCb, ret, fOp, fUn, fVar, fC, fIsi, fIsiLT, isLT, fChain, fLk, fLkB, fLkM, fRevL, fSet2, fFrz, lockL, lockG, lkC, sName, sTup, sCons, sNil, wipeC, List.map_cons, List.map_nil, List.replicate_succ, List.replicate_zero, List.cons_append, List.nil_append, List.getElem?_cons_zero, List.getElem?_cons_succ, List.set_cons_zero, List.set_cons_succ, List.length_cons, List.length_nil, Nat.beq_refl, Nat.reduceAdd, Nat.reduceLeDiff, Nat.reduceEqDiff, Nat.zero_add, if_true, if_false, Bool.false_eq_true, reduceIte, Bool.not_true, Bool.not_false, small_few0, small_few1, small_few2, small_few3, h0, hp, all_bools, isPlaces]
theorem dedup_sub : ∀ l : Rows, (dedup l).Sublist l
  | [] => List.Sublist.slnil
  | x :: l => by
    unfold dedup
    split
    · exact (dedup_sub l).cons _
    · exact (dedup_sub l).cons₂ _
theorem dedup_eq (l : Rows) : decide (((dedup l).length : Int) = (l.length : Nat)) = decide l.Nodup := by
  refine decide_eq_decide.mpr ⟨fun h => ?_, fun h => ?_⟩
  · have := (dedup_sub l).eq_of_length (by omega)
    rw [← this]
    exact dedup_nodup l
  · have h1 := (dedup_sub l).length_le
    have h2 := nodup_len h fun x hx => dedup_mem.mpr hx
    omega
theorem rowsOf_map : ∀ R : Rows, rowsOf (R.map dI) = some R
  | [] => rfl
  | x :: R => by
    show (match intsOf (x.map PyData.int), rowsOf (R.map dI) with | some x, some l => some (x :: l) | _, _ => none) = _
    rw [of_ints, rowsOf_map R]
theorem cut1 (ds : List D) : cutD ds (some 1) none = ds.tail := by
  cases ds with
  | nil => rfl
  | cons d ds =>
    have := cut_hi (ds := d :: ds) 1 (by simp)
    rw [List.tail_cons]
    exact this
theorem slT_v {fe : En → Re} {Γ : En} {ds : List D} (h : fe Γ = some (.val (.tuple ds))) : fSl false fe (pSome (fC (.int 1))) pNone Γ = some (.val (.tuple ds.tail)) := by
  unfold fSl
  rw [h]
  show some (Ou.val (sq false (cutD ds (some 1) none))) = _
  rw [cut1]; rfl
theorem tail_map (M : Rows) : (M.map dI).tail = M.tail.map dI := by cases M <;> rfl
theorem asc_v {M : Rows} (h : M.length ≤ 1000) : f_is_ascending [dT M] = some (.val (.bool (isAsc M))) := by
  have hz : (M.zip (M.drop 1)).length ≤ 1000000 := by rw [List.length_zip]; omega
  have hp := flc_map (src := iZ2 false false (fCons (fVar 0) (fCons (fSl false (fVar 0) (pSome (fC (.int 1))) pNone) fNil))) (st := sTup 2 (sCons (sName 1) (sCons (sName 2) sNil))) (ft := fC (.bool true)) (fe := fOp oLeT (fVar 1) (fVar 2)) (vs := [1, 2])
    (Γ := [.d (dT M), .un, .un]) (fun q : List Int × List Int => .tuple [dI q.1, dI q.2]) (fun q => .bool (leR q.1 q.2)) (M.zip (M.drop 1))
    (by
      have h1 : fSl false (fVar 0) (pSome (fC (.int 1))) pNone [.d (dT M), .un, .un] = some (.val (.tuple (M.tail.map dI))) := by rw [slT_v (ds := M.map dI) rfl, tail_map]
      simp only [iZ2, guardN, bodyD, fSeq, fAsg, fAsgM, fApp, fRet, fRetN, fDrop, fIfS, fNext, fRaise, fIf, fAnd, fOr, fNot, fT, bo, bnd, bndA, rB, fCall0, noEx, fCall, fCallP, permL, fCons, fNil, fTup, fLst, lim, fCb, ret, fOp, fUn, fVar, fC, fIsi, fIsiLT, isLT, fChain, fLk, fLkB, fLkM, fRevL, fSet2, fFrz, lockL, lockG, lkC, sName, sTup, sCons, sNil, wipeC, List.map_cons, List.map_nil, List.replicate_succ, List.replicate_zero, List.cons_append, List.nil_append, List.getElem?_cons_zero, List.getElem?_cons_succ, List.set_cons_zero, List.set_cons_succ, List.length_cons, List.length_nil, Nat.beq_refl, Nat.reduceAdd, Nat.reduceLeDiff, Nat.reduceEqDiff, Nat.zero_add, if_true, if_false, Bool.false_eq_true, reduceIte, Bool.not_true, Bool.not_false, small_few0, small_few1, small_few2, small_few3, h1]
      rw [List.drop_one, ← zipPl]; rfl) hz fun q hq => by
      refine ⟨_, rfl, rfl, ?_⟩
      show ret (match intsOf (q.1.map PyData.int), intsOf (q.2.map PyData.int) with | some is, some js => some (PyData.bool (leR is js)) | _, _ => none) = _
      rw [of_ints, of_ints]; rfl
  simp only [f_is_ascending, b_is_ascending, guardN, bodyD, fSeq, fAsg, fAsgM, fApp, fRet, fRetN, fDrop, fIfS, fNext, fRaise, fIf, fAnd, fOr, fNot, fT, bo, bnd, bndA, rB, fCall0, noEx, fCall, fCallP, permL, fCons, fNil, fTup, fLst, lim, fCb, ret, fOp, fUn, fVar, fC, fIsi, fIsiLT, isLT, fChain, fLk, fLkB, fLkM, fRevL, fSet2, fFrz, lockL, lockG, lkC, sName, sTup, sCons, sNil, wipeC, List.map_cons, List.map_nil, List.replicate_succ, List.replicate_zero, List.cons_append, List.nil_append, List.getElem?_cons_zero, List.getElem?_cons_succ, List.set_cons_zero, List.set_cons_succ, List.length_cons, List.length_nil, Nat.beq_refl, Nat.reduceAdd, Nat.reduceLeDiff, Nat.reduceEqDiff, Nat.zero_add, if_true, if_false, Bool.false_eq_true, reduceIte, Bool.not_true, Bool.not_false, small_few0, small_few1, small_few2, small_few3, hp, all_bools]
  unfold isAsc
  simp [List.all_map]
end
end Mv
namespace Mv
open PySem L2 Evl
section
variable {n a b : List Int} {Γ : En} {fa fb fy fd : En → Re} {B : Bg} {p t y m : List Int}
theorem keysI_kI (p : List Int) : keysI (p.map PyData.int) = some (kI p) := by
  have := keysI_map (kI p)
  unfold kI at this
  rw [List.map_map] at this
  exact this
theorem keyOf0_dI (p : List Int) : keyOf0 (dI p) = some (kI p) := keysI_kI p
theorem in_ne {n p : List Int} (hn : n ∈ fewD) (h : p ∈ placesOf n) : p ≠ [] := fun z => by
  have h1 := (few_inP hn h).len
  have h2 := (few_okd hn).lo
  rw [z] at h1
  simp at h1
  omega
theorem keyOf_dI {p : List Int} (ne : p ≠ []) : keyOf (dI p) = some (kI p) := by
  cases p with
  | nil => exact (ne rfl).elim
  | cons x p => exact keysI_kI (x :: p)
theorem noL_ints : ∀ p : List Int, noLs (p.map PyData.int) = true
  | [] => rfl
  | _ :: p => noL_ints p
theorem noL_rows : ∀ R : Rows, noLs (R.map dI) = true
  | [] => rfl
  | p :: R => by
    show (noLs (p.map PyData.int) && noLs (R.map dI)) = true
    rw [noL_ints, noL_rows R]; rfl
theorem eqIn_v (P : Rows) (p : List Int) (neg : Bool) : oIn neg (dI p) (dL P) = some (.bool (if neg then !decide (p ∈ P) else decide (p ∈ P))) := by
  have f : (fine (dI p) && fine (dL P)) = true := by
    unfold fine
    rw [flat_dI, shaped_dI, show flatD (dL P) = true from flat_rows P, show SeqAt.shaped (dL P) = true from shaped_rowsL P]; rfl
  unfold oIn
  rw [if_pos f]
  have e : ((P.map dI).any fun z => PyData.eqv z (dI p)) = decide (p ∈ P) := by
    rw [any_rows]
    by_cases h : p ∈ P
    · rw [decide_eq_true h]; exact List.any_eq_true.mpr ⟨p, h, decide_eq_true rfl⟩
    · rw [decide_eq_false h]
      exact List.any_eq_false.mpr fun q hq z => h (of_decide_eq_true z ▸ hq)
  show some (PyData.bool (if neg = true then !(P.map dI).any fun z => PyData.eqv z (dI p) else (P.map dI).any fun z => PyData.eqv z (dI p))) = _
  rw [e]
theorem ne_v (p q : List Int) : oNe (dI p) (dI q) = some (.bool (!decide (p = q))) := by
  unfold oNe
  rw [if_pos (by unfold fine; rw [flat_dI, flat_dI, shaped_dI, shaped_dI]; rfl), eqv_dI]
theorem eq_v (p q : List Int) : oEq (dI p) (dI q) = some (.bool (decide (p = q))) := by
  unfold oEq
  rw [if_pos (by unfold fine; rw [flat_dI, flat_dI, shaped_dI, shaped_dI]; rfl), eqv_dI]
end
end Mv
namespace Mv
open PySem L2 Evl
section
variable {n a b : List Int} {M : Rows}
theorem sortable_rows {R : Rows} (h : ∀ p ∈ R, 1 ≤ p.length) : sortable (R.map dI) = true := by
  unfold sortable
  rw [flat_rows R]
  have h1 : ((R.map dI).all fun d => (R.map dI).all fun e => PySem.W.alike d e) = true := by
    simp only [List.all_map, List.all_eq_true, Function.comp_apply]
    exact fun p _ q _ => alike_dI p q
  have h2 : (R.map dI).all isTupC = true := by
    simp only [List.all_map, List.all_eq_true, Function.comp_apply]
    intro p hp
    have := h p hp
    match p, this with
    | x :: p, _ => rfl
  have h3 : ((R.map dI).all fun d => Nat.ble d.depth 60) = true := by
    simp only [List.all_map, List.all_eq_true, Function.comp_apply]
    exact fun p _ => Nat.ble_eq_true_of_le (by have := dep_dI p; omega)
  rw [h1, h2, h3]; rfl
theorem sortedL_v {R : Rows} (h : ∀ p ∈ R, 1 ≤ p.length) : oSorted [dL R] = some (dL (sortR R)) := by
  show (if sortable (R.map dI) = true then some (PyData.list (isortD (R.map dI))) else none) = _
  rw [if_pos (sortable_rows h), ← isortD_eq, sort_rows]; rfl
theorem sortedT_v {R : Rows} (h : ∀ p ∈ R, 1 ≤ p.length) : oSorted [dT R] = some (dL (sortR R)) := by
  show (if sortable (R.map dI) = true then some (PyData.list (isortD (R.map dI))) else none) = _
  rw [if_pos (sortable_rows h), ← isortD_eq, sort_rows]; rfl
theorem in_l1 (hn : n ∈ fewD) {p : List Int} (h : p ∈ placesOf n) : 1 ≤ p.length := by rw [in_len hn h]; exact few_l1 hn
theorem inT_v (P : Rows) (p : List Int) (neg : Bool) : oIn neg (dI p) (dT P) = some (.bool (if neg then !decide (p ∈ P) else decide (p ∈ P))) := by
  have := eqIn_v P p neg
  unfold oIn at this ⊢
  have f : (fine (dI p) && fine (dT P)) = true := by
    unfold fine
    rw [flat_dI, shaped_dI, flat_dT, shaped_dT]; rfl
  have f' : (fine (dI p) && fine (dL P)) = true := by
    unfold fine
    rw [flat_dI, shaped_dI, show flatD (dL P) = true from flat_rows P, show SeqAt.shaped (dL P) = true from shaped_rowsL P]; rfl
  rw [if_pos f]
  rw [if_pos f'] at this
  exact this
theorem zero_add {p : List Int} (hn : n ∈ fewD) (h : p ∈ placesOf n) : addP n (zeros n) p = p := by
  have : ∀ {n p : List Int}, InP p n → addP n (zeros n) p = p := fun {n p} h => by
    induction h with
    | nil => rfl
    | @cons x s p n h1 h2 _ ih =>
      show ((0 + x) % s) :: addP n (zeros n) p = _
      rw [ih, Int.zero_add, Int.emod_eq_of_lt h1 h2]
  exact this (few_inP hn h)
end
end Mv
namespace Mv
open PySem L2 Evl
abbrev s__law_draw : Stmt := top 55
abbrev s__law_begun : Stmt := top 54
section
variable {P : Program} {w : World} {mg : Str → Option Value} {base : Heap} {K : PySem.W.Frag}
theorem wd_upd {G H H' : Hp} {s l c : Addr} {T T' : Int} (x : Wd G H s l c T) (k : ∀ b o, b ≠ s → b ≠ l → H b = some o → H' b = some o) (st : StAt H' s l c T') : Wd G H' s l c T' ∧ StS [s, l, c] G H G H' := by
  have w' : Ex G H' := fun b o q => k b o (fun z => by rw [z, x.gs] at q; cases q) (fun z => by rw [z, x.gl] at q; cases q) (x.w b o q)
  refine ⟨⟨w', st, x.gs, x.gl, x.gc⟩, ⟨.refl G, fun b o hb q => k b o (fun z => hb (by simp [z])) (fun z => hb (by simp [z])) q, fun b hb q => ?_, w', fun b h _ _ => h⟩⟩
  obtain ⟨⟨o1, e1, m1⟩, ⟨o2, e2, m2⟩, o3, e3, m3⟩ := st.at
  simp only [List.mem_cons, List.not_mem_nil, or_false] at hb
  rcases hb with z | z | z
  · rw [z, e1]; exact ⟨(fun y => nomatch y), fun _ xs y => m1 xs (Option.some.inj y)⟩
  · rw [z, e2]; exact ⟨(fun y => nomatch y), fun _ xs y => m2 xs (Option.some.inj y)⟩
  · rw [z, e3]; exact ⟨(fun y => nomatch y), fun _ xs y => m3 xs (Option.some.inj y)⟩
theorem ok__law_draw {f : Addr} {fd : FuncData} (Z : Zs mg) (F : Fun K "_law_draw" "_law_draw" s__law_draw f fd) : FnOk P w K mg base CX0 1 f fd ["state", "size_here"] SpDraw := by
  have sc : FnScope ["state", "size_here", "found", "turn", "cell", "mixed"] ["state", "size_here"] (defScope s__law_draw) := ⟨rfl, rfl, rfl, by decide +kernel, rfl, by decide +kernel, by decide +kernel⟩
  refine F.ok sc (fun vs H Q E h => ?_) (fun cdv A outer s H vs Q E hr h => ?_)
  · obtain ⟨G, s, l, c, T, n, rfl, _⟩ := h
    rfl
  · obtain ⟨G, s, l, c, T, n, rfl, wd, n1, n2, hT, k⟩ := h
    have hu := hu_of hr
    refine ⟨_, (pss_cons (ps_while PassesOwn.never (PW.pt (pw_and (pt_cmpR op_eq (pe_dget hu (pv 0) pe_str (fun _ _ => rfl)) pe_int (nomark _)) (pw_and1 (pt_cmpR (r := rNeD K) (op_neD hr.units) (pe_dget hu (pv 0) pe_str (fun _ _ => rfl)) (pe_lst pa_nil) (nomark _))))) (pss_one (ps_dput hu (pv 0) pe_str (pe_bm PySem.F.plainAttrs_list PySem.F.slot_list_pop PySem.F.type_list_pop mt_popAt (pe_dget hu (pv 0) pe_str (fun _ _ => rfl)) (pa_cons pe_int pa_nil)) rfl))) (pss_cons (ps_if (pt_cmpR op_gt (pe_dget hu (pv 0) pe_str (fun _ _ => rfl)) pe_int (nomark _)) (pss_cons (ps_set (i := 2) sc.nd rfl (Or.inl rfl) (pe_op op_mod (pe_callTy call_int1 (by rfl) Z.int (by decide +kernel) (pa_cons (pe_dget hu (pv 0) pe_str (fun _ _ => rfl)) pa_nil)) (pv 1))) (pss_cons (ps_dput hu (pv 0) pe_str (pe_op op_fdiv (pe_dget hu (pv 0) pe_str (fun _ _ => rfl)) (pv 1)) rfl) (pss_one (ps_ret (pv 2))))) pss_nil) (pss_cons (ps_set (i := 3) sc.nd rfl (Or.inl rfl) (pe_op op_add (pe_dget hu (pv 0) pe_str (fun _ _ => rfl)) pe_int)) (pss_cons (ps_dput hu (pv 0) pe_str (pv 3) rfl) (pss_cons (ps_set (i := 4) sc.nd rfl (Or.inl rfl) (pe_ifExp (pt_cmpR (r := rNeD K) (op_neD hr.units) (pe_dget hu (pv 0) pe_str (fun _ _ => rfl)) (pe_lst pa_nil) (nomark _)) (pe_ix (r := rIxL K) ix_list (pe_dget hu (pv 0) pe_str (fun _ _ => rfl)) (pe_op op_mod (pe_callTy call_int1 (by rfl) Z.int (by decide +kernel) (pa_cons (pv 3) pa_nil)) (pe_callB (r := rLenA K) call_len_seq (by rfl) Z.len PySem.boot_len (pa_cons (pe_dget hu (pv 0) pe_str (fun _ _ => rfl)) pa_nil))) (fun _ _ => rfl)) pe_int)) (pss_cons (ps_set (i := 5) sc.nd rfl (Or.inl rfl) (pe_op op_mod (pe_callTy call_int1 (by rfl) Z.int (by decide +kernel) (pa_cons (pe_op op_pow (pe_op op_add (pe_op op_add (pe_op op_mod (pe_callTy call_int1 (by rfl) Z.int (by decide +kernel) (pa_cons (pv 4) pa_nil)) pe_int) (pe_op op_mul pe_int (pv 3))) pe_int) pe_int) pa_nil)) pe_int)) (pss_one (ps_ret (pe_op op_mod (pe_callTy call_int1 (by rfl) Z.int (by decide +kernel) (pa_cons (pe_op op_fdiv (pe_op op_mod (pe_callTy call_int1 (by rfl) Z.int (by decide +kernel) (pa_cons (pe_op op_pow (pe_op op_add (pv 5) (pe_op op_mul pe_int (pv 3))) pe_int) pa_nil)) pe_int) pe_int) pa_nil)) (pv 1)))))))))), ?_⟩
    refine q_whileW (fun m σ H' => σ = [some (.ref s), some (.int n), none, none, none, none] ∧ Wd G H' s l c T ∧ StS [s, l, c] G H G H' ∧ ∃ (lg cs : List Int) (left turn : Int), lg.length = m ∧ H' s = some (.dK (stK l c left turn)) ∧ H' l = some (.lst (lg.map V.int)) ∧ H' c = some (.lst (cs.map V.int)) ∧ (∀ x ∈ lg, 0 ≤ x) ∧ (∀ x ∈ cs, 0 ≤ x) ∧ 0 ≤ left ∧ 0 ≤ turn ∧ turn ≤ T)
      (fun σ H' => σ = [some (.ref s), some (.int n), none, none, none, none] ∧ Wd G H' s l c T ∧ StS [s, l, c] G H G H') ?_ ?_ ?_
    · obtain ⟨lg, cs, left, turn, h⟩ := wd.st.ex
      exact ⟨lg.length, rfl, wd, .refl wd.w, lg, cs, left, turn, rfl, h⟩
    · rintro R hR m σ H1 ⟨rfl, wd1, ss1, lg, cs, left, turn, rfl, hs, hl, hc, plg, pcs, pl, pt, ptT⟩
      refine st_get rfl hs (v_left l c left turn) ?_
      refine ⟨rfl, _, rfl, ?_⟩
      refine ite2 (fun h0 => ?_) (fun h0 => ?_)
      · refine st_get rfl hs (v_large l c left turn) ?_
        refine ne_nil hl fun p hp => ⟨_, rfl, ?_⟩
        have e2 : Ex H1 (upd H1 p (.lst [])) := .new hp
        cases lg with
        | nil => exact iteF (hR _ _ ⟨rfl, wd1.stp (.old wd1.w e2), ss1.trans (Stp.old wd1.w e2).toS⟩)
        | cons x lg =>
          refine iteT ⟨fun σ H' => σ = [some (.ref s), some (.int n), none, none, none, none] ∧ Wd G H' s l c T ∧ StS [s, l, c] G H G H' ∧ ∃ (lg' cs : List Int) (left turn : Int), lg'.length = lg.length ∧ H' s = some (.dK (stK l c left turn)) ∧ H' l = some (.lst (lg'.map V.int)) ∧ H' c = some (.lst (cs.map V.int)) ∧ (∀ x ∈ lg', 0 ≤ x) ∧ (∀ x ∈ cs, 0 ≤ x) ∧ 0 ≤ left ∧ 0 ≤ turn ∧ turn ≤ T, ?_, ?_⟩
          · rintro σ' H' ⟨rfl, w1, w2, lg', cs, left, turn, e, h⟩
            exact ⟨lg.length, Nat.lt_succ_self _, rfl, w1, w2, lg', cs, left, turn, e, h⟩
          · refine st_get rfl (e2 _ _ hs) (v_large l c left turn) ?_
            have hl2 := e2 _ _ hl
            refine ⟨.inl ⟨rfl, _, SqL.of hl2⟩, l, (x :: lg).map V.int, 0, 0, .int x, rfl, rfl, hl2, by decide, by decide, (ixN_seq (by unfold ixN; rw [if_pos (by decide), if_pos (by simp)]; rfl)).1, rfl, ?_⟩
            obtain ⟨sl, sc'⟩ := wd1.st.apart
            have hs2 : upd (upd H1 p (.lst [])) l (.lst (((x :: lg).map V.int).eraseIdx 0)) s = some (.dK (stK l c left turn)) := by rw [upd_ne sl]; exact e2 _ _ hs
            refine ⟨.ref s, rfl, s, _, rfl, DPut.k (k := Sum.inr ("left" : Str)) hs2 (by show 4 < sizeLine; decide), ?_⟩
            rw [p_left]
            have px := plg x (List.mem_cons_self ..)
            have plg' : ∀ y ∈ lg, 0 ≤ y := fun y hy => plg y (List.mem_cons_of_mem _ hy)
            have f1 : upd (upd (upd H1 p (.lst [])) l (.lst (((x :: lg).map V.int).eraseIdx 0))) s (.dK (stK l c x turn)) s = some (.dK (stK l c x turn)) := upd_same
            have f2 : upd (upd (upd H1 p (.lst [])) l (.lst (((x :: lg).map V.int).eraseIdx 0))) s (.dK (stK l c x turn)) l = some (.lst (lg.map V.int)) := by rw [upd_ne sl.symm, upd_same]; rfl
            have f3 : upd (upd (upd H1 p (.lst [])) l (.lst (((x :: lg).map V.int).eraseIdx 0))) s (.dK (stK l c x turn)) c = some (.lst (cs.map V.int)) := by rw [upd_ne sc'.symm, upd_ne wd1.st.lc.symm]; exact e2 _ _ hc
            have st' : StAt (upd (upd (upd H1 p (.lst [])) l (.lst (((x :: lg).map V.int).eraseIdx 0))) s (.dK (stK l c x turn))) s l c T := ⟨⟨lg, cs, x, turn, f1, f2, f3, plg', pcs, px, pt, ptT⟩, wd1.st.lc⟩
            obtain ⟨wd3, ss3⟩ := wd_upd (wd1.stp (.old wd1.w e2)) (fun b o h1 h2 q => by rw [upd_ne h1, upd_ne h2]; exact q) st'
            exact ⟨rfl, wd3, (ss1.trans (Stp.old wd1.w e2).toS).trans ss3, lg, cs, x, turn, rfl, f1, f2, f3, plg', pcs, px, pt, ptT⟩
      · exact iteF (hR _ _ ⟨rfl, wd1, ss1⟩)
    rintro σ H2 ⟨rfl, wd2, ss2⟩
    obtain ⟨lg, cs, left, turn, hs, hl, hc, plg, pcs, pl, pt, ptT⟩ := wd2.st.ex
    refine st_get rfl hs (v_left l c left turn) ?_
    refine ⟨left, 0, rfl, rfl, _, rfl, ?_⟩
    obtain ⟨sl, sc'⟩ := wd2.st.apart
    refine ite2 (fun hpos => ?_) (fun hnp => ?_)
    · -- found = left % n; left = left // n; return found
      have hpos : 0 < left := of_decide_eq_true hpos
      refine st_get rfl hs (v_left l c left turn) ?_
      refine .inl ⟨left, rfl, .int n, rfl, left, n, rfl, rfl, n1, ?_⟩
      refine st_get rfl hs (v_left l c left turn) ?_
      refine ⟨.int n, rfl, left, n, rfl, rfl, ⟨n1, n2⟩, .ref s, rfl, s, _, rfl, DPut.k (k := Sum.inr ("left" : Str)) hs (by show 4 < sizeLine; decide), .int (left % n), rfl, ?_⟩
      rw [p_left]
      have st' : StAt (upd H2 s (.dK (stK l c (left / n) turn))) s l c (T + 1) :=
        ⟨⟨lg, cs, left / n, turn, upd_same, by rw [upd_ne sl.symm]; exact hl, by rw [upd_ne sc'.symm]; exact hc, plg, pcs, Int.ediv_nonneg pl (by omega), pt, by omega⟩, wd2.st.lc⟩
      obtain ⟨wd3, ss3⟩ := wd_upd wd2 (fun b o h1 _ q => by rw [upd_ne h1]; exact q) st'
      exact k _ _ (Int.emod_nonneg _ (by omega)) (Int.emod_lt_of_pos _ n1) wd3 (ss2.trans ss3)
    · -- turn = turn + 1; ..
      refine st_get rfl hs (v_turn l c left turn) ?_
      refine ⟨turn, 1, rfl, rfl, .int (turn + 1), rfl, .ref s, rfl, s, _, rfl, DPut.k (k := Sum.inr ("turn" : Str)) hs (by show 4 < sizeLine; decide), ?_⟩
      rw [p_turn]
      have hs3 : upd H2 s (.dK (stK l c left (turn + 1))) s = some (.dK (stK l c left (turn + 1))) := upd_same
      have hc3 : upd H2 s (.dK (stK l c left (turn + 1))) c = some (.lst (cs.map V.int)) := by rw [upd_ne sc'.symm]; exact hc
      have st' : StAt (upd H2 s (.dK (stK l c left (turn + 1)))) s l c (T + 1) :=
        ⟨⟨lg, cs, left, turn + 1, hs3, by rw [upd_ne sl.symm]; exact hl, hc3, plg, pcs, pl, by omega, by omega⟩, wd2.st.lc⟩
      obtain ⟨wd3, ss3⟩ := wd_upd wd2 (fun b o h1 _ q => by rw [upd_ne h1]; exact q) st'
      dsimp only
      refine q_asgW (fun v H4 => ∃ cell, v = .int cell ∧ 0 ≤ cell ∧ Wd G H4 s l c (T + 1) ∧ StS [s, l, c] G H G H4) (fun Q hQ => ?_) ?_
      · refine st_get rfl hs3 (v_cells l c left (turn + 1)) ?_
        refine ne_nil hc3 fun p hp => ⟨_, rfl, ?_⟩
        have e4 : Ex (upd H2 s (.dK (stK l c left (turn + 1)))) (upd (upd H2 s (.dK (stK l c left (turn + 1)))) p (.lst [])) := .new hp
        have wd4 := wd3.stp (.old wd3.w e4)
        have ss4 := (ss2.trans ss3).trans (Stp.old wd3.w e4).toS
        cases hcs : cs with
        | nil => exact iteF (hQ _ _ ⟨0, rfl, Int.le_refl _, wd4, ss4⟩)
        | cons x0 xs0 =>
          refine iteT ?_
          refine st_get rfl (e4 _ _ hs3) (v_cells l c left (turn + 1)) ?_
          refine ⟨.int (turn + 1), rfl, .inl ⟨turn + 1, rfl, ?_⟩⟩
          refine st_get rfl (e4 _ _ hs3) (v_cells l c left (turn + 1)) ?_
          refine ⟨c, cs.map V.int, rfl, .inl (SqL.of (e4 _ _ hc3)), ?_⟩
          have hn : (0 : Int) < ((cs.map V.int).length : Nat) := by rw [hcs]; simp
          refine ⟨turn + 1, _, rfl, rfl, hn, ?_⟩
          have a1 := Int.emod_nonneg (turn + 1) (show (((cs.map V.int).length : Nat) : Int) ≠ 0 by omega)
          have a2 := Int.emod_lt_of_pos (turn + 1) hn
          obtain ⟨j, hj⟩ := Int.eq_ofNat_of_zero_le a1
          rw [hj] at a2
          show rIxL K (V.ref c) (V.int ((turn + 1) % (((cs.map V.int).length : Nat) : Int))) _ Q
          rw [hj]
          have hjl : j < cs.length := by rw [List.length_map] at a2; omega
          have hg : (cs.map V.int)[j]? = some (V.int cs[j]) := by rw [List.getElem?_map, List.getElem?_eq_getElem hjl]; rfl
          exact ⟨c, cs.map V.int, _, _, rfl, rfl, SqL.of (e4 _ _ hc3), atI_nat hg, hQ _ _ ⟨_, rfl, pcs _ (List.getElem_mem hjl), wd4, ss4⟩⟩
      · rintro v H4 ⟨cell, rfl, hcell, wd4, ss4⟩
        have m1 := Int.emod_nonneg cell (show (2147483563 : Int) ≠ 0 by decide)
        have m2 := Int.emod_lt_of_pos cell (show (0 : Int) < 2147483563 by decide)
        refine ⟨.int cell, rfl, .inl ⟨cell, rfl, cell, 2147483563, rfl, rfl, (by show (0 : Int) < 2147483563; decide), .int (turn + 1), rfl, 40692, turn + 1, rfl, rfl, .inl ⟨by decide, by decide⟩, _, _, rfl, rfl, _, 24681, rfl, rfl, _, 3, rfl, rfl, ⟨by decide, by decide, by omega⟩, .inl ⟨_, rfl, _, 2147483629, rfl, rfl, (by show (0 : Int) < 2147483629; decide), ?_⟩⟩⟩
        have m3 := Int.emod_nonneg ((cell % 2147483563 + 40692 * (turn + 1) + 24681) ^ (3 : Int).toNat) (show (2147483629 : Int) ≠ 0 by decide)
        have m4 := Int.emod_lt_of_pos ((cell % 2147483563 + 40692 * (turn + 1) + 24681) ^ (3 : Int).toNat) (show (0 : Int) < 2147483629 by decide)
        obtain ⟨mixed, hm⟩ : ∃ m, m = (cell % 2147483563 + 40692 * (turn + 1) + 24681) ^ (3 : Int).toNat % 2147483629 := ⟨_, rfl⟩
        rw [← hm] at m3 m4
        refine ⟨.int mixed, (by rw [hm]; rfl), .int (turn + 1), rfl, 104917, turn + 1, rfl, rfl, .inl ⟨by decide, by decide⟩, _, _, rfl, rfl, _, 5, rfl, rfl, ⟨by decide, by decide, by omega⟩, .inl ⟨_, rfl, _, 2147483579, rfl, rfl, (by show (0 : Int) < 2147483579; decide), _, 29, rfl, rfl, ⟨by decide, by decide⟩, .inl ⟨_, rfl, .int n, rfl, _, n, rfl, rfl, n1, ?_⟩⟩⟩
        exact k _ _ (Int.emod_nonneg _ (by omega)) (Int.emod_lt_of_pos _ n1) wd4 ss4
end
theorem given_ints (n : Nat) (f : Nat → Bool) (g : Nat → Int) : given n f (fun i => .int (g i)) = (((List.range n).filter f).map g).map V.int := by
  unfold given
  rw [List.map_map]; rfl
theorem merge_st (l c : Addr) (x y : Int) : mergeK [] (stK l c x y) = stK l c x y := by
  unfold mergeK stK
  simp only [List.foldl]
  rw [putK_new _ valV_nil, List.nil_append, putK_new _ (show valV [(Sum.inr ("large" : Str), V.ref l)] (Sum.inr ("cells" : Str)) = none by rw [valV_neg ne1]; exact valV_nil)]
  simp only [List.cons_append, List.nil_append]
  rw [putK_new _ (show valV [(Sum.inr ("large" : Str), V.ref l), (Sum.inr ("cells" : Str), V.ref c)] (Sum.inr ("left" : Str)) = none by rw [valV_neg ne2, valV_neg ne4]; exact valV_nil)]
  simp only [List.cons_append, List.nil_append]
  rw [putK_new _ (show valV [(Sum.inr ("large" : Str), V.ref l), (Sum.inr ("cells" : Str), V.ref c), (Sum.inr ("left" : Str), V.int x)] (Sum.inr ("turn" : Str)) = none by rw [valV_neg ne3, valV_neg ne5, valV_neg ne6]; exact valV_nil)]
  rfl
section
variable {P : Program} {w : World} {mg : Str → Option Value} {base : Heap} {K : PySem.W.Frag}
theorem ok__law_begun {f : Addr} {fd : FuncData} (Z : Zs mg) (F : Fun K "_law_begun" "_law_begun" s__law_begun f fd) : FnOk P w K mg base CX0 1 f fd ["script"] (SpBegun K) := by
  have sc : FnScope ["script", "cells_here", "cell", "large"] ["script"] (defScope s__law_begun) := ⟨rfl, rfl, rfl, by decide +kernel, rfl, by decide +kernel, by decide +kernel⟩
  refine F.ok sc (fun vs H Q E h => ?_) (fun cdv A outer s H vs Q E hr h => ?_)
  · obtain ⟨G, a, ns, rfl, _⟩ := h
    rfl
  · obtain ⟨G, a, ns, rfl, wf, hS, hlen, k⟩ := h
    refine ⟨_, (pss_cons (ps_setLc (i := 1) (own := [("cell", 2)]) (g := gName 2) (tt := tYes) (by rfl) sc.nd rfl rfl (sw_true rfl rfl rfl (by decide +kernel)) (pi_list (pv 0)) (blkOk_by (N := ["script", "cells_here", "cell", "large"]) (sc := defScope s__law_begun) (by decide +kernel)) (fun _ _ _ _ _ => (pg_name (i := 2) sc.nd rfl (Or.inl rfl))) (fun _ _ _ _ _ => pts_nil) (fun _ _ _ _ _ => (pe_callB call_abs (by rfl) Z.abs (by decide +kernel) (pa_cons (pv 2) pa_nil)))) (pss_cons (ps_setLc (i := 3) (own := [("cell", 2)]) (g := gName 2) (tt := _) (by rfl) sc.nd rfl rfl (sw_true rfl rfl rfl (by decide +kernel)) (pi_list (pv 1)) (blkOk_by (N := ["script", "cells_here", "cell", "large"]) (sc := defScope s__law_begun) (by decide +kernel)) (fun _ _ _ _ _ => (pg_name (i := 2) sc.nd rfl (Or.inl rfl))) (fun _ _ _ _ _ => (pts_one (pt_cmpR op_ge (pv 2) (pe_op op_pow pe_int pe_int) (nomark _)))) (fun _ _ _ _ _ => (pe_op op_sub (pv 2) (pe_op op_pow pe_int pe_int)))) (pss_one (ps_ret (pe_disp (pps_cons pe_str (pv 3) (pps_cons pe_str (pv 1) (pps_cons pe_str pe_int (pps_cons pe_str pe_int pps_nil)))) (by rfl) (by rfl) (fun z => by cases z) (by decide)))))), ?_⟩
    have gi : ∀ {i : Nat} {x : V}, (ns.map V.int)[i]? = some x → x = .int (ns.getD i 0) := by
      intro i x hx
      rw [List.getElem?_map] at hx
      obtain ⟨y, hy, rfl⟩ := Option.map_eq_some_iff.mp hx
      (rw [List.getD_eq_getElem?_getD, hy]); rfl
    refine Evl.q_asgL (Evl.el_lcL (xs := ns.map V.int) (fun _ => true) (fun i => .int (if ns.getD i 0 < 0 then -(ns.getD i 0) else ns.getD i 0)) (Evl.ev_var rfl) hS (by rw [List.length_map]; omega) (fun _ => rfl) (fun i x H1 _ _ => fun H2 e Q q => q H2 (.refl H2)) (fun i x H1 _ hx _ => ?_)) fun c H1 hc0 e1 hc => ?_
    · rw [gi hx]
      exact fun H2 e Q q => ⟨_, rfl, _, rfl, q H2 (.refl H2)⟩
    rw [given_ints] at hc
    have hcs : ∀ x ∈ ((List.range (ns.map V.int).length).filter (fun _ => true)).map (fun i => if ns.getD i 0 < 0 then -(ns.getD i 0) else ns.getD i 0), 0 ≤ x := by
      intro x hx
      obtain ⟨i, _, rfl⟩ := List.mem_map.mp hx
      split <;> omega
    have hcl : (((List.range (ns.map V.int).length).filter (fun _ => true)).map (fun i => if ns.getD i 0 < 0 then -(ns.getD i 0) else ns.getD i 0)).length ≤ 1000 := by
      rw [List.length_map]
      refine Nat.le_trans (List.length_filter_le _ _) ?_
      rw [List.length_range, List.length_map]; exact hlen
    generalize ((List.range (ns.map V.int).length).filter (fun _ => true)).map (fun i => if ns.getD i 0 < 0 then -(ns.getD i 0) else ns.getD i 0) = cs at hc hcs hcl
    have gc : ∀ {i : Nat} {x : V}, (cs.map V.int)[i]? = some x → x = .int (cs.getD i 0) := by
      intro i x hx
      rw [List.getElem?_map] at hx
      obtain ⟨y, hy, rfl⟩ := Option.map_eq_some_iff.mp hx
      (rw [List.getD_eq_getElem?_getD, hy]); rfl
    refine Evl.q_asgL (Evl.el_lcL (xs := cs.map V.int) (fun i => decide (10 ^ 18 ≤ cs.getD i 0)) (fun i => .int (cs.getD i 0 - 10 ^ 18)) (Evl.ev_var rfl) (SqL.of hc) (by rw [List.length_map]; omega) (fun _ => rfl) (fun i x H2 _ hx => ?_) (fun i x H2 _ hx _ => ?_)) fun l H2 hl0 e2 hl => ?_
    · rw [gc hx]
      exact fun H3 e Q q => ⟨_, rfl, 10, 18, rfl, rfl, ⟨by decide, by decide, by decide⟩, cs.getD i 0, 10 ^ 18, rfl, rfl, _, rfl, q H3 (.refl H3)⟩
    · rw [gc hx]
      exact fun H3 e Q q => ⟨_, rfl, 10, 18, rfl, rfl, ⟨by decide, by decide, by decide⟩, cs.getD i 0, 10 ^ 18, rfl, rfl, q H3 (.refl H3)⟩
    rw [given_ints] at hl
    have hls : ∀ x ∈ ((List.range (cs.map V.int).length).filter (fun i => decide (10 ^ 18 ≤ cs.getD i 0))).map (fun i => cs.getD i 0 - 10 ^ 18), 0 ≤ x := by
      intro x hx
      obtain ⟨i, hi, rfl⟩ := List.mem_map.mp hx
      have := of_decide_eq_true (List.mem_filter.mp hi).2
      omega
    generalize ((List.range (cs.map V.int).length).filter (fun i => decide (10 ^ 18 ≤ cs.getD i 0))).map (fun i => cs.getD i 0 - 10 ^ 18) = lg at hl hls
    intro p hp
    have e3 : Ex H2 (upd H2 p (.dK [])) := .new hp
    refine ⟨.ref l, rfl, .ref c, rfl, upd_same, stK l c 0 0, rfl, by show 4 ≤ 15; decide, ?_⟩
    rw [merge_st]
    have hl3 : upd (upd H2 p (.dK [])) p (.dK (stK l c 0 0)) l = some (.lst (lg.map V.int)) := by
      rw [upd_ne (ne_of_none hl hp), upd_ne (ne_of_none hl hp)]; exact hl
    have hc2 : H2 c = some (.lst (cs.map V.int)) := e2 _ _ hc
    have hc3 : upd (upd H2 p (.dK [])) p (.dK (stK l c 0 0)) c = some (.lst (cs.map V.int)) := by
      rw [upd_ne (ne_of_none hc2 hp), upd_ne (ne_of_none hc2 hp)]; exact hc2
    have lc : l ≠ c := fun z => by rw [z] at hl0; rw [hc] at hl0; cases hl0
    have e4 : Ex H (upd (upd H2 p (.dK [])) p (.dK (stK l c 0 0))) := fun b o q => by
      have q2 := e2 _ _ (e1 _ _ q)
      rw [upd_ne (ne_of_none q2 hp), upd_ne (ne_of_none q2 hp)]; exact q2
    exact k p l c _ ⟨wf.trans e4, ⟨⟨lg, cs, 0, 0, upd_same, hl3, hc3, hls, hcs, Int.le_refl _, Int.le_refl _, Int.le_refl _⟩, lc⟩, fresh_back (wf.trans (e1.trans e2)) hp, fresh_back (wf.trans e1) hl0, fresh_back wf hc0⟩ e4
end
abbrev s__law_mixed : Stmt := top 57
section
variable {P : Program} {w : World} {mg : Str → Option Value} {base : Heap} {K : PySem.W.Frag}
theorem ok__law_mixed {f : Addr} {fd : FuncData} (Z : Zs mg) (C__law_draw : Cal P w K mg base CX0 1 "_law_draw" ["state", "size_here"] SpDraw) (F : Fun K "_law_mixed" "_law_mixed" s__law_mixed f fd) : FnOk P w K mg base CX0 2 f fd ["state", "several"] (SpMixK K) := by
  have sc : FnScope ["state", "several", "left", "found"] ["state", "several"] (defScope s__law_mixed) := ⟨rfl, rfl, rfl, by decide +kernel, rfl, by decide +kernel, by decide +kernel⟩
  refine F.ok sc (fun vs H Q E h => ?_) (fun cdv A outer s0 H vs Q E hr h => ?_)
  · obtain ⟨G, s, l, c, T, v1, as, k0, rfl, _⟩ := h
    rfl
  · obtain ⟨G, s, l, c, T, v1, as, k0, rfl, hv, hsh, hfl, hlen, wd, hT, k⟩ := h
    refine ⟨_, (pss_cons (ps_par (i := 2) (j := 3) (by rfl) sc.nd rfl rfl (by decide) rfl rfl (pa_cons (pe_callTy (r := rListOf K) call_list_of (by rfl) Z.list (by decide +kernel) (pa_cons (pv 1) pa_nil)) (pa_cons (pe_lst pa_nil) pa_nil)) (by rfl)) (pss_cons (ps_while PassesOwn.never (pt_cmpR (r := rNeD K) (op_neD hr.units) (pv 2) (pe_lst pa_nil) (nomark _)) (pss_one (ps_expr (pe_bm PySem.F.plainAttrs_list PySem.F.slot_list_append PySem.F.type_list_append mt_append (pv 3) (pa_cons (pe_bm PySem.F.plainAttrs_list PySem.F.slot_list_pop PySem.F.type_list_pop mt_popAt (pv 2) (pa_cons (pe_cal C__law_draw (hr.mono (by decide)) pass0 (pa_cons (pv 0) (pa_cons (pe_callB (r := rLenA K) call_len_seq (by rfl) Z.len PySem.boot_len (pa_cons (pv 2) pa_nil)) pa_nil))) pa_nil)) pa_nil))))) (pss_one (ps_ret (pv 3))))), ?_⟩
    obtain ⟨a, xs, rfl, hxs, qa⟩ := sq_at (K := K) hv
    ·
      have n0 := hxs.len
      refine ⟨.ref a, rfl, a, xs, rfl, (show SqL K H a xs ∨ SqT K H a xs from by cases k0 with | true => exact .inl (qa H wd.w) | false => exact .inr (qa H wd.w)), fun p hp => ⟨Nat.zero_le _, fun q hq => ⟨.ref p, .ref q, rfl, ?_⟩⟩⟩
      have hpq : p ≠ q := fun z => by rw [← z, upd_same] at hq; cases hq
      have hq0 : H q = none := by rw [upd_ne hpq.symm] at hq; exact hq
      have gp : G p = none := fresh_back wd.w hp
      have gq : G q = none := fresh_back wd.w hq0
      obtain ⟨⟨o1, e1, _⟩, ⟨o2, e2, _⟩, o3, e3, _⟩ := wd.st.at
      have ps : p ≠ s ∧ p ≠ l ∧ p ≠ c := ⟨(ne_of_none e1 hp).symm, (ne_of_none e2 hp).symm, (ne_of_none e3 hp).symm⟩
      have qs : q ≠ s ∧ q ≠ l ∧ q ≠ c := ⟨(ne_of_none e1 hq0).symm, (ne_of_none e2 hq0).symm, (ne_of_none e3 hq0).symm⟩
      refine q_whileW (fun m σ H' => σ = [some (.ref s), some (.ref a), some (.ref p), some (.ref q)] ∧ StS [s, l, c] G H G H' ∧ ∃ (us ws : List V) (bs cs : List D), H' p = some (.lst us) ∧ H' q = some (.lst ws) ∧ DqA G us bs ∧ DqA G ws cs ∧ (∀ b ∈ bs, b ∈ as) ∧ (∀ b ∈ cs, b ∈ as) ∧ bs.length = m ∧ bs.length + cs.length = as.length ∧ (bs ++ cs).Perm as ∧ Wd G H' s l c (T + (cs.length : Int)))
        (fun σ H' => σ = [some (.ref s), some (.ref a), some (.ref p), some (.ref q)] ∧ StS [s, l, c] G H G H' ∧ ∃ (ws : List V) (cs : List D), H' q = some (.lst ws) ∧ DqA G ws cs ∧ (∀ b ∈ cs, b ∈ as) ∧ cs.length = as.length ∧ cs.Perm as ∧ Wd G H' s l c (T + (cs.length : Int))) ?_ ?_ ?_
      · refine ⟨as.length, rfl, ((StS.refl wd.w).mut hp gp).mut hq0 gq, xs, [], as, [], by rw [upd_ne hpq, upd_same], upd_same, hxs, .nil, fun _ h => h, fun _ h => absurd h (List.not_mem_nil), rfl, rfl, by rw [List.append_nil], ?_⟩
        have := (wd.mut (o := .lst xs) gp ps.1 ps.2.1 ps.2.2).mut (o := .lst []) gq qs.1 qs.2.1 qs.2.2
        simpa using this
      · rintro R hR m σ H1 ⟨rfl, ss, us, ws, bs, cs, hp1, hq1, hu, hw, sb, sc', rfl, hn, hpm, wd1⟩
        refine ⟨.ref p, rfl, ne_nilD hp1 wd1.w hu (flat_sub hfl sb) (shaped_sub hsh sb) fun t ht => ⟨_, rfl, ?_⟩⟩
        have e2 : Ex H1 (upd H1 t (.lst [])) := .new ht
        have wd2 := wd1.stp (Stp.old wd1.w e2)
        have ss2 := ss.trans (Stp.old wd1.w e2).toS
        have hp2 := e2 _ _ hp1
        have hq2 := e2 _ _ hq1
        cases bs with
        | nil => exact iteF (hR _ _ ⟨rfl, ss2, ws, cs, hq2, hw, sc', by simpa using hn, by simpa using hpm, wd2⟩)
        | cons b0 bs =>
          refine iteT ⟨fun σ H' => σ = [some (.ref s), some (.ref a), some (.ref p), some (.ref q)] ∧ StS [s, l, c] G H G H' ∧ ∃ (us ws : List V) (bs' cs : List D), H' p = some (.lst us) ∧ H' q = some (.lst ws) ∧ DqA G us bs' ∧ DqA G ws cs ∧ (∀ b ∈ bs', b ∈ as) ∧ (∀ b ∈ cs, b ∈ as) ∧ bs'.length = bs.length ∧ bs'.length + cs.length = as.length ∧ (bs' ++ cs).Perm as ∧ Wd G H' s l c (T + (cs.length : Int)), ?_, ?_⟩
          · rintro σ' H' ⟨rfl, w1, us', ws', bs', cs', f1, f2, f3, f4, f5, f6, f7, f8, f9⟩
            exact ⟨bs.length, Nat.lt_succ_self _, rfl, w1, us', ws', bs', cs', f1, f2, f3, f4, f5, f6, f7, f8, f9⟩
          · have hul := hu.len
            rw [List.length_cons] at hul hn
            refine ⟨.ref q, rfl, .inl ⟨rfl, _, SqL.of hq2⟩, .ref p, rfl, .inl ⟨rfl, _, SqL.of hp2⟩, .ref s, rfl, .ref p, rfl, p, us, rfl, .inl (SqL.of hp2), G, s, l, c, _, (us.length : Nat), rfl, wd2, by omega, by omega, by omega, fun r H3 r1 r2 wd3 ss3 => ?_⟩
            obtain ⟨j, rfl⟩ := Int.eq_ofNat_of_zero_le r1
            have hj : j < us.length := by omega
            have hx : us[j]? = some us[j] := List.getElem?_eq_getElem hj
            obtain ⟨d, hd, hdq⟩ := hu.get hx
            have hp3 := ss3.h p _ (by simp [ps.1, ps.2.1, ps.2.2]) hp2
            have hq3 := ss3.h q _ (by simp [qs.1, qs.2.1, qs.2.2]) hq2
            have hwl := hw.len
            refine ⟨p, us, (j : Int), j, _, rfl, rfl, hp3, by omega, by omega, (ixN_seq (by unfold ixN; rw [if_pos (by omega), if_pos (by omega)]; rfl)).1, hx, ?_⟩
            refine ⟨q, ws, _, rfl, rfl, by rw [upd_ne hpq.symm]; exact hq3, by rw [sizeLine_eq]; omega, ?_⟩
            have gdel : ∀ {vs : List V} {ds : List D} (j : Nat), DqA G vs ds → DqA G (vs.eraseIdx j) (ds.eraseIdx j) := fun j h => by
              rw [List.eraseIdx_eq_take_drop_succ, List.eraseIdx_eq_take_drop_succ]
              exact (h.take j).app (h.drop (j + 1))
            have jd : j < (b0 :: bs).length := by rw [List.length_cons]; omega
            have dl : ((b0 :: bs).eraseIdx j).length = bs.length := by rw [List.length_eraseIdx_of_lt jd]; rfl
            refine ⟨rfl, ((ss2.trans ss3).mut hp gp).mut hq0 gq, us.eraseIdx j, ws ++ [us[j]], (b0 :: bs).eraseIdx j, cs ++ [d], by rw [upd_ne hpq, upd_same], upd_same, gdel j hu, hw.snoc hdq, fun b hb => sb b (List.mem_of_mem_eraseIdx hb), fun b hb => ?_, dl, by rw [dl, List.length_append]; show _ + (_ + 1) = _; omega, ?pm, ?_⟩
            case pm =>
              have e1 : (b0 :: bs).eraseIdx j ++ (cs ++ [d]) = ((b0 :: bs).eraseIdx j ++ cs) ++ [d] := (List.append_assoc _ _ _).symm
              rw [e1]
              exact (List.perm_append_comm (l₁ := (b0 :: bs).eraseIdx j ++ cs) (l₂ := [d])).trans (((erase_perm hd).append_right cs).trans hpm)
            · rcases List.mem_append.mp hb with h | h
              · exact sc' b h
              · rw [List.mem_singleton.mp h]; exact sb d (List.mem_of_getElem? hd)
            · have := (wd3.mut (o := .lst (us.eraseIdx j)) gp ps.1 ps.2.1 ps.2.2).mut (o := .lst (ws ++ [us[j]])) gq qs.1 qs.2.1 qs.2.2
              have e : T + (((cs ++ [d]).length : Nat) : Int) = T + (cs.length : Int) + 1 := by rw [List.length_append]; show T + ((cs.length + 1 : Nat) : Int) = _; omega
              rw [e]; exact this
      · rintro σ H2 ⟨rfl, ss, ws, cs, hq2, hw, sc', hn, hpm, wd2⟩
        have s3 : StS [s, l, c] G H (upd G q (.lst ws)) H2 := by
          refine ⟨.new gq, ss.h, ss.k, fun b o q' => ?_, fun b h1 h2 _ => ?_⟩
          · by_cases e : b = q
            · rw [e, upd_same] at q'; rw [e, ← q']; exact hq2
            · rw [upd_ne e] at q'; exact wd2.w b o q'
          · rw [upd_ne (fun z => h2 (by rw [z]; exact hq0))]; exact h1
        refine ⟨.ref q, rfl, k _ cs (upd G q (.lst ws)) H2 sc' hn hpm ?_ s3 (.lst upd_same (hw.mono (.new gq)))⟩
        rw [hn] at wd2
        exact ⟨s3.w, wd2.st, by rw [upd_ne qs.1.symm]; exact wd2.gs, by rw [upd_ne qs.2.1.symm]; exact wd2.gl, by rw [upd_ne qs.2.2.symm]; exact wd2.gc⟩
end
end Mv
namespace Mv
open PySem L2 Evl LamX
section
variable {P : Program} {w : World} {K : PySem.W.Frag} {mg : Str → Option Value} {base : Heap} {ad : Str → Addr} {TL : List (Addr × Str)}
abbrev s__law_pick : Stmt := top 56
def F__law_pick : WS := (wRet (wOp oIxL (pw (fVar 1)) (wDraw W__law_draw (wCons (pw (fCb oLen (fCons (fVar 1) fNil))) wNil))))
def W__law_pick : List D → Int → (D → Int → Prop) → Prop := bodyW F__law_pick 1 0
theorem ok__law_pick {f : Addr} {fd : FuncData} (Z : Zs mg) (C__law_draw : Cal P w K mg base CX0 1 "_law_draw" ["state", "size_here"] (SpW TL W__law_draw)) (F : Fun K "_law_pick" "_law_pick" s__law_pick f fd) : FnOk P w K mg base CX0 2 f fd ["state", "several"] (SpW TL W__law_pick) := by
  have sc : FnScope ["state", "several"] ["state", "several"] (defScope s__law_pick) := ⟨rfl, rfl, rfl, by decide +kernel, rfl, by decide +kernel, by decide +kernel⟩
  refine F.ok sc (fun vs H Q E h => ?_) (fun cdv A outer s0 H vs Q E hr h => ?_)
  · obtain ⟨G, s, l, c, T, vs2, ds, post, rfl, hv, _, _, _, hb, _⟩ := h
    rw [List.length_cons, hv.len, hb.1]; rfl
  · obtain ⟨G, s, l, c, T, vs2, ds, post, rfl, hv, wd, nt, tb, hb, k⟩ := h
    refine ⟨_, (pss_one (ps_ret (pe_ix (r := rIxL K) ix_list (pv 1) (pe_cal C__law_draw (hr.mono (by decide)) pass0 (pa_cons (pv 0) (pa_cons (pe_callB (r := rLenA K) call_len_seq (by rfl) Z.len PySem.boot_len (pa_cons (pv 1) pa_nil)) pa_nil))) (fun _ _ => rfl)))), ?_⟩
    exact startW (k := 1) (n := 0) rfl (show Sws (X0 TL) _ F__law_pick from (w_ret (w_op os_ixL (w_pure (E := fun _ _ _ => False) (ad := fun _ => 0) u_var) (w_draw (w_cons (w_pure (E := fun _ _ _ => False) (ad := fun _ => 0) (u_cb cs_len (u_cons u_var u_nil))) w_nil))))) hv wd nt tb hb k
abbrev s__law_is_whole : Stmt := top 58
def b__law_is_whole : En → Rf := (fRet (fAnd (fIsi "int" (fVar 0)) (fNot (fIsi "bool" (fVar 0)))))
def f__law_is_whole : List D → Re := guardN 1 (bodyD b__law_is_whole 0)
theorem ok__law_is_whole {f : Addr} {fd : FuncData} (Z : Zs mg) (F : Fun K "_law_is_whole" "_law_is_whole" s__law_is_whole f fd) : FnOk P w K mg base CX0 1 f fd ["item"] (SpF ad f__law_is_whole) := by
  have sc : FnScope ["item"] ["item"] (defScope s__law_is_whole) := ⟨rfl, rfl, rfl, by decide +kernel, rfl, by decide +kernel, by decide +kernel⟩
  refine F.ok sc (fun vs H Q E h => ?_) (fun cdv A outer s H vs Q E hr h => ?_)
  · obtain ⟨G, ds, r, _, hv, e, _⟩ := h
    unfold f__law_is_whole at e
    exact hv.len.trans (guard_len e)
  · obtain ⟨G, ds, r, wf, hv, e, k⟩ := h
    unfold f__law_is_whole at e
    refine ⟨_, (pss_one (ps_ret (pe_and (pe_callB (r := rIsiY K) call_isiY (by rfl) Z.isinstance (by decide +kernel) (pa_cons (pv 0) (pa_cons (pe_bltn (v := .ty "int") (u := .type "int") (by rfl) Z.int (by decide +kernel) rfl) pa_nil))) (pe_one (pe_not (pe_callB (r := rIsiY K) call_isiY (by rfl) Z.isinstance (by decide +kernel) (pa_cons (pv 0) (pa_cons (pe_bltn (v := .ty "bool") (u := .type "bool") (by rfl) Z.bool (by decide +kernel) rfl) pa_nil)))))))), ?_⟩
    exact body_start (k := 1) (n := 0) rfl (hv.len.trans (guard_len e)) (show Ss E ad _ b__law_is_whole from (u_ret (u_and (u_isi (c := "int") (by decide) u_var) (u_not (u_isi (c := "bool") (by decide) u_var))))) wf hv (guard_get e) k
abbrev s__law_places : Stmt := top 59
def b__law_places : En → Rf := (fSeq (fAsg (fLst (fCons (fTup fNil) fNil)) (sName 1)) (fSeq (fFor (iT (fVar 0)) (sName 2) (fSeq (fAsg (fLst fNil) (sName 3)) (fSeq (fFor (iL (fVar 1)) (sName 4) (fAsg (fOp oCat (fVar 3) (fLc (iR1 (fCons (fVar 2) fNil)) (sName 5) (fC (.bool true)) (fOp oCatT (fVar 4) (fTup (fCons (fVar 5) fNil))) [5])) (sName 3))) (fAsg (fVar 3) (sName 1))))) (fRet (fVar 1))))
def f__law_places : List D → Re := guardN 1 (bodyD b__law_places 5)
theorem ok__law_places {f : Addr} {fd : FuncData} (Z : Zs mg) (F : Fun K "_law_places" "_law_places" s__law_places f fd) : FnOk P w K mg base CX0 1 f fd ["dials_here"] (SpF ad f__law_places) := by
  have sc : FnScope ["dials_here", "found", "size_here", "more", "row", "item"] ["dials_here"] (defScope s__law_places) := ⟨rfl, rfl, rfl, by decide +kernel, rfl, by decide +kernel, by decide +kernel⟩
  refine F.ok sc (fun vs H Q E h => ?_) (fun cdv A outer s H vs Q E hr h => ?_)
  · obtain ⟨G, ds, r, _, hv, e, _⟩ := h
    unfold f__law_places at e
    exact hv.len.trans (guard_len e)
  · obtain ⟨G, ds, r, wf, hv, e, k⟩ := h
    unfold f__law_places at e
    refine ⟨_, (pss_cons (ps_set (i := 1) sc.nd rfl (Or.inl rfl) (pe_lst (pa_cons (pe_tup pa_nil) pa_nil))) (pss_cons (ps_for PassesOwn.never rfl (pi_tup (pv 0)) (pg_name (i := 2) sc.nd rfl (Or.inl rfl)) (pss_cons (ps_set (i := 3) sc.nd rfl (Or.inl rfl) (pe_lst pa_nil)) (pss_cons (ps_for PassesOwn.never rfl (pi_list (pv 1)) (pg_name (i := 4) sc.nd rfl (Or.inr rfl)) (pss_one (ps_set (i := 3) sc.nd rfl (Or.inl rfl) (pe_op op_cat (pv 3) (pe_lc (own := [("item", 5)]) (g := gName 5) (tt := tYes) (by rfl) sc.nd (pi_range1 (by rfl) Z.range (pa_cons (pv 2) pa_nil)) (blkOk_by (N := ["dials_here", "found", "size_here", "more", "row", "item"]) (sc := defScope s__law_places) (by decide +kernel)) (fun _ _ _ _ _ => (pg_name (i := 5) sc.nd rfl (Or.inl rfl))) (fun _ _ _ _ _ => pts_nil) (fun _ _ _ _ _ => (pe_op (r := rCatA K) op_catA (pv 4) (pe_tup (pa_cons (pv 5) pa_nil))))))))) (pss_one (ps_set (i := 1) sc.nd rfl (Or.inl rfl) (pv 3)))))) (pss_one (ps_ret (pv 1))))), ?_⟩
    exact body_start (k := 1) (n := 5) rfl (hv.len.trans (guard_len e)) (show Ss E ad _ b__law_places from (u_seq (u_asg (u_lst (u_cons (u_tup u_nil) u_nil)) g_name) (u_seq (u_for (i_tup u_var) g_name (u_seq (u_asg (u_lst u_nil) g_name) (u_seq (u_for (i_list u_var) g_name (u_asg (u_op os_cat u_var (u_lc (i_rng1 (u_cons u_var u_nil)) g_name u_yes (u_op os_catT u_var (u_tup (u_cons u_var u_nil))) (by decide))) g_name)) (u_asg u_var g_name)))) (u_ret u_var)))) wf hv (guard_get e) k
abbrev s__law_plus : Stmt := top 60
def b__law_plus : En → Rf := (fRet (fCb oTuple (fCons (fLc (iZ3 false false false (fCons (fVar 1) (fCons (fVar 2) (fCons (fVar 0) fNil)))) (sTup 3 (sCons (sName 3) (sCons (sName 4) (sCons (sName 5) sNil)))) (fC (.bool true)) (fOp oMod (fCb oInt (fCons (fOp oAdd (fVar 3) (fVar 4)) fNil)) (fVar 5)) [3, 4, 5]) fNil)))
def f__law_plus : List D → Re := guardN 3 (bodyD b__law_plus 3)
theorem ok__law_plus {f : Addr} {fd : FuncData} (Z : Zs mg) (F : Fun K "_law_plus" "_law_plus" s__law_plus f fd) : FnOk P w K mg base CX0 1 f fd ["dials_here", "one", "other"] (SpF ad f__law_plus) := by
  have sc : FnScope ["dials_here", "one", "other", "here", "there", "size_here"] ["dials_here", "one", "other"] (defScope s__law_plus) := ⟨rfl, rfl, rfl, by decide +kernel, rfl, by decide +kernel, by decide +kernel⟩
  refine F.ok sc (fun vs H Q E h => ?_) (fun cdv A outer s H vs Q E hr h => ?_)
  · obtain ⟨G, ds, r, _, hv, e, _⟩ := h
    unfold f__law_plus at e
    exact hv.len.trans (guard_len e)
  · obtain ⟨G, ds, r, wf, hv, e, k⟩ := h
    unfold f__law_plus at e
    refine ⟨_, (pss_one (ps_ret (pe_callTy (r := rTupOf K) call_tuple_of (by rfl) Z.tuple (by decide +kernel) (pa_cons (pe_lc (own := [("here", 3), ("there", 4), ("size_here", 5)]) (g := gTup K 3 (gCons (gName 3) (gCons (gName 4) (gCons (gName 5) gNil)))) (tt := tYes) (by rfl) sc.nd (pi_zip3 false false false (by rfl) Z.zip (pa_cons (pv 1) (pa_cons (pv 2) (pa_cons (pv 0) pa_nil)))) (blkOk_by (N := ["dials_here", "one", "other", "here", "there", "size_here"]) (sc := defScope s__law_plus) (by decide +kernel)) (fun _ _ _ _ _ => (pg_tup rfl (pgs_cons (pg_name (i := 3) sc.nd rfl (Or.inl rfl)) (pgs_cons (pg_name (i := 4) sc.nd rfl (Or.inl rfl)) (pgs_cons (pg_name (i := 5) sc.nd rfl (Or.inl rfl)) pgs_nil))))) (fun _ _ _ _ _ => pts_nil) (fun _ _ _ _ _ => (pe_op op_mod (pe_callTy call_int1 (by rfl) Z.int (by decide +kernel) (pa_cons (pe_op op_add (pv 3) (pv 4)) pa_nil)) (pv 5)))) pa_nil)))), ?_⟩
    exact body_start (k := 3) (n := 3) rfl (hv.len.trans (guard_len e)) (show Ss E ad _ b__law_plus from (u_ret (u_cb cs_tuple (u_cons (u_lc (i_zip3 (u_cons u_var (u_cons u_var (u_cons u_var u_nil)))) (g_tup (g_cons g_name (g_cons g_name (g_cons g_name g_nil)))) u_yes (u_op os_mod (u_cb cs_int (u_cons (u_op os_add u_var u_var) u_nil)) u_var) (by decide)) u_nil)))) wf hv (guard_get e) k
abbrev s__law_nothing : Stmt := top 61
def b__law_nothing : En → Rf := (fRet (fOp oRepT (fTup (fCons (fC (.int 0)) fNil)) (fCb oLen (fCons (fVar 0) fNil))))
def f__law_nothing : List D → Re := guardN 1 (bodyD b__law_nothing 0)
theorem ok__law_nothing {f : Addr} {fd : FuncData} (Z : Zs mg) (F : Fun K "_law_nothing" "_law_nothing" s__law_nothing f fd) : FnOk P w K mg base CX0 1 f fd ["dials_here"] (SpF ad f__law_nothing) := by
  have sc : FnScope ["dials_here"] ["dials_here"] (defScope s__law_nothing) := ⟨rfl, rfl, rfl, by decide +kernel, rfl, by decide +kernel, by decide +kernel⟩
  refine F.ok sc (fun vs H Q E h => ?_) (fun cdv A outer s H vs Q E hr h => ?_)
  · obtain ⟨G, ds, r, _, hv, e, _⟩ := h
    unfold f__law_nothing at e
    exact hv.len.trans (guard_len e)
  · obtain ⟨G, ds, r, wf, hv, e, k⟩ := h
    unfold f__law_nothing at e
    refine ⟨_, (pss_one (ps_ret (pe_op (r := rRepA K) op_repA (pe_tup (pa_cons pe_int pa_nil)) (pe_callB (r := rLenA K) call_len_seq (by rfl) Z.len PySem.boot_len (pa_cons (pv 0) pa_nil))))), ?_⟩
    exact body_start (k := 1) (n := 0) rfl (hv.len.trans (guard_len e)) (show Ss E ad _ b__law_nothing from (u_ret (u_op os_repT (u_tup (u_cons (u_c fun _ => .int 0) u_nil)) (u_cb cs_len (u_cons u_var u_nil))))) wf hv (guard_get e) k
abbrev s__law_is_place : Stmt := top 62
def b__law_is_place : En → Rf := (fSeq (fIfS (fOr (fNot (fT (fIsi "tuple" (fVar 1)))) (fT (fOp oNeA (fCb oLen (fCons (fVar 1) fNil)) (fCb oLen (fCons (fVar 0) fNil))))) (fRet (fC (.bool false))) fNext) (fRet (fOp oEq (fLc (iZ2 false false (fCons (fVar 1) (fCons (fVar 0) fNil))) (sTup 2 (sCons (sName 2) (sCons (sName 3) sNil))) (fOr (fNot (fT (fCall0 f__law_is_whole (fCons (fVar 2) fNil)))) (fNot (fT (fChain oLe oLt (fC (.int 0)) (fVar 2) (fVar 3))))) (fC (.int 1)) [2, 3]) (fLst fNil))))
def f__law_is_place : List D → Re := guardN 2 (bodyD b__law_is_place 2)
theorem ok__law_is_place {f : Addr} {fd : FuncData} (Z : Zs mg) (C__law_is_whole : Cal P w K mg base CX0 1 "_law_is_whole" ["item"] (SpF ad f__law_is_whole)) (F : Fun K "_law_is_place" "_law_is_place" s__law_is_place f fd) : FnOk P w K mg base CX0 2 f fd ["dials_here", "item"] (SpF ad f__law_is_place) := by
  have sc : FnScope ["dials_here", "item", "one", "size_here"] ["dials_here", "item"] (defScope s__law_is_place) := ⟨rfl, rfl, rfl, by decide +kernel, rfl, by decide +kernel, by decide +kernel⟩
  refine F.ok sc (fun vs H Q E h => ?_) (fun cdv A outer s H vs Q E hr h => ?_)
  · obtain ⟨G, ds, r, _, hv, e, _⟩ := h
    unfold f__law_is_place at e
    exact hv.len.trans (guard_len e)
  · obtain ⟨G, ds, r, wf, hv, e, k⟩ := h
    unfold f__law_is_place at e
    refine ⟨_, (pss_cons (ps_if (PW.pt (pw_or (pt_not (pt_val (pe_callB (r := rIsiY K) call_isiY (by rfl) Z.isinstance (by decide +kernel) (pa_cons (pv 1) (pa_cons (pe_bltn (v := .ty "tuple") (u := .type "tuple") (by rfl) Z.tuple (by decide +kernel) rfl) pa_nil))))) (pw_or1 (pt_cmpR op_ne (pe_callB (r := rLenA K) call_len_seq (by rfl) Z.len PySem.boot_len (pa_cons (pv 1) pa_nil)) (pe_callB (r := rLenA K) call_len_seq (by rfl) Z.len PySem.boot_len (pa_cons (pv 0) pa_nil)) (nomark _))))) (pss_one (ps_ret pe_bl)) pss_nil) (pss_one (ps_ret (pe_cmpR (r := rEqD K) (op_eqD hr.units) (pe_lc (own := [("one", 2), ("size_here", 3)]) (g := gTup K 2 (gCons (gName 2) (gCons (gName 3) gNil))) (tt := _) (by rfl) sc.nd (pi_zip2 false false (by rfl) Z.zip (pa_cons (pv 1) (pa_cons (pv 0) pa_nil))) (blkOk_by (N := ["dials_here", "item", "one", "size_here"]) (sc := defScope s__law_is_place) (by decide +kernel)) (fun _ _ _ _ _ => (pg_tup rfl (pgs_cons (pg_name (i := 2) sc.nd rfl (Or.inl rfl)) (pgs_cons (pg_name (i := 3) sc.nd rfl (Or.inl rfl)) pgs_nil)))) (fun _ _ _ _ _ => (pts_one (PW.pt (pw_or (pt_not (pt_val (pe_cal C__law_is_whole (hr.mono (by decide)) pass0 (pa_cons (pv 2) pa_nil)))) (pw_or1 (pt_not (pt_chain op_le op_lt pe_int (pv 2) (pv 3)))))))) (fun _ _ _ _ _ => pe_int)) (pe_lst pa_nil) (nomark _))))), ?_⟩
    exact body_start (k := 2) (n := 2) rfl (hv.len.trans (guard_len e)) (show Ss E ad _ b__law_is_place from (u_seq (u_ifS (u_tOr (u_tNot (u_tB (u_isi (c := "tuple") (by decide) u_var))) (u_test (u_op os_neA (u_cb cs_len (u_cons u_var u_nil)) (u_cb cs_len (u_cons u_var u_nil))))) (u_ret (u_c fun _ => .bl false)) u_next) (u_ret (u_op os_eq (u_lc (i_zip2 (u_cons u_var (u_cons u_var u_nil))) (g_tup (g_cons g_name (g_cons g_name g_nil))) (u_tOr (u_tNot (u_tB (u_call0 (u_cons u_var u_nil)))) (u_tNot (u_test (u_chain os_le os_lt (u_c fun _ => .int 0) u_var u_var)))) (u_c fun _ => .int 1) (by decide)) (u_lst u_nil))))) wf hv (guard_get e) k
abbrev s__law_place : Stmt := top 63
def F__law_place : WS := (wRet (wCb oTuple (wCons (wLc (iT (fVar 1)) (sName 2) (pwb (fC (.bool true))) (wDraw W__law_draw (wCons (pw (fVar 2)) wNil)) [2]) wNil)))
def W__law_place : List D → Int → (D → Int → Prop) → Prop := bodyW F__law_place 1 1
theorem ok__law_place {f : Addr} {fd : FuncData} (Z : Zs mg) (C__law_draw : Cal P w K mg base CX0 1 "_law_draw" ["state", "size_here"] (SpW TL W__law_draw)) (F : Fun K "_law_place" "_law_place" s__law_place f fd) : FnOk P w K mg base CX0 2 f fd ["state", "dials_here"] (SpW TL W__law_place) := by
  have sc : FnScope ["state", "dials_here", "size_here"] ["state", "dials_here"] (defScope s__law_place) := ⟨rfl, rfl, rfl, by decide +kernel, rfl, by decide +kernel, by decide +kernel⟩
  refine F.ok sc (fun vs H Q E h => ?_) (fun cdv A outer s0 H vs Q E hr h => ?_)
  · obtain ⟨G, s, l, c, T, vs2, ds, post, rfl, hv, _, _, _, hb, _⟩ := h
    rw [List.length_cons, hv.len, hb.1]; rfl
  · obtain ⟨G, s, l, c, T, vs2, ds, post, rfl, hv, wd, nt, tb, hb, k⟩ := h
    refine ⟨_, (pss_one (ps_ret (pe_callTy (r := rTupOf K) call_tuple_of (by rfl) Z.tuple (by decide +kernel) (pa_cons (pe_lc (own := [("size_here", 2)]) (g := gName 2) (tt := tYes) (by rfl) sc.nd (pi_tup (pv 1)) (blkOk_by (N := ["state", "dials_here", "size_here"]) (sc := defScope s__law_place) (by decide +kernel)) (fun _ _ _ _ _ => (pg_name (i := 2) sc.nd rfl (Or.inl rfl))) (fun _ _ _ _ _ => pts_nil) (fun _ _ _ _ _ => (pe_cal C__law_draw (hr.mono (by decide)) pass0 (pa_cons (pv 0) (pa_cons (pv 2) pa_nil))))) pa_nil)))), ?_⟩
    exact startW (k := 1) (n := 1) rfl (show Sws (X0 TL) _ F__law_place from (w_ret (w_cb cs_tuple (w_cons (w_lc (E := fun _ _ _ => False) (ad := fun _ => 0) (i_tup u_var) g_name (w_pureb (E := fun _ _ _ => False) (ad := fun _ => 0) u_yes) (w_draw (w_cons (w_pure (E := fun _ _ _ => False) (ad := fun _ => 0) u_var) w_nil)) (by decide) (show (0 : Nat) ∉ _ from by decide)) w_nil)))) hv wd nt tb hb k
abbrev s__law_grown_part : Stmt := top 64
def b__law_grown_part : En → Rf := (fSeq (fAsgM (fLst (fCons (fCall0 f__law_nothing (fCons (fVar 0) fNil)) fNil)) 2) (fSeq (fFor (iR1 (fCons (fC (.int 30)) fNil)) (sName 3) (fIfS (fLkB (fT (fOp oLt (fVar 3) (fCb oLen (fCons (fVar 2) fNil))))) (fSeq (fAsgM (fLkM (fLc (iL (fVar 1)) (sName 5) (fC (.bool true)) (fCall0 f__law_plus (fCons (fVar 0) (fCons (fOp oIxL (fVar 2) (fVar 3)) (fCons (fVar 5) fNil)))) [5])) 4) (fFrz (fun i => Nat.beq i 4) (fFor (iL (fVar 4)) (sName 5) (fIfS (fLkB (fT (fOp (oIn true) (fVar 5) (fVar 2)))) (fApp 2 (fVar 5)) fNext)))) fNext)) (fRet (fCb oSorted (fCons (fVar 2) fNil)))))
def f__law_grown_part : List D → Re := guardN 2 (bodyD b__law_grown_part 4)
theorem ok__law_grown_part {f : Addr} {fd : FuncData} (Z : Zs mg) (Z_sorted : mg "sorted" = none) (C__law_nothing : Cal P w K mg base CX0 1 "_law_nothing" ["dials_here"] (SpF ad f__law_nothing)) (C__law_plus : Cal P w K mg base CX0 1 "_law_plus" ["dials_here", "one", "other"] (SpF ad f__law_plus)) (F : Fun K "_law_grown_part" "_law_grown_part" s__law_grown_part f fd) : FnOk P w K mg base CX0 2 f fd ["dials_here", "several"] (SpF ad f__law_grown_part) := by
  have sc : FnScope ["dials_here", "several", "found", "spot", "more", "item"] ["dials_here", "several"] (defScope s__law_grown_part) := ⟨rfl, rfl, rfl, by decide +kernel, rfl, by decide +kernel, by decide +kernel⟩
  refine F.ok sc (fun vs H Q E h => ?_) (fun cdv A outer s H vs Q E hr h => ?_)
  · obtain ⟨G, ds, r, _, hv, e, _⟩ := h
    unfold f__law_grown_part at e
    exact hv.len.trans (guard_len e)
  · obtain ⟨G, ds, r, wf, hv, e, k⟩ := h
    unfold f__law_grown_part at e
    refine ⟨_, (pss_cons (ps_set (i := 2) sc.nd rfl (Or.inr rfl) (pe_lst (pa_cons (pe_cal C__law_nothing (hr.mono (by decide)) pass0 (pa_cons (pv 0) pa_nil)) pa_nil))) (pss_cons (ps_for PassesOwn.never rfl (pi_range1 (by rfl) Z.range (pa_cons pe_int pa_nil)) (pg_name (i := 3) sc.nd rfl (Or.inr rfl)) (pss_one (ps_if (pt_cmpR op_lt (pv 3) (pe_callB (r := rLenA K) call_len_seq (by rfl) Z.len PySem.boot_len (pa_cons (pv 2) pa_nil)) (nomark _)) (pss_cons (ps_setLc (i := 4) (own := [("item", 5)]) (g := gName 5) (tt := tYes) (by rfl) sc.nd rfl rfl (sw_true rfl rfl rfl (by decide +kernel)) (pi_list (pv 1)) (blkOk_by (N := ["dials_here", "several", "found", "spot", "more", "item"]) (sc := defScope s__law_grown_part) (by decide +kernel)) (fun _ _ _ _ _ => (pg_name (i := 5) sc.nd rfl (Or.inl rfl))) (fun _ _ _ _ _ => pts_nil) (fun _ _ _ _ _ => (pe_cal C__law_plus (hr.mono (by decide)) pass0 (pa_cons (pv 0) (pa_cons (pe_ix (r := rIxL K) ix_list (pv 2) (pv 3) (fun _ _ => rfl)) (pa_cons (pv 5) pa_nil)))))) (pss_one (ps_for PassesOwn.never rfl (pi_list (pv 4)) (pg_name (i := 5) sc.nd rfl (Or.inl rfl)) (pss_one (ps_if (pt_cmpR (r := rInA K true) (op_notInA (room65 hr)) (pv 5) (pv 2) (by rfl)) (pss_one (ps_expr (pe_bm PySem.F.plainAttrs_list PySem.F.slot_list_append PySem.F.type_list_append mt_append (pv 2) (pa_cons (pv 5) pa_nil)))) pss_nil))))) pss_nil))) (pss_one (ps_ret (pe_callB (r := rSortD K) (call_sortD hr.units) (by rfl) Z_sorted (by decide +kernel) (pa_cons (pv 2) pa_nil)))))), ?_⟩
    exact body_start (k := 2) (n := 4) rfl (hv.len.trans (guard_len e)) (show Ss E ad _ b__law_grown_part from (u_seq (u_asgM (m_lst (u_cons (u_call0 (u_cons u_var u_nil)) u_nil))) (u_seq (u_for (i_rng1 (u_cons (u_c fun _ => .int 30) u_nil)) g_name (u_ifS (u_lkB (u_test (u_op os_lt u_var (u_cb cs_len (u_cons u_var u_nil))))) (u_seq (u_asgM (m_lk (m_lc (i_list u_var) g_name u_yes (u_call0 (u_cons u_var (u_cons (u_op os_ixL u_var u_var) (u_cons u_var u_nil)))) (by decide)))) (u_frz (fun i => Nat.beq i 4) (u_for (i_list u_var) g_name (u_ifS (u_lkB (u_test (u_op os_in u_var u_var))) (u_app u_var) u_next)))) u_next)) (u_ret (u_cb cs_sorted (u_cons u_var u_nil)))))) wf hv (guard_get e) k
abbrev s__law_lot : Stmt := top 65
def F__law_lot : WS := (wSeq (wPar 3 4 (pw (fCall0 f__law_places (fCons (fVar 1) fNil))) (wDraw W__law_draw (wCons (pw (fC (.int 4))) wNil))) (wSeq (wAsg (wDraw W__law_place (wCons (pw (fVar 1)) wNil)) (sName 5)) (wSeq (wIfS (pwb (fT (fOp oEqA (fVar 4) (fC (.int 0))))) (wSeq (wAsg (wCall f__law_grown_part (wCons (pw (fVar 1)) (wCons (wLst (wCons (wDraw W__law_place (wCons (pw (fVar 1)) wNil)) wNil)) wNil))) (sName 6)) (pws 0 (fIfS (fT (fOp oLe (fCb oLen (fCons (fVar 6) fNil)) (fVar 2))) (fRet (fCb oTuple (fCons (fCb oSorted (fCons (fLc (iL (fVar 6)) (sName 7) (fC (.bool true)) (fCall0 f__law_plus (fCons (fVar 1) (fCons (fVar 7) (fCons (fVar 5) fNil)))) [7]) fNil)) fNil))) fNext))) wNext) (wSeq (wIfS (pwb (fT (fOp oEqA (fVar 4) (fC (.int 1))))) (wSeq (wParM 8 9 (wDraw W__law_place (wCons (pw (fVar 1)) wNil)) (fLst (fCons (fVar 5) fNil))) (wSeq (wFor (pwa (iR1 (fCons (fOp oSub (fVar 2) (fC (.int 1))) fNil))) (sName 10) (wSeq (pws 0 (fAsg (fLk (fCall0 f__law_plus (fCons (fVar 1) (fCons (fOp oIxL (fVar 9) (fUn oNeg (fC (.int 1)))) (fCons (fVar 8) fNil))))) (sName 11))) (wIfS (wAnd (pwb (fLkB (fT (fOp (oIn true) (fVar 11) (fVar 9))))) (wT (wOp oGt (wDraw W__law_draw (wCons (pw (fC (.int 6))) wNil)) (pw (fC (.int 0)))))) (pws 0 (fApp 9 (fVar 11))) wNext))) (pws 0 (fRet (fCb oTuple (fCons (fCb oSorted (fCons (fVar 9) fNil)) fNil)))))) wNext) (wSeq (wAsg (wOp oAdd (pw (fC (.int 1))) (wDraw W__law_draw (wCons (pw (fCb oMin2 (fCons (fVar 2) (fCons (fCb oLen (fCons (fVar 3) fNil)) fNil)))) wNil))) (sName 12)) (wRet (wCb oTuple (wCons (wCb oSorted (wCons (wSl true (wDraw W__law_mixed (wCons (pw (fVar 3)) wNil)) (pw (fVar 12))) wNil)) wNil))))))))
def W__law_lot : List D → Int → (D → Int → Prop) → Prop := bodyW F__law_lot 2 10
theorem ok__law_lot {f : Addr} {fd : FuncData} (Z : Zs mg) (Z_sorted : mg "sorted" = none) (C__law_place : Cal P w K mg base CX0 2 "_law_place" ["state", "dials_here"] (SpW TL W__law_place)) (C__law_places : Cal P w K mg base CX0 1 "_law_places" ["dials_here"] (SpF ad f__law_places)) (C__law_draw : Cal P w K mg base CX0 1 "_law_draw" ["state", "size_here"] (SpW TL W__law_draw)) (C__law_grown_part : Cal P w K mg base CX0 2 "_law_grown_part" ["dials_here", "several"] (SpF ad f__law_grown_part)) (C__law_plus : Cal P w K mg base CX0 1 "_law_plus" ["dials_here", "one", "other"] (SpF ad f__law_plus)) (C__law_mixed : Cal P w K mg base CX0 2 "_law_mixed" ["state", "several"] (SpW TL W__law_mixed)) (F : Fun K "_law_lot" "_law_lot" s__law_lot f fd) : FnOk P w K mg base CX0 3 f fd ["state", "dials_here", "most"] (SpW TL W__law_lot) := by
  have sc : FnScope ["state", "dials_here", "most", "menu", "way", "here", "part_here", "item", "step_here", "found", "lap", "there", "many"] ["state", "dials_here", "most"] (defScope s__law_lot) := ⟨rfl, rfl, rfl, by decide +kernel, rfl, by decide +kernel, by decide +kernel⟩
  refine F.ok sc (fun vs H Q E h => ?_) (fun cdv A outer s0 H vs Q E hr h => ?_)
  · obtain ⟨G, s, l, c, T, vs2, ds, post, rfl, hv, _, _, _, hb, _⟩ := h
    rw [List.length_cons, hv.len, hb.1]; rfl
  · obtain ⟨G, s, l, c, T, vs2, ds, post, rfl, hv, wd, nt, tb, hb, k⟩ := h
    refine ⟨_, (pss_cons (ps_par (i := 3) (j := 4) (by rfl) sc.nd rfl rfl (by decide) rfl rfl (pa_cons (pe_cal C__law_places (hr.mono (by decide)) pass0 (pa_cons (pv 1) pa_nil)) (pa_cons (pe_cal C__law_draw (hr.mono (by decide)) pass0 (pa_cons (pv 0) (pa_cons pe_int pa_nil))) pa_nil)) (by rfl)) (pss_cons (ps_set (i := 5) sc.nd rfl (Or.inr rfl) (pe_cal C__law_place (hr.mono (by decide)) pass0 (pa_cons (pv 0) (pa_cons (pv 1) pa_nil)))) (pss_cons (ps_if (pt_cmpR op_eq (pv 4) pe_int (nomark _)) (pss_cons (ps_set (i := 6) sc.nd rfl (Or.inl rfl) (pe_cal C__law_grown_part (hr.mono (by decide)) pass0 (pa_cons (pv 1) (pa_cons (pe_lst (pa_cons (pe_cal C__law_place (hr.mono (by decide)) pass0 (pa_cons (pv 0) (pa_cons (pv 1) pa_nil))) pa_nil)) pa_nil)))) (pss_one (ps_if (pt_cmpR op_le (pe_callB (r := rLenA K) call_len_seq (by rfl) Z.len PySem.boot_len (pa_cons (pv 6) pa_nil)) (pv 2) (nomark _)) (pss_one (ps_ret (pe_callTy (r := rTupOf K) call_tuple_of (by rfl) Z.tuple (by decide +kernel) (pa_cons (pe_callB (r := rSortD K) (call_sortD hr.units) (by rfl) Z_sorted (by decide +kernel) (pa_cons (pe_lc (own := [("item", 7)]) (g := gName 7) (tt := tYes) (by rfl) sc.nd (pi_list (pv 6)) (blkOk_by (N := ["state", "dials_here", "most", "menu", "way", "here", "part_here", "item", "step_here", "found", "lap", "there", "many"]) (sc := defScope s__law_lot) (by decide +kernel)) (fun _ _ _ _ _ => (pg_name (i := 7) sc.nd rfl (Or.inl rfl))) (fun _ _ _ _ _ => pts_nil) (fun _ _ _ _ _ => (pe_cal C__law_plus (hr.mono (by decide)) pass0 (pa_cons (pv 1) (pa_cons (pv 7) (pa_cons (pv 5) pa_nil)))))) pa_nil)) pa_nil)))) pss_nil))) pss_nil) (pss_cons (ps_if (pt_cmpR op_eq (pv 4) pe_int (nomark _)) (pss_cons (ps_par (i := 8) (j := 9) (by rfl) sc.nd rfl rfl (by decide) rfl rfl (pa_cons (pe_cal C__law_place (hr.mono (by decide)) pass0 (pa_cons (pv 0) (pa_cons (pv 1) pa_nil))) (pa_cons (pe_lst (pa_cons (pv 5) pa_nil)) pa_nil)) (by rfl)) (pss_cons (ps_for PassesOwn.never rfl (pi_range1 (by rfl) Z.range (pa_cons (pe_op op_sub (pv 2) pe_int) pa_nil)) (pg_name (i := 10) sc.nd rfl (Or.inl rfl)) (pss_cons (ps_set (i := 11) sc.nd rfl (Or.inl rfl) (pe_cal C__law_plus (hr.mono (by decide)) pass0 (pa_cons (pv 1) (pa_cons (pe_ix (r := rIxL K) ix_list (pv 9) (pe_un un_neg pe_int) (fun _ _ => rfl)) (pa_cons (pv 8) pa_nil))))) (pss_one (ps_if (PW.pt (pw_and (pt_cmpR (r := rInA K true) (op_notInA (room65 hr)) (pv 11) (pv 9) (by rfl)) (pw_and1 (pt_cmpR op_gt (pe_cal C__law_draw (hr.mono (by decide)) pass0 (pa_cons (pv 0) (pa_cons pe_int pa_nil))) pe_int (nomark _))))) (pss_one (ps_expr (pe_bm PySem.F.plainAttrs_list PySem.F.slot_list_append PySem.F.type_list_append mt_append (pv 9) (pa_cons (pv 11) pa_nil)))) pss_nil)))) (pss_one (ps_ret (pe_callTy (r := rTupOf K) call_tuple_of (by rfl) Z.tuple (by decide +kernel) (pa_cons (pe_callB (r := rSortD K) (call_sortD hr.units) (by rfl) Z_sorted (by decide +kernel) (pa_cons (pv 9) pa_nil)) pa_nil)))))) pss_nil) (pss_cons (ps_set (i := 12) sc.nd rfl (Or.inl rfl) (pe_op op_add pe_int (pe_cal C__law_draw (hr.mono (by decide)) pass0 (pa_cons (pv 0) (pa_cons (pe_callB (call_min2 (by rfl)) (by rfl) Z.min (by decide +kernel) (pa_cons (pv 2) (pa_cons (pe_callB (r := rLenA K) call_len_seq (by rfl) Z.len PySem.boot_len (pa_cons (pv 3) pa_nil)) pa_nil))) pa_nil))))) (pss_one (ps_ret (pe_callTy (r := rTupOf K) call_tuple_of (by rfl) Z.tuple (by decide +kernel) (pa_cons (pe_callB (r := rSortD K) (call_sortD hr.units) (by rfl) Z_sorted (by decide +kernel) (pa_cons (pe_slice (r := rSlL K) sl_list (pe_cal C__law_mixed (hr.mono (by decide)) pass0 (pa_cons (pv 0) (pa_cons (pv 3) pa_nil))) po_none (po_some (pv 12))) pa_nil)) pa_nil))))))))), ?_⟩
    exact startW (k := 2) (n := 10) rfl (show Sws (X0 TL) _ F__law_lot from (w_seq (w_par (w_pure (E := fun _ _ _ => False) (ad := ad) (u_call0 (u_cons u_var u_nil))) (w_draw (w_cons (w_pure (E := fun _ _ _ => False) (ad := ad) (u_c fun _ => .int 4)) w_nil)) (show (0 : Nat) ≠ _ from by decide) (show (0 : Nat) ≠ _ from by decide)) (w_seq (w_asg (w_draw (w_cons (w_pure (E := fun _ _ _ => False) (ad := ad) u_var) w_nil)) g_name (show (0 : Nat) ∉ _ from by decide)) (w_seq (w_ifS (w_pureb (E := fun _ _ _ => False) (ad := ad) (u_test (u_op os_eqA u_var (u_c fun _ => .int 0)))) (w_seq (w_asg (w_callF (w_cons (w_pure (E := fun _ _ _ => False) (ad := ad) u_var) (w_cons (w_lst (w_cons (w_draw (w_cons (w_pure (E := fun _ _ _ => False) (ad := ad) u_var) w_nil)) w_nil)) w_nil))) g_name (show (0 : Nat) ∉ _ from by decide)) (w_stmt (E := fun _ _ _ => False) (ad := ad) (u_ifS (u_test (u_op os_le (u_cb cs_len (u_cons u_var u_nil)) u_var)) (u_ret (u_cb cs_tuple (u_cons (u_cb cs_sorted (u_cons (u_lc (i_list u_var) g_name u_yes (u_call0 (u_cons u_var (u_cons u_var (u_cons u_var u_nil)))) (by decide)) u_nil)) u_nil))) u_next))) w_next) (w_seq (w_ifS (w_pureb (E := fun _ _ _ => False) (ad := ad) (u_test (u_op os_eqA u_var (u_c fun _ => .int 1)))) (w_seq (w_parM (E := fun _ _ _ => False) (ad := ad) (w_draw (w_cons (w_pure (E := fun _ _ _ => False) (ad := ad) u_var) w_nil)) (m_lst (u_cons u_var u_nil)) (show (0 : Nat) ≠ _ from by decide) (show (0 : Nat) ≠ _ from by decide)) (w_seq (w_for (w_src (E := fun _ _ _ => False) (ad := ad) (i_rng1 (u_cons (u_op os_sub u_var (u_c fun _ => .int 1)) u_nil))) g_name (w_seq (w_stmt (E := fun _ _ _ => False) (ad := ad) (u_asg (u_lk (u_call0 (u_cons u_var (u_cons (u_op os_ixL u_var (u_un us_neg (u_c fun _ => .int 1))) (u_cons u_var u_nil))))) g_name)) (w_ifS (w_and (w_pureb (E := fun _ _ _ => False) (ad := ad) (u_lkB (u_test (u_op os_in u_var u_var)))) (w_test (w_op os_gt (w_draw (w_cons (w_pure (E := fun _ _ _ => False) (ad := ad) (u_c fun _ => .int 6)) w_nil)) (w_pure (E := fun _ _ _ => False) (ad := ad) (u_c fun _ => .int 0))))) (w_stmt (E := fun _ _ _ => False) (ad := ad) (u_app u_var)) w_next)) (show (0 : Nat) ∉ _ from by decide)) (w_stmt (E := fun _ _ _ => False) (ad := ad) (u_ret (u_cb cs_tuple (u_cons (u_cb cs_sorted (u_cons u_var u_nil)) u_nil)))))) w_next) (w_seq (w_asg (w_op os_add (w_pure (E := fun _ _ _ => False) (ad := ad) (u_c fun _ => .int 1)) (w_draw (w_cons (w_pure (E := fun _ _ _ => False) (ad := ad) (u_cb cs_min2 (u_cons u_var (u_cons (u_cb cs_len (u_cons u_var u_nil)) u_nil)))) w_nil))) g_name (show (0 : Nat) ∉ _ from by decide)) (w_ret (w_cb cs_tuple (w_cons (w_cb cs_sorted (w_cons (w_slTo (k := true) (w_draw (w_cons (w_pure (E := fun _ _ _ => False) (ad := ad) u_var) w_nil)) (w_pure (E := fun _ _ _ => False) (ad := ad) u_var)) w_nil)) w_nil))))))))) hv wd nt tb hb k
abbrev s__law_lot_row : Stmt := top 66
def F__law_lot_row : WS := (wSeq (wAsg (wTup (wCons (pw (fCall0 f__law_places (fCons (fVar 1) fNil))) (wCons (wDraw W__law_draw (wCons (pw (fC (.int 4))) wNil)) wNil))) (sTup 2 (sCons (sName 3) (sCons (sName 4) sNil)))) (wSeq (wIfS (pwb (fT (fOp oEqA (fVar 4) (fC (.int 0))))) (wAsg (wSl true (wDraw W__law_mixed (wCons (pw (fVar 3)) wNil)) (wOp oAdd (pw (fC (.int 2))) (wDraw W__law_draw (wCons (pw (fC (.int 2))) wNil)))) (sName 3)) wNext) (wSeq (wIfS (pwb (fAnd (fT (fOp oEqA (fVar 4) (fC (.int 1)))) (fT (fOp oLe (fVar 2) (fCb oLen (fCons (fVar 3) fNil)))))) (wRet (wCb oTuple (wCons (wCb oSorted (wCons (wSl true (wDraw W__law_mixed (wCons (pw (fVar 3)) wNil)) (pw (fVar 2))) wNil)) wNil))) wNext) (wSeq (wIfS (pwb (fT (fOp oEqA (fVar 4) (fC (.int 2))))) (wSeq (wAsg (wTup (wCons (wCall f__law_grown_part (wCons (pw (fVar 1)) (wCons (wLst (wCons (wDraw W__law_place (wCons (pw (fVar 1)) wNil)) wNil)) wNil))) (wCons (wDraw W__law_place (wCons (pw (fVar 1)) wNil)) wNil))) (sTup 2 (sCons (sName 5) (sCons (sName 6) sNil)))) (pws 0 (fAsg (fLc (iL (fVar 5)) (sName 7) (fC (.bool true)) (fCall0 f__law_plus (fCons (fVar 1) (fCons (fVar 7) (fCons (fVar 6) fNil)))) [7]) (sName 3)))) wNext) (wRet (wCb oTuple (wCons (wCb oSorted (wCons (wLc (iR1 (fCons (fVar 2) fNil)) (sName 8) (pwb (fC (.bool true))) (wDraw W__law_pick (wCons (pw (fVar 3)) wNil)) [8]) wNil)) wNil)))))))
def W__law_lot_row : List D → Int → (D → Int → Prop) → Prop := bodyW F__law_lot_row 2 6
theorem ok__law_lot_row {f : Addr} {fd : FuncData} (Z : Zs mg) (Z_sorted : mg "sorted" = none) (C__law_places : Cal P w K mg base CX0 1 "_law_places" ["dials_here"] (SpF ad f__law_places)) (C__law_draw : Cal P w K mg base CX0 1 "_law_draw" ["state", "size_here"] (SpW TL W__law_draw)) (C__law_mixed : Cal P w K mg base CX0 2 "_law_mixed" ["state", "several"] (SpW TL W__law_mixed)) (C__law_grown_part : Cal P w K mg base CX0 2 "_law_grown_part" ["dials_here", "several"] (SpF ad f__law_grown_part)) (C__law_place : Cal P w K mg base CX0 2 "_law_place" ["state", "dials_here"] (SpW TL W__law_place)) (C__law_plus : Cal P w K mg base CX0 1 "_law_plus" ["dials_here", "one", "other"] (SpF ad f__law_plus)) (C__law_pick : Cal P w K mg base CX0 2 "_law_pick" ["state", "several"] (SpW TL W__law_pick)) (F : Fun K "_law_lot_row" "_law_lot_row" s__law_lot_row f fd) : FnOk P w K mg base CX0 3 f fd ["state", "dials_here", "many"] (SpW TL W__law_lot_row) := by
  have sc : FnScope ["state", "dials_here", "many", "menu", "way", "part_here", "here", "item", "lap"] ["state", "dials_here", "many"] (defScope s__law_lot_row) := ⟨rfl, rfl, rfl, by decide +kernel, rfl, by decide +kernel, by decide +kernel⟩
  refine F.ok sc (fun vs H Q E h => ?_) (fun cdv A outer s0 H vs Q E hr h => ?_)
  · obtain ⟨G, s, l, c, T, vs2, ds, post, rfl, hv, _, _, _, hb, _⟩ := h
    rw [List.length_cons, hv.len, hb.1]; rfl
  · obtain ⟨G, s, l, c, T, vs2, ds, post, rfl, hv, wd, nt, tb, hb, k⟩ := h
    refine ⟨_, (pss_cons (ps_asg (pe_tup (pa_cons (pe_cal C__law_places (hr.mono (by decide)) pass0 (pa_cons (pv 1) pa_nil)) (pa_cons (pe_cal C__law_draw (hr.mono (by decide)) pass0 (pa_cons (pv 0) (pa_cons pe_int pa_nil))) pa_nil))) (pg_tup rfl (pgs_cons (pg_name (i := 3) sc.nd rfl (Or.inr rfl)) (pgs_cons (pg_name (i := 4) sc.nd rfl (Or.inl rfl)) pgs_nil)))) (pss_cons (ps_if (pt_cmpR op_eq (pv 4) pe_int (nomark _)) (pss_one (ps_set (i := 3) sc.nd rfl (Or.inr rfl) (pe_slice (r := rSlL K) sl_list (pe_cal C__law_mixed (hr.mono (by decide)) pass0 (pa_cons (pv 0) (pa_cons (pv 3) pa_nil))) po_none (po_some (pe_op op_add pe_int (pe_cal C__law_draw (hr.mono (by decide)) pass0 (pa_cons (pv 0) (pa_cons pe_int pa_nil)))))))) pss_nil) (pss_cons (ps_if (PW.pt (pw_and (pt_cmpR op_eq (pv 4) pe_int (nomark _)) (pw_and1 (pt_cmpR op_le (pv 2) (pe_callB (r := rLenA K) call_len_seq (by rfl) Z.len PySem.boot_len (pa_cons (pv 3) pa_nil)) (nomark _))))) (pss_one (ps_ret (pe_callTy (r := rTupOf K) call_tuple_of (by rfl) Z.tuple (by decide +kernel) (pa_cons (pe_callB (r := rSortD K) (call_sortD hr.units) (by rfl) Z_sorted (by decide +kernel) (pa_cons (pe_slice (r := rSlL K) sl_list (pe_cal C__law_mixed (hr.mono (by decide)) pass0 (pa_cons (pv 0) (pa_cons (pv 3) pa_nil))) po_none (po_some (pv 2))) pa_nil)) pa_nil)))) pss_nil) (pss_cons (ps_if (pt_cmpR op_eq (pv 4) pe_int (nomark _)) (pss_cons (ps_asg (pe_tup (pa_cons (pe_cal C__law_grown_part (hr.mono (by decide)) pass0 (pa_cons (pv 1) (pa_cons (pe_lst (pa_cons (pe_cal C__law_place (hr.mono (by decide)) pass0 (pa_cons (pv 0) (pa_cons (pv 1) pa_nil))) pa_nil)) pa_nil))) (pa_cons (pe_cal C__law_place (hr.mono (by decide)) pass0 (pa_cons (pv 0) (pa_cons (pv 1) pa_nil))) pa_nil))) (pg_tup rfl (pgs_cons (pg_name (i := 5) sc.nd rfl (Or.inl rfl)) (pgs_cons (pg_name (i := 6) sc.nd rfl (Or.inr rfl)) pgs_nil)))) (pss_one (ps_set (i := 3) sc.nd rfl (Or.inr rfl) (pe_lc (own := [("item", 7)]) (g := gName 7) (tt := tYes) (by rfl) sc.nd (pi_list (pv 5)) (blkOk_by (N := ["state", "dials_here", "many", "menu", "way", "part_here", "here", "item", "lap"]) (sc := defScope s__law_lot_row) (by decide +kernel)) (fun _ _ _ _ _ => (pg_name (i := 7) sc.nd rfl (Or.inl rfl))) (fun _ _ _ _ _ => pts_nil) (fun _ _ _ _ _ => (pe_cal C__law_plus (hr.mono (by decide)) pass0 (pa_cons (pv 1) (pa_cons (pv 7) (pa_cons (pv 6) pa_nil))))))))) pss_nil) (pss_one (ps_ret (pe_callTy (r := rTupOf K) call_tuple_of (by rfl) Z.tuple (by decide +kernel) (pa_cons (pe_callB (r := rSortD K) (call_sortD hr.units) (by rfl) Z_sorted (by decide +kernel) (pa_cons (pe_lc (own := [("lap", 8)]) (g := gName 8) (tt := tYes) (by rfl) sc.nd (pi_range1 (by rfl) Z.range (pa_cons (pv 2) pa_nil)) (blkOk_by (N := ["state", "dials_here", "many", "menu", "way", "part_here", "here", "item", "lap"]) (sc := defScope s__law_lot_row) (by decide +kernel)) (fun _ _ _ _ _ => (pg_name (i := 8) sc.nd rfl (Or.inl rfl))) (fun _ _ _ _ _ => pts_nil) (fun _ _ _ _ _ => (pe_cal C__law_pick (hr.mono (by decide)) pass0 (pa_cons (pv 0) (pa_cons (pv 3) pa_nil))))) pa_nil)) pa_nil)))))))), ?_⟩
    exact startW (k := 2) (n := 6) rfl (show Sws (X0 TL) _ F__law_lot_row from (w_seq (w_asg (w_tup (w_cons (w_pure (E := fun _ _ _ => False) (ad := ad) (u_call0 (u_cons u_var u_nil))) (w_cons (w_draw (w_cons (w_pure (E := fun _ _ _ => False) (ad := ad) (u_c fun _ => .int 4)) w_nil)) w_nil))) (g_tup (g_cons g_name (g_cons g_name g_nil))) (show (0 : Nat) ∉ _ from by decide)) (w_seq (w_ifS (w_pureb (E := fun _ _ _ => False) (ad := ad) (u_test (u_op os_eqA u_var (u_c fun _ => .int 0)))) (w_asg (w_slTo (k := true) (w_draw (w_cons (w_pure (E := fun _ _ _ => False) (ad := ad) u_var) w_nil)) (w_op os_add (w_pure (E := fun _ _ _ => False) (ad := ad) (u_c fun _ => .int 2)) (w_draw (w_cons (w_pure (E := fun _ _ _ => False) (ad := ad) (u_c fun _ => .int 2)) w_nil)))) g_name (show (0 : Nat) ∉ _ from by decide)) w_next) (w_seq (w_ifS (w_pureb (E := fun _ _ _ => False) (ad := ad) (u_tAnd (u_test (u_op os_eqA u_var (u_c fun _ => .int 1))) (u_test (u_op os_le u_var (u_cb cs_len (u_cons u_var u_nil)))))) (w_ret (w_cb cs_tuple (w_cons (w_cb cs_sorted (w_cons (w_slTo (k := true) (w_draw (w_cons (w_pure (E := fun _ _ _ => False) (ad := ad) u_var) w_nil)) (w_pure (E := fun _ _ _ => False) (ad := ad) u_var)) w_nil)) w_nil))) w_next) (w_seq (w_ifS (w_pureb (E := fun _ _ _ => False) (ad := ad) (u_test (u_op os_eqA u_var (u_c fun _ => .int 2)))) (w_seq (w_asg (w_tup (w_cons (w_callF (w_cons (w_pure (E := fun _ _ _ => False) (ad := ad) u_var) (w_cons (w_lst (w_cons (w_draw (w_cons (w_pure (E := fun _ _ _ => False) (ad := ad) u_var) w_nil)) w_nil)) w_nil))) (w_cons (w_draw (w_cons (w_pure (E := fun _ _ _ => False) (ad := ad) u_var) w_nil)) w_nil))) (g_tup (g_cons g_name (g_cons g_name g_nil))) (show (0 : Nat) ∉ _ from by decide)) (w_stmt (E := fun _ _ _ => False) (ad := ad) (u_asg (u_lc (i_list u_var) g_name u_yes (u_call0 (u_cons u_var (u_cons u_var (u_cons u_var u_nil)))) (by decide)) g_name))) w_next) (w_ret (w_cb cs_tuple (w_cons (w_cb cs_sorted (w_cons (w_lc (E := fun _ _ _ => False) (ad := ad) (i_rng1 (u_cons u_var u_nil)) g_name (w_pureb (E := fun _ _ _ => False) (ad := ad) u_yes) (w_draw (w_cons (w_pure (E := fun _ _ _ => False) (ad := ad) u_var) w_nil)) (by decide) (show (0 : Nat) ∉ _ from by decide)) w_nil)) w_nil)))))))) hv wd nt tb hb k
abbrev s__law_seats : Stmt := top 67
def b__law_seats : En → Rf := (fSeq (fIfS (fOr (fNot (fT (fIsi "tuple" (fVar 3)))) (fT (fOp oNeA (fCb oLen (fCons (fVar 3) fNil)) (fCb oLen (fCons (fVar 1) fNil))))) (fRet (fC (.bool false))) fNext) (fSeq (fIfS (fOr (fT (fOp oNe (fLc (iT (fVar 3)) (sName 4) (fNot (fT (fCall0 f__law_is_place (fCons (fVar 0) (fCons (fVar 4) fNil))))) (fC (.int 1)) [4]) (fLst fNil))) (fT (fOp oNe (fCb oTuple (fCons (fCb oSorted (fCons (fVar 3) fNil)) fNil)) (fVar 2)))) (fRet (fC (.bool false))) fNext) (fSeq (fAsg (fLc (iZ2 false false (fCons (fVar 1) (fCons (fVar 3) fNil))) (sTup 2 (sCons (sName 6) (sCons (sName 4) sNil))) (fC (.bool true)) (fCall0 f__law_plus (fCons (fVar 0) (fCons (fVar 6) (fCons (fVar 4) fNil)))) [6, 4]) (sName 5)) (fRet (fOp oEqA (fLenSet (fVar 5)) (fCb oLen (fCons (fVar 1) fNil)))))))
def f__law_seats : List D → Re := guardN 4 (bodyD b__law_seats 3)
theorem ok__law_seats {f : Addr} {fd : FuncData} (Z : Zs mg) (Z_sorted : mg "sorted" = none) (Z_set : mg "set" = none) (C__law_plus : Cal P w K mg base CX0 1 "_law_plus" ["dials_here", "one", "other"] (SpF ad f__law_plus)) (C__law_is_place : Cal P w K mg base CX0 2 "_law_is_place" ["dials_here", "item"] (SpF ad f__law_is_place)) (F : Fun K "_law_seats" "_law_seats" s__law_seats f fd) : FnOk P w K mg base CX0 3 f fd ["dials_here", "lot", "row", "thing"] (SpF ad f__law_seats) := by
  have sc : FnScope ["dials_here", "lot", "row", "thing", "item", "ends_here", "one"] ["dials_here", "lot", "row", "thing"] (defScope s__law_seats) := ⟨rfl, rfl, rfl, by decide +kernel, rfl, by decide +kernel, by decide +kernel⟩
  refine F.ok sc (fun vs H Q E h => ?_) (fun cdv A outer s H vs Q E hr h => ?_)
  · obtain ⟨G, ds, r, _, hv, e, _⟩ := h
    unfold f__law_seats at e
    exact hv.len.trans (guard_len e)
  · obtain ⟨G, ds, r, wf, hv, e, k⟩ := h
    unfold f__law_seats at e
    refine ⟨_, (pss_cons (ps_if (PW.pt (pw_or (pt_not (pt_val (pe_callB (r := rIsiY K) call_isiY (by rfl) Z.isinstance (by decide +kernel) (pa_cons (pv 3) (pa_cons (pe_bltn (v := .ty "tuple") (u := .type "tuple") (by rfl) Z.tuple (by decide +kernel) rfl) pa_nil))))) (pw_or1 (pt_cmpR op_ne (pe_callB (r := rLenA K) call_len_seq (by rfl) Z.len PySem.boot_len (pa_cons (pv 3) pa_nil)) (pe_callB (r := rLenA K) call_len_seq (by rfl) Z.len PySem.boot_len (pa_cons (pv 1) pa_nil)) (nomark _))))) (pss_one (ps_ret pe_bl)) pss_nil) (pss_cons (ps_if (PW.pt (pw_or (pt_cmpR (r := rNeD K) (op_neD hr.units) (pe_lc (own := [("item", 4)]) (g := gName 4) (tt := _) (by rfl) sc.nd (pi_tup (pv 3)) (blkOk_by (N := ["dials_here", "lot", "row", "thing", "item", "ends_here", "one"]) (sc := defScope s__law_seats) (by decide +kernel)) (fun _ _ _ _ _ => (pg_name (i := 4) sc.nd rfl (Or.inl rfl))) (fun _ _ _ _ _ => (pts_one (pt_not (pt_val (pe_cal C__law_is_place (hr.mono (by decide)) pass0 (pa_cons (pv 0) (pa_cons (pv 4) pa_nil))))))) (fun _ _ _ _ _ => pe_int)) (pe_lst pa_nil) (nomark _)) (pw_or1 (pt_cmpR (r := rNeD K) (op_neD hr.units) (pe_callTy (r := rTupOf K) call_tuple_of (by rfl) Z.tuple (by decide +kernel) (pa_cons (pe_callB (r := rSortD K) (call_sortD hr.units) (by rfl) Z_sorted (by decide +kernel) (pa_cons (pv 3) pa_nil)) pa_nil)) (pv 2) (nomark _))))) (pss_one (ps_ret pe_bl)) pss_nil) (pss_cons (ps_setLc (i := 5) (own := [("one", 6), ("item", 4)]) (g := gTup K 2 (gCons (gName 6) (gCons (gName 4) gNil))) (tt := tYes) (by rfl) sc.nd rfl rfl (sw_true rfl rfl rfl (by decide +kernel)) (pi_zip2 false false (by rfl) Z.zip (pa_cons (pv 1) (pa_cons (pv 3) pa_nil))) (blkOk_by (N := ["dials_here", "lot", "row", "thing", "item", "ends_here", "one"]) (sc := defScope s__law_seats) (by decide +kernel)) (fun _ _ _ _ _ => (pg_tup rfl (pgs_cons (pg_name (i := 6) sc.nd rfl (Or.inl rfl)) (pgs_cons (pg_name (i := 4) sc.nd rfl (Or.inl rfl)) pgs_nil)))) (fun _ _ _ _ _ => pts_nil) (fun _ _ _ _ _ => (pe_cal C__law_plus (hr.mono (by decide)) pass0 (pa_cons (pv 0) (pa_cons (pv 6) (pa_cons (pv 4) pa_nil)))))) (pss_one (ps_ret (pe_cmpR op_eq (pe_callB (r := rLenST K P w) call_lenST (by rfl) Z.len PySem.boot_len (pa_cons (pe_callTy (r := rSetOfT K P w) (cr_setOfT rfl hr.units) (by rfl) Z_set (by decide +kernel) (pa_cons (pv 5) pa_nil)) pa_nil)) (pe_callB (r := rLenA K) call_len_seq (by rfl) Z.len PySem.boot_len (pa_cons (pv 1) pa_nil)) (nomark _))))))), ?_⟩
    exact body_start (k := 4) (n := 3) rfl (hv.len.trans (guard_len e)) (show Ss E ad _ b__law_seats from (u_seq (u_ifS (u_tOr (u_tNot (u_tB (u_isi (c := "tuple") (by decide) u_var))) (u_test (u_op os_neA (u_cb cs_len (u_cons u_var u_nil)) (u_cb cs_len (u_cons u_var u_nil))))) (u_ret (u_c fun _ => .bl false)) u_next) (u_seq (u_ifS (u_tOr (u_test (u_op os_ne (u_lc (i_tup u_var) g_name (u_tNot (u_tB (u_call0 (u_cons u_var (u_cons u_var u_nil))))) (u_c fun _ => .int 1) (by decide)) (u_lst u_nil))) (u_test (u_op os_ne (u_cb cs_tuple (u_cons (u_cb cs_sorted (u_cons u_var u_nil)) u_nil)) u_var))) (u_ret (u_c fun _ => .bl false)) u_next) (u_seq (u_asg (u_lc (i_zip2 (u_cons u_var (u_cons u_var u_nil))) (g_tup (g_cons g_name (g_cons g_name g_nil))) u_yes (u_call0 (u_cons u_var (u_cons u_var (u_cons u_var u_nil)))) (by decide)) g_name) (u_ret (u_op os_eqA (u_lenset u_var) (u_cb cs_len (u_cons u_var u_nil)))))))) wf hv (guard_get e) k
abbrev s__law_prime_dials : Stmt := top 68
def F__law_prime_dials : WS := (wRet (wDraw W__law_pick (wCons (pw (fLc (iL (fLst (fCons (fC (.int 3)) (fCons (fC (.int 5)) (fCons (fC (.int 7)) (fCons (fC (.int 11)) (fCons (fC (.int 13)) (fCons (fC (.int 17)) (fCons (fC (.int 19)) (fCons (fC (.int 23)) fNil)))))))))) (sName 2) (fT (fOp oLe (fVar 2) (fVar 1))) (fTup (fCons (fVar 2) fNil)) [2])) wNil)))
def W__law_prime_dials : List D → Int → (D → Int → Prop) → Prop := bodyW F__law_prime_dials 1 1
theorem ok__law_prime_dials {f : Addr} {fd : FuncData} (C__law_pick : Cal P w K mg base CX0 2 "_law_pick" ["state", "several"] (SpW TL W__law_pick)) (F : Fun K "_law_prime_dials" "_law_prime_dials" s__law_prime_dials f fd) : FnOk P w K mg base CX0 3 f fd ["state", "most"] (SpW TL W__law_prime_dials) := by
  have sc : FnScope ["state", "most", "item"] ["state", "most"] (defScope s__law_prime_dials) := ⟨rfl, rfl, rfl, by decide +kernel, rfl, by decide +kernel, by decide +kernel⟩
  refine F.ok sc (fun vs H Q E h => ?_) (fun cdv A outer s0 H vs Q E hr h => ?_)
  · obtain ⟨G, s, l, c, T, vs2, ds, post, rfl, hv, _, _, _, hb, _⟩ := h
    rw [List.length_cons, hv.len, hb.1]; rfl
  · obtain ⟨G, s, l, c, T, vs2, ds, post, rfl, hv, wd, nt, tb, hb, k⟩ := h
    refine ⟨_, (pss_one (ps_ret (pe_cal C__law_pick (hr.mono (by decide)) pass0 (pa_cons (pv 0) (pa_cons (pe_lc (own := [("item", 2)]) (g := gName 2) (tt := _) (by rfl) sc.nd (pi_list (pe_lst (pa_cons pe_int (pa_cons pe_int (pa_cons pe_int (pa_cons pe_int (pa_cons pe_int (pa_cons pe_int (pa_cons pe_int (pa_cons pe_int pa_nil)))))))))) (blkOk_by (N := ["state", "most", "item"]) (sc := defScope s__law_prime_dials) (by decide +kernel)) (fun _ _ _ _ _ => (pg_name (i := 2) sc.nd rfl (Or.inl rfl))) (fun _ _ _ _ _ => (pts_one (pt_cmpR op_le (pv 2) (pv 1) (nomark _)))) (fun _ _ _ _ _ => (pe_tup (pa_cons (pv 2) pa_nil)))) pa_nil))))), ?_⟩
    exact startW (k := 1) (n := 1) rfl (show Sws (X0 TL) _ F__law_prime_dials from (w_ret (w_draw (w_cons (w_pure (E := fun _ _ _ => False) (ad := fun _ => 0) (u_lc (i_list (u_lst (u_cons (u_c fun _ => .int 3) (u_cons (u_c fun _ => .int 5) (u_cons (u_c fun _ => .int 7) (u_cons (u_c fun _ => .int 11) (u_cons (u_c fun _ => .int 13) (u_cons (u_c fun _ => .int 17) (u_cons (u_c fun _ => .int 19) (u_cons (u_c fun _ => .int 23) u_nil)))))))))) g_name (u_test (u_op os_le u_var u_var)) (u_tup (u_cons u_var u_nil)) (by decide))) w_nil)))) hv wd nt tb hb k
end
end Mv
namespace Mv
open PySem L2 Evl
section
variable {n a b : List Int} {M : Rows}
theorem lplaces_v (hn : n ∈ fewD) : f__law_places [dI n] = some (.val (dL (placesOf n))) := few_V (f := fun n => f__law_places [dI n]) (g := fun n => dL (placesOf n)) (by decide +kernel) hn
theorem lnothing_v (hn : n ∈ fewD) : f__law_nothing [dI n] = some (.val (dI (zeros n))) := few_V (f := fun n => f__law_nothing [dI n]) (g := fun n => dI (zeros n)) (by decide +kernel) hn
theorem lplus_go (X Y Z : Ce) : ∀ {n a b : List Int}, a.length = n.length → b.length = n.length → (∀ s ∈ n, 0 < s) →
    lcGo (sTup 3 (sCons (sName 3) (sCons (sName 4) (sCons (sName 5) sNil)))) (fC (.bool true)) (fOp oMod (fCb oInt (fCons (fOp oAdd (fVar 3) (fVar 4)) fNil)) (fVar 5)) [X, Y, Z, .un, .un, .un] (zipT3 (a.map .int) (b.map .int) (n.map .int)) = some ((addP n a b).map .int)
  | [], [], [], _, _, _ => rfl
  | s :: n, x :: a, y :: b, h1, h2, h3 => by
    have ih := lplus_go X Y Z (n := n) (a := a) (b := b) (by simpa using h1) (by simpa using h2) (fun s hs => h3 s (List.mem_cons_of_mem _ hs))
    have hs : 0 < s := h3 s (List.mem_cons_self ..)
    have e : (fOp oMod (fCb oInt (fCons (fOp oAdd (fVar 3) (fVar 4)) fNil)) (fVar 5)) [X, Y, Z, .d (.int x), .d (.int y), .d (.int s)] = some (.val (.int ((x + y) % s))) := by
      show (match oIc cMod (fun i j => PyData.int (i % j)) (.int (x + y)) (.int s) with | some z => some (Ou.val z) | none => none) = _
      simp [oIc, cMod, hs]
    have e0 : sTup 3 (sCons (sName 3) (sCons (sName 4) (sCons (sName 5) sNil))) (.tuple [.int x, .int y, .int s]) [X, Y, Z, .un, .un, .un] = some [X, Y, Z, .d (.int x), .d (.int y), .d (.int s)] := rfl
    simp only [List.map_cons, zipT3, addP]
    unfold lcGo
    rw [e0]; dsimp only [fC]
    rw [if_pos rfl, e, ih]
theorem lplus_v (hn : n ∈ fewD) (h1 : a.length = n.length) (h2 : b.length = n.length) : f__law_plus [dI n, dI a, dI b] = some (.val (dI (addP n a b))) := by
  refine (guard_of rfl).trans (bodyD_rt (fRet_val ?_))
  rw [fCb_one (fLc_of (as := zipT3 (a.map PyData.int) (b.map .int) (n.map .int)) rfl (zipT3_small (by have := few_l4 hn; omega)) (lplus_go _ _ _ h1 h2 (few_pos hn)))]
  rfl
theorem lwhole_v (d : D) : f__law_is_whole [d] = some (.val (.bool (isNum d))) := by cases d <;> rfl
theorem fine_ones (k : Nat) : fine (.list (List.replicate k (.int 1))) = true := by
  have e : List.replicate k (PyData.int 1) = (List.replicate k (1 : Int)).map PyData.int := by rw [List.map_replicate]
  rw [e]
  unfold fine
  rw [flat_lI, shaped_lI]; rfl
theorem ones_eq {α : Type} (l : List α) : l.map (fun _ => PyData.int 1) = List.replicate l.length (.int 1) := List.map_const' ..
theorem ones_v {α : Type} (l : List α) : oEq (.list (l.map fun _ => .int 1)) (.list []) = some (.bool l.isEmpty) := by
  unfold oEq
  rw [ones_eq, if_pos (by rw [fine_ones]; rfl), eqv_nilD]
  cases l <;> rfl
theorem lisPlace_v (hn : n ∈ fewD) (d : D) : f__law_is_place [dI n, d] = some (.val (.bool (isPlace n d))) := by
  have hl : oLen [dI n] = some (.int (n.length : Nat)) := by show some (PyData.int ((n.map PyData.int).length : Nat)) = _; rw [List.length_map]
  cases d with
  | tuple xs =>
    have hl2 : oLen [.tuple xs] = some (.int (xs.length : Nat)) := rfl
    have ht : isD (.tuple xs) "tuple" = true := rfl
    by_cases hx : xs.length = n.length
    · have hz : (xs.zip n).length ≤ 1000000 := by rw [List.length_zip]; have := few_l4 hn; omega
      have hp := flc_of (src := iZ2 false false (fCons (fVar 1) (fCons (fVar 0) fNil))) (st := sTup 2 (sCons (sName 2) (sCons (sName 3) sNil))) (ft := fOr (fNot (fT (fCall0 f__law_is_whole (fCons (fVar 2) fNil)))) (fNot (fT (fChain oLe oLt (fC (.int 0)) (fVar 2) (fVar 3))))) (fe := fC (.int 1)) (vs := [2, 3])
        (Γ := [.d (dI n), .d (.tuple xs), .un, .un]) (fun q : D × Int => .tuple [q.1, .int q.2]) (fun q => !btw 0 (q.2 - 1) q.1) (fun _ => .int 1) (xs.zip n)
        (by
          show some (Oa.vals (zipT xs (n.map PyData.int))) = _
          have := zipT_map id PyData.int xs n
          rw [List.map_id] at this
          rw [this]; rfl) hz fun q hq => by
          refine ⟨_, rfl, ?_, fun _ => rfl⟩
          obtain ⟨d, s⟩ := q
          have hw := lwhole_v d
          cases d with
          | int i =>
            have e : isNum (.int i) = true := rfl
            show fOr _ _ [.d (dI n), .d (.tuple xs), .d (.int i), .d (.int s)] = _
            simp only [guardN, bodyD, fSeq, fAsg, fAsgM, fApp, fRet, fRetN, fDrop, fIfS, fNext, fRaise, fIf, fAnd, fOr, fNot, fT, bo, bnd, bndA, rB, fCall0, noEx, fCall, fCallP, permL, fCons, fNil, fTup, fLst, lim, fCb, ret, fOp, fUn, fVar, fC, fIsi, fIsiLT, isLT, fChain, fLk, fLkB, fLkM, fRevL, fSet2, fFrz, lockL, lockG, lkC, sName, sTup, sCons, sNil, wipeC, List.map_cons, List.map_nil, List.replicate_succ, List.replicate_zero, List.cons_append, List.nil_append, List.getElem?_cons_zero, List.getElem?_cons_succ, List.set_cons_zero, List.set_cons_succ, List.length_cons, List.length_nil, Nat.beq_refl, Nat.reduceAdd, Nat.reduceLeDiff, Nat.reduceEqDiff, Nat.zero_add, if_true, if_false, Bool.false_eq_true, reduceIte, Bool.not_true, Bool.not_false, small_few0, small_few1, small_few2, small_few3, hw, e, oLe, oLt, oI, btw]
            by_cases h1 : (0 : Int) ≤ i
            · have e2 : decide (i < s) = decide (i ≤ s - 1) := decide_eq_decide.mpr (by omega)
              simp [h1, e2, rB]
            · simp [h1, rB]
          | _ => rfl
      have hb := ones_v ((xs.zip n).filter fun q => !btw 0 (q.2 - 1) q.1)
      have hne : oNeA (.int (xs.length : Nat)) (.int (n.length : Nat)) = some (.bool false) := by unfold oNeA; simp [hx]
      simp only [f__law_is_place, b__law_is_place, guardN, bodyD, fSeq, fAsg, fAsgM, fApp, fRet, fRetN, fDrop, fIfS, fNext, fRaise, fIf, fAnd, fOr, fNot, fT, bo, bnd, bndA, rB, fCall0, noEx, fCall, fCallP, permL, fCons, fNil, fTup, fLst, lim, fCb, ret, fOp, fUn, fVar, fC, fIsi, fIsiLT, isLT, fChain, fLk, fLkB, fLkM, fRevL, fSet2, fFrz, lockL, lockG, lkC, sName, sTup, sCons, sNil, wipeC, List.map_cons, List.map_nil, List.replicate_succ, List.replicate_zero, List.cons_append, List.nil_append, List.getElem?_cons_zero, List.getElem?_cons_succ, List.set_cons_zero, List.set_cons_succ, List.length_cons, List.length_nil, Nat.beq_refl, Nat.reduceAdd, Nat.reduceLeDiff, Nat.reduceEqDiff, Nat.zero_add, if_true, if_false, Bool.false_eq_true, reduceIte, Bool.not_true, Bool.not_false, small_few0, small_few1, small_few2, small_few3, hl, hl2, ht, hne, hp, hb]
      have e3 : ((xs.zip n).filter fun q => !btw 0 (q.2 - 1) q.1).isEmpty = (xs.zip n).all fun q => btw 0 (q.2 - 1) q.1 := by
        rw [Bool.eq_iff_iff]
        simp [List.isEmpty_iff, List.filter_eq_nil_iff, List.all_eq_true]
      rw [e3]
      simp [isPlace, hx]
    · have hne : oNeA (.int (xs.length : Nat)) (.int (n.length : Nat)) = some (.bool true) := by unfold oNeA; simp; omega
      simp only [f__law_is_place, b__law_is_place, guardN, bodyD, fSeq, fAsg, fAsgM, fApp, fRet, fRetN, fDrop, fIfS, fNext, fRaise, fIf, fAnd, fOr, fNot, fT, bo, bnd, bndA, rB, fCall0, noEx, fCall, fCallP, permL, fCons, fNil, fTup, fLst, lim, fCb, ret, fOp, fUn, fVar, fC, fIsi, fIsiLT, isLT, fChain, fLk, fLkB, fLkM, fRevL, fSet2, fFrz, lockL, lockG, lkC, sName, sTup, sCons, sNil, wipeC, List.map_cons, List.map_nil, List.replicate_succ, List.replicate_zero, List.cons_append, List.nil_append, List.getElem?_cons_zero, List.getElem?_cons_succ, List.set_cons_zero, List.set_cons_succ, List.length_cons, List.length_nil, Nat.beq_refl, Nat.reduceAdd, Nat.reduceLeDiff, Nat.reduceEqDiff, Nat.zero_add, if_true, if_false, Bool.false_eq_true, reduceIte, Bool.not_true, Bool.not_false, small_few0, small_few1, small_few2, small_few3, hl, hl2, ht, hne]
      simp [isPlace, hx]
  | _ => rfl
end
end Mv
namespace Mv
open PySem L2 Evl
section
variable {n a b : List Int} {T : Int} {post : D → Int → Prop}
theorem ixL_nat (as : List D) (i : Nat) : oIxL (.list as) (.int (i : Int)) = as[i]? := by
  show (ixD as (i : Int)) = _
  unfold ixD
  rw [if_pos (by omega)]; rfl
theorem wpick_v {as : List D} (h0 : as ≠ []) (hl : as.length < 1000000) (hT : T < 1000000000000) (h : ∀ d ∈ as, post d (T + 1)) : W__law_pick [.list as] T post := by
  refine bodyW_of rfl fun s => ?_
  have e : oLen [.list as] = some (.int (as.length : Nat)) := rfl
  have p0 : 0 < as.length := List.length_pos_iff.mpr h0
  simp only [F__law_pick, wSeq, wRet, wOp, wAsg, wTup, wLst, wCons, wNil, wDraw, wCb, wIf, wT, wAnd, wOr, wNot, wSl, wIfS, wNext, wDrop, wFrz, wApp, wAsgL, wCall, wOrV, wAndV, wNotV, wR1, wIL, wIT, wZ2, pw, pwb, pwa, guardN, bodyD, fSeq, fAsg, fAsgM, fApp, fRet, fRetN, fDrop, fIfS, fNext, fRaise, fIf, fAnd, fOr, fNot, fT, bo, bnd, bndA, rB, fCall0, noEx, fCall, fCallP, permL, fCons, fNil, fTup, fLst, lim, fCb, ret, fOp, fUn, fVar, fC, fIsi, fIsiLT, isLT, fChain, fLk, fLkB, fLkM, fRevL, fSet2, fFrz, lockL, lockG, lkC, sName, sTup, sCons, sNil, wipeC, List.map_cons, List.map_nil, List.replicate_succ, List.replicate_zero, List.cons_append, List.nil_append, List.getElem?_cons_zero, List.getElem?_cons_succ, List.set_cons_zero, List.set_cons_succ, List.length_cons, List.length_nil, Nat.beq_refl, Nat.reduceAdd, Nat.reduceLeDiff, Nat.reduceEqDiff, Nat.zero_add, if_true, if_false, Bool.false_eq_true, reduceIte, Bool.not_true, Bool.not_false, small_few0, small_few1, small_few2, small_few3, e]
  refine draw_of (by omega) (by omega) hT fun r hr => ?_
  rw [ixL_nat, List.getElem?_eq_getElem (by omega)]
  exact h _ (List.getElem_mem _)
theorem place_go (s : Addr) (z : D) : ∀ (n : List Int) (T : Int) (post : List D → Int → Prop), (∀ x ∈ n, 0 < x ∧ x ≤ 1000) → T + n.length < 1000000000000 → (∀ p, InP p n → post (p.map PyData.int) (T + n.length)) →
    lcW (sName 2) (pwb (fC (.bool true))) (wDraw W__law_draw (wCons (pw (fVar 2)) wNil)) [.fx (.ref s), .d z, .un] (n.map PyData.int) T post
  | [], T, post, _, _, h => by have := h [] .nil; simpa [lcW] using this
  | x :: n, T, post, hx, hT, h => by
    have hx0 := hx x (List.mem_cons_self ..)
    rw [List.length_cons] at hT
    rw [List.map_cons]
    refine (show W__law_draw [.int x] T (fun d T2 => lcW (sName 2) (pwb (fC (.bool true))) (wDraw W__law_draw (wCons (pw (fVar 2)) wNil)) [.fx (.ref s), .d z, .un] (n.map PyData.int) T2 fun ds T3 => post (d :: ds) T3) from ?_)
    refine draw_of hx0.1 (by omega) (by omega) fun r hr => ?_
    refine place_go s z n (T + 1) _ (fun y hy => hx y (List.mem_cons_of_mem _ hy)) (by omega) fun p hp => ?_
    have := h ((r : Int) :: p) (.cons (by omega) hr hp)
    rw [List.length_cons] at this
    rw [show T + 1 + (n.length : Int) = T + ((n.length + 1 : Nat) : Int) from by omega]
    exact this
theorem wplace_v (hn : n ∈ fewD) (hT : T < 100000000000) (h : ∀ p T', p ∈ placesOf n → T ≤ T' → T' ≤ T + 10 → post (dI p) T') : W__law_place [dI n] T post := by
  refine bodyW_of rfl fun s => ?_
  have l4 := few_l4 hn
  unfold F__law_place
  refine wRet_of (wCb_of (wCons_of (wLc_of (as := n.map PyData.int) rfl ?_ ?_)))
  · rw [List.length_map]; omega
  · refine place_go s (dI n) n T _ (fun x hx => by have := (few_okd hn).sz x hx; omega) (by omega) fun p hp => ?_
    exact h p _ hp.mem (by omega) (by omega)
end
end Mv
namespace Mv
open PySem L2 Evl
section
variable {n a b : List Int} {P : Rows} {f g : List Int → List Int}
theorem map_fst_zip (f : List Int → List Int) : ∀ P : Rows, P.zip (P.map f) = P.map fun p => (p, f p)
  | [] => rfl
  | p :: P => by rw [List.map_cons, List.zip_cons_cons, List.map_cons, map_fst_zip f P]
theorem zeros_mem (hn : n ∈ fewD) : zeros n ∈ placesOf n := (zeros_in (few_pos hn)).mem
def e2 (q : List Int × List Int) : D := .tuple [dI q.1, dI q.2]
end
end Mv
namespace Mv
open PySem L2 Evl
section
variable {n : List Int} {B : Bg}
end
end Mv
namespace Mv
open PySem L2 Evl
section
variable {n m : List Int}
theorem mulP_zip : ∀ {n p : List Int} {k : Int}, p.length = n.length → mulP n p k = (p.zip n).map fun q => (q.1 * k) % q.2
  | [], [], _, _ => rfl
  | s :: n, x :: p, k, h => by
    have := mulP_zip (n := n) (p := p) (k := k) (by simpa using h)
    simp [mulP, this]
  | [], _ :: _, _, h => by simp at h
  | _ :: _, [], _, h => by simp at h
theorem multiply_v (hn : n ∈ fewD) {p : List Int} {k : Int} (hp : p.length = n.length) (k1 : 0 ≤ k) (k2 : k ≤ 1000) : f_multiply [dI n, dI p, .int k] = some (.val (dI (mulP n p k))) := by
  have h4 := few_l4 hn
  have hl := flc_map (src := iZ2 false false (fCons (fVar 1) (fCons (fVar 0) fNil))) (st := sTup 2 (sCons (sName 3) (sCons (sName 4) sNil))) (fe := fOp oMod (fOp oMul (fVar 3) (fVar 2)) (fVar 4)) (ft := fC (.bool true)) (vs := [3, 4])
    (Γ := [.d (dI n), .d (dI p), .d (.int k), .un, .un]) (fun q : Int × Int => .tuple [.int q.1, .int q.2]) (fun q => .int ((q.1 * k) % q.2)) (p.zip n)
    (by show some (Oa.vals (zipT (p.map PyData.int) (n.map PyData.int))) = _; rw [zipT_map]) (by rw [List.length_zip]; omega) fun q hq => by
    have hs : 0 < q.2 := few_pos hn _ (List.of_mem_zip hq).2
    refine ⟨_, rfl, rfl, ?_⟩
    have hc : cMul q.1 k = true := by
      unfold cMul
      rw [Bool.or_eq_true]
      right
      rw [Bool.and_eq_true]
      exact ⟨decide_eq_true (by omega), decide_eq_true (by omega)⟩
    have e1 : oMul (.int q.1) (.int k) = some (.int (q.1 * k)) := by
      show (if cMul q.1 k = true then some (PyData.int (q.1 * k)) else none) = _
      rw [if_pos hc]
    have e2 : oMod (.int (q.1 * k)) (.int q.2) = some (.int (q.1 * k % q.2)) := by
      show (if cMod (q.1 * k) q.2 = true then some (PyData.int (q.1 * k % q.2)) else none) = _
      rw [if_pos (show cMod (q.1 * k) q.2 = true from decide_eq_true hs)]
    show fOp oMod (fOp oMul (fVar 3) (fVar 2)) (fVar 4) [.d (dI n), .d (dI p), .d (.int k), .d (.int q.1), .d (.int q.2)] = _
    simp only [guardN, bodyD, fSeq, fAsg, fAsgM, fApp, fRet, fRetN, fDrop, fIfS, fNext, fRaise, fIf, fAnd, fOr, fNot, fT, bo, bnd, bndA, rB, fCall0, noEx, fCall, fCallP, permL, fCons, fNil, fTup, fLst, lim, fCb, ret, fOp, fUn, fVar, fC, fIsi, fIsiLT, isLT, fChain, fLk, fLkB, fLkM, fRevL, fSet2, fFrz, lockL, lockG, lkC, sName, sTup, sCons, sNil, wipeC, List.map_cons, List.map_nil, List.replicate_succ, List.replicate_zero, List.cons_append, List.nil_append, List.getElem?_cons_zero, List.getElem?_cons_succ, List.set_cons_zero, List.set_cons_succ, List.length_cons, List.length_nil, Nat.beq_refl, Nat.reduceAdd, Nat.reduceLeDiff, Nat.reduceEqDiff, Nat.zero_add, if_true, if_false, Bool.false_eq_true, reduceIte, Bool.not_true, Bool.not_false, small_few0, small_few1, small_few2, small_few3, e1, e2]
  have ht : oTuple [.list ((p.zip n).map fun q => .int ((q.1 * k) % q.2))] = some (dI (mulP n p k)) := by
    rw [mulP_zip hp]
    show some (PyData.tuple _) = some (PyData.tuple _)
    rw [List.map_map]; rfl
  simp only [f_multiply, b_multiply, guardN, bodyD, fSeq, fAsg, fAsgM, fApp, fRet, fRetN, fDrop, fIfS, fNext, fRaise, fIf, fAnd, fOr, fNot, fT, bo, bnd, bndA, rB, fCall0, noEx, fCall, fCallP, permL, fCons, fNil, fTup, fLst, lim, fCb, ret, fOp, fUn, fVar, fC, fIsi, fIsiLT, isLT, fChain, fLk, fLkB, fLkM, fRevL, fSet2, fFrz, lockL, lockG, lkC, sName, sTup, sCons, sNil, wipeC, List.map_cons, List.map_nil, List.replicate_succ, List.replicate_zero, List.cons_append, List.nil_append, List.getElem?_cons_zero, List.getElem?_cons_succ, List.set_cons_zero, List.set_cons_succ, List.length_cons, List.length_nil, Nat.beq_refl, Nat.reduceAdd, Nat.reduceLeDiff, Nat.reduceEqDiff, Nat.zero_add, if_true, if_false, Bool.false_eq_true, reduceIte, Bool.not_true, Bool.not_false, small_few0, small_few1, small_few2, small_few3, hl, ht]
theorem count_places (hn : n ∈ fewD) : f_place_count [dI n] = some (.val (.int ((placesOf n).length : Nat))) := few_V (f := fun n => f_place_count [dI n]) (g := fun n => .int ((placesOf n).length : Nat)) (by decide +kernel) hn
end
end Mv
namespace Mv
open PySem L2 Evl
section
variable {n p : List Int} {T : Int} {post : D → Int → Prop} {Γ : En} {fe : En → Re} {fl fh : En → Option (Option Int)} {k : Bool} {ds : List D}
theorem sqOf_sq (k : Bool) (ds : List D) : sqOf k (sq k ds) = some ds := by cases k <;> rfl
theorem sl_lo (j : Nat) (h : fe Γ = some (.val (sq k ds))) (hh : fh Γ = some (some (j : Int))) (hj : j ≤ ds.length) : fSl k fe pNone fh Γ = some (.val (sq k (ds.take j))) := by
  unfold fSl
  rw [h]; dsimp only
  rw [sqOf_sq, hh]
  show some (Ou.val (sq k (cutD ds none (some (j : Int))))) = _
  rw [cut_lo j hj]
theorem sl_hi (j : Nat) (h : fe Γ = some (.val (sq k ds))) (hl : fl Γ = some (some (j : Int))) (hj : j ≤ ds.length) : fSl k fe fl pNone Γ = some (.val (sq k (ds.drop j))) := by
  unfold fSl
  rw [h]; dsimp only
  rw [sqOf_sq, hl]
  show some (Ou.val (sq k (cutD ds (some (j : Int)) none))) = _
  rw [cut_hi j hj]
theorem cat_v {xs ys : List D} (h : xs.length + ys.length ≤ 1000) : oCatT (.tuple xs) (.tuple ys) = some (.tuple (xs ++ ys)) := by
  show (if small (xs.length + ys.length) = true then some (PyData.tuple (xs ++ ys)) else none) = _
  rw [if_pos (small_of h)]
end
end Mv
namespace Mv
open PySem L2 Evl
end Mv
namespace Mv
open PySem L2 Evl
section
variable {n : List Int} {B : Bg} {T : Int} {post : D → Int → Prop}
theorem cut_to (ds : List D) (i : Nat) : cutD ds none (some (i : Int)) = ds.take i := by
  unfold cutD
  rw [HT.sIx_none, HT.sIx_nat, Nat.sub_zero, List.drop_zero]
  by_cases h : i ≤ ds.length
  · rw [Nat.min_eq_left h]
  · (rw [Nat.min_eq_right (by omega), List.take_of_length_le (Nat.le_refl _), List.take_of_length_le (by omega)])
theorem perm_rows {P : Rows} {bs : List D} (h : bs.Perm (P.map dI)) : ∃ S : Rows, bs = S.map dI ∧ S.Perm P := by
  have e : bs = (bs.map rowD).map dI := by
    rw [List.map_map]
    conv => lhs; rw [← List.map_id bs]
    refine List.map_congr_left fun d hd => ?_
    obtain ⟨p, _, rfl⟩ := List.mem_map.mp (h.mem_iff.mp hd)
    show dI p = dI (rowD (dI p))
    rw [rowD_dI]
  refine ⟨_, e, ?_⟩
  have := h.map rowD
  rw [rowsD_dI] at this
  exact this
theorem wSl_of {k : Bool} {Fa Fb : WE} {Γ : En} (h : Fa Γ T fun z T1 => match sqOf k z with | some ds => Fb Γ T1 fun h T2 => (match h with | .int i => post (sq k (cutD ds none (some i))) T2 | _ => False) | none => False) : wSl k Fa Fb Γ T post := h
theorem forW_go {st : Fs} {F1 : WS} {nx : En → Int → Prop} {rt : D → Int → Prop} (I : Nat → En → Int → Prop) : ∀ (as : List D) (k : Nat) (Γ : En) (T : Int), I k Γ T → (∀ (i : Nat) (a : D) (Γ : En) (T : Int) (nx' : En → Int → Prop), as[i]? = some a → I (k + i) Γ T → (∀ Γ2 T2, I (k + i + 1) Γ2 T2 → nx' Γ2 T2) → ∃ Γ1, st a Γ = some Γ1 ∧ F1 Γ1 T nx' rt) →
    (∀ Γ T, I (k + as.length) Γ T → nx Γ T) → forWGo st F1 as Γ T nx rt
  | [], k, Γ, T, h0, _, he => he Γ T h0
  | a :: as, k, Γ, T, h0, h, he => by
    obtain ⟨Γ1, h1, h2⟩ := h 0 a Γ T (fun Γ2 T2 => forWGo st F1 as Γ2 T2 nx rt) rfl h0 fun Γ2 T2 hI => forW_go I as (k + 1) Γ2 T2 hI (fun i b Γ T nx' e hp hq => by
        refine h (i + 1) b Γ T nx' e (by rw [show k + (i + 1) = k + 1 + i from by omega]; exact hp) fun Γ2 T2 hr => hq Γ2 T2 ?_
        rw [show k + 1 + i + 1 = k + (i + 1) + 1 from by omega]; exact hr) fun Γ T hI => he Γ T (by rw [List.length_cons, show k + (as.length + 1) = k + 1 + as.length from by omega]; exact hI)
    show (match st a Γ with | some Γ1 => F1 Γ1 T (fun Γ2 T2 => forWGo st F1 as Γ2 T2 nx rt) rt | none => False)
    rw [h1]; exact h2
theorem mixed_v {R : Rows} (h1 : R.length ≤ 1000) (hT : T < 100000000000) (h : ∀ S : Rows, S.Perm R → post (dL S) (T + R.length)) : W__law_mixed [dL R] T post := by
  refine ⟨R.map dI, true, rfl, shaped_rowsL R, flat_rows R, by rw [List.length_map]; omega, by rw [List.length_map]; omega, fun bs hb => ?_⟩
  obtain ⟨S, rfl, hS⟩ := perm_rows hb
  rw [List.length_map]
  exact h S hS
end
section
variable {n : List Int} {B : Bg} {Γ : En} {fe : En → Re}
end
end Mv
namespace Mv
open PySem L2
section
variable {n : List Int}
def fdF (n : List Int) : Rows → Rows → Rows → Option Rows
  | [], _, _ => some []
  | p :: P, left, taken => (List.range left.length).findSome? fun i => match left[i]? with
    | some m => if m ∉ left.take i ∧ addP n p m ∉ taken then (fdF n P (left.take i ++ left.drop (i + 1)) (taken ++ [addP n p m])).map (m :: ·) else none
    | none => none
def endsF (n : List Int) (P M : Rows) : Rows := (P.zip M).map fun q => addP n q.1 q.2
structure SeatF (n : List Int) (P left taken M : Rows) : Prop where
  len : M.length = P.length
  sub : ∃ rest, (M ++ rest).Perm left
  nd : (endsF n P M).Nodup
  fr : ∀ e ∈ endsF n P M, e ∉ taken
theorem take_out {α : Type} : ∀ {l : List α} {i : Nat} {m : α}, l[i]? = some m → (m :: (l.take i ++ l.drop (i + 1))).Perm l
  | [], _, _, h => by simp at h
  | x :: l, 0, m, h => by
    have : x = m := by simpa using h
    subst this
    simp
  | x :: l, i + 1, m, h => by
    have ih := take_out (l := l) (i := i) (m := m) (by simpa using h)
    rw [List.take_succ_cons, List.drop_succ_cons, List.cons_append]
    exact (List.Perm.swap x m _).trans (ih.cons x)
theorem first_at {α : Type} [DecidableEq α] : ∀ {l : List α} {m : α}, m ∈ l → ∃ i, l[i]? = some m ∧ m ∉ l.take i ∧ i < l.length
  | [], _, h => by cases h
  | x :: l, m, h => by
    by_cases e : x = m
    · exact ⟨0, by rw [e]; rfl, by simp, by simp⟩
    · obtain ⟨i, h1, h2, h3⟩ := first_at ((List.mem_cons.mp h).resolve_left (Ne.symm e))
      refine ⟨i + 1, by simpa using h1, ?_, by simpa using h3⟩
      rw [List.take_succ_cons]
      intro z
      rcases (List.mem_cons.mp z) with z | z
      · exact e z.symm
      · exact h2 z
theorem fd_sound : ∀ (P left taken M : Rows), fdF n P left taken = some M → SeatF n P left taken M
  | [], left, taken, M, h => by
    cases h
    exact ⟨rfl, ⟨left, .refl _⟩, .nil, fun e h => by cases h⟩
  | p :: P, left, taken, M, h => by
    unfold fdF at h
    obtain ⟨i, _, hi⟩ := List.exists_of_findSome?_eq_some h
    split at hi
    · rename_i m hm
      split at hi
      · rename_i hc
        obtain ⟨R, hR, rfl⟩ := Option.map_eq_some_iff.mp hi
        have ih := fd_sound P _ _ R hR
        obtain ⟨rest, hr⟩ := ih.sub
        refine ⟨by rw [List.length_cons, List.length_cons, ih.len], ⟨rest, (hr.cons m).trans (take_out hm)⟩, ?_, ?_⟩
        · show (addP n p m :: endsF n P R).Nodup
          refine List.nodup_cons.mpr ⟨fun z => ih.fr _ z (List.mem_append_right _ (List.mem_singleton.mpr rfl)), ih.nd⟩
        · intro e he
          rcases List.mem_cons.mp (show e ∈ addP n p m :: endsF n P R from he) with rfl | he
          · exact hc.2
          · exact fun z => ih.fr e he (List.mem_append_left _ z)
      · cases hi
    · cases hi
theorem fd_complete : ∀ (P left taken M : Rows), SeatF n P left taken M → (fdF n P left taken).isSome = true
  | [], _, _, _, _ => rfl
  | p :: P, left, taken, M, h => by
    match M, h with
    | [], h => cases h.len
    | m :: M, h =>
      obtain ⟨rest, hr⟩ := h.sub
      have hm : m ∈ left := hr.mem_iff.mp (List.mem_cons_self ..)
      obtain ⟨i, h1, h2, h3⟩ := first_at hm
      have nd : (addP n p m :: endsF n P M).Nodup := h.nd
      have fr : ∀ e ∈ addP n p m :: endsF n P M, e ∉ taken := h.fr
      have ih := fd_complete P (left.take i ++ left.drop (i + 1)) (taken ++ [addP n p m]) M ⟨by simpa using h.len, ⟨rest, (hr.trans (take_out h1).symm).cons_inv⟩, (List.nodup_cons.mp nd).2, fun e he z => by
        rcases List.mem_append.mp z with z | z
        · exact fr e (List.mem_cons_of_mem _ he) z
        · rw [List.mem_singleton.mp z] at he
          exact (List.nodup_cons.mp nd).1 he⟩
      unfold fdF
      rw [List.findSome?_isSome_iff]
      refine ⟨i, List.mem_range.mpr h3, ?_⟩
      rw [h1]; dsimp only
      rw [if_pos ⟨h2, fr _ (List.mem_cons_self ..)⟩, Option.isSome_map]
      exact ih
def dictF (n p : List Int) (row : Rows) : List (KK × D) := madeD (fun _ => true) (fun m => kI m) (fun m => dI (addP n p m)) row
theorem lkD_put (es : List (KK × D)) (k j : KK) (d : D) : lkD (putD es k d) j = if k = j then some d else lkD es j := by
  unfold putD lkD
  by_cases hk : (es.any fun e => decide (e.1 = k)) = true
  · rw [if_pos hk]
    obtain ⟨e0, he0, hk0⟩ := List.any_eq_true.mp hk
    have hk0 := of_decide_eq_true hk0
    clear hk
    induction es with
    | nil => cases he0
    | cons e es ih =>
      rw [List.map_cons, List.find?_cons, List.find?_cons]
      by_cases e1 : e.1 = k
      · rw [if_pos e1]
        by_cases e2 : k = j
        · subst e2
          simp [e1]
        · have : decide ((k, d).1 = j) = false := decide_eq_false e2
          rw [e1]
          simp only [this, if_neg e2]
          by_cases hm : e0 ∈ es
          · have := ih hm
            rw [if_neg e2] at this
            exact this
          · have : ∀ x ∈ es, True := fun _ _ => trivial
            clear this
            have key : ∀ l : List (KK × D), ((l.map fun e => if e.1 = k then (e.1, d) else e).find? fun e => decide (e.1 = j)).map (·.2) = (l.find? fun e => decide (e.1 = j)).map (·.2) := fun l => by
              induction l with
              | nil => rfl
              | cons x l ih =>
                rw [List.map_cons, List.find?_cons, List.find?_cons]
                by_cases x1 : x.1 = k
                · rw [if_pos x1, x1]
                  have : decide ((k, d).1 = j) = false := decide_eq_false e2
                  simp only [this]
                  exact ih
                · rw [if_neg x1]
                  split
                  · rfl
                  · exact ih
            exact key es
      · rw [if_neg e1]
        by_cases e3 : e.1 = j
        · have ne : k ≠ j := fun z => e1 (by rw [e3, z])
          simp only [decide_eq_true e3, if_neg ne]
        · simp only [decide_eq_false e3]
          refine ih ?_
          rcases List.mem_cons.mp he0 with z | z
          · exact (e1 (by rw [← z]; exact hk0)).elim
          · exact z
  · rw [if_neg hk, List.find?_append]
    have hn : ∀ e ∈ es, e.1 ≠ k := fun e he z => hk (List.any_eq_true.mpr ⟨e, he, decide_eq_true z⟩)
    by_cases e2 : k = j
    · subst e2
      have : es.find? (fun e => decide (e.1 = k)) = none := List.find?_eq_none.mpr fun e he => by simpa using hn e he
      rw [this]
      simp
    · rw [if_neg e2]
      cases hf : es.find? (fun e => decide (e.1 = j)) with
      | some x => rfl
      | none =>
        simp [e2]
theorem dict_lk {p : List Int} {row : Rows} {m : List Int} (h : m ∈ row) : lkD (dictF n p row) (kI m) = some (dI (addP n p m)) := by
  have key : ∀ (l : Rows) (acc : List (KK × D)), (m ∈ l ∨ lkD acc (kI m) = some (dI (addP n p m))) → lkD (l.foldl (fun es x => putD es (kI x) (dI (addP n p x))) acc) (kI m) = some (dI (addP n p m)) := fun l => by
    induction l with
    | nil => intro acc h; exact h.resolve_left (fun z => by cases z)
    | cons x l ih =>
      intro acc h
      refine ih _ ?_
      rcases h with h | h
      · rcases (List.mem_cons.mp h) with rfl | h
        · exact .inr (by rw [lkD_put, if_pos rfl])
        · exact .inl h
      · refine .inr ?_
        rw [lkD_put]
        split
        · rename_i e
          rw [kI_inj e]
        · exact h
  unfold dictF madeD
  rw [List.filter_eq_self.mpr fun _ _ => rfl]
  exact key row [] (.inl h)
end
end Mv
namespace Mv
open PySem L2 Evl
section
variable {n p : List Int} {P R L M : Rows} {k : Nat} {Γ : En}
theorem placeL_ex : ∀ {n : List Int} {xs : List D}, xs.length = n.length → ((xs.zip n).all fun q => btw 0 (q.2 - 1) q.1) = true → ∃ p : List Int, xs = p.map PyData.int ∧ InP p n
  | [], [], _, _ => ⟨[], rfl, .nil⟩
  | s :: n, x :: xs, h1, h2 => by
    rw [List.zip_cons_cons, List.all_cons, Bool.and_eq_true] at h2
    obtain ⟨p, e, i⟩ := placeL_ex (n := n) (xs := xs) (by simpa using h1) h2.2
    cases x with
    | int v =>
      have hb : (decide (0 ≤ v) && decide (v ≤ s - 1)) = true := h2.1
      rw [Bool.and_eq_true, decide_eq_true_eq, decide_eq_true_eq] at hb
      exact ⟨v :: p, by rw [e]; rfl, .cons hb.1 (by omega) i⟩
    | _ => cases h2.1
theorem isPlaceL_ex {d : D} (h : isPlace n d = true) : ∃ p, p ∈ placesOf n ∧ d = dI p := by
  cases d with
  | tuple xs =>
    have h' : (decide (xs.length = n.length) && (xs.zip n).all fun q => btw 0 (q.2 - 1) q.1) = true := h
    rw [Bool.and_eq_true, decide_eq_true_eq] at h'
    obtain ⟨p, e, i⟩ := placeL_ex h'.1 h'.2
    exact ⟨p, i.mem, by rw [e]; rfl⟩
  | _ => cases h
theorem rows_ex : ∀ {xs : List D}, xs.all (isPlace n) = true → ∃ R : Rows, xs = R.map dI ∧ ∀ p ∈ R, p ∈ placesOf n
  | [], _ => ⟨[], rfl, fun _ h => nomatch h⟩
  | x :: xs, h => by
    rw [List.all_cons, Bool.and_eq_true] at h
    obtain ⟨p, hp, rfl⟩ := isPlaceL_ex h.1
    obtain ⟨R, rfl, hR⟩ := rows_ex h.2
    exact ⟨p :: R, rfl, fun z hz => by rcases List.mem_cons.mp hz with rfl | hz; exact hp; exact hR z hz⟩
theorem all_rows (hn : n ∈ fewD) (h : ∀ p ∈ R, p ∈ placesOf n) : (R.map dI).all (isPlace n) = true := by
  rw [List.all_eq_true]
  intro d hd
  obtain ⟨p, hp, rfl⟩ := List.mem_map.mp hd
  exact inP_place (few_inP hn (h p hp))
theorem arePl_v (hn : n ∈ fewD) {xs : List D} (hx : xs.length ≤ 1000000) : f_are_places [dI n, .tuple xs] = some (.val (.bool (xs.all (isPlace n)))) := by
  have := arePlacesT_v hn hx
  exact this
def isRise (M : Rows) : Bool := ((M.zip (M.drop 1)).map fun q => HT.lexLt q.1 q.2).all id
theorem rise_v (h : M.length ≤ 1000) : f_is_rising [dT M] = some (.val (.bool (isRise M))) := by
  have hz : (M.zip (M.drop 1)).length ≤ 1000000 := by rw [List.length_zip]; omega
  have hp := flc_map (src := iZ2 false false (fCons (fVar 0) (fCons (fSl false (fVar 0) (pSome (fC (.int 1))) pNone) fNil))) (st := sTup 2 (sCons (sName 1) (sCons (sName 2) sNil))) (ft := fC (.bool true)) (fe := fOp oLtT (fVar 1) (fVar 2)) (vs := [1, 2])
    (Γ := [.d (dT M), .un, .un]) (fun q : List Int × List Int => .tuple [dI q.1, dI q.2]) (fun q => .bool (HT.lexLt q.1 q.2)) (M.zip (M.drop 1))
    (by
      have h1 : fSl false (fVar 0) (pSome (fC (.int 1))) pNone [.d (dT M), .un, .un] = some (.val (.tuple (M.tail.map dI))) := by rw [slT_v (ds := M.map dI) rfl, tail_map]
      simp only [iZ2, guardN, bodyD, fSeq, fAsg, fAsgM, fApp, fRet, fRetN, fDrop, fIfS, fNext, fRaise, fIf, fAnd, fOr, fNot, fT, bo, bnd, bndA, rB, fCall0, noEx, fCall, fCallP, permL, fCons, fNil, fTup, fLst, lim, fCb, ret, fOp, fUn, fVar, fC, fIsi, fIsiLT, isLT, fChain, fLk, fLkB, fLkM, fRevL, fSet2, fFrz, lockL, lockG, lkC, sName, sTup, sCons, sNil, wipeC, List.map_cons, List.map_nil, List.replicate_succ, List.replicate_zero, List.cons_append, List.nil_append, List.getElem?_cons_zero, List.getElem?_cons_succ, List.set_cons_zero, List.set_cons_succ, List.length_cons, List.length_nil, Nat.beq_refl, Nat.reduceAdd, Nat.reduceLeDiff, Nat.reduceEqDiff, Nat.zero_add, if_true, if_false, Bool.false_eq_true, reduceIte, Bool.not_true, Bool.not_false, small_few0, small_few1, small_few2, small_few3, h1]
      rw [List.drop_one, ← zipPl]; rfl) hz fun q hq => by
      refine ⟨_, rfl, rfl, ?_⟩
      show ret (match intsOf (q.1.map PyData.int), intsOf (q.2.map PyData.int) with | some is, some js => some (PyData.bool (HT.lexLt is js)) | _, _ => none) = _
      rw [of_ints, of_ints]; rfl
  simp only [f_is_rising, b_is_rising, guardN, bodyD, fSeq, fAsg, fAsgM, fApp, fRet, fRetN, fDrop, fIfS, fNext, fRaise, fIf, fAnd, fOr, fNot, fT, bo, bnd, bndA, rB, fCall0, noEx, fCall, fCallP, permL, fCons, fNil, fTup, fLst, lim, fCb, ret, fOp, fUn, fVar, fC, fIsi, fIsiLT, isLT, fChain, fLk, fLkB, fLkM, fRevL, fSet2, fFrz, lockL, lockG, lkC, sName, sTup, sCons, sNil, wipeC, List.map_cons, List.map_nil, List.replicate_succ, List.replicate_zero, List.cons_append, List.nil_append, List.getElem?_cons_zero, List.getElem?_cons_succ, List.set_cons_zero, List.set_cons_succ, List.length_cons, List.length_nil, Nat.beq_refl, Nat.reduceAdd, Nat.reduceLeDiff, Nat.reduceEqDiff, Nat.zero_add, if_true, if_false, Bool.false_eq_true, reduceIte, Bool.not_true, Bool.not_false, small_few0, small_few1, small_few2, small_few3, hp, all_bools]
  unfold isRise
  simp [List.all_map]
theorem gtInt_v (a b : Int) : oGt (.int a) (.int b) = some (.bool (decide (b < a))) := rfl
theorem neI_v (a b : Int) : oNeA (.int a) (.int b) = some (.bool (!decide (a = b))) := rfl
theorem eqI_v (a b : Int) : oEqA (.int a) (.int b) = some (.bool (decide (a = b))) := rfl
structure LotOk (n : List Int) (L : Rows) : Prop where
  inn : ∀ p ∈ L, p ∈ placesOf n
  ne : L ≠ []
  rise : isRise L = true
  few : L.length ≤ 24
theorem lot_ok (hn : n ∈ fewD) (h : LotOk n L) : f_check_lot [dI n, dT L] = some (.val .none) := by
  have h1 : isD (dT L) "tuple" = true := rfl
  have h2 : oLen [dT L] = some (.int (L.length : Nat)) := by show some (PyData.int ((L.map dI).length : Nat)) = _; rw [List.length_map]
  have h3 := gtInt_v (L.length : Nat) 0
  rw [decide_eq_true (by have := List.length_pos_iff.mpr h.ne; omega)] at h3
  have h4 : f_are_places [dI n, dT L] = some (.val (.bool true)) := by
    have := arePl_v (xs := L.map dI) hn (by rw [List.length_map]; have := h.few; omega)
    rw [all_rows hn h.inn] at this
    exact this
  have h5 := rise_v (M := L) (by have := h.few; omega)
  rw [h.rise] at h5
  have h6 : f_is_lot_of [dI n, dT L] = some (.val (.bool true)) := by simp only [f_is_lot_of, b_is_lot_of, guardN, bodyD, fSeq, fAsg, fAsgM, fApp, fRet, fRetN, fDrop, fIfS, fNext, fRaise, fIf, fAnd, fOr, fNot, fT, bo, bnd, bndA, rB, fCall0, noEx, fCall, fCallP, permL, fCons, fNil, fTup, fLst, lim, fCb, ret, fOp, fUn, fVar, fC, fIsi, fIsiLT, isLT, fChain, fLk, fLkB, fLkM, fRevL, fSet2, fFrz, lockL, lockG, lkC, sName, sTup, sCons, sNil, wipeC, List.map_cons, List.map_nil, List.replicate_succ, List.replicate_zero, List.cons_append, List.nil_append, List.getElem?_cons_zero, List.getElem?_cons_succ, List.set_cons_zero, List.set_cons_succ, List.length_cons, List.length_nil, Nat.beq_refl, Nat.reduceAdd, Nat.reduceLeDiff, Nat.reduceEqDiff, Nat.zero_add, if_true, if_false, Bool.false_eq_true, reduceIte, Bool.not_true, Bool.not_false, small_few0, small_few1, small_few2, small_few3, h1, h2, h3, h4, h5]
  simp only [f_check_lot, b_check_lot, guardN, bodyD, fSeq, fAsg, fAsgM, fApp, fRet, fRetN, fDrop, fIfS, fNext, fRaise, fIf, fAnd, fOr, fNot, fT, bo, bnd, bndA, rB, fCall0, noEx, fCall, fCallP, permL, fCons, fNil, fTup, fLst, lim, fCb, ret, fOp, fUn, fVar, fC, fIsi, fIsiLT, isLT, fChain, fLk, fLkB, fLkM, fRevL, fSet2, fFrz, lockL, lockG, lkC, sName, sTup, sCons, sNil, wipeC, List.map_cons, List.map_nil, List.replicate_succ, List.replicate_zero, List.cons_append, List.nil_append, List.getElem?_cons_zero, List.getElem?_cons_succ, List.set_cons_zero, List.set_cons_succ, List.length_cons, List.length_nil, Nat.beq_refl, Nat.reduceAdd, Nat.reduceLeDiff, Nat.reduceEqDiff, Nat.zero_add, if_true, if_false, Bool.false_eq_true, reduceIte, Bool.not_true, Bool.not_false, small_few0, small_few1, small_few2, small_few3, h6]
structure RowOk (n : List Int) (L R : Rows) : Prop where
  inn : ∀ p ∈ R, p ∈ placesOf n
  len : R.length = L.length
  asc : isAsc R = true
theorem row_ok (hn : n ∈ fewD) (hL : L.length ≤ 24) (h : RowOk n L R) : f_check_lot_row [dI n, dT L, dT R] = some (.val .none) := by
  have h2 : oLen [dT L] = some (.int (L.length : Nat)) := by show some (PyData.int ((L.map dI).length : Nat)) = _; rw [List.length_map]
  have h1 := tupleOf_v (dT R) (L.length : Nat)
  have e1 : isTup (dT R) (L.length : Nat) = true := decide_eq_true (by rw [List.length_map, h.len])
  rw [e1] at h1
  have h4 : f_are_places [dI n, dT R] = some (.val (.bool true)) := by
    have := arePl_v (xs := R.map dI) hn (by rw [List.length_map]; have := h.len; omega)
    rw [all_rows hn h.inn] at this
    exact this
  have h5 := asc_v (M := R) (by have := h.len; omega)
  rw [h.asc] at h5
  have h6 : f_is_row_for [dI n, dT L, dT R] = some (.val (.bool true)) := by simp only [f_is_row_for, b_is_row_for, guardN, bodyD, fSeq, fAsg, fAsgM, fApp, fRet, fRetN, fDrop, fIfS, fNext, fRaise, fIf, fAnd, fOr, fNot, fT, bo, bnd, bndA, rB, fCall0, noEx, fCall, fCallP, permL, fCons, fNil, fTup, fLst, lim, fCb, ret, fOp, fUn, fVar, fC, fIsi, fIsiLT, isLT, fChain, fLk, fLkB, fLkM, fRevL, fSet2, fFrz, lockL, lockG, lkC, sName, sTup, sCons, sNil, wipeC, List.map_cons, List.map_nil, List.replicate_succ, List.replicate_zero, List.cons_append, List.nil_append, List.getElem?_cons_zero, List.getElem?_cons_succ, List.set_cons_zero, List.set_cons_succ, List.length_cons, List.length_nil, Nat.beq_refl, Nat.reduceAdd, Nat.reduceLeDiff, Nat.reduceEqDiff, Nat.zero_add, if_true, if_false, Bool.false_eq_true, reduceIte, Bool.not_true, Bool.not_false, small_few0, small_few1, small_few2, small_few3, h1, h2, h4, h5]
  simp only [f_check_lot_row, b_check_lot_row, guardN, bodyD, fSeq, fAsg, fAsgM, fApp, fRet, fRetN, fDrop, fIfS, fNext, fRaise, fIf, fAnd, fOr, fNot, fT, bo, bnd, bndA, rB, fCall0, noEx, fCall, fCallP, permL, fCons, fNil, fTup, fLst, lim, fCb, ret, fOp, fUn, fVar, fC, fIsi, fIsiLT, isLT, fChain, fLk, fLkB, fLkM, fRevL, fSet2, fFrz, lockL, lockG, lkC, sName, sTup, sCons, sNil, wipeC, List.map_cons, List.map_nil, List.replicate_succ, List.replicate_zero, List.cons_append, List.nil_append, List.getElem?_cons_zero, List.getElem?_cons_succ, List.set_cons_zero, List.set_cons_succ, List.length_cons, List.length_nil, Nat.beq_refl, Nat.reduceAdd, Nat.reduceLeDiff, Nat.reduceEqDiff, Nat.zero_add, if_true, if_false, Bool.false_eq_true, reduceIte, Bool.not_true, Bool.not_false, small_few0, small_few1, small_few2, small_few3, h6]
theorem dcL_of {α : Type} {st : Fs} {ft fk fv : En → Re} (e : α → D) (kk : α → KK) (g : α → D) : ∀ (as : List α) (acc : List (KK × D)), (∀ a ∈ as, ∃ Γ1, st (e a) Γ = some Γ1 ∧ ft Γ1 = some (.val (.bool true)) ∧ fk Γ1 = some (.val (kD (kk a))) ∧ keyOf (kD (kk a)) = some (kk a) ∧ fv Γ1 = some (.val (g a))) →
    dcGo st ft fk fv Γ (as.map e) acc = some (as.foldl (fun es x => putD es (kk x) (g x)) acc)
  | [], acc, _ => rfl
  | a :: as, acc, h => by
    obtain ⟨Γ1, h1, h2, h3, h4, h5⟩ := h a (List.mem_cons_self ..)
    rw [List.map_cons]
    unfold dcGo
    rw [h1]; dsimp only
    rw [h2]; dsimp only
    rw [if_pos rfl, h3]; dsimp only
    rw [h4]; dsimp only
    rw [h5]; dsimp only
    exact dcL_of e kk g as _ fun b hb => h b (List.mem_cons_of_mem _ hb)
theorem listEnds_v (hn : n ∈ fewD) (hP : ∀ p ∈ P, p ∈ placesOf n) (hR : ∀ p ∈ R, p ∈ placesOf n) (lP : P.length ≤ 1000) (lR : R.length ≤ 1000) : f_list_ends [dI n, dT P, dT R] = some (.val (.list (P.map fun p => dctD (dictF n p R)))) := by
  have hd : ∀ (c3 : Ce) (p : List Int), p ∈ P → fDc (iT (fVar 2)) (sName 3) (fC (.bool true)) (fVar 3) (fCall0 f_add (fCons (fVar 0) (fCons (fVar 4) (fCons (fVar 3) fNil)))) [3] [.d (dI n), .d (dT P), .d (dT R), .un, .d (dI p)] = some (.val (dctD (dictF n p R))) := fun c3 p hp => by
    have hg := dcL_of (st := sName 3) (ft := fC (.bool true)) (fk := fVar 3) (fv := fCall0 f_add (fCons (fVar 0) (fCons (fVar 4) (fCons (fVar 3) fNil)))) (Γ := [.d (dI n), .d (dT P), .d (dT R), .un, .d (dI p)]) dI (fun m => kI m) (fun m => dI (addP n p m)) R [] fun m hm => by
      have a := add_v hn (in_len hn (hP p hp)) (in_len hn (hR m hm))
      refine ⟨[.d (dI n), .d (dT P), .d (dT R), .d (dI m), .d (dI p)], rfl, rfl, ?_, ?_, ?_⟩
      · show some (Ou.val (dI m)) = _
        rw [kD_kI]
      · rw [kD_kI]; exact keyOf_dI (in_ne hn (hR m hm))
      · simp only [guardN, bodyD, fSeq, fAsg, fAsgM, fApp, fRet, fRetN, fDrop, fIfS, fNext, fRaise, fIf, fAnd, fOr, fNot, fT, bo, bnd, bndA, rB, fCall0, noEx, fCall, fCallP, permL, fCons, fNil, fTup, fLst, lim, fCb, ret, fOp, fUn, fVar, fC, fIsi, fIsiLT, isLT, fChain, fLk, fLkB, fLkM, fRevL, fSet2, fFrz, lockL, lockG, lkC, sName, sTup, sCons, sNil, wipeC, List.map_cons, List.map_nil, List.replicate_succ, List.replicate_zero, List.cons_append, List.nil_append, List.getElem?_cons_zero, List.getElem?_cons_succ, List.set_cons_zero, List.set_cons_succ, List.length_cons, List.length_nil, Nat.beq_refl, Nat.reduceAdd, Nat.reduceLeDiff, Nat.reduceEqDiff, Nat.zero_add, if_true, if_false, Bool.false_eq_true, reduceIte, Bool.not_true, Bool.not_false, small_few0, small_few1, small_few2, small_few3, a]
    unfold fDc
    rw [show iT (fVar 2) [.d (dI n), .d (dT P), .d (dT R), .un, .d (dI p)] = some (.vals (R.map dI)) from rfl]; dsimp only
    rw [if_pos (small_of (by rw [List.length_map]; omega)), show wipeC [.d (dI n), .d (dT P), .d (dT R), .un, .d (dI p)] [3] = [.d (dI n), .d (dT P), .d (dT R), .un, .d (dI p)] from rfl, hg]
    show some (Ou.val (dctD _)) = _
    unfold dictF madeD
    rw [List.filter_eq_self.mpr fun _ _ => rfl]
  have hp := flc_map (src := iT (fVar 1)) (st := sName 4) (ft := fC (.bool true)) (fe := fDc (iT (fVar 2)) (sName 3) (fC (.bool true)) (fVar 3) (fCall0 f_add (fCons (fVar 0) (fCons (fVar 4) (fCons (fVar 3) fNil)))) [3]) (vs := [4])
    (Γ := [.d (dI n), .d (dT P), .d (dT R), .un, .un]) dI (fun p => dctD (dictF n p R)) P rfl (by omega) fun p hp => ⟨_, rfl, rfl, hd .un p hp⟩
  simp only [f_list_ends, b_list_ends, guardN, bodyD, fSeq, fAsg, fAsgM, fApp, fRet, fRetN, fDrop, fIfS, fNext, fRaise, fIf, fAnd, fOr, fNot, fT, bo, bnd, bndA, rB, fCall0, noEx, fCall, fCallP, permL, fCons, fNil, fTup, fLst, lim, fCb, ret, fOp, fUn, fVar, fC, fIsi, fIsiLT, isLT, fChain, fLk, fLkB, fLkM, fRevL, fSet2, fFrz, lockL, lockG, lkC, sName, sTup, sCons, sNil, wipeC, List.map_cons, List.map_nil, List.replicate_succ, List.replicate_zero, List.cons_append, List.nil_append, List.getElem?_cons_zero, List.getElem?_cons_succ, List.set_cons_zero, List.set_cons_succ, List.length_cons, List.length_nil, Nat.beq_refl, Nat.reduceAdd, Nat.reduceLeDiff, Nat.reduceEqDiff, Nat.zero_add, if_true, if_false, Bool.false_eq_true, reduceIte, Bool.not_true, Bool.not_false, small_few0, small_few1, small_few2, small_few3, hp]
def optT : Option Rows → D
  | some M => dT M
  | none => .none
theorem enumR : ∀ (lo : Int) (L : Rows), enumT lo (L.map dI) = (List.range L.length).map fun (i : Nat) => .tuple [.int (lo + (i : Int)), dI (L.getD i [])]
  | lo, [] => rfl
  | lo, x :: L => by
    rw [List.map_cons, List.length_cons, List.range_succ_eq_map, List.map_cons, List.map_map]
    show .tuple [.int lo, dI x] :: enumT (lo + 1) (L.map dI) = _
    rw [enumR (lo + 1) L]
    congr 1
    · simp
    · refine List.map_congr_left fun i _ => ?_
      show PyData.tuple [.int (lo + 1 + (i : Int)), dI (L.getD i [])] = .tuple [.int (lo + ((i + 1 : Nat) : Int)), dI ((x :: L).getD (i + 1) [])]
      have : lo + 1 + (i : Int) = lo + ((i + 1 : Nat) : Int) := by omega
      rw [this]; rfl
theorem find_opt {α β γ : Type} (f : α → Option β) (g : β → γ) : ∀ as : List α, as.findSome? (fun a => (f a).map g) = (as.findSome? f).map g
  | [] => rfl
  | a :: as => by
    rw [List.findSome?_cons, List.findSome?_cons]
    cases f a with
    | some b => rfl
    | none => exact find_opt f g as
theorem slA_v {c : Nat} {ds : List D} {fe fh : En → Re} (h : fe Γ = some (.val (.tuple ds))) (hh : fh Γ = some (.val (.int (c : Nat)))) (hl : c ≤ ds.length) : fSl false fe pNone (pSome fh) Γ = some (.val (.tuple (ds.take c))) :=
  sl_lo (k := false) c h (by unfold pSome; rw [hh]) hl
theorem slB_v {c : Nat} {ds : List D} {fe fh : En → Re} (h : fe Γ = some (.val (.tuple ds))) (hh : fh Γ = some (.val (.int (c : Nat)))) (hl : c ≤ ds.length) : fSl false fe (pSome fh) pNone Γ = some (.val (.tuple (ds.drop c))) :=
  sl_hi (k := false) c h (by unfold pSome; rw [hh]) hl
theorem firstDealt_v (hn : n ∈ fewD) (hR : ∀ p ∈ R, p ∈ placesOf n) : ∀ (k : Nat) (P left taken : Rows), P.length < k → P.length ≤ 24 → (∀ m ∈ left, m ∈ R) → left.length ≤ 24 → taken.length + P.length ≤ 100 → (∀ p ∈ P, p ∈ placesOf n) →
    f_first_dealt_ k [.list (P.map fun p => dctD (dictF n p R)), dT left, dT taken] = some (.val (optT (fdF n P left taken)))
  | 0, _, _, _, h, _, _, _, _, _ => by omega
  | k + 1, [], left, taken, _, _, _, _, _, _ => by
    have : f_first_dealt_ (k + 1) [.list [], dT left, dT taken] = guardN 3 (bodyD (b_first_dealt (f_first_dealt_ k)) 4) [.list [], dT left, dT taken] := rfl
    rw [List.map_nil, this]
    refine (guard_of (k := 3) rfl).trans (bodyD_rt ?_)
    rfl
  | k + 1, p :: P, left, taken, h, hl, hm, ll, lt, hP => by
    have hp : p ∈ placesOf n := hP p (List.mem_cons_self ..)
    have lP : P.length < k ∧ P.length ≤ 24 ∧ taken.length + 1 + P.length ≤ 100 := by simp at h hl lt; omega
    refine (show guardN 3 (bodyD (b_first_dealt (f_first_dealt_ k)) 4) [.list ((p :: P).map fun p => dctD (dictF n p R)), dT left, dT taken] = _ from ?_)
    refine (guard_of (k := 3) (ds := [.list ((p :: P).map fun p => dctD (dictF n p R)), dT left, dT taken]) rfl).trans (bodyD_rt ?_)
    obtain ⟨E0, hE0⟩ : ∃ E0 : D, E0 = .list ((p :: P).map fun p => dctD (dictF n p R)) := ⟨_, rfl⟩
    rw [← hE0]
    refine (show b_first_dealt (f_first_dealt_ k) [.d E0, .d (dT left), .d (dT taken), .un, .un, .un, .un] = _ from ?_)
    unfold b_first_dealt
    rw [seq_on (Γ1 := [.d E0, .d (dT left), .d (dT taken), .un, .un, .un, .un]) (by rw [hE0]; rfl)]
    rw [seq_on (Γ1 := [.d E0, .d (dT left), .d (dT taken), .d (dctD (dictF n p R)), .un, .un, .un]) (by rw [hE0]; rfl)]
    have hz : iEn false (fCons (fVar 1) fNil) [.d E0, .d (dT left), .d (dT taken), .d (dctD (dictF n p R)), .un, .un, .un] = some (.vals ((List.range left.length).map fun (i : Nat) => .tuple [.int (i : Int), dI (left.getD i [])])) := by
      show some (Oa.vals (enumT 0 (left.map dI))) = _
      rw [enumR]
      congr 2
      exact List.map_congr_left fun i _ => by rw [Int.zero_add]
    have hE : ∀ Γ, Γ[0]? = some (Ce.d E0) → fSl true (fVar 0) (pSome (fC (.int 1))) pNone Γ = some (.val (.list (P.map fun p => dctD (dictF n p R)))) := fun Γ h0 => by
      have := sl_hi (k := true) (ds := (p :: P).map fun p => dctD (dictF n p R)) (Γ := Γ) (fe := fVar 0) (fl := pSome (fC (.int 1))) 1 (by unfold fVar; rw [h0, hE0]; rfl) rfl (by simp)
      rw [this]; rfl
    have key : fdF n (p :: P) left taken = (List.range left.length).findSome? fun i => match left[i]? with
      | some m => if m ∉ left.take i ∧ addP n p m ∉ taken then (fdF n P (left.take i ++ left.drop (i + 1)) (taken ++ [addP n p m])).map (m :: ·) else none
      | none => none := rfl
    refine seq_for_find (fun (i : Nat) => .tuple [.int (i : Int), dI (left.getD i [])]) (fun Γ => ∃ d4 d5 d6, Γ = [.d E0, .d (dT left), .d (dT taken), .d (dctD (dictF n p R)), d4, d5, d6]) (fun i => (match left[i]? with
      | some m => if m ∉ left.take i ∧ addP n p m ∉ taken then (fdF n P (left.take i ++ left.drop (i + 1)) (taken ++ [addP n p m])).map (m :: ·) else none
      | none => none).map dT) (List.range left.length) hz ⟨_, _, _, rfl⟩ (fun i hi Γ hJ => ?_) (fun d hd => ?_) fun hd Γ' ⟨d4, d5, d6, e⟩ => ?_
    · obtain ⟨d4, d5, d6, rfl⟩ := hJ
      have hi := List.mem_range.mp hi
      have hm' : left[i]? = some left[i] := List.getElem?_eq_getElem hi
      obtain ⟨m, em⟩ : ∃ m, m = left[i] := ⟨_, rfl⟩
      rw [← em] at hm'
      have hg : left.getD i [] = m := by rw [List.getD_eq_getElem?_getD, hm']; rfl
      rw [hg, hm']
      have mR : m ∈ R := hm m (List.mem_of_getElem? hm')
      have lk := dict_lk (n := n) (p := p) mR
      refine ⟨[.d E0, .d (dT left), .d (dT taken), .d (dctD (dictF n p R)), .d (.int (i : Int)), .d (dI m), d6], rfl, ?_⟩
      have c1 : ∀ d6, fDIn false (fVar 5) (fVar 3) [.d E0, .d (dT left), .d (dT taken), .d (dctD (dictF n p R)), .d (.int (i : Int)), .d (dI m), d6] = some (.val (.bool true)) := fun d6 => by
        show bnd (some (Ou.val (dI m))) _ = _
        unfold bnd; dsimp only
        show (match dctOf (dctD (dictF n p R)), keyOf (dI m) with | some es, some k => _ | _, _ => _) = _
        rw [dctOf_dctD, keyOf_dI (in_ne hn (hR m mR))]; dsimp only
        rw [lk]; rfl
      have c2 : ∀ d6, fDGet (fVar 3) (fVar 5) [.d E0, .d (dT left), .d (dT taken), .d (dctD (dictF n p R)), .d (.int (i : Int)), .d (dI m), d6] = some (.val (dI (addP n p m))) := fun d6 => by
        show bnd (some (Ou.val (dctD (dictF n p R)))) _ = _
        unfold bnd; dsimp only
        show (match dctOf (dctD (dictF n p R)), keyOf0 (dI m) with | some es, some k => ret (lkD es k) | _, _ => none) = _
        rw [dctOf_dctD, keyOf0_dI]; dsimp only
        rw [lk]; rfl
      have ls : (left.map dI).length = left.length := List.length_map ..
      have c3 : ∀ d6, fSl false (fVar 1) pNone (pSome (fVar 4)) [.d E0, .d (dT left), .d (dT taken), .d (dctD (dictF n p R)), .d (.int (i : Int)), .d (dI m), d6] = some (.val (dT (left.take i))) := fun d6 => by
        rw [slA_v (ds := left.map dI) (c := i) rfl rfl (by omega), ← List.map_take]; rfl
      have c4 : ∀ d6, fSl false (fVar 1) (pSome (fOp oAdd (fVar 4) (fC (.int 1)))) pNone [.d E0, .d (dT left), .d (dT taken), .d (dctD (dictF n p R)), .d (.int (i : Int)), .d (dI m), d6] = some (.val (dT (left.drop (i + 1)))) := fun d6 => by
        rw [slB_v (ds := left.map dI) (c := i + 1) rfl rfl (by omega), ← List.map_drop]; rfl
      have c5 := inT_v (left.take i) m true
      have c6 := inT_v taken (addP n p m) true
      have c7 : oCatT (dT (left.take i)) (dT (left.drop (i + 1))) = some (dT (left.take i ++ left.drop (i + 1))) := by
        have := cat_v (xs := (left.take i).map dI) (ys := (left.drop (i + 1)).map dI) (by rw [List.length_map, List.length_map, List.length_take, List.length_drop]; omega)
        rw [← List.map_append] at this
        exact this
      have c8 : oCatT (dT taken) (.tuple [dI (addP n p m)]) = some (dT (taken ++ [addP n p m])) := by
        have := cat_v (xs := taken.map dI) (ys := [dI (addP n p m)]) (by rw [List.length_map]; simp; omega)
        rw [show taken.map dI ++ [dI (addP n p m)] = (taken ++ [addP n p m]).map dI from by rw [List.map_append]; rfl] at this
        exact this
      have ih := firstDealt_v hn hR k P (left.take i ++ left.drop (i + 1)) (taken ++ [addP n p m]) lP.1 lP.2.1 (fun x hx => by
        rcases (List.mem_append.mp hx) with hx | hx
        · exact hm x (List.mem_of_mem_take hx)
        · exact hm x (List.mem_of_mem_drop hx)) (by rw [List.length_append, List.length_take, List.length_drop]; omega) (by rw [List.length_append]; simp; omega) fun q hq => hP q (List.mem_cons_of_mem _ hq)
      have hE' := hE [.d E0, .d (dT left), .d (dT taken), .d (dctD (dictF n p R)), .d (.int (i : Int)), .d (dI m), d6] rfl
      by_cases q1 : m ∈ left.take i
      · have c5' : oIn true (dI m) (dT (left.take i)) = some (.bool false) := by rw [c5, decide_eq_true q1]; rfl
        dsimp only
        rw [if_neg (fun z => z.1 q1)]
        refine ⟨fun d z => (by cases z), fun _ => ⟨[.d E0, .d (dT left), .d (dT taken), .d (dctD (dictF n p R)), .d (.int (i : Int)), .d (dI m), d6], ?_, _, _, _, rfl⟩⟩
        simp only [guardN, bodyD, fSeq, fAsg, fAsgM, fApp, fRet, fRetN, fDrop, fIfS, fNext, fRaise, fIf, fAnd, fOr, fNot, fT, bo, bnd, bndA, rB, fCall0, noEx, fCall, fCallP, permL, fCons, fNil, fTup, fLst, lim, fCb, ret, fOp, fUn, fVar, fC, fIsi, fIsiLT, isLT, fChain, fLk, fLkB, fLkM, fRevL, fSet2, fFrz, lockL, lockG, lkC, sName, sTup, sCons, sNil, wipeC, List.map_cons, List.map_nil, List.replicate_succ, List.replicate_zero, List.cons_append, List.nil_append, List.getElem?_cons_zero, List.getElem?_cons_succ, List.set_cons_zero, List.set_cons_succ, List.length_cons, List.length_nil, Nat.beq_refl, Nat.reduceAdd, Nat.reduceLeDiff, Nat.reduceEqDiff, Nat.zero_add, if_true, if_false, Bool.false_eq_true, reduceIte, Bool.not_true, Bool.not_false, small_few0, small_few1, small_few2, small_few3, c1, c3, c5']
      · have c5' : oIn true (dI m) (dT (left.take i)) = some (.bool true) := by rw [c5, decide_eq_false q1]; rfl
        by_cases q2 : addP n p m ∈ taken
        · have c6' : oIn true (dI (addP n p m)) (dT taken) = some (.bool false) := by rw [c6, decide_eq_true q2]; rfl
          dsimp only
          rw [if_neg (fun z => z.2 q2)]
          refine ⟨fun d z => (by cases z), fun _ => ⟨[.d E0, .d (dT left), .d (dT taken), .d (dctD (dictF n p R)), .d (.int (i : Int)), .d (dI m), d6], ?_, _, _, _, rfl⟩⟩
          simp only [guardN, bodyD, fSeq, fAsg, fAsgM, fApp, fRet, fRetN, fDrop, fIfS, fNext, fRaise, fIf, fAnd, fOr, fNot, fT, bo, bnd, bndA, rB, fCall0, noEx, fCall, fCallP, permL, fCons, fNil, fTup, fLst, lim, fCb, ret, fOp, fUn, fVar, fC, fIsi, fIsiLT, isLT, fChain, fLk, fLkB, fLkM, fRevL, fSet2, fFrz, lockL, lockG, lkC, sName, sTup, sCons, sNil, wipeC, List.map_cons, List.map_nil, List.replicate_succ, List.replicate_zero, List.cons_append, List.nil_append, List.getElem?_cons_zero, List.getElem?_cons_succ, List.set_cons_zero, List.set_cons_succ, List.length_cons, List.length_nil, Nat.beq_refl, Nat.reduceAdd, Nat.reduceLeDiff, Nat.reduceEqDiff, Nat.zero_add, if_true, if_false, Bool.false_eq_true, reduceIte, Bool.not_true, Bool.not_false, small_few0, small_few1, small_few2, small_few3, c1, c2, c3, c5', c6']
        · have c6' : oIn true (dI (addP n p m)) (dT taken) = some (.bool true) := by rw [c6, decide_eq_false q2]; rfl
          dsimp only
          rw [if_pos ⟨q1, q2⟩]
          cases hf : fdF n P (left.take i ++ left.drop (i + 1)) (taken ++ [addP n p m]) with
          | none =>
            rw [hf] at ih
            have k1 : oNotN .none .none = some (.bool false) := rfl
            refine ⟨fun d z => (by cases z), fun _ => ⟨[.d E0, .d (dT left), .d (dT taken), .d (dctD (dictF n p R)), .d (.int (i : Int)), .d (dI m), .d .none], ?_, _, _, _, rfl⟩⟩
            simp only [guardN, bodyD, fSeq, fAsg, fAsgM, fApp, fRet, fRetN, fDrop, fIfS, fNext, fRaise, fIf, fAnd, fOr, fNot, fT, bo, bnd, bndA, rB, fCall0, noEx, fCall, fCallP, permL, fCons, fNil, fTup, fLst, lim, fCb, ret, fOp, fUn, fVar, fC, fIsi, fIsiLT, isLT, fChain, fLk, fLkB, fLkM, fRevL, fSet2, fFrz, lockL, lockG, lkC, sName, sTup, sCons, sNil, wipeC, List.map_cons, List.map_nil, List.replicate_succ, List.replicate_zero, List.cons_append, List.nil_append, List.getElem?_cons_zero, List.getElem?_cons_succ, List.set_cons_zero, List.set_cons_succ, List.length_cons, List.length_nil, Nat.beq_refl, Nat.reduceAdd, Nat.reduceLeDiff, Nat.reduceEqDiff, Nat.zero_add, if_true, if_false, Bool.false_eq_true, reduceIte, Bool.not_true, Bool.not_false, small_few0, small_few1, small_few2, small_few3, c1, c2, c3, c4, c5', c6', c7, c8, hE', ih, optT, k1]
          | some M =>
            rw [hf] at ih
            have k1 : oNotN (dT M) .none = some (.bool true) := rfl
            have lM : M.length = P.length := (fd_sound P _ _ M hf).len
            have k2 : oCatT (.tuple [dI m]) (dT M) = some (dT (m :: M)) := cat_v (xs := [dI m]) (ys := M.map dI) (by rw [List.length_map]; simp; omega)
            refine ⟨fun d z => ?_, fun z => by cases z⟩
            cases z
            simp only [guardN, bodyD, fSeq, fAsg, fAsgM, fApp, fRet, fRetN, fDrop, fIfS, fNext, fRaise, fIf, fAnd, fOr, fNot, fT, bo, bnd, bndA, rB, fCall0, noEx, fCall, fCallP, permL, fCons, fNil, fTup, fLst, lim, fCb, ret, fOp, fUn, fVar, fC, fIsi, fIsiLT, isLT, fChain, fLk, fLkB, fLkM, fRevL, fSet2, fFrz, lockL, lockG, lkC, sName, sTup, sCons, sNil, wipeC, List.map_cons, List.map_nil, List.replicate_succ, List.replicate_zero, List.cons_append, List.nil_append, List.getElem?_cons_zero, List.getElem?_cons_succ, List.set_cons_zero, List.set_cons_succ, List.length_cons, List.length_nil, Nat.beq_refl, Nat.reduceAdd, Nat.reduceLeDiff, Nat.reduceEqDiff, Nat.zero_add, if_true, if_false, Bool.false_eq_true, reduceIte, Bool.not_true, Bool.not_false, small_few0, small_few1, small_few2, small_few3, c1, c2, c3, c4, c5', c6', c7, c8, hE', ih, optT, k1, k2]
    · rw [find_opt, ← key] at hd
      cases hf : fdF n (p :: P) left taken with
      | none => rw [hf] at hd; cases hd
      | some M => rw [hf] at hd; cases hd; rfl
    · rw [find_opt, ← key] at hd
      cases hf : fdF n (p :: P) left taken with
      | some M => rw [hf] at hd; cases hd
      | none => rw [e]; rfl
end
end Mv
namespace Mv
open PySem L2 Evl
section
variable {n a b : List Int}
end
end Mv
namespace Mv
open PySem L2 Evl
section
variable {n p : List Int} {P R L M : Rows} {k : Nat} {Γ : En}
theorem neTT_v (P Q : Rows) : oNe (dT P) (dT Q) = some (.bool (!decide (P = Q))) := by
  unfold oNe
  rw [if_pos (by unfold fine; rw [flat_dT, flat_dT, shaped_dT, shaped_dT]; rfl), eqv_dT]
theorem neIL_v (a b : List Int) : oNe (.list (a.map .int)) (.list (b.map .int)) = some (.bool (!decide (a = b))) := by
  have h := ne_v a b
  unfold oNe at h ⊢
  have f1 : ∀ a : List Int, fine (.list (a.map .int)) = true := fun a => (show fine (dI a) = true from by unfold fine; rw [flat_dI, shaped_dI]; rfl)
  rw [if_pos (by rw [f1, f1]; rfl)]
  rw [if_pos (by show (fine (dI a) && fine (dI b)) = true; unfold fine; rw [flat_dI, flat_dI, shaped_dI, shaped_dI]; rfl)] at h
  rw [show PyData.eqv (.list (a.map .int)) (.list (b.map .int)) = PyData.eqv (dI a) (dI b) from by unfold dI; rw [PyData.eqv, PyData.eqv]]
  exact h
theorem lenT (R : Rows) : oLen [dT R] = some (.int (R.length : Nat)) := by show some (PyData.int ((R.map dI).length : Nat)) = _; rw [List.length_map]
theorem lenL (R : Rows) : oLen [dL R] = some (.int (R.length : Nat)) := by show some (PyData.int ((R.map dI).length : Nat)) = _; rw [List.length_map]
structure SeatOk (n : List Int) (L R M : Rows) : Prop where
  inn : ∀ p ∈ M, p ∈ placesOf n
  len : M.length = L.length
  row : sortR M = R
  nd : (endsF n L M).Nodup
theorem ends_len (L M : Rows) (h : M.length = L.length) : (endsF n L M).length = L.length := by unfold endsF; rw [List.length_map, List.length_zip, h]; omega
def seatB (n : List Int) (L R : Rows) (d : D) : Bool := match d with
  | .tuple xs => if xs.length = L.length then (if xs.all (isPlace n) = true then (match rowsOf xs with
    | some M => decide (sortR M = R) && decide (endsF n L M).Nodup
    | none => false) else false) else false
  | _ => false
theorem seatB_tuple (xs : List D) : seatB n L R (.tuple xs) = if xs.length = L.length then (if xs.all (isPlace n) = true then (match rowsOf xs with
    | some M => decide (sortR M = R) && decide (endsF n L M).Nodup
    | none => false) else false) else false := rfl
theorem seatB_yes (hn : n ∈ fewD) (h : SeatOk n L R M) : seatB n L R (dT M) = true := by
  show (if (M.map dI).length = L.length then (if (M.map dI).all (isPlace n) = true then (match rowsOf (M.map dI) with
    | some M => decide (sortR M = R) && decide (endsF n L M).Nodup
    | none => false) else false) else false) = true
  rw [if_pos (by rw [List.length_map, h.len]), if_pos (all_rows hn h.inn), rowsOf_map]
  dsimp only
  rw [decide_eq_true h.row, decide_eq_true h.nd]; rfl
theorem lseats_v (hn : n ∈ fewD) (hL : ∀ p ∈ L, p ∈ placesOf n) (hl : L.length ≤ 24) (d : D) : f__law_seats [dI n, dT L, dT R, d] = some (.val (.bool (seatB n L R d))) := by
  have h0 := lenT L
  cases d with
  | tuple xs =>
    have i1 : isD (.tuple xs) "tuple" = true := rfl
    have i2 : oLen [.tuple xs] = some (.int (xs.length : Nat)) := rfl
    have i3 := neI_v (xs.length : Nat) (L.length : Nat)
    by_cases hx : xs.length = L.length
    · rw [decide_eq_true (by rw [hx])] at i3
      have hf := flc_of (src := iT (fVar 3)) (st := sName 4) (ft := fNot (fT (fCall0 f__law_is_place (fCons (fVar 0) (fCons (fVar 4) fNil))))) (fe := fC (.int 1)) (vs := [4]) (Γ := [.d (dI n), .d (dT L), .d (dT R), .d (.tuple xs), .un, .un, .un])
        (fun d : D => d) (fun d => !isPlace n d) (fun _ => .int 1) xs (by show some (Oa.vals xs) = _; rw [List.map_id']) (by omega) fun d hd => by
          have := lisPlace_v hn d
          exact ⟨_, rfl, by simp only [guardN, bodyD, fSeq, fAsg, fAsgM, fApp, fRet, fRetN, fDrop, fIfS, fNext, fRaise, fIf, fAnd, fOr, fNot, fT, bo, bnd, bndA, rB, fCall0, noEx, fCall, fCallP, permL, fCons, fNil, fTup, fLst, lim, fCb, ret, fOp, fUn, fVar, fC, fIsi, fIsiLT, isLT, fChain, fLk, fLkB, fLkM, fRevL, fSet2, fFrz, lockL, lockG, lkC, sName, sTup, sCons, sNil, wipeC, List.map_cons, List.map_nil, List.replicate_succ, List.replicate_zero, List.cons_append, List.nil_append, List.getElem?_cons_zero, List.getElem?_cons_succ, List.set_cons_zero, List.set_cons_succ, List.length_cons, List.length_nil, Nat.beq_refl, Nat.reduceAdd, Nat.reduceLeDiff, Nat.reduceEqDiff, Nat.zero_add, if_true, if_false, Bool.false_eq_true, reduceIte, Bool.not_true, Bool.not_false, small_few0, small_few1, small_few2, small_few3, this], fun _ => rfl⟩
      have one : ∀ ys : List D, ys.map (fun _ => PyData.int 1) = (ys.map fun _ => (1 : Int)).map PyData.int := fun ys => by rw [List.map_map]; rfl
      rw [one] at hf
      have nn := neIL_v ((xs.filter fun d => !isPlace n d).map fun _ => (1 : Int)) []
      cases ha : xs.all (isPlace n) with
      | false =>
        have hne : ¬ ((xs.filter fun d => !isPlace n d).map fun _ => (1 : Int)) = [] := fun z => by
          rw [List.map_eq_nil_iff, List.filter_eq_nil_iff] at z
          have : xs.all (isPlace n) = true := List.all_eq_true.mpr fun x hx => by have := z x hx; simpa using this
          rw [ha] at this; cases this
        rw [decide_eq_false hne] at nn
        have hb : seatB n L R (.tuple xs) = false := by rw [seatB_tuple, if_pos hx, ha]; rfl
        rw [hb]
        simp only [List.map_nil] at nn
        simp only [f__law_seats, b__law_seats, guardN, bodyD, fSeq, fAsg, fAsgM, fApp, fRet, fRetN, fDrop, fIfS, fNext, fRaise, fIf, fAnd, fOr, fNot, fT, bo, bnd, bndA, rB, fCall0, noEx, fCall, fCallP, permL, fCons, fNil, fTup, fLst, lim, fCb, ret, fOp, fUn, fVar, fC, fIsi, fIsiLT, isLT, fChain, fLk, fLkB, fLkM, fRevL, fSet2, fFrz, lockL, lockG, lkC, sName, sTup, sCons, sNil, wipeC, List.map_cons, List.map_nil, List.replicate_succ, List.replicate_zero, List.cons_append, List.nil_append, List.getElem?_cons_zero, List.getElem?_cons_succ, List.set_cons_zero, List.set_cons_succ, List.length_cons, List.length_nil, Nat.beq_refl, Nat.reduceAdd, Nat.reduceLeDiff, Nat.reduceEqDiff, Nat.zero_add, if_true, if_false, Bool.false_eq_true, reduceIte, Bool.not_true, Bool.not_false, small_few0, small_few1, small_few2, small_few3, i1, i2, i3, h0, hf, nn]
      | true =>
        have hnil : (xs.filter fun d => !isPlace n d).map (fun _ => (1 : Int)) = [] := by
          rw [List.map_eq_nil_iff, List.filter_eq_nil_iff]
          intro x hx
          rw [List.all_eq_true.mp ha x hx]; simp
        rw [hnil] at hf nn
        rw [decide_eq_true rfl] at nn
        simp only [List.map_nil] at nn hf
        obtain ⟨M, rfl, hM⟩ := rows_ex ha
        rw [List.length_map] at hx
        have hb : seatB n L R (.tuple (M.map dI)) = (decide (sortR M = R) && decide (endsF n L M).Nodup) := by
          rw [seatB_tuple, if_pos (by rw [List.length_map, hx]), if_pos ha, rowsOf_map]
        rw [hb]
        have so : oSorted [.tuple (M.map dI)] = some (dL (sortR M)) := sortedT_v (R := M) fun p hp => in_l1 hn (hM p hp)
        have tl : oTuple [dL (sortR M)] = some (dT (sortR M)) := rfl
        have ne := neTT_v (sortR M) R
        by_cases hs : sortR M = R
        · rw [decide_eq_true hs] at ne ⊢
          rw [Bool.true_and]
          have hp := flc_map (src := iZ2 false false (fCons (fVar 1) (fCons (fVar 3) fNil))) (st := sTup 2 (sCons (sName 6) (sCons (sName 4) sNil))) (ft := fC (.bool true)) (fe := fCall0 f__law_plus (fCons (fVar 0) (fCons (fVar 6) (fCons (fVar 4) fNil)))) (vs := [6, 4])
            (Γ := [.d (dI n), .d (dT L), .d (dT R), .d (.tuple (M.map dI)), .un, .un, .un]) (fun q : List Int × List Int => .tuple [dI q.1, dI q.2]) (fun q => dI (addP n q.1 q.2)) (L.zip M) (by rw [← zipPl]; rfl) (by rw [List.length_zip]; omega) fun q hq => by
              have hm := zip_mem hq
              refine ⟨_, rfl, rfl, ?_⟩
              simp only [guardN, bodyD, fSeq, fAsg, fAsgM, fApp, fRet, fRetN, fDrop, fIfS, fNext, fRaise, fIf, fAnd, fOr, fNot, fT, bo, bnd, bndA, rB, fCall0, noEx, fCall, fCallP, permL, fCons, fNil, fTup, fLst, lim, fCb, ret, fOp, fUn, fVar, fC, fIsi, fIsiLT, isLT, fChain, fLk, fLkB, fLkM, fRevL, fSet2, fFrz, lockL, lockG, lkC, sName, sTup, sCons, sNil, wipeC, List.map_cons, List.map_nil, List.replicate_succ, List.replicate_zero, List.cons_append, List.nil_append, List.getElem?_cons_zero, List.getElem?_cons_succ, List.set_cons_zero, List.set_cons_succ, List.length_cons, List.length_nil, Nat.beq_refl, Nat.reduceAdd, Nat.reduceLeDiff, Nat.reduceEqDiff, Nat.zero_add, if_true, if_false, Bool.false_eq_true, reduceIte, Bool.not_true, Bool.not_false, small_few0, small_few1, small_few2, small_few3, lplus_v hn (in_len hn (hL _ hm.1)) (in_len hn (hM _ hm.2))]
          have hE : (L.zip M).map (fun q => dI (addP n q.1 q.2)) = (endsF n L M).map dI := by unfold endsF; rw [List.map_map]; rfl
          rw [hE] at hp
          have hset : ∀ Γ, Γ = [Ce.d (dI n), .d (dT L), .d (dT R), .d (.tuple (M.map dI)), .un, .d (.list ((endsF n L M).map dI)), .un] → fLenSet (fVar 5) Γ = some (.val (.int (dedup (endsF n L M)).length)) := fun Γ e => by
            subst e
            show (match rowsOf ((endsF n L M).map dI) with | some l => if Nat.blt l.length 64 = true then some (Ou.val (.int (dedup l).length)) else none | none => none) = _
            rw [rowsOf_map]; dsimp only
            rw [if_pos (by rw [Nat.blt_eq, ends_len L M hx]; omega)]
          have hs5 := hset _ rfl
          have e4 : oEqA (.int (dedup (endsF n L M)).length) (.int (L.length : Nat)) = some (.bool (decide (endsF n L M).Nodup)) := by
            show some (PyData.bool (decide (((dedup (endsF n L M)).length : Int) = (L.length : Nat)))) = _
            rw [← dedup_eq, ends_len L M hx]
          simp only [f__law_seats, b__law_seats, guardN, bodyD, fSeq, fAsg, fAsgM, fApp, fRet, fRetN, fDrop, fIfS, fNext, fRaise, fIf, fAnd, fOr, fNot, fT, bo, bnd, bndA, rB, fCall0, noEx, fCall, fCallP, permL, fCons, fNil, fTup, fLst, lim, fCb, ret, fOp, fUn, fVar, fC, fIsi, fIsiLT, isLT, fChain, fLk, fLkB, fLkM, fRevL, fSet2, fFrz, lockL, lockG, lkC, sName, sTup, sCons, sNil, wipeC, List.map_cons, List.map_nil, List.replicate_succ, List.replicate_zero, List.cons_append, List.nil_append, List.getElem?_cons_zero, List.getElem?_cons_succ, List.set_cons_zero, List.set_cons_succ, List.length_cons, List.length_nil, Nat.beq_refl, Nat.reduceAdd, Nat.reduceLeDiff, Nat.reduceEqDiff, Nat.zero_add, if_true, if_false, Bool.false_eq_true, reduceIte, Bool.not_true, Bool.not_false, small_few0, small_few1, small_few2, small_few3, i1, i2, i3, h0, hf, nn, so, tl, ne, hp, hs5, e4]
        · rw [decide_eq_false hs] at ne ⊢
          rw [Bool.false_and]
          simp only [f__law_seats, b__law_seats, guardN, bodyD, fSeq, fAsg, fAsgM, fApp, fRet, fRetN, fDrop, fIfS, fNext, fRaise, fIf, fAnd, fOr, fNot, fT, bo, bnd, bndA, rB, fCall0, noEx, fCall, fCallP, permL, fCons, fNil, fTup, fLst, lim, fCb, ret, fOp, fUn, fVar, fC, fIsi, fIsiLT, isLT, fChain, fLk, fLkB, fLkM, fRevL, fSet2, fFrz, lockL, lockG, lkC, sName, sTup, sCons, sNil, wipeC, List.map_cons, List.map_nil, List.replicate_succ, List.replicate_zero, List.cons_append, List.nil_append, List.getElem?_cons_zero, List.getElem?_cons_succ, List.set_cons_zero, List.set_cons_succ, List.length_cons, List.length_nil, Nat.beq_refl, Nat.reduceAdd, Nat.reduceLeDiff, Nat.reduceEqDiff, Nat.zero_add, if_true, if_false, Bool.false_eq_true, reduceIte, Bool.not_true, Bool.not_false, small_few0, small_few1, small_few2, small_few3, i1, i2, i3, h0, hf, nn, so, tl, ne]
    · rw [decide_eq_false (fun z => hx (by omega))] at i3
      have hb : seatB n L R (.tuple xs) = false := by rw [seatB_tuple, if_neg hx]
      rw [hb]
      simp only [f__law_seats, b__law_seats, guardN, bodyD, fSeq, fAsg, fAsgM, fApp, fRet, fRetN, fDrop, fIfS, fNext, fRaise, fIf, fAnd, fOr, fNot, fT, bo, bnd, bndA, rB, fCall0, noEx, fCall, fCallP, permL, fCons, fNil, fTup, fLst, lim, fCb, ret, fOp, fUn, fVar, fC, fIsi, fIsiLT, isLT, fChain, fLk, fLkB, fLkM, fRevL, fSet2, fFrz, lockL, lockG, lkC, sName, sTup, sCons, sNil, wipeC, List.map_cons, List.map_nil, List.replicate_succ, List.replicate_zero, List.cons_append, List.nil_append, List.getElem?_cons_zero, List.getElem?_cons_succ, List.set_cons_zero, List.set_cons_succ, List.length_cons, List.length_nil, Nat.beq_refl, Nat.reduceAdd, Nat.reduceLeDiff, Nat.reduceEqDiff, Nat.zero_add, if_true, if_false, Bool.false_eq_true, reduceIte, Bool.not_true, Bool.not_false, small_few0, small_few1, small_few2, small_few3, i1, i2, i3, h0]
  | _ => rfl
end
end Mv
namespace Mv
open PySem L2 Evl
theorem addUp_last (n : List Int) (L : Rows) (x : List Int) : addUp n (L ++ [x]) = addP n (addUp n L) x := by unfold addUp; rw [List.foldl_append]; rfl
theorem addUp_cons (n : List Int) (L : Rows) (x : List Int) : addUp n (x :: L) = addP n (addUp n L) x := by
  rw [← addUp_last]; exact addUp_perm (List.perm_append_comm (l₁ := [x]) (l₂ := L))
theorem addP_assoc : ∀ (n a b c : List Int), addP n (addP n a b) c = addP n a (addP n b c)
  | [], _, _, _ => rfl
  | s :: n, [], _, _ => rfl
  | s :: n, x :: a, [], _ => rfl
  | s :: n, x :: a, y :: b, [] => rfl
  | s :: n, x :: a, y :: b, z :: c => by
    show ((((x + y) % s) + z) % s) :: addP n (addP n a b) c = ((x + ((y + z) % s)) % s) :: addP n a (addP n b c)
    rw [addP_assoc n a b c, Int.emod_add_emod, Int.add_emod_emod, Int.add_assoc]
end Mv
namespace Mv
open PySem L2
section
variable {n : List Int}
instance assocP (n : List Int) : Std.Associative (addP n) := ⟨addP_assoc n⟩
instance commP (n : List Int) : Std.Commutative (addP n) := ⟨addP_comm n⟩
theorem mulG_zero : ∀ {n p : List Int}, p.length = n.length → mulP n p 0 = zeros n
  | [], [], _ => rfl
  | s :: n, x :: p, h => by
    show (x * 0 % s) :: mulP n p 0 = 0 :: zeros n
    rw [mulG_zero (by simpa using h), Int.mul_zero, Int.zero_emod]
  | [], _ :: _, h => by simp at h
  | _ :: _, [], h => by simp at h
theorem mulG_succ : ∀ {n p : List Int} {k : Int}, p.length = n.length → mulP n p (k + 1) = addP n (mulP n p k) p
  | [], [], _, _ => rfl
  | s :: n, x :: p, k, h => by
    show (x * (k + 1) % s) :: mulP n p (k + 1) = ((x * k % s + x) % s) :: addP n (mulP n p k) p
    rw [mulG_succ (by simpa using h), Int.emod_add_emod, Int.mul_add, Int.mul_one]
  | [], _ :: _, _, h => by simp at h
  | _ :: _, [], _, h => by simp at h
theorem mulG_add : ∀ {n p q : List Int} {k : Int}, p.length = n.length → q.length = n.length → mulP n (addP n p q) k = addP n (mulP n p k) (mulP n q k)
  | [], [], [], _, _, _ => rfl
  | s :: n, x :: p, y :: q, k, h1, h2 => by
    show ((x + y) % s * k % s) :: mulP n (addP n p q) k = ((x * k % s + y * k % s) % s) :: addP n (mulP n p k) (mulP n q k)
    rw [mulG_add (by simpa using h1) (by simpa using h2), Int.emod_add_emod, Int.add_emod_emod, ← Int.add_mul, Int.mul_emod, Int.emod_emod, ← Int.mul_emod]
theorem zz : ∀ n : List Int, addP n (zeros n) (zeros n) = zeros n
  | [] => rfl
  | s :: n => by
    show ((0 + 0) % s) :: addP n (zeros n) (zeros n) = 0 :: zeros n
    rw [zz n]; simp
theorem sum_shift {c : List Int} (hc : c.length = n.length) : ∀ H : Rows, addUp n (H.map (addP n c)) = addP n (mulP n c (H.length : Nat)) (addUp n H)
  | [] => by
    show zeros n = addP n (mulP n c ((0 : Nat) : Int)) (zeros n)
    rw [show ((0 : Nat) : Int) = 0 from rfl, mulG_zero hc, zz]
  | h :: H => by
    rw [List.map_cons, addUp_cons, sum_shift hc H, List.length_cons, addUp_cons, show ((H.length + 1 : Nat) : Int) = (H.length : Int) + 1 from by omega, mulG_succ hc]
    ac_rfl
theorem sum_ends : ∀ {L M : Rows}, M.length = L.length → addUp n (endsF n L M) = addP n (addUp n L) (addUp n M)
  | [], [], _ => (zz n).symm
  | l :: L, m :: M, h => by
    show addUp n (addP n l m :: endsF n L M) = _
    rw [addUp_cons, addUp_cons, addUp_cons, sum_ends (by simpa using h)]
    ac_rfl
  | [], _ :: _, h => by simp at h
  | _ :: _, [], h => by simp at h
theorem mulG_in {k : Int} : ∀ {n a : List Int}, a.length = n.length → (∀ s ∈ n, 0 < s) → InP (mulP n a k) n
  | [], [], _, _ => .nil
  | s :: n, x :: a, h1, h => .cons (Int.emod_nonneg _ (by have := h s (.head _); omega)) (Int.emod_lt_of_pos _ (h s (.head _))) (mulG_in (by simpa using h1) fun s hs => h s (.tail _ hs))
  | [], _ :: _, h, _ => by simp at h
  | _ :: _, [], h, _ => by simp at h
theorem pos_of : ∀ {p n : List Int}, InP p n → ∀ s ∈ n, 0 < s
  | _, _, .nil, s, h => by cases h
  | _, _, .cons a b i, s, h => by
    rcases (List.mem_cons.mp h) with rfl | h
    · omega
    · exact pos_of i s h
theorem addP_inG : ∀ {n a b : List Int}, a.length = n.length → b.length = n.length → (∀ s ∈ n, 0 < s) → InP (addP n a b) n
  | [], [], [], _, _, _ => .nil
  | s :: n, x :: a, y :: b, h1, h2, h => .cons (Int.emod_nonneg _ (by have := h s (.head _); omega)) (Int.emod_lt_of_pos _ (h s (.head _))) (addP_inG (by simpa using h1) (by simpa using h2) fun s hs => h s (.tail _ hs))
theorem addUp_inG (hn : ∀ s ∈ n, 0 < s) : ∀ {L : Rows}, L ≠ [] → (∀ p ∈ L, InP p n) → InP (addUp n L) n
  | [], h, _ => (h rfl).elim
  | l :: L, _, hL => by
    rw [addUp_cons]
    exact addP_inG (addUp_len fun p hp => (hL p (List.mem_cons_of_mem _ hp)).len) (hL l (List.mem_cons_self ..)).len hn
theorem bar_sum {l0 r0 : List Int} {L M H : Rows} (i0 : InP l0 n) (j0 : InP r0 n) (hL : ∀ p ∈ L, InP p n) (hM : ∀ p ∈ M, InP p n) (hlen : M.length = L.length) (ne : L ≠ [])
    (hH : ∀ h ∈ H, InP h n) (hHn : H.Nodup) (e : (H.map (addP n l0)).Perm L) (cl : ∀ a ∈ H, ∀ b ∈ H, addP n a b ∈ H) (hm : ∀ m ∈ M, takeP n m r0 ∈ H) (nd : (endsF n L M).Nodup) : addUp n M = mulP n r0 (L.length : Nat) := by
  have pos := pos_of i0
  have cl0 : (addP n l0 r0).length = n.length := (addP_inG i0.len j0.len pos).len
  have lH : H.length = L.length := by rw [← e.length_eq, List.length_map]
  have ic : InP (addP n l0 r0) n := addP_inG i0.len j0.len pos
  have key : ∀ x ∈ endsF n L M, ∃ h ∈ H, x = addP n (addP n l0 r0) h := fun x hx => by
    obtain ⟨q, hq, rfl⟩ := List.mem_map.mp hx
    have h1 := (List.of_mem_zip hq).1
    have h2 := (List.of_mem_zip hq).2
    obtain ⟨h, hh, e1⟩ := List.mem_map.mp (e.mem_iff.mpr h1)
    refine ⟨addP n h (takeP n q.2 r0), cl _ hh _ (hm _ h2), ?_⟩
    have e2 : addP n r0 (takeP n q.2 r0) = q.2 := add_take j0 (hM _ h2)
    rw [← e1]
    conv => lhs; rw [← e2]
    ac_rfl
  have inj : ∀ x ∈ endsF n L M, InP x n := fun x hx => by
    obtain ⟨h, hh, rfl⟩ := key x hx
    exact addP_inG cl0 (hH h hh).len pos
  have pm : (endsF n L M).Perm (H.map (addP n (addP n l0 r0))) := by
    refine nodup_perm nd (fun x hx => ?_) (by rw [List.length_map, lH]; unfold endsF; rw [List.length_map, List.length_zip, hlen]; omega)
    obtain ⟨h, hh, rfl⟩ := key x hx
    exact List.mem_map.mpr ⟨h, hh, rfl⟩
  have s1 := sum_ends (n := n) hlen
  rw [addUp_perm pm, sum_shift cl0, mulG_add i0.len j0.len] at s1
  rw [← addUp_perm e, sum_shift i0.len] at s1
  have mne : M ≠ [] := fun z => by
    rw [z] at hlen
    exact ne (List.eq_nil_of_length_eq_zero hlen.symm)
  have hne : H ≠ [] := fun z => by
    rw [z] at lH
    exact ne (List.eq_nil_of_length_eq_zero lH.symm)
  have iM := addUp_inG pos mne hM
  have iH := addUp_inG pos hne hH
  have ia : InP (mulP n r0 (H.length : Nat)) n := mulG_in j0.len pos
  have s2 : addP n (addP n (mulP n l0 (H.length : Nat)) (addUp n H)) (mulP n r0 (H.length : Nat)) = addP n (addP n (mulP n l0 (H.length : Nat)) (addUp n H)) (addUp n M) := by
    rw [← s1]; ac_rfl
  have := addP_cancel ia iM (addP_inG (mulG_in i0.len pos).len iH.len pos).len s2
  rw [← this, lH]
end
end Mv
namespace Mv
open PySem L2 Evl
section
variable {n p : List Int} {P R L M : Rows} {k : Nat} {Γ : En}
theorem lcAll_of {α : Type} {st : Fs} {ft fe : En → Re} (e : α → D) (g : α → D) (as : List α) (h : ∀ a ∈ as, ∃ Γ1, st (e a) Γ = some Γ1 ∧ ft Γ1 = some (.val (.bool true)) ∧ fe Γ1 = some (.val (g a))) : lcGo st ft fe Γ (as.map e) = some (as.map g) := by
  have := lc_of (st := st) (ft := ft) (fe := fe) (Γ := Γ) e (fun _ => true) g as fun a ha => by
    obtain ⟨Γ1, h1, h2, h3⟩ := h a ha
    exact ⟨Γ1, h1, h2, fun _ => h3⟩
  rw [this, List.filter_eq_self.mpr fun _ _ => rfl]
theorem lc2_of {α β : Type} {st st1 : Fs} {ft ft1 fe : En → Re} {src1 : En → Ra} {vs1 : List Nat} (e : α → D) (e1 : β → D) (bs : List β) (g : α → β → D) : ∀ (as : List α), (∀ a ∈ as, ∃ Γ1, st (e a) Γ = some Γ1 ∧ ft Γ1 = some (.val (.bool true)) ∧ src1 Γ1 = some (.vals (bs.map e1)) ∧ ∀ b ∈ bs, ∃ Γ2, st1 (e1 b) (wipeC Γ1 vs1) = some Γ2 ∧ ft1 Γ2 = some (.val (.bool true)) ∧ fe Γ2 = some (.val (g a b))) → bs.length ≤ 1000 →
    lc2Go st ft src1 st1 ft1 fe vs1 Γ (as.map e) = some (as.flatMap fun a => bs.map (g a))
  | [], _, _ => rfl
  | a :: as, h, hb => by
    obtain ⟨Γ1, h1, h2, h3, h4⟩ := h a (List.mem_cons_self ..)
    have ih := lc2_of (st := st) (st1 := st1) (ft := ft) (ft1 := ft1) (fe := fe) (src1 := src1) (vs1 := vs1) e e1 bs g as (fun x hx => h x (List.mem_cons_of_mem _ hx)) hb
    rw [List.map_cons]
    unfold lc2Go
    rw [h1]; dsimp only
    rw [h2]; dsimp only
    rw [if_pos rfl, h3]; dsimp only
    rw [if_pos (small_of (by rw [List.length_map]; exact hb)), lcAll_of e1 (g a) bs h4]; dsimp only
    rw [ih]; rfl
def isPartF (n : List Int) (P : Rows) : Bool := isRise P && (decide (zeros n ∈ P) && P.all fun a => P.all fun b => decide (addP n a b ∈ P))
theorem all_flat {α : Type} (f : α → α → Bool) (as bs : List α) : oAll [.list (as.flatMap fun a => bs.map fun b => PyData.bool (f a b))] = some (.bool (as.all fun a => bs.all fun b => f a b)) := by
  have e : (as.flatMap fun a => bs.map fun b => PyData.bool (f a b)) = (as.flatMap fun a => bs.map fun b => f a b).map PyData.bool := by
    rw [List.map_flatMap]
    congr 1
    funext a
    rw [List.map_map]; rfl
  rw [e]
  have := all_bools (as.flatMap fun a => bs.map fun b => f a b) id
  rw [show (fun x : Bool => PyData.bool (id x)) = PyData.bool from rfl] at this
  rw [this]
  congr 2
  rw [List.all_flatMap]
  congr 1
  funext a
  rw [List.all_map]; rfl
theorem partOf_v (hn : n ∈ fewD) (hP : ∀ p ∈ P, p ∈ placesOf n) (hl : P.length ≤ 24) : f_is_part_of_dials [dI n, dT P] = some (.val (.bool (isPartF n P))) := by
  have h1 : isD (dT P) "tuple" = true := rfl
  have h4 : f_are_places [dI n, dT P] = some (.val (.bool true)) := by
    have := arePl_v (xs := P.map dI) hn (by rw [List.length_map]; omega)
    rw [all_rows hn hP] at this
    exact this
  have h5 := rise_v (M := P) (by omega)
  have h6 := nothing_v hn
  have h7 := inT_v P (zeros n) true
  cases q1 : isRise P with
  | false =>
    rw [q1] at h5
    have hb : isPartF n P = false := by unfold isPartF; rw [q1, Bool.false_and]
    rw [hb]
    simp only [f_is_part_of_dials, b_is_part_of_dials, guardN, bodyD, fSeq, fAsg, fAsgM, fApp, fRet, fRetN, fDrop, fIfS, fNext, fRaise, fIf, fAnd, fOr, fNot, fT, bo, bnd, bndA, rB, fCall0, noEx, fCall, fCallP, permL, fCons, fNil, fTup, fLst, lim, fCb, ret, fOp, fUn, fVar, fC, fIsi, fIsiLT, isLT, fChain, fLk, fLkB, fLkM, fRevL, fSet2, fFrz, lockL, lockG, lkC, sName, sTup, sCons, sNil, wipeC, List.map_cons, List.map_nil, List.replicate_succ, List.replicate_zero, List.cons_append, List.nil_append, List.getElem?_cons_zero, List.getElem?_cons_succ, List.set_cons_zero, List.set_cons_succ, List.length_cons, List.length_nil, Nat.beq_refl, Nat.reduceAdd, Nat.reduceLeDiff, Nat.reduceEqDiff, Nat.zero_add, if_true, if_false, Bool.false_eq_true, reduceIte, Bool.not_true, Bool.not_false, small_few0, small_few1, small_few2, small_few3, h1, h4, h5]
  | true =>
    rw [q1] at h5
    by_cases q2 : zeros n ∈ P
    · have h7' : oIn true (dI (zeros n)) (dT P) = some (.bool false) := by rw [h7, decide_eq_true q2]; rfl
      have hb : isPartF n P = P.all fun a => P.all fun b => decide (addP n a b ∈ P) := by unfold isPartF; rw [q1, decide_eq_true q2, Bool.true_and, Bool.true_and]
      rw [hb]
      have hg := lc2_of (st := sName 2) (st1 := sName 3) (ft := fC (.bool true)) (ft1 := fC (.bool true)) (fe := fOp (oIn false) (fCall0 f_add (fCons (fVar 0) (fCons (fVar 2) (fCons (fVar 3) fNil)))) (fVar 1)) (src1 := iT (fVar 1)) (vs1 := [3])
        (Γ := [.d (dI n), .d (dT P), .un, .un]) dI dI P (fun a b => .bool (decide (addP n a b ∈ P))) P (fun a ha => ⟨[.d (dI n), .d (dT P), .d (dI a), .un], rfl, rfl, rfl, fun b hb => by
          have aa := add_v hn (in_len hn (hP a ha)) (in_len hn (hP b hb))
          have ai := inT_v P (addP n a b) false
          refine ⟨[.d (dI n), .d (dT P), .d (dI a), .d (dI b)], rfl, rfl, ?_⟩
          simp only [guardN, bodyD, fSeq, fAsg, fAsgM, fApp, fRet, fRetN, fDrop, fIfS, fNext, fRaise, fIf, fAnd, fOr, fNot, fT, bo, bnd, bndA, rB, fCall0, noEx, fCall, fCallP, permL, fCons, fNil, fTup, fLst, lim, fCb, ret, fOp, fUn, fVar, fC, fIsi, fIsiLT, isLT, fChain, fLk, fLkB, fLkM, fRevL, fSet2, fFrz, lockL, lockG, lkC, sName, sTup, sCons, sNil, wipeC, List.map_cons, List.map_nil, List.replicate_succ, List.replicate_zero, List.cons_append, List.nil_append, List.getElem?_cons_zero, List.getElem?_cons_succ, List.set_cons_zero, List.set_cons_succ, List.length_cons, List.length_nil, Nat.beq_refl, Nat.reduceAdd, Nat.reduceLeDiff, Nat.reduceEqDiff, Nat.zero_add, if_true, if_false, Bool.false_eq_true, reduceIte, Bool.not_true, Bool.not_false, small_few0, small_few1, small_few2, small_few3, aa, ai]⟩) (by omega)
      have hc : fLc2 (iT (fVar 1)) (sName 2) (fC (.bool true)) (iT (fVar 1)) (sName 3) (fC (.bool true)) (fOp (oIn false) (fCall0 f_add (fCons (fVar 0) (fCons (fVar 2) (fCons (fVar 3) fNil)))) (fVar 1)) [2, 3] [3] [.d (dI n), .d (dT P), .un, .un] = some (.val (.list (P.flatMap fun a => P.map fun b => PyData.bool (decide (addP n a b ∈ P))))) := by
        unfold fLc2
        rw [show iT (fVar 1) [.d (dI n), .d (dT P), .un, .un] = some (.vals (P.map dI)) from rfl]; dsimp only
        rw [show wipeC [.d (dI n), .d (dT P), .un, .un] [2, 3] = [.d (dI n), .d (dT P), .un, .un] from rfl, hg]; dsimp only
        rw [if_pos (small_of (by
          rw [List.length_flatMap]
          simp only [List.length_map, List.map_const', List.sum_replicate_nat]
          exact Nat.le_trans (Nat.mul_le_mul hl hl) (by decide)))]
      have ha := all_flat (fun a b => decide (addP n a b ∈ P)) P P
      simp only [f_is_part_of_dials, b_is_part_of_dials, guardN, bodyD, fSeq, fAsg, fAsgM, fApp, fRet, fRetN, fDrop, fIfS, fNext, fRaise, fIf, fAnd, fOr, fNot, fT, bo, bnd, bndA, rB, fCall0, noEx, fCall, fCallP, permL, fCons, fNil, fTup, fLst, lim, fCb, ret, fOp, fUn, fVar, fC, fIsi, fIsiLT, isLT, fChain, fLk, fLkB, fLkM, fRevL, fSet2, fFrz, lockL, lockG, lkC, sName, sTup, sCons, sNil, wipeC, List.map_cons, List.map_nil, List.replicate_succ, List.replicate_zero, List.cons_append, List.nil_append, List.getElem?_cons_zero, List.getElem?_cons_succ, List.set_cons_zero, List.set_cons_succ, List.length_cons, List.length_nil, Nat.beq_refl, Nat.reduceAdd, Nat.reduceLeDiff, Nat.reduceEqDiff, Nat.zero_add, if_true, if_false, Bool.false_eq_true, reduceIte, Bool.not_true, Bool.not_false, small_few0, small_few1, small_few2, small_few3, h1, h4, h5, h6, h7', hc, ha]
    · have h7' : oIn true (dI (zeros n)) (dT P) = some (.bool true) := by rw [h7, decide_eq_false q2]; rfl
      have hb : isPartF n P = false := by unfold isPartF; rw [q1, decide_eq_false q2]; rfl
      rw [hb]
      simp only [f_is_part_of_dials, b_is_part_of_dials, guardN, bodyD, fSeq, fAsg, fAsgM, fApp, fRet, fRetN, fDrop, fIfS, fNext, fRaise, fIf, fAnd, fOr, fNot, fT, bo, bnd, bndA, rB, fCall0, noEx, fCall, fCallP, permL, fCons, fNil, fTup, fLst, lim, fCb, ret, fOp, fUn, fVar, fC, fIsi, fIsiLT, isLT, fChain, fLk, fLkB, fLkM, fRevL, fSet2, fFrz, lockL, lockG, lkC, sName, sTup, sCons, sNil, wipeC, List.map_cons, List.map_nil, List.replicate_succ, List.replicate_zero, List.cons_append, List.nil_append, List.getElem?_cons_zero, List.getElem?_cons_succ, List.set_cons_zero, List.set_cons_succ, List.length_cons, List.length_nil, Nat.beq_refl, Nat.reduceAdd, Nat.reduceLeDiff, Nat.reduceEqDiff, Nat.zero_add, if_true, if_false, Bool.false_eq_true, reduceIte, Bool.not_true, Bool.not_false, small_few0, small_few1, small_few2, small_few3, h1, h4, h5, h6, h7']
theorem allIn_v (hn : n ∈ fewD) {r0 : List Int} (hR : ∀ p ∈ R, p ∈ placesOf n) (h0 : r0 ∈ placesOf n) (hl : R.length ≤ 1000) (a b : D) (c3 c4 c5 : Ce) (hx : oIxT (dT R) (.int 0) = some (dI r0)) :
    fLc (iT (fVar 2)) (sName 5) (fC (.bool true)) (fOp (oIn false) (fCall0 f_take_off (fCons (fVar 0) (fCons (fVar 5) (fCons (fOp oIxT (fVar 2) (fC (.int 0))) fNil)))) (fVar 3)) [5] [.d (dI n), .d b, .d (dT R), .d (dT P), c4, c5] = some (.val (.list (R.map fun m => PyData.bool (decide (takeP n m r0 ∈ P))))) := by
  refine flc_map (src := iT (fVar 2)) (st := sName 5) (ft := fC (.bool true)) (fe := fOp (oIn false) (fCall0 f_take_off (fCons (fVar 0) (fCons (fVar 5) (fCons (fOp oIxT (fVar 2) (fC (.int 0))) fNil)))) (fVar 3)) (vs := [5]) (Γ := [.d (dI n), .d b, .d (dT R), .d (dT P), c4, c5])
    dI (fun m => .bool (decide (takeP n m r0 ∈ P))) R rfl (by omega) fun m hm => ⟨[.d (dI n), .d b, .d (dT R), .d (dT P), c4, .d (dI m)], rfl, rfl, ?_⟩
  have a1 := take_v hn (in_len hn (hR m hm)) (in_len hn h0)
  have a2 := inT_v P (takeP n m r0) false
  simp only [guardN, bodyD, fSeq, fAsg, fAsgM, fApp, fRet, fRetN, fDrop, fIfS, fNext, fRaise, fIf, fAnd, fOr, fNot, fT, bo, bnd, bndA, rB, fCall0, noEx, fCall, fCallP, permL, fCons, fNil, fTup, fLst, lim, fCb, ret, fOp, fUn, fVar, fC, fIsi, fIsiLT, isLT, fChain, fLk, fLkB, fLkM, fRevL, fSet2, fFrz, lockL, lockG, lkC, sName, sTup, sCons, sNil, wipeC, List.map_cons, List.map_nil, List.replicate_succ, List.replicate_zero, List.cons_append, List.nil_append, List.getElem?_cons_zero, List.getElem?_cons_succ, List.set_cons_zero, List.set_cons_succ, List.length_cons, List.length_nil, Nat.beq_refl, Nat.reduceAdd, Nat.reduceLeDiff, Nat.reduceEqDiff, Nat.zero_add, if_true, if_false, Bool.false_eq_true, reduceIte, Bool.not_true, Bool.not_false, small_few0, small_few1, small_few2, small_few3, hx, a1, a2]
def barF (n : List Int) (L R : Rows) : Option Rows :=
  let P := sortR (L.map fun l => takeP n l (L.headD []))
  if isPartF n P = true then (if (R.all fun m => decide (takeP n m (R.headD []) ∈ P)) = true then (if addUp n R = mulP n (R.headD []) (L.length : Nat) then none else some P) else none) else none
theorem take_inn (hn : n ∈ fewD) {a b : List Int} (ha : a ∈ placesOf n) (hb : b ∈ placesOf n) : takeP n a b ∈ placesOf n := (takeP_in (in_len hn ha) (in_len hn hb) (few_pos hn)).mem
theorem partBar_v (hn : n ∈ fewD) (o : LotOk n L) (r : RowOk n L R) : f_find_part_bar [dI n, dT L, dT R] = some (.val (optT (barF n L R))) := by
  obtain ⟨l0, L', eL⟩ : ∃ l0 L', L = l0 :: L' := by
    cases L with
    | nil => exact (o.ne rfl).elim
    | cons l L => exact ⟨l, L, rfl⟩
  obtain ⟨r0, R', eR⟩ : ∃ r0 R', R = r0 :: R' := by
    cases R with
    | nil => have := r.len; rw [eL] at this; simp at this
    | cons l L => exact ⟨l, L, rfl⟩
  have h0 : l0 ∈ placesOf n := o.inn l0 (by rw [eL]; exact List.mem_cons_self ..)
  have h0r : r0 ∈ placesOf n := r.inn r0 (by rw [eR]; exact List.mem_cons_self ..)
  have x0 : oIxT (dT L) (.int 0) = some (dI l0) := by rw [eL]; rfl
  have x1 : oIxT (dT R) (.int 0) = some (dI r0) := by rw [eR]; rfl
  have hdL : L.headD [] = l0 := by rw [eL]; rfl
  have hdR : R.headD [] = r0 := by rw [eR]; rfl
  obtain ⟨P, eP⟩ : ∃ P, P = sortR (L.map fun l => takeP n l l0) := ⟨_, rfl⟩
  have pP : P.Perm (L.map fun l => takeP n l l0) := by rw [eP]; exact isort_perm _
  have hP : ∀ p ∈ P, p ∈ placesOf n := fun p hp => by
    obtain ⟨l, hl, rfl⟩ := List.mem_map.mp (pP.mem_iff.mp hp)
    exact take_inn hn (o.inn l hl) h0
  have lP : P.length ≤ 24 := by rw [pP.length_eq, List.length_map]; exact o.few
  have hf := flc_map (src := iT (fVar 1)) (st := sName 4) (ft := fC (.bool true)) (fe := fCall0 f_take_off (fCons (fVar 0) (fCons (fVar 4) (fCons (fOp oIxT (fVar 1) (fC (.int 0))) fNil)))) (vs := [4]) (Γ := [.d (dI n), .d (dT L), .d (dT R), .un, .un, .un])
    dI (fun l => dI (takeP n l l0)) L rfl (by have := o.few; omega) fun l hl => ⟨[.d (dI n), .d (dT L), .d (dT R), .un, .d (dI l), .un], rfl, rfl, by
      have a1 := take_v hn (in_len hn (o.inn l hl)) (in_len hn h0)
      simp only [guardN, bodyD, fSeq, fAsg, fAsgM, fApp, fRet, fRetN, fDrop, fIfS, fNext, fRaise, fIf, fAnd, fOr, fNot, fT, bo, bnd, bndA, rB, fCall0, noEx, fCall, fCallP, permL, fCons, fNil, fTup, fLst, lim, fCb, ret, fOp, fUn, fVar, fC, fIsi, fIsiLT, isLT, fChain, fLk, fLkB, fLkM, fRevL, fSet2, fFrz, lockL, lockG, lkC, sName, sTup, sCons, sNil, wipeC, List.map_cons, List.map_nil, List.replicate_succ, List.replicate_zero, List.cons_append, List.nil_append, List.getElem?_cons_zero, List.getElem?_cons_succ, List.set_cons_zero, List.set_cons_succ, List.length_cons, List.length_nil, Nat.beq_refl, Nat.reduceAdd, Nat.reduceLeDiff, Nat.reduceEqDiff, Nat.zero_add, if_true, if_false, Bool.false_eq_true, reduceIte, Bool.not_true, Bool.not_false, small_few0, small_few1, small_few2, small_few3, x0, a1]⟩
  have so : oSorted [.list (L.map fun l => dI (takeP n l l0))] = some (dL P) := by
    have := sortedL_v (R := L.map fun l => takeP n l l0) fun p hp => by
      obtain ⟨l, hl, rfl⟩ := List.mem_map.mp hp
      exact in_l1 hn (take_inn hn (o.inn l hl) h0)
    rw [← eP] at this
    unfold dL at this
    rw [List.map_map] at this
    exact this
  have tl : oTuple [dL P] = some (dT P) := rfl
  have p1 := partOf_v hn hP lP
  have hbar : barF n L R = if isPartF n P = true then (if (R.all fun m => decide (takeP n m r0 ∈ P)) = true then (if addUp n R = mulP n r0 (L.length : Nat) then none else some P) else none) else none := by
    unfold barF
    rw [hdL, hdR, ← eP]
  rw [hbar]
  refine (show guardN 3 (bodyD b_find_part_bar 3) [dI n, dT L, dT R] = _ from ?_)
  refine (guard_of (k := 3) rfl).trans (bodyD_rt ?_)
  refine (show b_find_part_bar [.d (dI n), .d (dT L), .d (dT R), .un, .un, .un] = _ from ?_)
  unfold b_find_part_bar
  rw [seq_on (Γ1 := [.d (dI n), .d (dT L), .d (dT R), .d (dT P), .un, .un]) (by simp only [guardN, bodyD, fSeq, fAsg, fAsgM, fApp, fRet, fRetN, fDrop, fIfS, fNext, fRaise, fIf, fAnd, fOr, fNot, fT, bo, bnd, bndA, rB, fCall0, noEx, fCall, fCallP, permL, fCons, fNil, fTup, fLst, lim, fCb, ret, fOp, fUn, fVar, fC, fIsi, fIsiLT, isLT, fChain, fLk, fLkB, fLkM, fRevL, fSet2, fFrz, lockL, lockG, lkC, sName, sTup, sCons, sNil, wipeC, List.map_cons, List.map_nil, List.replicate_succ, List.replicate_zero, List.cons_append, List.nil_append, List.getElem?_cons_zero, List.getElem?_cons_succ, List.set_cons_zero, List.set_cons_succ, List.length_cons, List.length_nil, Nat.beq_refl, Nat.reduceAdd, Nat.reduceLeDiff, Nat.reduceEqDiff, Nat.zero_add, if_true, if_false, Bool.false_eq_true, reduceIte, Bool.not_true, Bool.not_false, small_few0, small_few1, small_few2, small_few3, hf, so, tl])]
  cases q1 : isPartF n P with
  | false =>
    rw [q1] at p1
    rw [if_neg (by decide)]
    simp only [guardN, bodyD, fSeq, fAsg, fAsgM, fApp, fRet, fRetN, fDrop, fIfS, fNext, fRaise, fIf, fAnd, fOr, fNot, fT, bo, bnd, bndA, rB, fCall0, noEx, fCall, fCallP, permL, fCons, fNil, fTup, fLst, lim, fCb, ret, fOp, fUn, fVar, fC, fIsi, fIsiLT, isLT, fChain, fLk, fLkB, fLkM, fRevL, fSet2, fFrz, lockL, lockG, lkC, sName, sTup, sCons, sNil, wipeC, List.map_cons, List.map_nil, List.replicate_succ, List.replicate_zero, List.cons_append, List.nil_append, List.getElem?_cons_zero, List.getElem?_cons_succ, List.set_cons_zero, List.set_cons_succ, List.length_cons, List.length_nil, Nat.beq_refl, Nat.reduceAdd, Nat.reduceLeDiff, Nat.reduceEqDiff, Nat.zero_add, if_true, if_false, Bool.false_eq_true, reduceIte, Bool.not_true, Bool.not_false, small_few0, small_few1, small_few2, small_few3, p1, optT]
  | true =>
    rw [q1] at p1
    rw [if_pos rfl]
    rw [seq_on (Γ1 := [.d (dI n), .d (dT L), .d (dT R), .d (dT P), .un, .un]) (by simp only [guardN, bodyD, fSeq, fAsg, fAsgM, fApp, fRet, fRetN, fDrop, fIfS, fNext, fRaise, fIf, fAnd, fOr, fNot, fT, bo, bnd, bndA, rB, fCall0, noEx, fCall, fCallP, permL, fCons, fNil, fTup, fLst, lim, fCb, ret, fOp, fUn, fVar, fC, fIsi, fIsiLT, isLT, fChain, fLk, fLkB, fLkM, fRevL, fSet2, fFrz, lockL, lockG, lkC, sName, sTup, sCons, sNil, wipeC, List.map_cons, List.map_nil, List.replicate_succ, List.replicate_zero, List.cons_append, List.nil_append, List.getElem?_cons_zero, List.getElem?_cons_succ, List.set_cons_zero, List.set_cons_succ, List.length_cons, List.length_nil, Nat.beq_refl, Nat.reduceAdd, Nat.reduceLeDiff, Nat.reduceEqDiff, Nat.zero_add, if_true, if_false, Bool.false_eq_true, reduceIte, Bool.not_true, Bool.not_false, small_few0, small_few1, small_few2, small_few3, p1])]
    have a1 := allIn_v (P := P) hn r.inn h0r (by have := r.len; have := o.few; omega) (dT L) (dT L) .un .un .un x1
    have a2 := all_bools R fun m => decide (takeP n m r0 ∈ P)
    cases q2 : (R.all fun m => decide (takeP n m r0 ∈ P)) with
    | false =>
      rw [q2] at a2
      rw [if_neg (by decide)]
      simp only [guardN, bodyD, fSeq, fAsg, fAsgM, fApp, fRet, fRetN, fDrop, fIfS, fNext, fRaise, fIf, fAnd, fOr, fNot, fT, bo, bnd, bndA, rB, fCall0, noEx, fCall, fCallP, permL, fCons, fNil, fTup, fLst, lim, fCb, ret, fOp, fUn, fVar, fC, fIsi, fIsiLT, isLT, fChain, fLk, fLkB, fLkM, fRevL, fSet2, fFrz, lockL, lockG, lkC, sName, sTup, sCons, sNil, wipeC, List.map_cons, List.map_nil, List.replicate_succ, List.replicate_zero, List.cons_append, List.nil_append, List.getElem?_cons_zero, List.getElem?_cons_succ, List.set_cons_zero, List.set_cons_succ, List.length_cons, List.length_nil, Nat.beq_refl, Nat.reduceAdd, Nat.reduceLeDiff, Nat.reduceEqDiff, Nat.zero_add, if_true, if_false, Bool.false_eq_true, reduceIte, Bool.not_true, Bool.not_false, small_few0, small_few1, small_few2, small_few3, a1, a2, optT]
    | true =>
      rw [q2] at a2
      rw [if_pos rfl]
      rw [seq_on (Γ1 := [.d (dI n), .d (dT L), .d (dT R), .d (dT P), .un, .un]) (by simp only [guardN, bodyD, fSeq, fAsg, fAsgM, fApp, fRet, fRetN, fDrop, fIfS, fNext, fRaise, fIf, fAnd, fOr, fNot, fT, bo, bnd, bndA, rB, fCall0, noEx, fCall, fCallP, permL, fCons, fNil, fTup, fLst, lim, fCb, ret, fOp, fUn, fVar, fC, fIsi, fIsiLT, isLT, fChain, fLk, fLkB, fLkM, fRevL, fSet2, fFrz, lockL, lockG, lkC, sName, sTup, sCons, sNil, wipeC, List.map_cons, List.map_nil, List.replicate_succ, List.replicate_zero, List.cons_append, List.nil_append, List.getElem?_cons_zero, List.getElem?_cons_succ, List.set_cons_zero, List.set_cons_succ, List.length_cons, List.length_nil, Nat.beq_refl, Nat.reduceAdd, Nat.reduceLeDiff, Nat.reduceEqDiff, Nat.zero_add, if_true, if_false, Bool.false_eq_true, reduceIte, Bool.not_true, Bool.not_false, small_few0, small_few1, small_few2, small_few3, a1, a2])]
      have b1 := addUpT_v hn (L := R) fun p hp => in_len hn (r.inn p hp)
      have b2 := multiply_v hn (k := (L.length : Nat)) (in_len hn h0r) (by omega) (by have := o.few; omega)
      have b3 := lenT L
      have b4 := eq_v (addUp n R) (mulP n r0 (L.length : Nat))
      by_cases q3 : addUp n R = mulP n r0 (L.length : Nat)
      · rw [decide_eq_true q3] at b4
        rw [if_pos q3]
        simp only [guardN, bodyD, fSeq, fAsg, fAsgM, fApp, fRet, fRetN, fDrop, fIfS, fNext, fRaise, fIf, fAnd, fOr, fNot, fT, bo, bnd, bndA, rB, fCall0, noEx, fCall, fCallP, permL, fCons, fNil, fTup, fLst, lim, fCb, ret, fOp, fUn, fVar, fC, fIsi, fIsiLT, isLT, fChain, fLk, fLkB, fLkM, fRevL, fSet2, fFrz, lockL, lockG, lkC, sName, sTup, sCons, sNil, wipeC, List.map_cons, List.map_nil, List.replicate_succ, List.replicate_zero, List.cons_append, List.nil_append, List.getElem?_cons_zero, List.getElem?_cons_succ, List.set_cons_zero, List.set_cons_succ, List.length_cons, List.length_nil, Nat.beq_refl, Nat.reduceAdd, Nat.reduceLeDiff, Nat.reduceEqDiff, Nat.zero_add, if_true, if_false, Bool.false_eq_true, reduceIte, Bool.not_true, Bool.not_false, small_few0, small_few1, small_few2, small_few3, x1, b1, b2, b3, b4, optT]
      · rw [decide_eq_false q3] at b4
        rw [if_neg q3]
        simp only [guardN, bodyD, fSeq, fAsg, fAsgM, fApp, fRet, fRetN, fDrop, fIfS, fNext, fRaise, fIf, fAnd, fOr, fNot, fT, bo, bnd, bndA, rB, fCall0, noEx, fCall, fCallP, permL, fCons, fNil, fTup, fLst, lim, fCb, ret, fOp, fUn, fVar, fC, fIsi, fIsiLT, isLT, fChain, fLk, fLkB, fLkM, fRevL, fSet2, fFrz, lockL, lockG, lkC, sName, sTup, sCons, sNil, wipeC, List.map_cons, List.map_nil, List.replicate_succ, List.replicate_zero, List.cons_append, List.nil_append, List.getElem?_cons_zero, List.getElem?_cons_succ, List.set_cons_zero, List.set_cons_succ, List.length_cons, List.length_nil, Nat.beq_refl, Nat.reduceAdd, Nat.reduceLeDiff, Nat.reduceEqDiff, Nat.zero_add, if_true, if_false, Bool.false_eq_true, reduceIte, Bool.not_true, Bool.not_false, small_few0, small_few1, small_few2, small_few3, x1, b1, b2, b3, b4, optT]
theorem lex_transL : ∀ {a b c : List Int}, HT.lexLt a b = true → HT.lexLt b c = true → HT.lexLt a c = true
  | [], [], _, h, _ => by cases h
  | _ :: _, [], _, h, _ => by cases h
  | _, _ :: _, [], _, h => by cases h
  | [], _ :: _, _ :: _, _, _ => rfl
  | x :: a, y :: b, z :: c, h, k => by
    rw [HT.lexLt] at h k ⊢
    by_cases e : x = y
    · rw [if_pos e] at h
      subst e
      by_cases e2 : x = z
      · rw [if_pos e2] at k ⊢
        exact lex_transL h k
      · rw [if_neg e2] at k ⊢
        exact k
    · rw [if_neg e] at h
      have h1 := of_decide_eq_true h
      by_cases e2 : y = z
      · subst e2
        rw [if_neg e]
        exact h
      · rw [if_neg e2] at k
        have k1 := of_decide_eq_true k
        rw [if_neg (by omega)]
        exact (decide_eq_true (by omega))
theorem rise_nodup (h : isRise L = true) : L.Nodup := by
  have key : ∀ L : Rows, isRise L = true → L.Pairwise fun a b => HT.lexLt a b = true := fun L => by
    induction L with
    | nil => intro _; exact .nil
    | cons x L ih =>
      intro h
      cases L with
      | nil => exact List.pairwise_singleton ..
      | cons y L =>
        have h' : (HT.lexLt x y && isRise (y :: L)) = true := h
        rw [Bool.and_eq_true] at h'
        have ih' := ih h'.2
        refine .cons (fun z hz => ?_) ih'
        rcases (List.mem_cons.mp hz) with rfl | hz
        · exact h'.1
        · exact lex_transL h'.1 (List.rel_of_pairwise_cons ih' hz)
  exact (key L h).imp fun {a b} hab z => by rw [z, lex_irr] at hab; cases hab
theorem bar_none (hn : n ∈ fewD) (o : LotOk n L) (r : RowOk n L R) (s : SeatOk n L R M) : barF n L R = none := by
  obtain ⟨l0, L', eL⟩ : ∃ l0 L', L = l0 :: L' := by
    cases L with
    | nil => exact (o.ne rfl).elim
    | cons l L => exact ⟨l, L, rfl⟩
  obtain ⟨r0, R', eR⟩ : ∃ r0 R', R = r0 :: R' := by
    cases R with
    | nil => have := r.len; rw [eL] at this; simp at this
    | cons l L => exact ⟨l, L, rfl⟩
  have h0 : l0 ∈ placesOf n := o.inn l0 (by rw [eL]; exact List.mem_cons_self ..)
  have h0r : r0 ∈ placesOf n := r.inn r0 (by rw [eR]; exact List.mem_cons_self ..)
  have hdL : L.headD [] = l0 := by rw [eL]; rfl
  have hdR : R.headD [] = r0 := by rw [eR]; rfl
  obtain ⟨P, eP⟩ : ∃ P, P = sortR (L.map fun l => takeP n l l0) := ⟨_, rfl⟩
  have pP : P.Perm (L.map fun l => takeP n l l0) := by rw [eP]; exact isort_perm _
  have hP : ∀ p ∈ P, InP p n := fun p hp => by
    obtain ⟨l, hl, rfl⟩ := List.mem_map.mp (pP.mem_iff.mp hp)
    exact few_inP hn (take_inn hn (o.inn l hl) h0)
  have pm : M.Perm R := by rw [← s.row]; exact (isort_perm M).symm
  have hbar : barF n L R = if isPartF n P = true then (if (R.all fun m => decide (takeP n m r0 ∈ P)) = true then (if addUp n R = mulP n r0 (L.length : Nat) then none else some P) else none) else none := by
    unfold barF
    rw [hdL, hdR, ← eP]
  rw [hbar]
  cases q1 : isPartF n P with
  | false => rfl
  | true =>
    cases q2 : (R.all fun m => decide (takeP n m r0 ∈ P)) with
    | false => rfl
    | true =>
      unfold isPartF at q1
      rw [Bool.and_eq_true, Bool.and_eq_true] at q1
      have cl := q1.2.2
      have lN := rise_nodup o.rise
      have back : ((L.map fun l => takeP n l l0).map (addP n l0)) = L := by
        rw [List.map_map]
        conv => rhs; rw [← List.map_id L]
        exact List.map_congr_left fun l hl => add_take (few_inP hn h0) (few_inP hn (o.inn l hl))
      have := bar_sum (n := n) (l0 := l0) (r0 := r0) (L := L) (M := M) (H := P) (few_inP hn h0) (few_inP hn h0r) (fun p hp => few_inP hn (o.inn p hp)) (fun p hp => few_inP hn (s.inn p hp)) s.len o.ne hP
        (pP.nodup_iff.mpr (by
          have : ((L.map fun l => takeP n l l0).map (addP n l0)).Nodup := by rw [back]; exact lN
          exact List.Pairwise.of_map (addP n l0) (fun a b h z => h (by rw [z])) this)) ((pP.map (addP n l0)).trans (.of_eq back))
        (fun a ha b hb => by have := List.all_eq_true.mp (List.all_eq_true.mp cl a ha) b hb; exact of_decide_eq_true this)
        (fun m hm => by have := List.all_eq_true.mp q2 m (pm.mem_iff.mp hm); exact of_decide_eq_true this) s.nd
      rw [if_pos rfl, if_pos rfl, if_pos (by rw [← addUp_perm pm]; exact this)]
end
end Mv
namespace Mv
open PySem L2 Evl
section
variable {n p : List Int} {P R L M : Rows} {k : Nat} {Γ : En} {T : Int} {post : D → Int → Prop} {fe fl fh : En → Re} {kk : Bool} {ds : List D}
theorem sort_len (L : Rows) : (sortR L).length = L.length := (show (sortR L).Perm L from isort_perm L).length_eq
theorem sort_rise (nd : L.Nodup) : isRise (sortR L) = true := by
  have h1 := isort_pair rows_total L
  have pm : (sortR L).Perm L := isort_perm _
  have nd' : (sortR L).Nodup := pm.nodup_iff.mpr nd
  have h2 : (sortR L).Pairwise fun a b => HT.lexLt a b = true := by
    have h1' : (sortR L).Pairwise fun a b => (!HT.lexLt b a) = true := h1
    refine List.Pairwise.imp₂ (fun a b hab hne => ?_) h1' nd'
    cases q : HT.lexLt a b with
    | true => rfl
    | false => exact (hne (lex_eq q (by simpa using hab))).elim
  have key : ∀ l : Rows, (l.Pairwise fun a b => HT.lexLt a b = true) → isRise l = true := fun l => by
    induction l with
    | nil => intro _; rfl
    | cons x l ih =>
      intro h
      cases l with
      | nil => rfl
      | cons y l =>
        have h' := List.pairwise_cons.mp h
        show (HT.lexLt x y && isRise (y :: l)) = true
        rw [h'.1 y (List.mem_cons_self ..), ih h'.2]; rfl
  exact key _ h2
theorem lot_sorted (hn : n ∈ fewD) (h : ∀ p ∈ L, p ∈ placesOf n) (nd : L.Nodup) (ne : L ≠ []) : LotOk n (sortR L) := by
  have pm : (sortR L).Perm L := isort_perm _
  refine ⟨fun p hp => h p (pm.mem_iff.mp hp), fun z => ne (by have := pm.length_eq; rw [z] at this; exact List.eq_nil_of_length_eq_zero this.symm), sort_rise nd, ?_⟩
  rw [pm.length_eq]
  have := few_24 hn
  exact Nat.le_trans (List.Nodup.length_le_of_subset nd fun x hx => h x hx) this
theorem sortedTuple_v (hn : n ∈ fewD) (h : ∀ p ∈ L, p ∈ placesOf n) : oSorted [dL L] = some (dL (sortR L)) ∧ oTuple [dL (sortR L)] = some (dT (sortR L)) := ⟨sortedL_v fun p hp => in_l1 hn (h p hp), rfl⟩
theorem add_inn (hn : n ∈ fewD) {a b : List Int} (ha : a ∈ placesOf n) (hb : b ∈ placesOf n) : addP n a b ∈ placesOf n := (addP_inP (few_inP hn ha) (few_inP hn hb)).mem
theorem lgrown_v (hn : n ∈ fewD) {S : Rows} (hS : ∀ p ∈ S, p ∈ placesOf n) (lS : S.length ≤ 100) : ∃ F : Rows, f__law_grown_part [dI n, dL S] = some (.val (dL (sortR F))) ∧ F.Nodup ∧ (∀ p ∈ F, p ∈ placesOf n) ∧ F ≠ [] := by
  have h0 := lnothing_v hn
  obtain ⟨Γ', hf, F, c3, c4, c5, rfl, nd, inn, ne⟩ := ffor_inv (src := iR1 (fCons (fC (.int 30)) fNil)) (st := sName 3)
    (body := fIfS (fLkB (fT (fOp oLt (fVar 3) (fCb oLen (fCons (fVar 2) fNil))))) (fSeq (fAsgM (fLkM (fLc (iL (fVar 1)) (sName 5) (fC (.bool true)) (fCall0 f__law_plus (fCons (fVar 0) (fCons (fOp oIxL (fVar 2) (fVar 3)) (fCons (fVar 5) fNil)))) [5])) 4) (fFrz (fun i => Nat.beq i 4) (fFor (iL (fVar 4)) (sName 5) (fIfS (fLkB (fT (fOp (oIn true) (fVar 5) (fVar 2)))) (fApp 2 (fVar 5)) fNext)))) fNext)
    (Γ := [.d (dI n), .d (dL S), .ml ([zeros n].map dI), .un, .un, .un])
    (fun _ Γ => ∃ F c3 c4 c5, Γ = [.d (dI n), .d (dL S), .ml (List.map dI F), c3, c4, c5] ∧ F.Nodup ∧ (∀ p ∈ F, p ∈ placesOf n) ∧ F ≠ []) (as := upFrom 0 30) rfl ⟨[zeros n], _, _, _, rfl, by simp, fun p hp => by rw [List.mem_singleton.mp hp]; exact zeros_mem hn, by simp⟩ fun i a Γ hi hJ => by
      obtain ⟨F, c3, c4, c5, rfl, nd, inn, ne⟩ := hJ
      obtain ⟨ik, rfl⟩ := upFrom_at hi
      have f24 : F.length ≤ 24 := Nat.le_trans (List.Nodup.length_le_of_subset nd fun x hx => inn x hx) (few_24 hn)
      refine ⟨[.d (dI n), .d (dL S), .ml (F.map dI), .d (.int (0 + (i : Int))), c4, c5], rfl, ?_⟩
      rw [Int.zero_add]
      have l1 : oLen [.list (F.map dI)] = some (.int (F.length : Nat)) := lenL F
      have l2 : oLt (.int (i : Int)) (.int (F.length : Nat)) = some (.bool (decide (i < F.length))) := by
        show some (PyData.bool (decide ((i : Int) < (F.length : Nat)))) = _
        congr 2
        exact (decide_eq_decide.mpr (by omega))
      by_cases hlt : i < F.length
      · rw [decide_eq_true hlt] at l2
        have hF : F[i]? = some F[i] := List.getElem?_eq_getElem hlt
        obtain ⟨x, ex⟩ : ∃ x, x = F[i] := ⟨_, rfl⟩
        rw [← ex] at hF
        have hx : x ∈ placesOf n := inn x (List.mem_of_getElem? hF)
        have ix : oIxL (.list (F.map dI)) (.int (i : Int)) = some (dI x) := by rw [ixL_nat, List.getElem?_map, hF]; rfl
        have hl := flc_map (src := iL (fVar 1)) (st := sName 5) (ft := fC (.bool true)) (fe := fCall0 f__law_plus (fCons (fVar 0) (fCons (fOp oIxL (fVar 2) (fVar 3)) (fCons (fVar 5) fNil)))) (vs := [5]) (Γ := [.d (dI n), .d (dL S), .d (.list (F.map dI)), .d (.int (i : Int)), lkC c4, lkC c5])
          dI (fun q => dI (addP n x q)) S rfl (by omega) fun q hq => ⟨[.d (dI n), .d (dL S), .d (.list (F.map dI)), .d (.int (i : Int)), lkC c4, .d (dI q)], rfl, rfl, by
            have a1 := lplus_v hn (in_len hn hx) (in_len hn (hS q hq))
            simp only [guardN, bodyD, fSeq, fAsg, fAsgM, fApp, fRet, fRetN, fDrop, fIfS, fNext, fRaise, fIf, fAnd, fOr, fNot, fT, bo, bnd, bndA, rB, fCall0, noEx, fCall, fCallP, permL, fCons, fNil, fTup, fLst, lim, fCb, ret, fOp, fUn, fVar, fC, fIsi, fIsiLT, isLT, fChain, fLk, fLkB, fLkM, fRevL, fSet2, fFrz, lockL, lockG, lkC, sName, sTup, sCons, sNil, wipeC, List.map_cons, List.map_nil, List.replicate_succ, List.replicate_zero, List.cons_append, List.nil_append, List.getElem?_cons_zero, List.getElem?_cons_succ, List.set_cons_zero, List.set_cons_succ, List.length_cons, List.length_nil, Nat.beq_refl, Nat.reduceAdd, Nat.reduceLeDiff, Nat.reduceEqDiff, Nat.zero_add, if_true, if_false, Bool.false_eq_true, reduceIte, Bool.not_true, Bool.not_false, small_few0, small_few1, small_few2, small_few3, ix, a1]⟩
        rw [show S.map (fun q => dI (addP n x q)) = (S.map (addP n x)).map dI from by rw [List.map_map]; rfl] at hl
        have nl : noLs ((S.map (addP n x)).map dI) = true := noL_rows _
        obtain ⟨Γ2, hg, F2, d5, rfl, nd2, inn2, ne2⟩ := ffor_inv (src := iL (fVar 4)) (st := sName 5) (body := fIfS (fLkB (fT (fOp (oIn true) (fVar 5) (fVar 2)))) (fApp 2 (fVar 5)) fNext)
          (Γ := [.d (dI n), .d (dL S), .ml (F.map dI), .d (.int (i : Int)), .d (.list ((S.map (addP n x)).map dI)), c5])
          (fun _ Γ => ∃ F d5, Γ = [.d (dI n), .d (dL S), .ml (List.map dI F), .d (.int (i : Int)), .d (.list ((S.map (addP n x)).map dI)), d5] ∧ F.Nodup ∧ (∀ p ∈ F, p ∈ placesOf n) ∧ F ≠ []) (as := (S.map (addP n x)).map dI) rfl ⟨F, _, rfl, nd, inn, ne⟩ fun j z Γ hj hJ => by
            obtain ⟨F, d5, rfl, nd, inn, ne⟩ := hJ
            have f24 : F.length ≤ 24 := Nat.le_trans (List.Nodup.length_le_of_subset nd fun x hx => inn x hx) (few_24 hn)
            rw [List.getElem?_map, List.getElem?_map] at hj
            obtain ⟨y, hy, rfl⟩ := Option.map_eq_some_iff.mp hj
            obtain ⟨q, hq, rfl⟩ := Option.map_eq_some_iff.mp hy
            have hq := List.mem_of_getElem? hq
            have hxq := add_inn hn hx (hS q hq)
            refine ⟨[.d (dI n), .d (dL S), .ml (F.map dI), .d (.int (i : Int)), .d (.list ((S.map (addP n x)).map dI)), .d (dI (addP n x q))], rfl, ?_⟩
            have t := eqIn_v F (addP n x q) true
            by_cases hm : addP n x q ∈ F
            · have t' : oIn true (dI (addP n x q)) (.list (F.map dI)) = some (.bool false) := by
                rw [decide_eq_true hm] at t; exact t
              exact ⟨[.d (dI n), .d (dL S), .ml (F.map dI), .d (.int (i : Int)), .d (.list ((S.map (addP n x)).map dI)), .d (dI (addP n x q))], by simp only [guardN, bodyD, fSeq, fAsg, fAsgM, fApp, fRet, fRetN, fDrop, fIfS, fNext, fRaise, fIf, fAnd, fOr, fNot, fT, bo, bnd, bndA, rB, fCall0, noEx, fCall, fCallP, permL, fCons, fNil, fTup, fLst, lim, fCb, ret, fOp, fUn, fVar, fC, fIsi, fIsiLT, isLT, fChain, fLk, fLkB, fLkM, fRevL, fSet2, fFrz, lockL, lockG, lkC, sName, sTup, sCons, sNil, wipeC, List.map_cons, List.map_nil, List.replicate_succ, List.replicate_zero, List.cons_append, List.nil_append, List.getElem?_cons_zero, List.getElem?_cons_succ, List.set_cons_zero, List.set_cons_succ, List.length_cons, List.length_nil, Nat.beq_refl, Nat.reduceAdd, Nat.reduceLeDiff, Nat.reduceEqDiff, Nat.zero_add, if_true, if_false, Bool.false_eq_true, reduceIte, Bool.not_true, Bool.not_false, small_few0, small_few1, small_few2, small_few3, t'], F, _, rfl, nd, inn, ne⟩
            · have t' : oIn true (dI (addP n x q)) (.list (F.map dI)) = some (.bool true) := by
                rw [decide_eq_false hm] at t; exact t
              have sm : small (F.map dI).length = true := small_of (by rw [List.length_map]; omega)
              refine ⟨[.d (dI n), .d (dL S), .ml ((F ++ [addP n x q]).map dI), .d (.int (i : Int)), .d (.list ((S.map (addP n x)).map dI)), .d (dI (addP n x q))], ?_, F ++ [addP n x q], _, rfl, ?_, ?_, by simp⟩
              · rw [List.map_append, List.map_cons, List.map_nil]
                simp only [guardN, bodyD, fSeq, fAsg, fAsgM, fApp, fRet, fRetN, fDrop, fIfS, fNext, fRaise, fIf, fAnd, fOr, fNot, fT, bo, bnd, bndA, rB, fCall0, noEx, fCall, fCallP, permL, fCons, fNil, fTup, fLst, lim, fCb, ret, fOp, fUn, fVar, fC, fIsi, fIsiLT, isLT, fChain, fLk, fLkB, fLkM, fRevL, fSet2, fFrz, lockL, lockG, lkC, sName, sTup, sCons, sNil, wipeC, List.map_cons, List.map_nil, List.replicate_succ, List.replicate_zero, List.cons_append, List.nil_append, List.getElem?_cons_zero, List.getElem?_cons_succ, List.set_cons_zero, List.set_cons_succ, List.length_cons, List.length_nil, Nat.beq_refl, Nat.reduceAdd, Nat.reduceLeDiff, Nat.reduceEqDiff, Nat.zero_add, if_true, if_false, Bool.false_eq_true, reduceIte, Bool.not_true, Bool.not_false, small_few0, small_few1, small_few2, small_few3, t', sm]
              · exact List.nodup_append.mpr ⟨nd, by simp, fun a ha b hb => by rw [List.mem_singleton.mp hb]; exact fun z => hm (z ▸ ha)⟩
              · intro p hp
                rcases (List.mem_append.mp hp) with hp | hp
                · exact inn p hp
                · rw [List.mem_singleton.mp hp]; exact hxq
        have hg' : fFor (iL (fVar 4)) (sName 5) (fIfS (fLkB (fT (fOp (oIn true) (fVar 5) (fVar 2)))) (fApp 2 (fVar 5)) fNext) (lockL (fun i => Nat.beq i 4) [.d (dI n), .d (dL S), .ml (F.map dI), .d (.int (i : Int)), .ml ((S.map (addP n x)).map dI), c5]) = _ := hg
        have hq : fSeq (fAsgM (fLkM (fLc (iL (fVar 1)) (sName 5) (fC (.bool true)) (fCall0 f__law_plus (fCons (fVar 0) (fCons (fOp oIxL (fVar 2) (fVar 3)) (fCons (fVar 5) fNil)))) [5])) 4) (fFrz (fun i => Nat.beq i 4) (fFor (iL (fVar 4)) (sName 5) (fIfS (fLkB (fT (fOp (oIn true) (fVar 5) (fVar 2)))) (fApp 2 (fVar 5)) fNext))) [.d (dI n), .d (dL S), .ml (F.map dI), .d (.int (i : Int)), c4, c5] = some (.nx [.d (dI n), .d (dL S), .ml (List.map dI F2), .d (.int (i : Int)), .d (.list ((S.map (addP n x)).map dI)), d5]) := by
          rw [seq_on (Γ1 := [.d (dI n), .d (dL S), .ml (F.map dI), .d (.int (i : Int)), .ml ((S.map (addP n x)).map dI), c5]) (by
            unfold fAsgM fLkM
            rw [show lockL (fun _ => true) [Ce.d (dI n), .d (dL S), .ml (F.map dI), .d (.int (i : Int)), c4, c5] = [.d (dI n), .d (dL S), .d (.list (F.map dI)), .d (.int (i : Int)), lkC c4, lkC c5] from rfl, hl]; dsimp only
            rw [if_pos nl]; rfl)]
          exact hg'
        have hc : fLkB (fT (fOp oLt (fVar 3) (fCb oLen (fCons (fVar 2) fNil)))) [.d (dI n), .d (dL S), .ml (F.map dI), .d (.int (i : Int)), c4, c5] = some (.val (.bool true)) := by simp only [guardN, bodyD, fSeq, fAsg, fAsgM, fApp, fRet, fRetN, fDrop, fIfS, fNext, fRaise, fIf, fAnd, fOr, fNot, fT, bo, bnd, bndA, rB, fCall0, noEx, fCall, fCallP, permL, fCons, fNil, fTup, fLst, lim, fCb, ret, fOp, fUn, fVar, fC, fIsi, fIsiLT, isLT, fChain, fLk, fLkB, fLkM, fRevL, fSet2, fFrz, lockL, lockG, lkC, sName, sTup, sCons, sNil, wipeC, List.map_cons, List.map_nil, List.replicate_succ, List.replicate_zero, List.cons_append, List.nil_append, List.getElem?_cons_zero, List.getElem?_cons_succ, List.set_cons_zero, List.set_cons_succ, List.length_cons, List.length_nil, Nat.beq_refl, Nat.reduceAdd, Nat.reduceLeDiff, Nat.reduceEqDiff, Nat.zero_add, if_true, if_false, Bool.false_eq_true, reduceIte, Bool.not_true, Bool.not_false, small_few0, small_few1, small_few2, small_few3, l1, l2]
        refine ⟨[.d (dI n), .d (dL S), .ml (List.map dI F2), .d (.int (i : Int)), .d (.list ((S.map (addP n x)).map dI)), d5], ?_, F2, _, _, _, rfl, nd2, inn2, ne2⟩
        unfold fIfS
        rw [hc]
        exact hq
      · rw [decide_eq_false hlt] at l2
        exact ⟨[.d (dI n), .d (dL S), .ml (F.map dI), .d (.int (i : Int)), c4, c5], by simp only [guardN, bodyD, fSeq, fAsg, fAsgM, fApp, fRet, fRetN, fDrop, fIfS, fNext, fRaise, fIf, fAnd, fOr, fNot, fT, bo, bnd, bndA, rB, fCall0, noEx, fCall, fCallP, permL, fCons, fNil, fTup, fLst, lim, fCb, ret, fOp, fUn, fVar, fC, fIsi, fIsiLT, isLT, fChain, fLk, fLkB, fLkM, fRevL, fSet2, fFrz, lockL, lockG, lkC, sName, sTup, sCons, sNil, wipeC, List.map_cons, List.map_nil, List.replicate_succ, List.replicate_zero, List.cons_append, List.nil_append, List.getElem?_cons_zero, List.getElem?_cons_succ, List.set_cons_zero, List.set_cons_succ, List.length_cons, List.length_nil, Nat.beq_refl, Nat.reduceAdd, Nat.reduceLeDiff, Nat.reduceEqDiff, Nat.zero_add, if_true, if_false, Bool.false_eq_true, reduceIte, Bool.not_true, Bool.not_false, small_few0, small_few1, small_few2, small_few3, l1, l2], F, _, _, _, rfl, nd, inn, ne⟩
  have so := (sortedTuple_v hn inn).1
  refine ⟨F, ?_, nd, inn, ne⟩
  refine (show guardN 2 (bodyD b__law_grown_part 4) [dI n, dL S] = _ from ?_)
  refine (guard_of (k := 2) rfl).trans (bodyD_rt ?_)
  refine (show b__law_grown_part [.d (dI n), .d (dL S), .un, .un, .un, .un] = _ from ?_)
  unfold b__law_grown_part
  rw [seq_on (Γ1 := [.d (dI n), .d (dL S), .ml ([zeros n].map dI), .un, .un, .un]) (by simp only [guardN, bodyD, fSeq, fAsg, fAsgM, fApp, fRet, fRetN, fDrop, fIfS, fNext, fRaise, fIf, fAnd, fOr, fNot, fT, bo, bnd, bndA, rB, fCall0, noEx, fCall, fCallP, permL, fCons, fNil, fTup, fLst, lim, fCb, ret, fOp, fUn, fVar, fC, fIsi, fIsiLT, isLT, fChain, fLk, fLkB, fLkM, fRevL, fSet2, fFrz, lockL, lockG, lkC, sName, sTup, sCons, sNil, wipeC, List.map_cons, List.map_nil, List.replicate_succ, List.replicate_zero, List.cons_append, List.nil_append, List.getElem?_cons_zero, List.getElem?_cons_succ, List.set_cons_zero, List.set_cons_succ, List.length_cons, List.length_nil, Nat.beq_refl, Nat.reduceAdd, Nat.reduceLeDiff, Nat.reduceEqDiff, Nat.zero_add, if_true, if_false, Bool.false_eq_true, reduceIte, Bool.not_true, Bool.not_false, small_few0, small_few1, small_few2, small_few3, h0])]
  rw [seq_on hf]
  have so' : oSorted [.list (F.map dI)] = some (dL (sortR F)) := so
  simp only [guardN, bodyD, fSeq, fAsg, fAsgM, fApp, fRet, fRetN, fDrop, fIfS, fNext, fRaise, fIf, fAnd, fOr, fNot, fT, bo, bnd, bndA, rB, fCall0, noEx, fCall, fCallP, permL, fCons, fNil, fTup, fLst, lim, fCb, ret, fOp, fUn, fVar, fC, fIsi, fIsiLT, isLT, fChain, fLk, fLkB, fLkM, fRevL, fSet2, fFrz, lockL, lockG, lkC, sName, sTup, sCons, sNil, wipeC, List.map_cons, List.map_nil, List.replicate_succ, List.replicate_zero, List.cons_append, List.nil_append, List.getElem?_cons_zero, List.getElem?_cons_succ, List.set_cons_zero, List.set_cons_succ, List.length_cons, List.length_nil, Nat.beq_refl, Nat.reduceAdd, Nat.reduceLeDiff, Nat.reduceEqDiff, Nat.zero_add, if_true, if_false, Bool.false_eq_true, reduceIte, Bool.not_true, Bool.not_false, small_few0, small_few1, small_few2, small_few3, so']
theorem sorted_v (hn : n ∈ fewD) (h : ∀ p ∈ L, p ∈ placesOf n) : oSorted [.list (L.map dI)] = some (.list ((sortR L).map dI)) := (sortedTuple_v hn h).1
theorem moved_nodup (hn : n ∈ fewD) {x : List Int} (hx : x ∈ placesOf n) (h : ∀ p ∈ L, p ∈ placesOf n) (nd : L.Nodup) : (L.map fun q => addP n q x).Nodup := by
  have key : ∀ L : Rows, (∀ p ∈ L, p ∈ placesOf n) → L.Nodup → (L.map fun q => addP n q x).Nodup := fun L => by
    induction L with
    | nil => intro _ _; exact .nil
    | cons a L ih =>
      intro h nd
      rw [List.nodup_cons] at nd
      (rw [List.map_cons, List.nodup_cons])
      refine ⟨fun z => ?_, ih (fun p hp => h p (.tail _ hp)) nd.2⟩
      obtain ⟨b, hb, e⟩ := List.mem_map.mp z
      rw [addP_comm n b, addP_comm n a] at e
      have := addP_cancel (few_inP hn (h b (.tail _ hb))) (few_inP hn (h a (.head _))) (in_len hn hx) e
      rw [this] at hb
      exact nd.1 hb
  exact key L h nd
theorem wlot_v (hn : n ∈ fewD) {most : Nat} (m1 : 1 ≤ most) (m2 : most ≤ 24) (hT : T < 10000000000) (h : ∀ L T', LotOk n L → L.length ≤ most → T ≤ T' → T' ≤ T + 1000 → post (dT L) T') : W__law_lot [dI n, .int (most : Nat)] T post := by
  refine bodyW_of rfl fun s => ?_
  have n24 := few_24 hn
  have n2 : 2 ≤ (placesOf n).length := by
    have : (fewD.all fun n => Nat.ble 2 (placesOf n).length) = true := by decide +kernel
    exact Nat.le_of_ble_eq_true (List.all_eq_true.mp this n hn)
  have p0 := lplaces_v hn
  have lM : oLen [dL (placesOf n)] = some (.int ((placesOf n).length : Nat)) := lenL (placesOf n)
  unfold F__law_lot
  refine wSeq_of (Γ := [.fx (.ref s), .d (dI n), .d (.int (most : Nat)), .un, .un, .un, .un, .un, .un, .un, .un, .un, .un]) ?_
  refine (show (pw (fCall0 f__law_places (fCons (fVar 1) fNil))) _ T _ from pw_of (d := dL (placesOf n)) (by simp only [guardN, bodyD, fSeq, fAsg, fAsgM, fApp, fRet, fRetN, fDrop, fIfS, fNext, fRaise, fIf, fAnd, fOr, fNot, fT, bo, bnd, bndA, rB, fCall0, noEx, fCall, fCallP, permL, fCons, fNil, fTup, fLst, lim, fCb, ret, fOp, fUn, fVar, fC, fIsi, fIsiLT, isLT, fChain, fLk, fLkB, fLkM, fRevL, fSet2, fFrz, lockL, lockG, lkC, sName, sTup, sCons, sNil, wipeC, List.map_cons, List.map_nil, List.replicate_succ, List.replicate_zero, List.cons_append, List.nil_append, List.getElem?_cons_zero, List.getElem?_cons_succ, List.set_cons_zero, List.set_cons_succ, List.length_cons, List.length_nil, Nat.beq_refl, Nat.reduceAdd, Nat.reduceLeDiff, Nat.reduceEqDiff, Nat.zero_add, if_true, if_false, Bool.false_eq_true, reduceIte, Bool.not_true, Bool.not_false, small_few0, small_few1, small_few2, small_few3, p0]) ?_)
  refine wDraw_of (wCons_of (pw_of rfl (wNil_of (draw_of (by omega) (by omega) (by omega) fun way hw => ?_))))
  refine (show wSeq _ _ [.fx (.ref s), .d (dI n), .d (.int (most : Nat)), .d (dL (placesOf n)), .d (.int (way : Int)), .un, .un, .un, .un, .un, .un, .un, .un] (T + 1) _ _ from ?_)
  refine wSeq_of (wAsg_of (wDraw_of (wCons_of (pw_of (d := dI n) rfl (wNil_of (wplace_v hn (by omega) fun here T1 hh t1 t2 => ?_))))))
  refine (show wSeq _ _ [.fx (.ref s), .d (dI n), .d (.int (most : Nat)), .d (dL (placesOf n)), .d (.int (way : Int)), .d (dI here), .un, .un, .un, .un, .un, .un, .un] T1 _ _ from ?_)
  have last : ∀ (c6 c7 c8 c9 c10 c11 : Ce) T2, T ≤ T2 → T2 ≤ T + 400 → (wSeq (wAsg (wOp oAdd (pw (fC (.int 1))) (wDraw W__law_draw (wCons (pw (fCb oMin2 (fCons (fVar 2) (fCons (fCb oLen (fCons (fVar 3) fNil)) fNil)))) wNil))) (sName 12)) (wRet (wCb oTuple (wCons (wCb oSorted (wCons (wSl true (wDraw W__law_mixed (wCons (pw (fVar 3)) wNil)) (pw (fVar 12))) wNil)) wNil))))
      [.fx (.ref s), .d (dI n), .d (.int (most : Nat)), .d (dL (placesOf n)), .d (.int (way : Int)), .d (dI here), c6, c7, c8, c9, c10, c11, .un] T2 (fun _ T' => post .none T') post := fun c6 c7 c8 c9 c10 c11 T2 t3 t4 => by
    obtain ⟨mm, e1, e2, e3⟩ : ∃ mm : Nat, oMin2 [.int (most : Nat), .int ((placesOf n).length : Nat)] = some (.int (mm : Nat)) ∧ 1 ≤ mm ∧ mm ≤ most ∧ mm ≤ (placesOf n).length := by
      show ∃ mm : Nat, some (PyData.int (if ((placesOf n).length : Int) < (most : Int) then ((placesOf n).length : Int) else (most : Int))) = some (.int (mm : Nat)) ∧ _
      by_cases z : ((placesOf n).length : Int) < (most : Int)
      · exact ⟨(placesOf n).length, by rw [if_pos z], by omega, by omega, by omega⟩
      · exact ⟨most, by rw [if_neg z], by omega, by omega, by omega⟩
    refine wSeq_of (wAsg_of (wOp_of (pw_of rfl (wDraw_of (wCons_of (pw_of (d := .int (mm : Nat)) (by simp only [guardN, bodyD, fSeq, fAsg, fAsgM, fApp, fRet, fRetN, fDrop, fIfS, fNext, fRaise, fIf, fAnd, fOr, fNot, fT, bo, bnd, bndA, rB, fCall0, noEx, fCall, fCallP, permL, fCons, fNil, fTup, fLst, lim, fCb, ret, fOp, fUn, fVar, fC, fIsi, fIsiLT, isLT, fChain, fLk, fLkB, fLkM, fRevL, fSet2, fFrz, lockL, lockG, lkC, sName, sTup, sCons, sNil, wipeC, List.map_cons, List.map_nil, List.replicate_succ, List.replicate_zero, List.cons_append, List.nil_append, List.getElem?_cons_zero, List.getElem?_cons_succ, List.set_cons_zero, List.set_cons_succ, List.length_cons, List.length_nil, Nat.beq_refl, Nat.reduceAdd, Nat.reduceLeDiff, Nat.reduceEqDiff, Nat.zero_add, if_true, if_false, Bool.false_eq_true, reduceIte, Bool.not_true, Bool.not_false, small_few0, small_few1, small_few2, small_few3, lM, e1]) (wNil_of (draw_of (by omega) (by omega) (by omega) fun r hr => ?_))))))))
    refine (show wRet _ [.fx (.ref s), .d (dI n), .d (.int (most : Nat)), .d (dL (placesOf n)), .d (.int (way : Int)), .d (dI here), c6, c7, c8, c9, c10, c11, .d (.int (1 + (r : Int)))] (T2 + 1) _ _ from ?_)
    refine wRet_of (wCb_of (wCons_of (wCb_of (wCons_of (wSl_of (wDraw_of (wCons_of (pw_of rfl (wNil_of (mixed_v (by omega) (by omega) fun S hS => ?_))))))))))
    refine (show (match sqOf true (dL S) with | some ds => _ | none => False) from ?_)
    refine (show (pw (fVar 12)) _ _ _ from pw_of (d := .int (1 + (r : Int))) rfl ?_)
    have hr1 : 1 + (r : Int) = ((1 + r : Nat) : Int) := by omega
    have sl := hS.length_eq
    have hc : cutD (S.map dI) none (some (1 + (r : Int))) = (S.take (1 + r)).map dI := by
      rw [hr1, cut_lo (1 + r) (by rw [List.length_map]; omega), List.map_take]
    have inS : ∀ p ∈ S.take (1 + r), p ∈ placesOf n := fun p hp => hS.mem_iff.mp (List.mem_of_mem_take hp)
    have so := sorted_v hn inS
    refine wNil_of ?_
    show (match oSorted [.list (cutD (S.map dI) none (some (1 + (r : Int))))] with | some z => _ | none => False)
    rw [hc, so]
    refine wNil_of ?_
    have ndS : (S.take (1 + r)).Nodup := (List.take_sublist _ _).nodup (hS.nodup_iff.mpr (few_nodup hn))
    have ok := lot_sorted hn inS ndS (fun z => by have := congrArg List.length z; rw [List.length_take, List.length_nil] at this; omega)
    exact h _ _ ok (by rw [sort_len, List.length_take]; omega) (by omega) (by omega)
  have second : ∀ (c6 c7 : Ce) T2, T ≤ T2 → T2 ≤ T + 60 → (wSeq (wIfS (pwb (fT (fOp oEqA (fVar 4) (fC (.int 1))))) (wSeq (wParM 8 9 (wDraw W__law_place (wCons (pw (fVar 1)) wNil)) (fLst (fCons (fVar 5) fNil))) (wSeq (wFor (pwa (iR1 (fCons (fOp oSub (fVar 2) (fC (.int 1))) fNil))) (sName 10) (wSeq (pws 0 (fAsg (fLk (fCall0 f__law_plus (fCons (fVar 1) (fCons (fOp oIxL (fVar 9) (fUn oNeg (fC (.int 1)))) (fCons (fVar 8) fNil))))) (sName 11))) (wIfS (wAnd (pwb (fLkB (fT (fOp (oIn true) (fVar 11) (fVar 9))))) (wT (wOp oGt (wDraw W__law_draw (wCons (pw (fC (.int 6))) wNil)) (pw (fC (.int 0)))))) (pws 0 (fApp 9 (fVar 11))) wNext))) (pws 0 (fRet (fCb oTuple (fCons (fCb oSorted (fCons (fVar 9) fNil)) fNil)))))) wNext) (wSeq (wAsg (wOp oAdd (pw (fC (.int 1))) (wDraw W__law_draw (wCons (pw (fCb oMin2 (fCons (fVar 2) (fCons (fCb oLen (fCons (fVar 3) fNil)) fNil)))) wNil))) (sName 12)) (wRet (wCb oTuple (wCons (wCb oSorted (wCons (wSl true (wDraw W__law_mixed (wCons (pw (fVar 3)) wNil)) (pw (fVar 12))) wNil)) wNil)))))
      [.fx (.ref s), .d (dI n), .d (.int (most : Nat)), .d (dL (placesOf n)), .d (.int (way : Int)), .d (dI here), c6, c7, .un, .un, .un, .un, .un] T2 (fun _ T' => post .none T') post := fun c6 c7 T2 t3 t4 => by
    refine wSeq_of (wIfS_of (pwb_of (b := decide ((way : Int) = 1)) rfl ?_))
    by_cases z : (way : Int) = 1
    · rw [decide_eq_true z, if_pos rfl]
      refine wSeq_of ?_
      refine (show wDraw W__law_place _ _ T2 _ from wDraw_of (wCons_of (pw_of (d := dI n) rfl (wNil_of (wplace_v hn (by omega) fun st T3 hs t5 t6 => ?_)))))
      refine (show wSeq _ _ [.fx (.ref s), .d (dI n), .d (.int (most : Nat)), .d (dL (placesOf n)), .d (.int (way : Int)), .d (dI here), c6, c7, .d (dI st), .ml ([here].map dI), .un, .un, .un] T3 _ _ from ?_)
      have ei : iR1 (fCons (fOp oSub (fVar 2) (fC (.int 1))) fNil) [.fx (.ref s), .d (dI n), .d (.int (most : Nat)), .d (dL (placesOf n)), .d (.int (way : Int)), .d (dI here), c6, c7, .d (dI st), .ml ([here].map dI), .un, .un, .un] = some (.vals (upFrom 0 (most - 1))) := by
        have : ((most : Int) - 1) = ((most - 1 : Nat) : Int) := by omega
        show (if small ((most : Int) - 1).toNat = true ∧ -1000000 ≤ (most : Int) - 1 then some (Oa.vals (upFrom 0 ((most : Int) - 1).toNat)) else none) = _
        rw [this, Int.toNat_natCast, if_pos ⟨small_of (by omega), by omega⟩]
      refine wSeq_of (wFor_of (pwa_of ei ?_))
      refine forW_go (fun j Γ T4 => ∃ F c10 c11, Γ = [.fx (.ref s), .d (dI n), .d (.int (most : Nat)), .d (dL (placesOf n)), .d (.int (way : Int)), .d (dI here), c6, c7, .d (dI st), .ml (List.map dI F), c10, c11, .un] ∧ F.Nodup ∧ (∀ p ∈ F, p ∈ placesOf n) ∧ F ≠ [] ∧ F.length ≤ j + 1 ∧ T3 ≤ T4 ∧ T4 ≤ T3 + j) _ 0 _ T3 ⟨[here], _, _, rfl, by simp, fun p hp => by rw [List.mem_singleton.mp hp]; exact hh, by simp, by simp, by omega, by omega⟩ (fun j x Γ T4 nx' hj hI hq => ?_) fun Γ T4 hI => ?_
      · obtain ⟨F, c10, c11, rfl, nd, inn, ne, lF, t7, t8⟩ := hI
        have jk := (List.getElem?_eq_some_iff.mp hj).1
        rw [upFrom_len] at jk
        obtain ⟨_, rfl⟩ := upFrom_at hj
        refine ⟨_, rfl, ?_⟩
        have f24 : F.length ≤ 24 := Nat.le_trans (List.Nodup.length_le_of_subset nd fun x hx => inn x hx) n24
        obtain ⟨y, hy⟩ : ∃ y, F.getLast? = some y := ⟨_, List.getLast?_eq_some_getLast ne⟩
        have ym : y ∈ placesOf n := inn y (List.mem_of_getLast? hy)
        have ix : oIxL (.list (F.map dI)) (.int (-1)) = some (dI y) := by
          have hl : 1 ≤ (F.map dI).length := by rw [List.length_map]; exact List.length_pos_iff.mpr ne
          show ixD (F.map dI) (-1) = _
          unfold ixD
          rw [if_neg (by decide), if_pos (by omega), show ((-1 : Int) + ((F.map dI).length : Int)).toNat = (F.map dI).length - 1 from by omega, ← List.getLast?_eq_getElem?, List.getLast?_map, hy]; rfl
        have n1 : oNeg (.int 1) = some (.int (-1)) := rfl
        have a1 := lplus_v hn (in_len hn ym) (in_len hn hs)
        have hxq := add_inn hn ym hs
        have lkd : fLk (fCall0 f__law_plus (fCons (fVar 1) (fCons (fOp oIxL (fVar 9) (fUn oNeg (fC (.int 1)))) (fCons (fVar 8) fNil)))) [.fx (.ref s), .d (dI n), .d (.int (most : Nat)), .d (dL (placesOf n)), .d (.int (way : Int)), .d (dI here), c6, c7, .d (dI st), .ml (F.map dI), .d (.int (0 + (j : Int))), c11, .un] = some (.val (dI (addP n y st))) := by
          unfold fLk
          rw [show (fCall0 f__law_plus (fCons (fVar 1) (fCons (fOp oIxL (fVar 9) (fUn oNeg (fC (.int 1)))) (fCons (fVar 8) fNil)))) (lockL (fun _ => true) [.fx (.ref s), .d (dI n), .d (.int (most : Nat)), .d (dL (placesOf n)), .d (.int (way : Int)), .d (dI here), c6, c7, .d (dI st), .ml (F.map dI), .d (.int (0 + (j : Int))), c11, .un]) = some (.val (dI (addP n y st))) from by simp only [guardN, bodyD, fSeq, fAsg, fAsgM, fApp, fRet, fRetN, fDrop, fIfS, fNext, fRaise, fIf, fAnd, fOr, fNot, fT, bo, bnd, bndA, rB, fCall0, noEx, fCall, fCallP, permL, fCons, fNil, fTup, fLst, lim, fCb, ret, fOp, fUn, fVar, fC, fIsi, fIsiLT, isLT, fChain, fLk, fLkB, fLkM, fRevL, fSet2, fFrz, lockL, lockG, lkC, sName, sTup, sCons, sNil, wipeC, List.map_cons, List.map_nil, List.replicate_succ, List.replicate_zero, List.cons_append, List.nil_append, List.getElem?_cons_zero, List.getElem?_cons_succ, List.set_cons_zero, List.set_cons_succ, List.length_cons, List.length_nil, Nat.beq_refl, Nat.reduceAdd, Nat.reduceLeDiff, Nat.reduceEqDiff, Nat.zero_add, if_true, if_false, Bool.false_eq_true, reduceIte, Bool.not_true, Bool.not_false, small_few0, small_few1, small_few2, small_few3, n1, ix, a1]]
          dsimp only
          rw [if_pos (show noL (dI (addP n y st)) = true from noL_ints _)]
        refine wSeq_of (Γ := [.fx (.ref s), .d (dI n), .d (.int (most : Nat)), .d (dL (placesOf n)), .d (.int (way : Int)), .d (dI here), c6, c7, .d (dI st), .ml (F.map dI), .d (.int (0 + (j : Int))), c11, .un]) (pws_nx (Γ' := [.fx (.ref s), .d (dI n), .d (.int (most : Nat)), .d (dL (placesOf n)), .d (.int (way : Int)), .d (dI here), c6, c7, .d (dI st), .ml (F.map dI), .d (.int (0 + (j : Int))), .d (dI (addP n y st)), .un]) (by unfold fAsg; rw [lkd]; rfl) rfl ?_)
        have t := eqIn_v F (addP n y st) true
        have tt : fLkB (fT (fOp (oIn true) (fVar 11) (fVar 9))) [.fx (.ref s), .d (dI n), .d (.int (most : Nat)), .d (dL (placesOf n)), .d (.int (way : Int)), .d (dI here), c6, c7, .d (dI st), .ml (F.map dI), .d (.int (0 + (j : Int))), .d (dI (addP n y st)), .un] = some (.val (.bool (!decide (addP n y st ∈ F)))) := by
          have t' : oIn true (dI (addP n y st)) (.list (F.map dI)) = some (.bool (!decide (addP n y st ∈ F))) := t
          simp only [guardN, bodyD, fSeq, fAsg, fAsgM, fApp, fRet, fRetN, fDrop, fIfS, fNext, fRaise, fIf, fAnd, fOr, fNot, fT, bo, bnd, bndA, rB, fCall0, noEx, fCall, fCallP, permL, fCons, fNil, fTup, fLst, lim, fCb, ret, fOp, fUn, fVar, fC, fIsi, fIsiLT, isLT, fChain, fLk, fLkB, fLkM, fRevL, fSet2, fFrz, lockL, lockG, lkC, sName, sTup, sCons, sNil, wipeC, List.map_cons, List.map_nil, List.replicate_succ, List.replicate_zero, List.cons_append, List.nil_append, List.getElem?_cons_zero, List.getElem?_cons_succ, List.set_cons_zero, List.set_cons_succ, List.length_cons, List.length_nil, Nat.beq_refl, Nat.reduceAdd, Nat.reduceLeDiff, Nat.reduceEqDiff, Nat.zero_add, if_true, if_false, Bool.false_eq_true, reduceIte, Bool.not_true, Bool.not_false, small_few0, small_few1, small_few2, small_few3, t']
        refine wIfS_of (wAnd_of (pwb_of tt ?_))
        by_cases hm : addP n y st ∈ F
        · rw [decide_eq_true hm]
          (simp only [Bool.not_true, Bool.false_eq_true, if_false])
          exact wNext_of (hq _ _ ⟨F, _, _, rfl, nd, inn, ne, by omega, by omega, by omega⟩)
        · rw [decide_eq_false hm]
          (simp only [Bool.not_false, if_true])
          refine wT_of (wOp_of (wDraw_of (wCons_of (pw_of rfl (wNil_of (draw_of (by omega) (by omega) (by omega) fun r hr => ?_))))))
          refine (show (if decide ((0 : Int) < (r : Int)) = true then _ else _) from ?_)
          by_cases z2 : (0 : Int) < (r : Int)
          · rw [decide_eq_true z2, if_pos rfl]
            refine pws_nx (Γ' := [.fx (.ref s), .d (dI n), .d (.int (most : Nat)), .d (dL (placesOf n)), .d (.int (way : Int)), .d (dI here), c6, c7, .d (dI st), .ml ((F ++ [addP n y st]).map dI), .d (.int (0 + (j : Int))), .d (dI (addP n y st)), .un]) (by
              have sm : small (F.map dI).length = true := small_of (by rw [List.length_map]; omega)
              rw [List.map_append, List.map_cons, List.map_nil]
              simp only [guardN, bodyD, fSeq, fAsg, fAsgM, fApp, fRet, fRetN, fDrop, fIfS, fNext, fRaise, fIf, fAnd, fOr, fNot, fT, bo, bnd, bndA, rB, fCall0, noEx, fCall, fCallP, permL, fCons, fNil, fTup, fLst, lim, fCb, ret, fOp, fUn, fVar, fC, fIsi, fIsiLT, isLT, fChain, fLk, fLkB, fLkM, fRevL, fSet2, fFrz, lockL, lockG, lkC, sName, sTup, sCons, sNil, wipeC, List.map_cons, List.map_nil, List.replicate_succ, List.replicate_zero, List.cons_append, List.nil_append, List.getElem?_cons_zero, List.getElem?_cons_succ, List.set_cons_zero, List.set_cons_succ, List.length_cons, List.length_nil, Nat.beq_refl, Nat.reduceAdd, Nat.reduceLeDiff, Nat.reduceEqDiff, Nat.zero_add, if_true, if_false, Bool.false_eq_true, reduceIte, Bool.not_true, Bool.not_false, small_few0, small_few1, small_few2, small_few3, sm]) rfl ?_
            exact hq _ _ ⟨F ++ [addP n y st], _, _, rfl, List.nodup_append.mpr ⟨nd, by simp, fun a ha b hb => by rw [List.mem_singleton.mp hb]; exact fun z => hm (z ▸ ha)⟩, fun p hp => by
              rcases (List.mem_append.mp hp) with hp | hp
              · exact inn p hp
              · rw [List.mem_singleton.mp hp]; exact hxq, by simp, by rw [List.length_append]; simp; omega, by omega, by omega⟩
          · rw [decide_eq_false z2, if_neg (by decide)]
            exact wNext_of (hq _ _ ⟨F, _, _, rfl, nd, inn, ne, by omega, by omega, by omega⟩)
      · obtain ⟨F, c10, c11, rfl, nd, inn, ne, lF, t7, t8⟩ := hI
        rw [upFrom_len] at lF t8
        have so := sorted_v hn inn
        refine pws_rt (d := dT (sortR F)) (by
          have tl : oTuple [.list ((sortR F).map dI)] = some (dT (sortR F)) := rfl
          simp only [guardN, bodyD, fSeq, fAsg, fAsgM, fApp, fRet, fRetN, fDrop, fIfS, fNext, fRaise, fIf, fAnd, fOr, fNot, fT, bo, bnd, bndA, rB, fCall0, noEx, fCall, fCallP, permL, fCons, fNil, fTup, fLst, lim, fCb, ret, fOp, fUn, fVar, fC, fIsi, fIsiLT, isLT, fChain, fLk, fLkB, fLkM, fRevL, fSet2, fFrz, lockL, lockG, lkC, sName, sTup, sCons, sNil, wipeC, List.map_cons, List.map_nil, List.replicate_succ, List.replicate_zero, List.cons_append, List.nil_append, List.getElem?_cons_zero, List.getElem?_cons_succ, List.set_cons_zero, List.set_cons_succ, List.length_cons, List.length_nil, Nat.beq_refl, Nat.reduceAdd, Nat.reduceLeDiff, Nat.reduceEqDiff, Nat.zero_add, if_true, if_false, Bool.false_eq_true, reduceIte, Bool.not_true, Bool.not_false, small_few0, small_few1, small_few2, small_few3, so, tl]) ?_
        exact h _ _ (lot_sorted hn inn nd ne) (by rw [sort_len]; omega) (by omega) (by omega)
    · rw [decide_eq_false z, if_neg (by decide)]
      exact wNext_of (last _ _ _ _ _ _ _ (by omega) (by omega))
  refine wSeq_of (wIfS_of (pwb_of (b := decide ((way : Int) = 0)) rfl ?_))
  by_cases z : (way : Int) = 0
  · rw [decide_eq_true z, if_pos rfl]
    refine wSeq_of (wAsg_of (wCall_of (wCons_of (pw_of (d := dI n) rfl (wCons_of (wLst_of (wCons_of (wDraw_of (wCons_of (pw_of (d := dI n) rfl (wNil_of (wplace_v hn (by omega) fun q T3 hq t5 t6 => ?_))))))))))))
    refine wNil_of ⟨rfl, wNil_of ?_⟩
    obtain ⟨F, hF, nd, inn, ne⟩ := lgrown_v hn (S := [q]) (fun p hp => by rw [List.mem_singleton.mp hp]; exact hq) (by simp)
    have hF' : f__law_grown_part [dI n, .list [dI q]] = some (.val (dL (sortR F))) := hF
    rw [hF']
    have pF : (sortR F).Perm F := isort_perm F
    have innS : ∀ p ∈ sortR F, p ∈ placesOf n := fun p hp => inn p (pF.mem_iff.mp hp)
    have f24 : F.length ≤ 24 := Nat.le_trans (List.Nodup.length_le_of_subset nd fun x hx => inn x hx) n24
    refine (show pws 0 _ [.fx (.ref s), .d (dI n), .d (.int (most : Nat)), .d (dL (placesOf n)), .d (.int (way : Int)), .d (dI here), .d (dL (sortR F)), .un, .un, .un, .un, .un, .un] T3 _ _ from ?_)
    have l1 := lenL (sortR F)
    have l2 : oLe (.int ((sortR F).length : Nat)) (.int (most : Nat)) = some (.bool (decide (((sortR F).length : Int) ≤ (most : Int)))) := rfl
    by_cases hle : ((sortR F).length : Int) ≤ (most : Int)
    · rw [decide_eq_true hle] at l2
      have hm := flc_map (src := iL (fVar 6)) (st := sName 7) (ft := fC (.bool true)) (fe := fCall0 f__law_plus (fCons (fVar 1) (fCons (fVar 7) (fCons (fVar 5) fNil)))) (vs := [7]) (Γ := [.fx (.ref s), .d (dI n), .d (.int (most : Nat)), .d (dL (placesOf n)), .d (.int (way : Int)), .d (dI here), .d (dL (sortR F)), .un, .un, .un, .un, .un, .un])
        dI (fun q => dI (addP n q here)) (sortR F) rfl (by rw [pF.length_eq]; omega) fun q hq => ⟨[.fx (.ref s), .d (dI n), .d (.int (most : Nat)), .d (dL (placesOf n)), .d (.int (way : Int)), .d (dI here), .d (dL (sortR F)), .d (dI q), .un, .un, .un, .un, .un], rfl, rfl, by
          have a1 := lplus_v hn (in_len hn (innS q hq)) (in_len hn hh)
          simp only [guardN, bodyD, fSeq, fAsg, fAsgM, fApp, fRet, fRetN, fDrop, fIfS, fNext, fRaise, fIf, fAnd, fOr, fNot, fT, bo, bnd, bndA, rB, fCall0, noEx, fCall, fCallP, permL, fCons, fNil, fTup, fLst, lim, fCb, ret, fOp, fUn, fVar, fC, fIsi, fIsiLT, isLT, fChain, fLk, fLkB, fLkM, fRevL, fSet2, fFrz, lockL, lockG, lkC, sName, sTup, sCons, sNil, wipeC, List.map_cons, List.map_nil, List.replicate_succ, List.replicate_zero, List.cons_append, List.nil_append, List.getElem?_cons_zero, List.getElem?_cons_succ, List.set_cons_zero, List.set_cons_succ, List.length_cons, List.length_nil, Nat.beq_refl, Nat.reduceAdd, Nat.reduceLeDiff, Nat.reduceEqDiff, Nat.zero_add, if_true, if_false, Bool.false_eq_true, reduceIte, Bool.not_true, Bool.not_false, small_few0, small_few1, small_few2, small_few3, a1]⟩
      rw [show (sortR F).map (fun q => dI (addP n q here)) = ((sortR F).map fun q => addP n q here).map dI from by rw [List.map_map]; rfl] at hm
      have inn2 : ∀ p ∈ (sortR F).map (fun q => addP n q here), p ∈ placesOf n := fun p hp => by
        obtain ⟨q, hq, rfl⟩ := (List.mem_map.mp hp)
        exact add_inn hn (innS q hq) hh
      have so := sorted_v hn inn2
      refine pws_rt (d := dT (sortR ((sortR F).map fun q => addP n q here))) (by
        have tl : oTuple [.list ((sortR ((sortR F).map fun q => addP n q here)).map dI)] = some (dT (sortR ((sortR F).map fun q => addP n q here))) := rfl
        simp only [guardN, bodyD, fSeq, fAsg, fAsgM, fApp, fRet, fRetN, fDrop, fIfS, fNext, fRaise, fIf, fAnd, fOr, fNot, fT, bo, bnd, bndA, rB, fCall0, noEx, fCall, fCallP, permL, fCons, fNil, fTup, fLst, lim, fCb, ret, fOp, fUn, fVar, fC, fIsi, fIsiLT, isLT, fChain, fLk, fLkB, fLkM, fRevL, fSet2, fFrz, lockL, lockG, lkC, sName, sTup, sCons, sNil, wipeC, List.map_cons, List.map_nil, List.replicate_succ, List.replicate_zero, List.cons_append, List.nil_append, List.getElem?_cons_zero, List.getElem?_cons_succ, List.set_cons_zero, List.set_cons_succ, List.length_cons, List.length_nil, Nat.beq_refl, Nat.reduceAdd, Nat.reduceLeDiff, Nat.reduceEqDiff, Nat.zero_add, if_true, if_false, Bool.false_eq_true, reduceIte, Bool.not_true, Bool.not_false, small_few0, small_few1, small_few2, small_few3, l1, l2, hm, so, tl]) ?_
      refine h _ _ (lot_sorted hn inn2 (moved_nodup hn hh innS (pF.nodup_iff.mpr nd)) (fun z => ne ?_)) (by rw [sort_len, List.length_map]; omega) (by omega) (by omega)
      have := congrArg List.length z
      rw [List.length_map, pF.length_eq, List.length_nil] at this
      exact List.eq_nil_of_length_eq_zero this
    · rw [decide_eq_false hle] at l2
      refine pws_nx (Γ' := [.fx (.ref s), .d (dI n), .d (.int (most : Nat)), .d (dL (placesOf n)), .d (.int (way : Int)), .d (dI here), .d (dL (sortR F)), .un, .un, .un, .un, .un, .un]) (by simp only [guardN, bodyD, fSeq, fAsg, fAsgM, fApp, fRet, fRetN, fDrop, fIfS, fNext, fRaise, fIf, fAnd, fOr, fNot, fT, bo, bnd, bndA, rB, fCall0, noEx, fCall, fCallP, permL, fCons, fNil, fTup, fLst, lim, fCb, ret, fOp, fUn, fVar, fC, fIsi, fIsiLT, isLT, fChain, fLk, fLkB, fLkM, fRevL, fSet2, fFrz, lockL, lockG, lkC, sName, sTup, sCons, sNil, wipeC, List.map_cons, List.map_nil, List.replicate_succ, List.replicate_zero, List.cons_append, List.nil_append, List.getElem?_cons_zero, List.getElem?_cons_succ, List.set_cons_zero, List.set_cons_succ, List.length_cons, List.length_nil, Nat.beq_refl, Nat.reduceAdd, Nat.reduceLeDiff, Nat.reduceEqDiff, Nat.zero_add, if_true, if_false, Bool.false_eq_true, reduceIte, Bool.not_true, Bool.not_false, small_few0, small_few1, small_few2, small_few3, l1, l2]) rfl ?_
      exact second _ _ _ (by omega) (by omega)
  · rw [decide_eq_false z, if_neg (by decide)]
    exact wNext_of (second _ _ _ (by omega) (by omega))
end
end Mv
namespace Mv
open PySem L2 Evl
section
variable {n p : List Int} {P R L M : Rows} {k : Nat} {Γ : En} {T : Int} {post : D → Int → Prop}
end
end Mv
namespace Mv
open PySem L2
section
variable {n : List Int}
end
end Mv
namespace Mv
open PySem L2 Evl
section
variable {n p : List Int} {P R L M : Rows} {k : Nat} {Γ : En} {T : Int} {post : D → Int → Prop}
structure Gr (n : List Int) (S F : Rows) : Prop where
  nd : F.Nodup
  inn : ∀ p ∈ F, p ∈ placesOf n
  z : zeros n ∈ F
  lst : ∀ Q : List Int → Prop, Q (zeros n) → (∀ f s, Q f → s ∈ S → Q (addP n f s)) → ∀ f ∈ F, Q f
def DoneF (n : List Int) (S : Rows) (i : Nat) (F : Rows) : Prop := ∀ j, j < i → ∀ x, F[j]? = some x → ∀ s ∈ S, addP n x s ∈ F
theorem gr_zero (hn : n ∈ fewD) {S : Rows} : Gr n S [zeros n] :=
  ⟨by simp, fun p hp => by rw [List.mem_singleton.mp hp]; exact zeros_mem hn, by simp, fun Q z _ f hf => by rw [List.mem_singleton.mp hf]; exact z⟩
theorem Gr.more {S F : Rows} {x q : List Int} (g : Gr n S F) (hxq : addP n x q ∈ placesOf n) (hm : addP n x q ∉ F) (hx : x ∈ F) (hq : q ∈ S) : Gr n S (F ++ [addP n x q]) :=
  ⟨List.nodup_append.mpr ⟨g.nd, by simp, fun a ha b hb => by rw [List.mem_singleton.mp hb]; exact fun z => hm (z ▸ ha)⟩, fun p hp => by
    rcases (List.mem_append.mp hp) with hp | hp
    · exact g.inn p hp
    · rw [List.mem_singleton.mp hp]; exact hxq, List.mem_append_left _ g.z, fun Q z st f hf => by
    rcases List.mem_append.mp hf with hf | hf
    · exact g.lst Q z st f hf
    · rw [List.mem_singleton.mp hf]; exact st x q (g.lst Q z st x hx) hq⟩
theorem done_next {S F F2 X : Rows} {i : Nat} {x : List Int} (hF : F[i]? = some x) (dn : DoneF n S i F) (e : F2 = F ++ X) (h : ∀ s ∈ S, addP n x s ∈ F2) : DoneF n S (i + 1) F2 := fun j hj y hy s hs => by
  have hi := (List.getElem?_eq_some_iff.mp hF).1
  have : F2[j]? = F[j]? := by rw [e, List.getElem?_append_left (by omega)]
  rw [this] at hy
  by_cases z : j < i
  · rw [e]; exact List.mem_append_left _ (dn j z y hy s hs)
  · have : j = i := by omega
    rw [this, hF] at hy
    cases hy
    exact h s hs
theorem lgrown2_v (hn : n ∈ fewD) {S : Rows} (hS : ∀ p ∈ S, p ∈ placesOf n) (lS : S.length ≤ 100) : ∃ F : Rows, f__law_grown_part [dI n, dL S] = some (.val (dL (sortR F))) ∧ Gr n S F ∧ ∀ x ∈ F, ∀ s ∈ S, addP n x s ∈ F := by
  have h0 := lnothing_v hn
  obtain ⟨Γ', hf, F, c3, c4, c5, rfl, gr, dn⟩ := ffor_inv (src := iR1 (fCons (fC (.int 30)) fNil)) (st := sName 3)
    (body := fIfS (fLkB (fT (fOp oLt (fVar 3) (fCb oLen (fCons (fVar 2) fNil))))) (fSeq (fAsgM (fLkM (fLc (iL (fVar 1)) (sName 5) (fC (.bool true)) (fCall0 f__law_plus (fCons (fVar 0) (fCons (fOp oIxL (fVar 2) (fVar 3)) (fCons (fVar 5) fNil)))) [5])) 4) (fFrz (fun i => Nat.beq i 4) (fFor (iL (fVar 4)) (sName 5) (fIfS (fLkB (fT (fOp (oIn true) (fVar 5) (fVar 2)))) (fApp 2 (fVar 5)) fNext)))) fNext)
    (Γ := [.d (dI n), .d (dL S), .ml ([zeros n].map dI), .un, .un, .un])
    (fun i Γ => ∃ F c3 c4 c5, Γ = [.d (dI n), .d (dL S), .ml (List.map dI F), c3, c4, c5] ∧ Gr n S F ∧ DoneF n S i F) (as := upFrom 0 30) rfl ⟨[zeros n], _, _, _, rfl, gr_zero hn, fun j hj => by omega⟩ fun i a Γ hi hJ => by
      obtain ⟨F, c3, c4, c5, rfl, gr, dn⟩ := hJ
      have nd := gr.nd
      have inn := gr.inn
      obtain ⟨ik, rfl⟩ := upFrom_at hi
      have f24 : F.length ≤ 24 := Nat.le_trans (List.Nodup.length_le_of_subset nd fun x hx => inn x hx) (few_24 hn)
      refine ⟨[.d (dI n), .d (dL S), .ml (F.map dI), .d (.int (0 + (i : Int))), c4, c5], rfl, ?_⟩
      rw [Int.zero_add]
      have l1 : oLen [.list (F.map dI)] = some (.int (F.length : Nat)) := lenL F
      have l2 : oLt (.int (i : Int)) (.int (F.length : Nat)) = some (.bool (decide (i < F.length))) := by
        show some (PyData.bool (decide ((i : Int) < (F.length : Nat)))) = _
        congr 2
        exact (decide_eq_decide.mpr (by omega))
      by_cases hlt : i < F.length
      · rw [decide_eq_true hlt] at l2
        have hF : F[i]? = some F[i] := List.getElem?_eq_getElem hlt
        obtain ⟨x, ex⟩ : ∃ x, x = F[i] := ⟨_, rfl⟩
        rw [← ex] at hF
        have hxF : x ∈ F := List.mem_of_getElem? hF
        have hx : x ∈ placesOf n := inn x (List.mem_of_getElem? hF)
        have ix : oIxL (.list (F.map dI)) (.int (i : Int)) = some (dI x) := by rw [ixL_nat, List.getElem?_map, hF]; rfl
        have hl := flc_map (src := iL (fVar 1)) (st := sName 5) (ft := fC (.bool true)) (fe := fCall0 f__law_plus (fCons (fVar 0) (fCons (fOp oIxL (fVar 2) (fVar 3)) (fCons (fVar 5) fNil)))) (vs := [5]) (Γ := [.d (dI n), .d (dL S), .d (.list (F.map dI)), .d (.int (i : Int)), lkC c4, lkC c5])
          dI (fun q => dI (addP n x q)) S rfl (by omega) fun q hq => ⟨[.d (dI n), .d (dL S), .d (.list (F.map dI)), .d (.int (i : Int)), lkC c4, .d (dI q)], rfl, rfl, by
            have a1 := lplus_v hn (in_len hn hx) (in_len hn (hS q hq))
            simp only [guardN, bodyD, fSeq, fAsg, fAsgM, fApp, fRet, fRetN, fDrop, fIfS, fNext, fRaise, fIf, fAnd, fOr, fNot, fT, bo, bnd, bndA, rB, fCall0, noEx, fCall, fCallP, permL, fCons, fNil, fTup, fLst, lim, fCb, ret, fOp, fUn, fVar, fC, fIsi, fIsiLT, isLT, fChain, fLk, fLkB, fLkM, fRevL, fSet2, fFrz, lockL, lockG, lkC, sName, sTup, sCons, sNil, wipeC, List.map_cons, List.map_nil, List.replicate_succ, List.replicate_zero, List.cons_append, List.nil_append, List.getElem?_cons_zero, List.getElem?_cons_succ, List.set_cons_zero, List.set_cons_succ, List.length_cons, List.length_nil, Nat.beq_refl, Nat.reduceAdd, Nat.reduceLeDiff, Nat.reduceEqDiff, Nat.zero_add, if_true, if_false, Bool.false_eq_true, reduceIte, Bool.not_true, Bool.not_false, small_few0, small_few1, small_few2, small_few3, ix, a1]⟩
        rw [show S.map (fun q => dI (addP n x q)) = (S.map (addP n x)).map dI from by rw [List.map_map]; rfl] at hl
        have nl : noLs ((S.map (addP n x)).map dI) = true := noL_rows _
        obtain ⟨Γ2, hg, F2, d5, rfl, gr2, X2, eX2, dn2⟩ := ffor_inv (src := iL (fVar 4)) (st := sName 5) (body := fIfS (fLkB (fT (fOp (oIn true) (fVar 5) (fVar 2)))) (fApp 2 (fVar 5)) fNext)
          (Γ := [.d (dI n), .d (dL S), .ml (F.map dI), .d (.int (i : Int)), .d (.list ((S.map (addP n x)).map dI)), c5])
          (fun j Γ => ∃ F1 d5, Γ = [.d (dI n), .d (dL S), .ml (List.map dI F1), .d (.int (i : Int)), .d (.list ((S.map (addP n x)).map dI)), d5] ∧ Gr n S F1 ∧ ∃ X, F1 = F ++ X ∧ ∀ j', j' < j → ∀ q, S[j']? = some q → addP n x q ∈ F1) (as := (S.map (addP n x)).map dI) rfl ⟨F, _, rfl, gr, [], (List.append_nil _).symm, fun j hj => by omega⟩ fun j z Γ hj hJ => by
            obtain ⟨F, d5, rfl, gr, X, eX, dj⟩ := hJ
            have nd := gr.nd
            have inn := gr.inn
            have f24 : F.length ≤ 24 := Nat.le_trans (List.Nodup.length_le_of_subset nd fun x hx => inn x hx) (few_24 hn)
            rw [List.getElem?_map, List.getElem?_map] at hj
            obtain ⟨y, hy, rfl⟩ := Option.map_eq_some_iff.mp hj
            obtain ⟨q, hq, rfl⟩ := Option.map_eq_some_iff.mp hy
            have hqj := hq
            have hq := List.mem_of_getElem? hq
            have stp : ∀ F' : Rows, (∀ z ∈ F, z ∈ F') → addP n x q ∈ F' → ∀ j', j' < j + 1 → ∀ q, S[j']? = some q → addP n x q ∈ F' := fun F' hs hx' j' hj' q' hq' => by
              by_cases e : j' < j
              · exact hs _ (dj j' e q' hq')
              · have : j' = j := by omega
                rw [this, hqj] at hq'
                cases hq'
                exact hx'
            have hxq := add_inn hn hx (hS q hq)
            refine ⟨[.d (dI n), .d (dL S), .ml (F.map dI), .d (.int (i : Int)), .d (.list ((S.map (addP n x)).map dI)), .d (dI (addP n x q))], rfl, ?_⟩
            have t := eqIn_v F (addP n x q) true
            by_cases hm : addP n x q ∈ F
            · have t' : oIn true (dI (addP n x q)) (.list (F.map dI)) = some (.bool false) := by
                rw [decide_eq_true hm] at t; exact t
              exact ⟨[.d (dI n), .d (dL S), .ml (F.map dI), .d (.int (i : Int)), .d (.list ((S.map (addP n x)).map dI)), .d (dI (addP n x q))], by simp only [guardN, bodyD, fSeq, fAsg, fAsgM, fApp, fRet, fRetN, fDrop, fIfS, fNext, fRaise, fIf, fAnd, fOr, fNot, fT, bo, bnd, bndA, rB, fCall0, noEx, fCall, fCallP, permL, fCons, fNil, fTup, fLst, lim, fCb, ret, fOp, fUn, fVar, fC, fIsi, fIsiLT, isLT, fChain, fLk, fLkB, fLkM, fRevL, fSet2, fFrz, lockL, lockG, lkC, sName, sTup, sCons, sNil, wipeC, List.map_cons, List.map_nil, List.replicate_succ, List.replicate_zero, List.cons_append, List.nil_append, List.getElem?_cons_zero, List.getElem?_cons_succ, List.set_cons_zero, List.set_cons_succ, List.length_cons, List.length_nil, Nat.beq_refl, Nat.reduceAdd, Nat.reduceLeDiff, Nat.reduceEqDiff, Nat.zero_add, if_true, if_false, Bool.false_eq_true, reduceIte, Bool.not_true, Bool.not_false, small_few0, small_few1, small_few2, small_few3, t'], F, _, rfl, gr, X, eX, stp F (fun _ h => h) hm⟩
            · have t' : oIn true (dI (addP n x q)) (.list (F.map dI)) = some (.bool true) := by
                rw [decide_eq_false hm] at t; exact t
              have sm : small (F.map dI).length = true := small_of (by rw [List.length_map]; omega)
              refine ⟨[.d (dI n), .d (dL S), .ml ((F ++ [addP n x q]).map dI), .d (.int (i : Int)), .d (.list ((S.map (addP n x)).map dI)), .d (dI (addP n x q))], ?_, F ++ [addP n x q], _, rfl, gr.more hxq hm (by rw [eX]; exact List.mem_append_left _ hxF) hq, X ++ [addP n x q], by rw [eX, List.append_assoc], stp _ (fun z hz => List.mem_append_left _ hz) (by simp)⟩
              rw [List.map_append, List.map_cons, List.map_nil]
              simp only [guardN, bodyD, fSeq, fAsg, fAsgM, fApp, fRet, fRetN, fDrop, fIfS, fNext, fRaise, fIf, fAnd, fOr, fNot, fT, bo, bnd, bndA, rB, fCall0, noEx, fCall, fCallP, permL, fCons, fNil, fTup, fLst, lim, fCb, ret, fOp, fUn, fVar, fC, fIsi, fIsiLT, isLT, fChain, fLk, fLkB, fLkM, fRevL, fSet2, fFrz, lockL, lockG, lkC, sName, sTup, sCons, sNil, wipeC, List.map_cons, List.map_nil, List.replicate_succ, List.replicate_zero, List.cons_append, List.nil_append, List.getElem?_cons_zero, List.getElem?_cons_succ, List.set_cons_zero, List.set_cons_succ, List.length_cons, List.length_nil, Nat.beq_refl, Nat.reduceAdd, Nat.reduceLeDiff, Nat.reduceEqDiff, Nat.zero_add, if_true, if_false, Bool.false_eq_true, reduceIte, Bool.not_true, Bool.not_false, small_few0, small_few1, small_few2, small_few3, t', sm]
        have hg' : fFor (iL (fVar 4)) (sName 5) (fIfS (fLkB (fT (fOp (oIn true) (fVar 5) (fVar 2)))) (fApp 2 (fVar 5)) fNext) (lockL (fun i => Nat.beq i 4) [.d (dI n), .d (dL S), .ml (F.map dI), .d (.int (i : Int)), .ml ((S.map (addP n x)).map dI), c5]) = _ := hg
        have hq : fSeq (fAsgM (fLkM (fLc (iL (fVar 1)) (sName 5) (fC (.bool true)) (fCall0 f__law_plus (fCons (fVar 0) (fCons (fOp oIxL (fVar 2) (fVar 3)) (fCons (fVar 5) fNil)))) [5])) 4) (fFrz (fun i => Nat.beq i 4) (fFor (iL (fVar 4)) (sName 5) (fIfS (fLkB (fT (fOp (oIn true) (fVar 5) (fVar 2)))) (fApp 2 (fVar 5)) fNext))) [.d (dI n), .d (dL S), .ml (F.map dI), .d (.int (i : Int)), c4, c5] = some (.nx [.d (dI n), .d (dL S), .ml (List.map dI F2), .d (.int (i : Int)), .d (.list ((S.map (addP n x)).map dI)), d5]) := by
          rw [seq_on (Γ1 := [.d (dI n), .d (dL S), .ml (F.map dI), .d (.int (i : Int)), .ml ((S.map (addP n x)).map dI), c5]) (by
            unfold fAsgM fLkM
            rw [show lockL (fun _ => true) [Ce.d (dI n), .d (dL S), .ml (F.map dI), .d (.int (i : Int)), c4, c5] = [.d (dI n), .d (dL S), .d (.list (F.map dI)), .d (.int (i : Int)), lkC c4, lkC c5] from rfl, hl]; dsimp only
            rw [if_pos nl]; rfl)]
          exact hg'
        have hc : fLkB (fT (fOp oLt (fVar 3) (fCb oLen (fCons (fVar 2) fNil)))) [.d (dI n), .d (dL S), .ml (F.map dI), .d (.int (i : Int)), c4, c5] = some (.val (.bool true)) := by simp only [guardN, bodyD, fSeq, fAsg, fAsgM, fApp, fRet, fRetN, fDrop, fIfS, fNext, fRaise, fIf, fAnd, fOr, fNot, fT, bo, bnd, bndA, rB, fCall0, noEx, fCall, fCallP, permL, fCons, fNil, fTup, fLst, lim, fCb, ret, fOp, fUn, fVar, fC, fIsi, fIsiLT, isLT, fChain, fLk, fLkB, fLkM, fRevL, fSet2, fFrz, lockL, lockG, lkC, sName, sTup, sCons, sNil, wipeC, List.map_cons, List.map_nil, List.replicate_succ, List.replicate_zero, List.cons_append, List.nil_append, List.getElem?_cons_zero, List.getElem?_cons_succ, List.set_cons_zero, List.set_cons_succ, List.length_cons, List.length_nil, Nat.beq_refl, Nat.reduceAdd, Nat.reduceLeDiff, Nat.reduceEqDiff, Nat.zero_add, if_true, if_false, Bool.false_eq_true, reduceIte, Bool.not_true, Bool.not_false, small_few0, small_few1, small_few2, small_few3, l1, l2]
        refine ⟨[.d (dI n), .d (dL S), .ml (List.map dI F2), .d (.int (i : Int)), .d (.list ((S.map (addP n x)).map dI)), d5], ?_, F2, _, _, _, rfl, gr2, done_next hF dn eX2 fun s hs => ?d⟩
        · unfold fIfS
          rw [hc]
          exact hq
        case d =>
          obtain ⟨j, hj⟩ := List.getElem?_of_mem hs
          refine dn2 j ?_ s hj
          rw [List.length_map, List.length_map]
          exact (List.getElem?_eq_some_iff.mp hj).1
      · rw [decide_eq_false hlt] at l2
        exact ⟨[.d (dI n), .d (dL S), .ml (F.map dI), .d (.int (i : Int)), c4, c5], by simp only [guardN, bodyD, fSeq, fAsg, fAsgM, fApp, fRet, fRetN, fDrop, fIfS, fNext, fRaise, fIf, fAnd, fOr, fNot, fT, bo, bnd, bndA, rB, fCall0, noEx, fCall, fCallP, permL, fCons, fNil, fTup, fLst, lim, fCb, ret, fOp, fUn, fVar, fC, fIsi, fIsiLT, isLT, fChain, fLk, fLkB, fLkM, fRevL, fSet2, fFrz, lockL, lockG, lkC, sName, sTup, sCons, sNil, wipeC, List.map_cons, List.map_nil, List.replicate_succ, List.replicate_zero, List.cons_append, List.nil_append, List.getElem?_cons_zero, List.getElem?_cons_succ, List.set_cons_zero, List.set_cons_succ, List.length_cons, List.length_nil, Nat.beq_refl, Nat.reduceAdd, Nat.reduceLeDiff, Nat.reduceEqDiff, Nat.zero_add, if_true, if_false, Bool.false_eq_true, reduceIte, Bool.not_true, Bool.not_false, small_few0, small_few1, small_few2, small_few3, l1, l2], F, _, _, _, rfl, gr, fun j hj y hy => by
          by_cases e : j < i
          · exact dn j e y hy
          · have := (List.getElem?_eq_some_iff.mp hy).1
            omega⟩
  have inn := gr.inn
  have so := (sortedTuple_v hn inn).1
  have f24 : F.length ≤ 24 := Nat.le_trans (List.Nodup.length_le_of_subset gr.nd fun x hx => inn x hx) (few_24 hn)
  refine ⟨F, ?_, gr, fun x hx s hs => ?_⟩
  case refine_2 =>
    obtain ⟨j, hj⟩ := (List.getElem?_of_mem hx)
    refine dn j ?_ x hj s hs
    have := (List.getElem?_eq_some_iff.mp hj).1
    rw [upFrom_len]; omega
  refine (show guardN 2 (bodyD b__law_grown_part 4) [dI n, dL S] = _ from ?_)
  refine (guard_of (k := 2) rfl).trans (bodyD_rt ?_)
  refine (show b__law_grown_part [.d (dI n), .d (dL S), .un, .un, .un, .un] = _ from ?_)
  unfold b__law_grown_part
  rw [seq_on (Γ1 := [.d (dI n), .d (dL S), .ml ([zeros n].map dI), .un, .un, .un]) (by simp only [guardN, bodyD, fSeq, fAsg, fAsgM, fApp, fRet, fRetN, fDrop, fIfS, fNext, fRaise, fIf, fAnd, fOr, fNot, fT, bo, bnd, bndA, rB, fCall0, noEx, fCall, fCallP, permL, fCons, fNil, fTup, fLst, lim, fCb, ret, fOp, fUn, fVar, fC, fIsi, fIsiLT, isLT, fChain, fLk, fLkB, fLkM, fRevL, fSet2, fFrz, lockL, lockG, lkC, sName, sTup, sCons, sNil, wipeC, List.map_cons, List.map_nil, List.replicate_succ, List.replicate_zero, List.cons_append, List.nil_append, List.getElem?_cons_zero, List.getElem?_cons_succ, List.set_cons_zero, List.set_cons_succ, List.length_cons, List.length_nil, Nat.beq_refl, Nat.reduceAdd, Nat.reduceLeDiff, Nat.reduceEqDiff, Nat.zero_add, if_true, if_false, Bool.false_eq_true, reduceIte, Bool.not_true, Bool.not_false, small_few0, small_few1, small_few2, small_few3, h0])]
  rw [seq_on hf]
  have so' : oSorted [.list (F.map dI)] = some (dL (sortR F)) := so
  simp only [guardN, bodyD, fSeq, fAsg, fAsgM, fApp, fRet, fRetN, fDrop, fIfS, fNext, fRaise, fIf, fAnd, fOr, fNot, fT, bo, bnd, bndA, rB, fCall0, noEx, fCall, fCallP, permL, fCons, fNil, fTup, fLst, lim, fCb, ret, fOp, fUn, fVar, fC, fIsi, fIsiLT, isLT, fChain, fLk, fLkB, fLkM, fRevL, fSet2, fFrz, lockL, lockG, lkC, sName, sTup, sCons, sNil, wipeC, List.map_cons, List.map_nil, List.replicate_succ, List.replicate_zero, List.cons_append, List.nil_append, List.getElem?_cons_zero, List.getElem?_cons_succ, List.set_cons_zero, List.set_cons_succ, List.length_cons, List.length_nil, Nat.beq_refl, Nat.reduceAdd, Nat.reduceLeDiff, Nat.reduceEqDiff, Nat.zero_add, if_true, if_false, Bool.false_eq_true, reduceIte, Bool.not_true, Bool.not_false, small_few0, small_few1, small_few2, small_few3, so']
end
end Mv
namespace Mv
open PySem L2
section
variable {n : List Int} {P : Rows}
theorem part_map (hP : ∀ p ∈ P, InP p n) (nd : P.Nodup) (cl : ∀ a ∈ P, ∀ b ∈ P, addP n a b ∈ P) {x : List Int} (hx : x ∈ P) : (P.map (addP n x)).Perm P := by
  refine nodup_perm (List.pairwise_map.mpr (List.Pairwise.imp_of_mem (fun ha hb hne e => hne (addP_cancel (hP _ ha) (hP _ hb) (hP _ hx).len e)) nd)) (fun y hy => ?_) (List.length_map ..)
  obtain ⟨z, hz, rfl⟩ := List.mem_map.mp hy
  exact cl x hx z hz
theorem part_take (hP : ∀ p ∈ P, InP p n) (nd : P.Nodup) (cl : ∀ a ∈ P, ∀ b ∈ P, addP n a b ∈ P) {a b : List Int} (ha : a ∈ P) (hb : b ∈ P) : takeP n a b ∈ P := by
  obtain ⟨z, hz, e⟩ := List.mem_map.mp ((part_map hP nd cl hb).mem_iff.mpr ha)
  have : takeP n a b = z := addP_cancel (takeP_inP (hP a ha) (hP b hb)) (hP z hz) (hP b hb).len ((add_take (hP b hb) (hP a ha)).trans e.symm)
  rw [this]; exact hz
theorem coset_any (hP : ∀ p ∈ P, InP p n) (nd : P.Nodup) (cl : ∀ a ∈ P, ∀ b ∈ P, addP n a b ∈ P) {R : Rows} {r r' : List Int} (hR : ∀ p ∈ R, InP p n) (ir : InP r n) (h : ∀ m ∈ R, takeP n m r ∈ P) (hr : r' ∈ R) : ∀ m ∈ R, takeP n m r' ∈ P := fun m hm => by
  have im := hR m hm
  have ir' := hR r' hr
  have i1 := takeP_inP im ir'
  have i2 := takeP_inP ir' ir
  have e : addP n (takeP n r' r) (takeP n m r') = takeP n m r := by
    refine addP_cancel (addP_inP i2 i1) (takeP_inP im ir) ir.len ?_
    rw [add_take_add ir ir', add_take ir' im, add_take ir im]
  have : takeP n m r' = takeP n (takeP n m r) (takeP n r' r) := addP_cancel i1 (takeP_inP (takeP_inP im ir) i2) i2.len (e.trans (add_take i2 (takeP_inP im ir)).symm)
  rw [this]
  exact part_take hP nd cl (h m hm) (h r' hr)
end
end Mv
namespace Mv
open PySem L2 Evl
section
variable {n p : List Int} {P R L M : Rows} {k : Nat} {Γ : En} {T : Int} {post : D → Int → Prop}
structure Part (n : List Int) (P : Rows) : Prop where
  z : zeros n ∈ P
  cl : ∀ a ∈ P, ∀ b ∈ P, addP n a b ∈ P
theorem part_of (h : isPartF n P = true) : Part n P := by
  unfold isPartF at h
  rw [Bool.and_eq_true, Bool.and_eq_true] at h
  exact ⟨of_decide_eq_true h.2.1, fun a ha b hb => of_decide_eq_true (List.all_eq_true.mp (List.all_eq_true.mp h.2.2 a ha) b hb)⟩
end
end Mv
namespace Mv
open PySem L2 Evl
section
variable {n p : List Int} {P R L M : Rows} {k : Nat} {Γ : En} {T : Int} {post : D → Int → Prop}
structure Fit (n : List Int) (L R P : Rows) (l0 r0 rl : List Int) : Prop where
  x0 : oIxT (dT L) (.int 0) = some (dI l0)
  x1 : oIxT (dT R) (.int 0) = some (dI r0)
  x2 : oIxT (dT R) (.int (-1)) = some (dI rl)
  ml : l0 ∈ L
  m0 : r0 ∈ R
  mr : rl ∈ R
  il : l0 ∈ placesOf n
  i0 : r0 ∈ placesOf n
  ir : rl ∈ placesOf n
  pP : P.Perm (L.map fun l => takeP n l l0)
  eP : P = sortR (L.map fun l => takeP n l l0)
  inP : ∀ p ∈ P, p ∈ placesOf n
  nd : P.Nodup
  lP : P.length = L.length
  bar : barF n L R = if isPartF n P = true then (if (R.all fun m => decide (takeP n m r0 ∈ P)) = true then (if addUp n R = mulP n r0 (L.length : Nat) then none else some P) else none) else none
theorem Fit.self {l0 r0 rl : List Int} (f : Fit n L R P l0 r0 rl) : sortR P = P := by rw [f.eP]; exact sort_perm (isort_perm _)
theorem Fit.any (hn : n ∈ fewD) (r : RowOk n L R) {l0 r0 rl : List Int} (f : Fit n L R P l0 r0 rl) (h : isPartF n P = true) : (R.all fun m => decide (takeP n m rl ∈ P)) = (R.all fun m => decide (takeP n m r0 ∈ P)) := by
  have pt := part_of h
  have hP : ∀ p ∈ P, InP p n := fun p hp => few_inP hn (f.inP p hp)
  have hR : ∀ p ∈ R, InP p n := fun p hp => few_inP hn (r.inn p hp)
  (rw [Bool.eq_iff_iff, List.all_eq_true, List.all_eq_true])
  constructor
  · intro h m hm
    exact decide_eq_true (coset_any hP f.nd pt.cl hR (few_inP hn f.ir) (fun m hm => of_decide_eq_true (h m hm)) f.m0 m hm)
  · intro h m hm
    exact decide_eq_true (coset_any hP f.nd pt.cl hR (few_inP hn f.i0) (fun m hm => of_decide_eq_true (h m hm)) f.mr m hm)
end
end Mv
namespace Mv
open PySem L2 Evl
section
variable {n p : List Int} {P R L M : Rows} {k : Nat} {Γ : En} {T : Int} {post : D → Int → Prop}
theorem barTold_v (hn : n ∈ fewD) (o : LotOk n L) (r : RowOk n L R) : f_part_bar [dI n, dT L, dT R] = some (.val (optT (barF n L R))) := by
  have c1 := chkDials_v hn
  have c2 := lot_ok hn o
  have c3 := row_ok hn o.few r
  have c4 := partBar_v hn o r
  simp only [f_part_bar, b_part_bar, guardN, bodyD, fSeq, fAsg, fAsgM, fApp, fRet, fRetN, fDrop, fIfS, fNext, fRaise, fIf, fAnd, fOr, fNot, fT, bo, bnd, bndA, rB, fCall0, noEx, fCall, fCallP, permL, fCons, fNil, fTup, fLst, lim, fCb, ret, fOp, fUn, fVar, fC, fIsi, fIsiLT, isLT, fChain, fLk, fLkB, fLkM, fRevL, fSet2, fFrz, lockL, lockG, lkC, sName, sTup, sCons, sNil, wipeC, List.map_cons, List.map_nil, List.replicate_succ, List.replicate_zero, List.cons_append, List.nil_append, List.getElem?_cons_zero, List.getElem?_cons_succ, List.set_cons_zero, List.set_cons_succ, List.length_cons, List.length_nil, Nat.beq_refl, Nat.reduceAdd, Nat.reduceLeDiff, Nat.reduceEqDiff, Nat.zero_add, if_true, if_false, Bool.false_eq_true, reduceIte, Bool.not_true, Bool.not_false, small_few0, small_few1, small_few2, small_few3, c1, c2, c3, c4]
theorem row_sorted {X : Rows} (h : ∀ p ∈ X, p ∈ placesOf n) (l : X.length = L.length) : RowOk n L (sortR X) :=
  ⟨fun p hp => h p ((isort_perm X).mem_iff.mp hp), by rw [sort_len, l], asc_sort X⟩
theorem rowsD_of : ∀ {ds : List D}, (∀ d ∈ ds, ∃ p ∈ placesOf n, d = dI p) → ∃ X : Rows, ds = X.map dI ∧ ∀ p ∈ X, p ∈ placesOf n
  | [], _ => ⟨[], rfl, fun _ h => (by cases h)⟩
  | d :: ds, h => by
    obtain ⟨X, rfl, hX⟩ := rowsD_of fun d hd => h d (List.mem_cons_of_mem _ hd)
    obtain ⟨p, hp, rfl⟩ := h d (List.mem_cons_self ..)
    exact ⟨p :: X, rfl, fun q hq => by
      rcases (List.mem_cons.mp hq) with rfl | hq
      · exact hp
      · exact hX q hq⟩
theorem wrow_v (hn : n ∈ fewD) (k1 : 1 ≤ k) (k2 : k ≤ 24) (hT : T < 10000000000) (h : ∀ X T', (∀ p ∈ X, p ∈ placesOf n) → X.length = k → T ≤ T' → T' ≤ T + 1000 → post (dT (sortR X)) T') : W__law_lot_row [dI n, .int (k : Nat)] T post := by
  refine bodyW_of rfl fun s => ?_
  have n24 := few_24 hn
  have n2 : 2 ≤ (placesOf n).length := by
    have : (fewD.all fun n => Nat.ble 2 (placesOf n).length) = true := by decide +kernel
    exact Nat.le_of_ble_eq_true (List.all_eq_true.mp this n hn)
  have p0 := lplaces_v hn
  unfold F__law_lot_row
  refine wSeq_of (Γ := [.fx (.ref s), .d (dI n), .d (.int (k : Nat)), .un, .un, .un, .un, .un, .un]) (wAsg_of (wTup_of (wCons_of (pw_of (d := dL (placesOf n)) (by simp only [guardN, bodyD, fSeq, fAsg, fAsgM, fApp, fRet, fRetN, fDrop, fIfS, fNext, fRaise, fIf, fAnd, fOr, fNot, fT, bo, bnd, bndA, rB, fCall0, noEx, fCall, fCallP, permL, fCons, fNil, fTup, fLst, lim, fCb, ret, fOp, fUn, fVar, fC, fIsi, fIsiLT, isLT, fChain, fLk, fLkB, fLkM, fRevL, fSet2, fFrz, lockL, lockG, lkC, sName, sTup, sCons, sNil, wipeC, List.map_cons, List.map_nil, List.replicate_succ, List.replicate_zero, List.cons_append, List.nil_append, List.getElem?_cons_zero, List.getElem?_cons_succ, List.set_cons_zero, List.set_cons_succ, List.length_cons, List.length_nil, Nat.beq_refl, Nat.reduceAdd, Nat.reduceLeDiff, Nat.reduceEqDiff, Nat.zero_add, if_true, if_false, Bool.false_eq_true, reduceIte, Bool.not_true, Bool.not_false, small_few0, small_few1, small_few2, small_few3, p0]) (wCons_of (wDraw_of (wCons_of (pw_of rfl (wNil_of (draw_of (by omega) (by omega) (by omega) fun way hw => wNil_of ⟨rfl, ?_⟩))))))))))
  refine (show wSeq _ _ [.fx (.ref s), .d (dI n), .d (.int (k : Nat)), .d (dL (placesOf n)), .d (.int (way : Int)), .un, .un, .un, .un] (T + 1) _ _ from ?_)
  have last : ∀ (S : Rows) (c5 c6 c7 : Ce) T2, S ≠ [] → S.length ≤ 24 → (∀ p ∈ S, p ∈ placesOf n) → T ≤ T2 → T2 ≤ T + 400 → (wRet (wCb oTuple (wCons (wCb oSorted (wCons (wLc (iR1 (fCons (fVar 2) fNil)) (sName 8) (pwb (fC (.bool true))) (wDraw W__law_pick (wCons (pw (fVar 3)) wNil)) [8]) wNil)) wNil)))
      [.fx (.ref s), .d (dI n), .d (.int (k : Nat)), .d (dL S), .d (.int (way : Int)), c5, c6, c7, .un] T2 (fun _ T' => post .none T') post := fun S c5 c6 c7 T2 ne lS hS t3 t4 => by
    refine wRet_of (wCb_of (wCons_of (wCb_of (wCons_of (wLc_of (as := upFrom 0 k) (by
      have : iR1 (fCons (fVar 2) fNil) [.fx (.ref s), .d (dI n), .d (.int (k : Nat)), .d (dL S), .d (.int (way : Int)), c5, c6, c7, .un] = some (.vals (upFrom 0 ((k : Nat) : Int).toNat)) := by
        show (if small ((k : Nat) : Int).toNat = true ∧ -1000000 ≤ ((k : Nat) : Int) then some (Oa.vals (upFrom 0 ((k : Nat) : Int).toNat)) else none) = _
        rw [if_pos ⟨by rw [Int.toNat_natCast]; exact small_of (by omega), by omega⟩]
      rw [this, Int.toNat_natCast]) (by rw [upFrom_len]; omega) ?_)))))
    refine lcW_all (fun d => ∃ p ∈ placesOf n, d = dI p) (c := 1) (upFrom 0 k) T2 _ (fun a ha T' q q1 q2 q3 => ⟨_, rfl, ?_⟩) (by decide) (fun ds T' hd hl r1 r2 => ?_) (fun Γ1 T p q h1 h2 => h2 true T h1)
    · rw [upFrom_len] at q2
      show if true = true then _ else False
      rw [if_pos rfl]
      refine wDraw_of (wCons_of (pw_of (d := dL S) rfl (wNil_of (wpick_v (fun e => ne (List.map_eq_nil_iff.mp e)) (by rw [List.length_map]; omega) (by omega) fun d hd => q3 d _ ?_ (by omega) (by omega)))))
      obtain ⟨p, hp, rfl⟩ := List.mem_map.mp hd
      exact ⟨p, hS p hp, rfl⟩
    · rw [upFrom_len] at hl r2
      obtain ⟨X, rfl, hX⟩ := rowsD_of hd
      have so := sorted_v hn hX
      refine wNil_of ?_
      rw [so]
      refine wNil_of ?_
      exact h X _ hX (by rw [List.length_map] at hl; exact hl) (by omega) (by omega)
  have third : ∀ (S : Rows) T2, S ≠ [] → S.length ≤ 24 → (∀ p ∈ S, p ∈ placesOf n) → T ≤ T2 → T2 ≤ T + 100 → (wSeq (wIfS (pwb (fT (fOp oEqA (fVar 4) (fC (.int 2))))) (wSeq (wAsg (wTup (wCons (wCall f__law_grown_part (wCons (pw (fVar 1)) (wCons (wLst (wCons (wDraw W__law_place (wCons (pw (fVar 1)) wNil)) wNil)) wNil))) (wCons (wDraw W__law_place (wCons (pw (fVar 1)) wNil)) wNil))) (sTup 2 (sCons (sName 5) (sCons (sName 6) sNil)))) (pws 0 (fAsg (fLc (iL (fVar 5)) (sName 7) (fC (.bool true)) (fCall0 f__law_plus (fCons (fVar 1) (fCons (fVar 7) (fCons (fVar 6) fNil)))) [7]) (sName 3)))) wNext) (wRet (wCb oTuple (wCons (wCb oSorted (wCons (wLc (iR1 (fCons (fVar 2) fNil)) (sName 8) (pwb (fC (.bool true))) (wDraw W__law_pick (wCons (pw (fVar 3)) wNil)) [8]) wNil)) wNil))))
      [.fx (.ref s), .d (dI n), .d (.int (k : Nat)), .d (dL S), .d (.int (way : Int)), .un, .un, .un, .un] T2 (fun _ T' => post .none T') post := fun S T2 ne lS hS t3 t4 => by
    refine wSeq_of (wIfS_of (pwb_of (b := decide ((way : Int) = 2)) rfl ?_))
    by_cases z : (way : Int) = 2
    · rw [decide_eq_true z, if_pos rfl]
      refine wSeq_of (wAsg_of (wTup_of (wCons_of (wCall_of (wCons_of (pw_of (d := dI n) rfl (wCons_of (wLst_of (wCons_of (wDraw_of (wCons_of (pw_of (d := dI n) rfl (wNil_of (wplace_v hn (by omega) fun x T3 hx t5 t6 => wNil_of ⟨rfl, wNil_of ?_⟩))))))))))))))
      obtain ⟨F, eF, gr, _⟩ := lgrown2_v hn (S := [x]) (fun p hp => by rw [List.mem_singleton.mp hp]; exact hx) (by simp)
      have pF : (sortR F).Perm F := isort_perm F
      have inF : ∀ p ∈ sortR F, p ∈ placesOf n := fun p hp => gr.inn p (pF.mem_iff.mp hp)
      have f24 : (sortR F).length ≤ 24 := by rw [pF.length_eq]; exact Nat.le_trans (List.Nodup.length_le_of_subset gr.nd fun x hx => gr.inn x hx) n24
      show (match f__law_grown_part [dI n, dL [x]] with | some (.val z) => _ | _ => False)
      rw [eF]
      refine wCons_of (wDraw_of (wCons_of (pw_of (d := dI n) rfl (wNil_of (wplace_v hn (by omega) fun y T4 hy t7 t8 => wNil_of ⟨rfl, ?_⟩)))))
      refine (show pws 0 _ [.fx (.ref s), .d (dI n), .d (.int (k : Nat)), .d (dL S), .d (.int (way : Int)), .d (dL (sortR F)), .d (dI y), .un, .un] T4 _ _ from ?_)
      have hl := flc_map (src := iL (fVar 5)) (st := sName 7) (ft := fC (.bool true)) (fe := fCall0 f__law_plus (fCons (fVar 1) (fCons (fVar 7) (fCons (fVar 6) fNil)))) (vs := [7]) (Γ := [.fx (.ref s), .d (dI n), .d (.int (k : Nat)), .d (dL S), .d (.int (way : Int)), .d (dL (sortR F)), .d (dI y), .un, .un])
        dI (fun q => dI (addP n q y)) (sortR F) rfl (by omega) fun q hq => ⟨[.fx (.ref s), .d (dI n), .d (.int (k : Nat)), .d (dL S), .d (.int (way : Int)), .d (dL (sortR F)), .d (dI y), .d (dI q), .un], rfl, rfl, by
          have a1 := lplus_v hn (in_len hn (inF q hq)) (in_len hn hy)
          simp only [guardN, bodyD, fSeq, fAsg, fAsgM, fApp, fRet, fRetN, fDrop, fIfS, fNext, fRaise, fIf, fAnd, fOr, fNot, fT, bo, bnd, bndA, rB, fCall0, noEx, fCall, fCallP, permL, fCons, fNil, fTup, fLst, lim, fCb, ret, fOp, fUn, fVar, fC, fIsi, fIsiLT, isLT, fChain, fLk, fLkB, fLkM, fRevL, fSet2, fFrz, lockL, lockG, lkC, sName, sTup, sCons, sNil, wipeC, List.map_cons, List.map_nil, List.replicate_succ, List.replicate_zero, List.cons_append, List.nil_append, List.getElem?_cons_zero, List.getElem?_cons_succ, List.set_cons_zero, List.set_cons_succ, List.length_cons, List.length_nil, Nat.beq_refl, Nat.reduceAdd, Nat.reduceLeDiff, Nat.reduceEqDiff, Nat.zero_add, if_true, if_false, Bool.false_eq_true, reduceIte, Bool.not_true, Bool.not_false, small_few0, small_few1, small_few2, small_few3, a1]⟩
      rw [show (sortR F).map (fun q => dI (addP n q y)) = ((sortR F).map fun q => addP n q y).map dI from by rw [List.map_map]; rfl] at hl
      refine pws_nx (Γ' := [.fx (.ref s), .d (dI n), .d (.int (k : Nat)), .d (dL ((sortR F).map fun q => addP n q y)), .d (.int (way : Int)), .d (dL (sortR F)), .d (dI y), .un, .un]) (fAsg_of hl rfl) rfl ?_
      refine last _ _ _ _ T4 (fun e => ?_) (by rw [List.length_map]; exact f24) (fun p hp => ?_) (by omega) (by omega)
      · have := List.map_eq_nil_iff.mp e
        have z : zeros n ∈ sortR F := pF.mem_iff.mpr gr.z
        rw [this] at z; cases z
      · obtain ⟨q, hq, rfl⟩ := List.mem_map.mp hp
        exact add_inn hn (inF q hq) hy
    · rw [decide_eq_false z, if_neg (by decide)]
      exact wNext_of (last S _ _ _ T2 ne lS hS (by omega) (by omega))
  have ne0 : placesOf n ≠ [] := fun e => by rw [e] at n2; simp at n2
  have lM := lenL (placesOf n)
  have q1 := eqI_v (way : Nat) 1
  refine wSeq_of (wIfS_of (pwb_of (b := decide ((way : Int) = 0)) rfl ?_))
  by_cases z0 : (way : Int) = 0
  · rw [decide_eq_true z0, if_pos rfl]
    rw [decide_eq_false (by omega)] at q1
    refine wAsg_of (wSl_of (wDraw_of (wCons_of (pw_of rfl (wNil_of (mixed_v (by omega) (by omega) fun S2 hS => ?_))))))
    refine (show wOp oAdd _ _ _ _ _ from wOp_of (pw_of (d := .int 2) rfl (wDraw_of (wCons_of (pw_of rfl (wNil_of (draw_of (by omega) (by omega) (by omega) fun r hr => ?_)))))))
    have e2 : oAdd (.int 2) (.int (r : Nat)) = some (.int ((2 + r : Nat))) := rfl
    rw [e2]
    have hc : cutD (S2.map dI) none (some ((2 + r : Nat) : Int)) = (S2.take (2 + r)).map dI := by rw [cut_to, List.map_take]
    have sl := hS.length_eq
    refine (show wSeq _ _ [.fx (.ref s), .d (dI n), .d (.int (k : Nat)), .d (.list (cutD (S2.map dI) none (some ((2 + r : Nat) : Int)))), .d (.int (way : Int)), .un, .un, .un, .un] _ _ _ from ?_)
    rw [hc]
    refine wSeq_of (wIfS_of (pwb_of (b := false) (by simp only [guardN, bodyD, fSeq, fAsg, fAsgM, fApp, fRet, fRetN, fDrop, fIfS, fNext, fRaise, fIf, fAnd, fOr, fNot, fT, bo, bnd, bndA, rB, fCall0, noEx, fCall, fCallP, permL, fCons, fNil, fTup, fLst, lim, fCb, ret, fOp, fUn, fVar, fC, fIsi, fIsiLT, isLT, fChain, fLk, fLkB, fLkM, fRevL, fSet2, fFrz, lockL, lockG, lkC, sName, sTup, sCons, sNil, wipeC, List.map_cons, List.map_nil, List.replicate_succ, List.replicate_zero, List.cons_append, List.nil_append, List.getElem?_cons_zero, List.getElem?_cons_succ, List.set_cons_zero, List.set_cons_succ, List.length_cons, List.length_nil, Nat.beq_refl, Nat.reduceAdd, Nat.reduceLeDiff, Nat.reduceEqDiff, Nat.zero_add, if_true, if_false, Bool.false_eq_true, reduceIte, Bool.not_true, Bool.not_false, small_few0, small_few1, small_few2, small_few3, q1]) ?_))
    rw [if_neg (by decide)]
    refine wNext_of (third (S2.take (2 + r)) _ (fun e => by have := congrArg List.length e; rw [List.length_take, List.length_nil] at this; omega) (by rw [List.length_take]; omega) (fun p hp => hS.mem_iff.mp (List.mem_of_mem_take hp)) (by omega) (by omega))
  rw [decide_eq_false z0, if_neg (by decide)]
  refine wNext_of ?_
  have q2 : oLe (.int (k : Nat)) (.int ((placesOf n).length : Nat)) = some (.bool (decide ((k : Int) ≤ ((placesOf n).length : Nat)))) := rfl
  by_cases z1 : (way : Int) = 1
  · rw [decide_eq_true z1] at q1
    refine wSeq_of (wIfS_of (pwb_of (b := decide ((k : Int) ≤ ((placesOf n).length : Nat))) (by simp only [guardN, bodyD, fSeq, fAsg, fAsgM, fApp, fRet, fRetN, fDrop, fIfS, fNext, fRaise, fIf, fAnd, fOr, fNot, fT, bo, bnd, bndA, rB, fCall0, noEx, fCall, fCallP, permL, fCons, fNil, fTup, fLst, lim, fCb, ret, fOp, fUn, fVar, fC, fIsi, fIsiLT, isLT, fChain, fLk, fLkB, fLkM, fRevL, fSet2, fFrz, lockL, lockG, lkC, sName, sTup, sCons, sNil, wipeC, List.map_cons, List.map_nil, List.replicate_succ, List.replicate_zero, List.cons_append, List.nil_append, List.getElem?_cons_zero, List.getElem?_cons_succ, List.set_cons_zero, List.set_cons_succ, List.length_cons, List.length_nil, Nat.beq_refl, Nat.reduceAdd, Nat.reduceLeDiff, Nat.reduceEqDiff, Nat.zero_add, if_true, if_false, Bool.false_eq_true, reduceIte, Bool.not_true, Bool.not_false, small_few0, small_few1, small_few2, small_few3, q1, lM, q2]) ?_))
    by_cases y : (k : Int) ≤ ((placesOf n).length : Nat)
    · rw [decide_eq_true y, if_pos rfl]
      refine wRet_of (wCb_of (wCons_of (wCb_of (wCons_of (wSl_of (wDraw_of (wCons_of (pw_of rfl (wNil_of (mixed_v (by omega) (by omega) fun S2 hS => ?_))))))))))
      refine (show pw (fVar 2) _ _ _ from pw_of (d := .int (k : Nat)) rfl ?_)
      have hc : cutD (S2.map dI) none (some ((k : Nat) : Int)) = (S2.take k).map dI := by rw [cut_to, List.map_take]
      have sl := hS.length_eq
      have inX : ∀ p ∈ S2.take k, p ∈ placesOf n := fun p hp => hS.mem_iff.mp (List.mem_of_mem_take hp)
      have so := sorted_v hn inX
      refine wNil_of ?_
      show (match oSorted [.list (cutD (S2.map dI) none (some ((k : Nat) : Int)))] with | some z => _ | none => False)
      rw [hc, so]
      refine wNil_of ?_
      exact h _ _ inX (by rw [List.length_take]; omega) (by omega) (by omega)
    · rw [decide_eq_false y, if_neg (by decide)]
      exact wNext_of (third _ _ ne0 n24 (fun _ h => h) (by omega) (by omega))
  · rw [decide_eq_false z1] at q1
    refine wSeq_of (wIfS_of (pwb_of (b := false) (by simp only [guardN, bodyD, fSeq, fAsg, fAsgM, fApp, fRet, fRetN, fDrop, fIfS, fNext, fRaise, fIf, fAnd, fOr, fNot, fT, bo, bnd, bndA, rB, fCall0, noEx, fCall, fCallP, permL, fCons, fNil, fTup, fLst, lim, fCb, ret, fOp, fUn, fVar, fC, fIsi, fIsiLT, isLT, fChain, fLk, fLkB, fLkM, fRevL, fSet2, fFrz, lockL, lockG, lkC, sName, sTup, sCons, sNil, wipeC, List.map_cons, List.map_nil, List.replicate_succ, List.replicate_zero, List.cons_append, List.nil_append, List.getElem?_cons_zero, List.getElem?_cons_succ, List.set_cons_zero, List.set_cons_succ, List.length_cons, List.length_nil, Nat.beq_refl, Nat.reduceAdd, Nat.reduceLeDiff, Nat.reduceEqDiff, Nat.zero_add, if_true, if_false, Bool.false_eq_true, reduceIte, Bool.not_true, Bool.not_false, small_few0, small_few1, small_few2, small_few3, q1]) ?_))
    rw [if_neg (by decide)]
    exact wNext_of (third _ _ ne0 n24 (fun _ h => h) (by omega) (by omega))
end
end Mv
namespace Mv
open PySem L2
abbrev St3 := Rows × Rows × Rows
section
variable {n : List Int}
def cutAt (l : Rows) (m : List Int) : Rows := l.take (l.idxOf m) ++ l.drop (l.idxOf m + 1)
theorem idx_at : ∀ {l : Rows} {m : List Int}, m ∈ l → l[l.idxOf m]? = some m
  | [], _, h => by cases h
  | x :: l, m, h => by
    rw [List.idxOf_cons]
    by_cases e : x = m
    · subst e; rw [beq_self_eq_true]; rfl
    · rw [beq_false_of_ne e]
      show (x :: l)[l.idxOf m + 1]? = _
      rw [List.getElem?_cons_succ]
      exact idx_at ((List.mem_cons.mp h).resolve_left (Ne.symm e))
theorem cut_perm {l : Rows} {m : List Int} (h : m ∈ l) : (m :: cutAt l m).Perm l := take_out (idx_at h)
def nx1 (n p : List Int) (s : St3) (acc : List St3) (m : List Int) : List St3 := if addP n p m ∈ s.2.2 then acc else acc ++ [(s.1 ++ [m], cutAt s.2.1 m, s.2.2 ++ [addP n p m])]
def nx2 (ord : Rows → Rows) (n p : List Int) (acc : List St3) (s : St3) : List St3 := (ord s.2.1).foldl (nx1 n p s) acc
def nx3 (ord : Rows → Rows) (n : List Int) (S : List St3) (p : List Int) : List St3 := S.foldl (nx2 ord n p) []
theorem nx1_mem {p : List Int} {s x : St3} : ∀ {as : Rows} {acc : List St3}, x ∈ as.foldl (nx1 n p s) acc ↔ x ∈ acc ∨ ∃ m ∈ as, addP n p m ∉ s.2.2 ∧ x = (s.1 ++ [m], cutAt s.2.1 m, s.2.2 ++ [addP n p m])
  | [], acc => by simp
  | a :: as, acc => by
    rw [List.foldl_cons, nx1_mem]
    unfold nx1
    by_cases h : addP n p a ∈ s.2.2
    · rw [if_pos h]
      refine ⟨fun z => z.imp id fun ⟨m, hm, q⟩ => ⟨m, List.mem_cons_of_mem _ hm, q⟩, fun z => z.imp id fun ⟨m, hm, q1, q2⟩ => ?_⟩
      rcases (List.mem_cons.mp hm) with rfl | hm
      · exact absurd h q1
      · exact ⟨m, hm, q1, q2⟩
    · rw [if_neg h, List.mem_append, List.mem_singleton]
      constructor
      · rintro ((z | z) | ⟨m, hm, q⟩)
        · exact .inl z
        · exact .inr ⟨a, List.mem_cons_self .., h, z⟩
        · exact .inr ⟨m, List.mem_cons_of_mem _ hm, q⟩
      · rintro (z | ⟨m, hm, q1, q2⟩)
        · exact .inl (.inl z)
        · rcases List.mem_cons.mp hm with rfl | hm
          · exact .inl (.inr q2)
          · exact .inr ⟨m, hm, q1, q2⟩
section
variable {ord : Rows → Rows} (ho : ∀ l x, x ∈ ord l ↔ x ∈ l)
theorem nx2_mem (ho : ∀ l x, x ∈ ord l ↔ x ∈ l) {p : List Int} {x : St3} : ∀ {S acc : List St3}, x ∈ S.foldl (nx2 ord n p) acc ↔ x ∈ acc ∨ ∃ s ∈ S, ∃ m ∈ s.2.1, addP n p m ∉ s.2.2 ∧ x = (s.1 ++ [m], cutAt s.2.1 m, s.2.2 ++ [addP n p m])
  | [], acc => by simp
  | s :: S, acc => by
    rw [List.foldl_cons, nx2_mem ho]
    unfold nx2
    rw [nx1_mem]
    constructor
    · rintro ((z | ⟨m, hm, q⟩) | ⟨t, ht, q⟩)
      · exact .inl z
      · exact .inr ⟨s, List.mem_cons_self .., m, (ho _ _).mp hm, q⟩
      · exact .inr ⟨t, List.mem_cons_of_mem _ ht, q⟩
    · rintro (z | ⟨t, ht, m, hm, q⟩)
      · exact .inl (.inl z)
      · rcases List.mem_cons.mp ht with rfl | ht
        · exact .inl (.inr ⟨m, (ho _ _).mpr hm, q⟩)
        · exact .inr ⟨t, ht, m, hm, q⟩
end
end
end Mv
namespace Mv
open PySem L2 Evl LamX
section
variable {P : Program} {w : World} {K : PySem.W.Frag} {mg : Str → Option Value} {base : Heap} {ad : Str → Addr}
abbrev s_law : Stmt := top 69
def F_law (a : Addr) (sN : Nat) : WS := (wSeq (wFor (wR1 (wCons (wOp oAdd (pw (fC (.int 3))) (wCb oMin2 (wCons (wLenS a sN) (wCons (pw (fC (.int 4))) wNil)))) wNil)) (sName 2) (wSeq (wAsg (wDraw W__law_prime_dials (wCons (pw (fC (.int 23))) wNil)) (sName 3)) (wSeq (pws 1 (fAsg (fCb oMin2 (fCons (fOp oSub (fOp oIxT (fVar 3) (fC (.int 0))) (fC (.int 1))) (fCons (fC (.int 8)) fNil))) (sName 4))) (wSeq (wAsg (wDraw W__law_lot (wCons (pw (fVar 3)) (wCons (pw (fVar 4)) wNil))) (sName 5)) (wSeq (wIfS (wT (wOp oEqA (wDraw W__law_draw (wCons (pw (fC (.int 3))) wNil)) (pw (fC (.int 0))))) (wAsg (wCb oTuple (wCons (wCb oSorted (wCons (wSl true (wDraw W__law_mixed (wCons (pw (fCall0 f__law_places (fCons (fVar 3) fNil))) wNil)) (pw (fVar 4))) wNil)) wNil)) (sName 5)) wNext) (wSeq (wAsg (wDraw W__law_lot_row (wCons (pw (fVar 3)) (wCons (pw (fCb oLen (fCons (fVar 5) fNil))) wNil))) (sName 6)) (pws 1 (fIfS (fT (fOp oLt (fCb oLen (fCons (fVar 5) fNil)) (fOp oIxT (fVar 3) (fC (.int 0))))) (fSeq (fIfS (fNot (fT (fCall0 f__law_seats (fCons (fVar 3) (fCons (fVar 5) (fCons (fVar 6) (fCons (fCall f_seating (fCons (fVar 3) (fCons (fVar 5) (fCons (fVar 6) fNil)))) fNil))))))) (fRet (fC (.bool false))) fNext) (fSeq (fIfS (fT (fOp oNotN (fCall f_part_bar (fCons (fVar 3) (fCons (fVar 5) (fCons (fVar 6) fNil)))) (fC .none))) (fRet (fC (.bool false))) fNext) (fIfS (fAnd (fT (fOp oLt (fCb oLen (fCons (fVar 5) fNil)) (fC (.int 6)))) (fT (fOp oLt (fCall f_seatings_many (fCons (fVar 3) (fCons (fVar 5) (fCons (fVar 6) fNil)))) (fC (.int 1))))) (fRet (fC (.bool false))) fNext))) fNext)))))))) (pws 1 (fRet (fC (.bool true)))))
theorem law_run {TL : List (Addr × Str)} {f : Addr} {oc kV doc pm cd ct : Value} {od an : Option Addr} {osl : Array (Option Value)} (Z : Zs mg) (Z_sorted : mg "sorted" = none) (C__law_prime_dials : Cal P w K mg base CX0 3 "_law_prime_dials" ["state", "most"] (SpW TL W__law_prime_dials)) (C__law_lot : Cal P w K mg base CX0 3 "_law_lot" ["state", "dials_here", "most"] (SpW TL W__law_lot)) (C__law_lot_row : Cal P w K mg base CX0 3 "_law_lot_row" ["state", "dials_here", "many"] (SpW TL W__law_lot_row)) (C__law_draw : Cal P w K mg base CX0 1 "_law_draw" ["state", "size_here"] (SpW TL W__law_draw)) (C__law_seats : Cal P w K mg base CX0 3 "_law_seats" ["dials_here", "lot", "row", "thing"] (SpF ad f__law_seats)) (C_part_bar : Cal P w K mg base (L2.CX P w) 7 "part_bar" ["dials", "lot", "row"] (SpF ad f_part_bar)) (C_seating : Cal P w K mg base (L2.CX P w) 13 "seating" ["dials", "lot", "row"] (SpF ad f_seating)) (C_seatings_many : Cal P w K mg base (L2.CX P w) 7 "seatings_many" ["dials", "lot", "row"] (SpF ad f_seatings_many)) (C__law_mixed : Cal P w K mg base CX0 2 "_law_mixed" ["state", "several"] (SpW TL W__law_mixed)) (C__law_places : Cal P w K mg base CX0 1 "_law_places" ["dials_here"] (SpF ad f__law_places)) (C__law_begun : Cal P w K mg base CX0 1 "_law_begun" ["script"] (SpBegun K))
    (lk : K.lookup f = some ⟨oc, od, .func (PySem.W.fnOf "law" "law" (defArgs s_law) (defBody s_law) (defScope s_law) .none kV doc pm an cd ct), osl⟩) (hcd : PySem.W.codeIn K cd "law" = true)
    {sh : Shared} {H : Hp} {args : Args} {u : Value} {a : Addr} {ns : List Int} {Q : VK} {E : XK} (e0 : Env0 P w K mg base callerA [] sh H) (hb : BindsTo sh (PySem.W.fnOf "law" "law" (defArgs s_law) (defBody s_law) (defScope s_law) .none kV doc pm an cd ct) args [("script", u)])
    (hrel : RelV (.ref a) u) (hroom : Room 60 callerA) (hS : SqL K H a (ns.map V.int)) (hlen : ns.length ≤ 63) (hTL : ∀ p ∈ TL, H p.1 = some (.tbl #[])) (hF : ∀ s : Addr, F_law a ns.length (Ce.fx (.ref a) :: Ce.fx (.ref s) :: List.replicate 5 .un) 0 (fun _ _ => False) (fun d _ => d = .bool true)) (hQ : ∀ H', Q (.bl true) H') :
    codeAny (model P w) callerA (.call (.ref f) args) (CR CX0 [] P w H sh Q E) sh := by
  have sc : FnScope ["script", "state", "turn", "dials_here", "many", "lot", "row"] ["script"] (defScope s_law) := ⟨rfl, rfl, rfl, by decide +kernel, rfl, by decide +kernel, by decide +kernel⟩
  refine run_ofS (k := 59) (N := ["script", "state", "turn", "dials_here", "many", "lot", "row"]) (ps := ["script"]) (us := [u]) (vs := [.ref a]) lk hcd sc hroom e0 hb (.cons hrel .nil) rfl fun hr => ?_
  have hgd : (callerA.deeper (PyProof.Rows.envOfC "law" (defScope s_law) sh.heap.objs.size f cd)).guards = some [] := rfl
  have hun : (callerA.deeper (PyProof.Rows.envOfC "law" (defScope s_law) sh.heap.objs.size f cd)).units + 66 < cLine := by have := hr.un; omega
  have hseq := XL_seq (TL := TL) hS
  suffices hh : ∃ t, PSs (cxOf CX0 P w K mg base ["script", "state", "turn", "dials_here", "many", "lot", "row"] "law" (defScope s_law) f cd callerA [] sh H E).nox (defBody s_law) t ∧ t { nx := fun _ H' => Q .non H', rt := Q } (L2.start ["script", "state", "turn", "dials_here", "many", "lot", "row"] [.ref a]) H from
    hh.elim fun t h => ⟨t, h.1.nox, h.2⟩
  refine ⟨_, (pss_cons (ps_set (i := 1) sc.nd rfl (Or.inl rfl) (pe_cal C__law_begun (hr.mono (by decide)) pass0 (pa_cons (pv 0) pa_nil))) (pss_cons (ps_for PassesOwn.never rfl (pi_range1 (by rfl) Z.range (pa_cons (pe_op op_add pe_int (pe_callB (call_min2 (by rfl)) (by rfl) Z.min (by decide +kernel) (pa_cons (pe_callB (r := rLenA K) call_len_seq (by rfl) Z.len PySem.boot_len (pa_cons (pv 0) pa_nil)) (pa_cons pe_int pa_nil)))) pa_nil)) (pg_name (i := 2) sc.nd rfl (Or.inl rfl)) (pss_cons (ps_set (i := 3) sc.nd rfl (Or.inl rfl) (pe_cal C__law_prime_dials (hr.mono (by decide)) pass0 (pa_cons (pv 1) (pa_cons pe_int pa_nil)))) (pss_cons (ps_set (i := 4) sc.nd rfl (Or.inl rfl) (pe_callB (call_min2 (by rfl)) (by rfl) Z.min (by decide +kernel) (pa_cons (pe_op op_sub (pe_ix (r := rIxT K) ix_tup (pv 3) pe_int (fun _ _ => rfl)) pe_int) (pa_cons pe_int pa_nil)))) (pss_cons (ps_set (i := 5) sc.nd rfl (Or.inl rfl) (pe_cal C__law_lot (hr.mono (by decide)) pass0 (pa_cons (pv 1) (pa_cons (pv 3) (pa_cons (pv 4) pa_nil))))) (pss_cons (ps_if (pt_cmpR op_eq (pe_cal C__law_draw (hr.mono (by decide)) pass0 (pa_cons (pv 1) (pa_cons pe_int pa_nil))) pe_int (nomark _)) (pss_one (ps_set (i := 5) sc.nd rfl (Or.inl rfl) (pe_callTy (r := rTupOf K) call_tuple_of (by rfl) Z.tuple (by decide +kernel) (pa_cons (pe_callB (r := rSortD K) (call_sortD hr.units) (by rfl) Z_sorted (by decide +kernel) (pa_cons (pe_slice (r := rSlL K) sl_list (pe_cal C__law_mixed (hr.mono (by decide)) pass0 (pa_cons (pv 1) (pa_cons (pe_cal C__law_places (hr.mono (by decide)) pass0 (pa_cons (pv 3) pa_nil)) pa_nil))) po_none (po_some (pv 4))) pa_nil)) pa_nil)))) pss_nil) (pss_cons (ps_set (i := 6) sc.nd rfl (Or.inl rfl) (pe_cal C__law_lot_row (hr.mono (by decide)) pass0 (pa_cons (pv 1) (pa_cons (pv 3) (pa_cons (pe_callB (r := rLenA K) call_len_seq (by rfl) Z.len PySem.boot_len (pa_cons (pv 5) pa_nil)) pa_nil))))) (pss_one (ps_if (pt_cmpR op_lt (pe_callB (r := rLenA K) call_len_seq (by rfl) Z.len PySem.boot_len (pa_cons (pv 5) pa_nil)) (pe_ix (r := rIxT K) ix_tup (pv 3) pe_int (fun _ _ => rfl)) (nomark _)) (pss_cons (ps_if (pt_not (pt_val (pe_cal C__law_seats (hr.mono (by decide)) pass0 (pa_cons (pv 3) (pa_cons (pv 5) (pa_cons (pv 6) (pa_cons (pe_cal C_seating (hr.mono (by decide)) passF (pa_cons (pv 3) (pa_cons (pv 5) (pa_cons (pv 6) pa_nil)))) pa_nil))))))) (pss_one (ps_ret pe_bl)) pss_nil) (pss_cons (ps_if (pt_cmpR op_notN (pe_cal C_part_bar (hr.mono (by decide)) passF (pa_cons (pv 3) (pa_cons (pv 5) (pa_cons (pv 6) pa_nil)))) pe_non (nomark _)) (pss_one (ps_ret pe_bl)) pss_nil) (pss_one (ps_if (PW.pt (pw_and (pt_cmpR op_lt (pe_callB (r := rLenA K) call_len_seq (by rfl) Z.len PySem.boot_len (pa_cons (pv 5) pa_nil)) pe_int (nomark _)) (pw_and1 (pt_cmpR op_lt (pe_cal C_seatings_many (hr.mono (by decide)) passF (pa_cons (pv 3) (pa_cons (pv 5) (pa_cons (pv 6) pa_nil)))) pe_int (nomark _))))) (pss_one (ps_ret pe_bl)) pss_nil)))) pss_nil)))))))) (pss_one (ps_ret pe_bl)))), ?_⟩
  exact law_go (TL := TL) (n := 5) rfl (show Sws (XL TL H a) _ (F_law a ns.length) from (w_seq (w_for (w_rng1 (w_cons (w_op os_add (w_pure (E := fun _ _ _ => False) (ad := ad) (u_c fun _ => .int 3)) (w_cb cs_min2 (w_cons (w_lenS hseq) (w_cons (w_pure (E := fun _ _ _ => False) (ad := ad) (u_c fun _ => .int 4)) w_nil)))) w_nil)) g_name (w_seq (w_asg (w_draw (w_cons (w_pure (E := fun _ _ _ => False) (ad := ad) (u_c fun _ => .int 23)) w_nil)) g_name (show (1 : Nat) ∉ _ from by decide)) (w_seq (w_stmt (E := fun _ _ _ => False) (ad := ad) (u_asg (u_cb cs_min2 (u_cons (u_op os_sub (u_op os_ixT u_var (u_c fun _ => .int 0)) (u_c fun _ => .int 1)) (u_cons (u_c fun _ => .int 8) u_nil))) g_name)) (w_seq (w_asg (w_draw (w_cons (w_pure (E := fun _ _ _ => False) (ad := ad) u_var) (w_cons (w_pure (E := fun _ _ _ => False) (ad := ad) u_var) w_nil))) g_name (show (1 : Nat) ∉ _ from by decide)) (w_seq (w_ifS (w_test (w_op os_eqA (w_draw (w_cons (w_pure (E := fun _ _ _ => False) (ad := ad) (u_c fun _ => .int 3)) w_nil)) (w_pure (E := fun _ _ _ => False) (ad := ad) (u_c fun _ => .int 0)))) (w_asg (w_cb cs_tuple (w_cons (w_cb cs_sorted (w_cons (w_slTo (k := true) (w_draw (w_cons (w_pure (E := fun _ _ _ => False) (ad := ad) (u_call0 (u_cons u_var u_nil))) w_nil)) (w_pure (E := fun _ _ _ => False) (ad := ad) u_var)) w_nil)) w_nil)) g_name (show (1 : Nat) ∉ _ from by decide)) w_next) (w_seq (w_asg (w_draw (w_cons (w_pure (E := fun _ _ _ => False) (ad := ad) u_var) (w_cons (w_pure (E := fun _ _ _ => False) (ad := ad) (u_cb cs_len (u_cons u_var u_nil))) w_nil))) g_name (show (1 : Nat) ∉ _ from by decide)) (w_stmt (E := fun _ _ _ => False) (ad := ad) (u_ifS (u_test (u_op os_lt (u_cb cs_len (u_cons u_var u_nil)) (u_op os_ixT u_var (u_c fun _ => .int 0)))) (u_seq (u_ifS (u_tNot (u_tB (u_call0 (u_cons u_var (u_cons u_var (u_cons u_var (u_cons (u_call (u_cons u_var (u_cons u_var (u_cons u_var u_nil)))) u_nil))))))) (u_ret (u_c fun _ => .bl false)) u_next) (u_seq (u_ifS (u_test (u_op os_notN (u_call (u_cons u_var (u_cons u_var (u_cons u_var u_nil)))) (u_c fun _ => .non))) (u_ret (u_c fun _ => .bl false)) u_next) (u_ifS (u_tAnd (u_test (u_op os_lt (u_cb cs_len (u_cons u_var u_nil)) (u_c fun _ => .int 6))) (u_test (u_op os_lt (u_call (u_cons u_var (u_cons u_var (u_cons u_var u_nil)))) (u_c fun _ => .int 1)))) (u_ret (u_c fun _ => .bl false)) u_next))) u_next))))))) (show (1 : Nat) ∉ _ from by decide)) (w_stmt (E := fun _ _ _ => False) (ad := ad) (u_ret (u_c fun _ => .bl true))))) hS hlen hTL hF hQ
end
end Mv
namespace Mv
open PySem L2 Evl
section
variable {n p : List Int} {P R L M : Rows} {k : Nat} {Γ : En} {T : Int} {post : D → Int → Prop}
theorem idxB_rows (l : Rows) (m : List Int) : idxB (l.map dI) (dI m) = true := by
  unfold idxB
  rw [shaped_rowsL, shaped_dI, flat_dI, show flatDs (l.map dI) = true from flat_rows l]; rfl
theorem keyAD_rows (l : Rows) : keyAD (l.map dI) = false := by
  cases l <;> rfl
theorem cntT_v {fa fb : En → Re} {l : Rows} {m : List Int} (ha : fa Γ = some (.val (dT l))) (hb : fb Γ = some (.val (dI m))) : fTM cntT fa fb Γ = some (.val (.int (l.count m : Nat))) := by
  unfold fTM
  rw [ha]
  show (if keyAD (l.map dI) = true then none else _) = _
  rw [keyAD_rows, if_neg Bool.false_ne_true, hb]
  dsimp only
  rw [idxB_rows, if_pos rfl]
  unfold cntT
  have : (l.map dI).countP (fun y => PyData.eqv y (dI m)) = l.count m := by
    rw [List.countP_map, List.count]
    refine List.countP_congr fun x _ => ?_
    rw [Function.comp, eqv_dI, beq_iff_eq, decide_eq_true_iff]
  rw [this]; rfl
end
end Mv
namespace Mv
open PySem L2
section
variable {n : List Int} {ord : Rows → Rows}
theorem snoc_inj {α : Type} {a b : List α} {x y : α} (h : a ++ [x] = b ++ [y]) : a = b ∧ x = y := by
  have := List.append_inj' h rfl
  exact ⟨this.1, by simpa using this.2⟩
abbrev St2 := Rows × Rows
def wx1 (n : List Int) (K R : Rows) (p : List Int) (s : St2) : List St2 := (K.filter fun m => decide (addP n p m ∉ s.2) && decide (s.1.count m < R.count m)).map fun m => (s.1 ++ [m], s.2 ++ [addP n p m])
def wx (n : List Int) (K R : Rows) (S : List St2) (p : List Int) : List St2 := S.flatMap (wx1 n K R p)
theorem wx_mem {K R : Rows} {S : List St2} {p : List Int} {x : St2} : x ∈ wx n K R S p ↔ ∃ s ∈ S, ∃ m ∈ K, addP n p m ∉ s.2 ∧ s.1.count m < R.count m ∧ x = (s.1 ++ [m], s.2 ++ [addP n p m]) := by
  unfold wx wx1
  rw [List.mem_flatMap]
  constructor
  · rintro ⟨s, hs, h⟩
    obtain ⟨m, hm, rfl⟩ := List.mem_map.mp h
    obtain ⟨h1, h2⟩ := List.mem_filter.mp hm
    rw [Bool.and_eq_true, decide_eq_true_eq, decide_eq_true_eq] at h2
    exact ⟨s, hs, m, h1, h2.1, h2.2, rfl⟩
  · rintro ⟨s, hs, m, hm, h1, h2, rfl⟩
    exact ⟨s, hs, List.mem_map.mpr ⟨m, List.mem_filter.mpr ⟨hm, by rw [Bool.and_eq_true, decide_eq_true_eq, decide_eq_true_eq]; exact ⟨h1, h2⟩⟩, rfl⟩⟩
theorem wx1_len {K R : Rows} {p : List Int} {s : St2} : (wx1 n K R p s).length ≤ K.length := by
  unfold wx1
  rw [List.length_map]
  exact List.length_filter_le _ _
theorem wx_len {K R : Rows} {p : List Int} : ∀ (S : List St2), (wx n K R S p).length ≤ S.length * K.length
  | [] => by simp [wx]
  | s :: S => by
    have h1 := wx_len (K := K) (R := R) (p := p) S
    have h2 := wx1_len (n := n) (K := K) (R := R) (p := p) (s := s)
    unfold wx at h1 ⊢
    rw [List.flatMap_cons, List.length_append, List.length_cons, Nat.succ_mul]
    omega
theorem wx_nd {K R : Rows} (hK : K.Nodup) {p : List Int} : ∀ {S : List St2}, (S.map (·.1)).Nodup → ((wx n K R S p).map (·.1)).Nodup
  | [], _ => by simp [wx]
  | s :: S, h => by
    rw [List.map_cons, List.nodup_cons] at h
    have ih := wx_nd (K := K) (R := R) hK (p := p) h.2
    have e : wx n K R (s :: S) p = wx1 n K R p s ++ wx n K R S p := by unfold wx; rw [List.flatMap_cons]
    rw [e, List.map_append]
    refine List.nodup_append.mpr ⟨?_, ih, fun x hx y hy z => ?_⟩
    · unfold wx1
      rw [List.map_map]
      refine List.pairwise_map.mpr ((hK.sublist (List.filter_sublist ..)).imp fun {a b} ne z => ne (snoc_inj z).2)
    · obtain ⟨u, hu, rfl⟩ := List.mem_map.mp hx
      obtain ⟨v, hv, rfl⟩ := List.mem_map.mp hy
      obtain ⟨m, _, rfl⟩ := List.mem_map.mp hu
      obtain ⟨t, ht, m', _, _, _, rfl⟩ := wx_mem.mp hv
      exact h.1 ((snoc_inj z).1 ▸ List.mem_map.mpr ⟨t, ht, rfl⟩)
theorem sub_count : ∀ {M R : Rows}, (∀ m, M.count m ≤ R.count m) → ∃ rest, (M ++ rest).Perm R
  | [], R, _ => ⟨R, .refl _⟩
  | m :: M, R, h => by
    have hm : m ∈ R := List.count_pos_iff.mp (by have := h m; rw [List.count_cons_self] at this; omega)
    have pe := List.perm_cons_erase hm
    obtain ⟨rest, hr⟩ := sub_count (M := M) (R := R.erase m) fun x => by
      have := h x
      have e := pe.count_eq x
      rw [List.count_cons] at this e
      omega
    exact ⟨rest, (hr.cons m).trans pe.symm⟩
theorem count_sub {M R rest : Rows} (h : (M ++ rest).Perm R) (m : List Int) : M.count m ≤ R.count m := by
  rw [← h.count_eq, List.count_append]
  omega
structure SeatC (n : List Int) (R P pre taken M : Rows) : Prop where
  len : M.length = P.length
  cnt : ∀ m, (pre ++ M).count m ≤ R.count m
  nd : (endsF n P M).Nodup
  fr : ∀ e ∈ endsF n P M, e ∉ taken
theorem wx_all {K R : Rows} (hK : ∀ m, m ∈ K ↔ m ∈ R) : ∀ (P : Rows) (S : List St2) (N : Rows), (∀ s ∈ S, ∀ m, s.1.count m ≤ R.count m) → (N ∈ (P.foldl (wx n K R) S).map (·.1) ↔ ∃ s ∈ S, ∃ M, N = s.1 ++ M ∧ SeatC n R P s.1 s.2 M)
  | [], S, N, hS => by
    rw [List.foldl_nil]
    constructor
    · intro h
      obtain ⟨s, hs, rfl⟩ := List.mem_map.mp h
      exact ⟨s, hs, [], by simp, rfl, (fun m => by rw [List.append_nil]; exact hS s hs m), .nil, fun e h => by cases h⟩
    · rintro ⟨s, hs, M, rfl, h⟩
      have : M = [] := List.eq_nil_of_length_eq_zero h.len
      rw [this, List.append_nil]
      exact List.mem_map.mpr ⟨s, hs, rfl⟩
  | p :: P, S, N, hS => by
    have hS' : ∀ s ∈ wx n K R S p, ∀ m, s.1.count m ≤ R.count m := fun x hx m => by
      obtain ⟨s, hs, m', _, _, lt, rfl⟩ := wx_mem.mp hx
      have := hS s hs m
      rw [List.count_append, List.count_singleton]
      by_cases e : m' = m
      · subst e; rw [beq_self_eq_true]; simp; omega
      · rw [beq_false_of_ne e]; simpa using this
    rw [List.foldl_cons, wx_all hK P _ _ hS']
    constructor
    · rintro ⟨t, ht, M, e, h⟩
      obtain ⟨s, hs, m, hm, q, lt, rfl⟩ := wx_mem.mp ht
      obtain ⟨h1, h2, h3, h4⟩ := h
      refine ⟨s, hs, m :: M, by rw [e]; simp, by simp [h1], fun x => by have := h2 x; simpa using this, ?_, fun e he => ?_⟩
      · show (addP n p m :: endsF n P M).Nodup
        exact List.nodup_cons.mpr ⟨fun z => h4 _ z (List.mem_append_right _ (List.mem_singleton.mpr rfl)), h3⟩
      · rcases List.mem_cons.mp (show e ∈ addP n p m :: endsF n P M from he) with rfl | he
        · exact q
        · exact fun z => h4 _ he (List.mem_append_left _ z)
    · rintro ⟨s, hs, M, e, h⟩
      obtain ⟨h1, h2, h3, h4⟩ := h
      cases M with
      | nil => simp at h1
      | cons m M =>
        have h3 : (addP n p m :: endsF n P M).Nodup := h3
        have h4 : ∀ e ∈ addP n p m :: endsF n P M, e ∉ s.2 := h4
        rw [List.nodup_cons] at h3
        have lt : s.1.count m < R.count m := by
          have := h2 m
          rw [List.count_append, List.count_cons_self] at this
          omega
        have hm : m ∈ R := List.count_pos_iff.mp (by omega)
        refine ⟨_, wx_mem.mpr ⟨s, hs, m, (hK m).mpr hm, h4 _ (List.mem_cons_self ..), lt, rfl⟩, M, by rw [e]; simp, by simpa using h1, fun x => by have := h2 x; simpa using this, h3.2, fun e he z => ?_⟩
        rcases List.mem_append.mp z with z | z
        · exact h4 e (List.mem_cons_of_mem _ he) z
        · rw [List.mem_singleton.mp z] at he; exact h3.1 he
theorem seatC_F {R P M : Rows} : SeatC n R P [] [] M ↔ SeatF n P R [] M := by
  constructor
  · rintro ⟨h1, h2, h3, h4⟩
    exact ⟨h1, sub_count h2, h3, h4⟩
  · rintro ⟨h1, ⟨rest, h2⟩, h3, h4⟩
    exact ⟨h1, count_sub h2, h3, h4⟩
end
end Mv
namespace Mv
open PySem L2 Evl
section
variable {n p : List Int} {P R L M : Rows} {k : Nat} {Γ : En} {T : Int} {post : D → Int → Prop}
theorem ffor_take {α σ : Type} {src : En → Ra} {st : Fs} {body : En → Rf} (e : α → D) (J : σ → En → Prop) (next : σ → α → σ) (as : List α) (s0 : σ) (hs : src Γ = some (.vals (as.map e))) (h0 : J s0 Γ)
    (h : ∀ (i : Nat) (a : α) (s : σ) (Γ : En), as[i]? = some a → s = (as.take i).foldl next s0 → J s Γ → ∃ Γ1, st (e a) Γ = some Γ1 ∧ ∃ Γ2, body Γ1 = some (.nx Γ2) ∧ J (next s a) Γ2) : ∃ Γ', fFor src st body Γ = some (.nx Γ') ∧ J (as.foldl next s0) Γ' := by
  obtain ⟨Γ', h1, h2⟩ := ffor_inv (src := src) (st := st) (body := body) (fun i Γ => J ((as.take i).foldl next s0) Γ) hs h0 fun i d Γ hi hJ => by
    rw [List.getElem?_map] at hi
    obtain ⟨a, ha, rfl⟩ := Option.map_eq_some_iff.mp hi
    obtain ⟨Γ1, e1, Γ2, e2, j⟩ := h i a _ Γ ha rfl hJ
    refine ⟨Γ1, e1, Γ2, e2, ?_⟩
    rw [List.take_add_one, ha, List.foldl_append]
    exact j
  refine ⟨Γ', h1, ?_⟩
  rw [List.length_map, List.take_length] at h2
  exact h2
def ordR (l : Rows) : Rows := sortR (dedup l)
theorem ord_mem (l : Rows) (x : List Int) : x ∈ ordR l ↔ x ∈ l := ((show (sortR (dedup l)).Perm (dedup l) from isort_perm _).mem_iff).trans dedup_mem
def e3 (s : St3) : D := .tuple [dT s.1, dT s.2.1, dT s.2.2]
def Good (n : List Int) (R : Rows) (k : Nat) (S : List St3) : Prop := ∀ s ∈ S, s.2.1.length + k = R.length ∧ (∀ q ∈ s.2.1, q ∈ placesOf n) ∧ s.1.length = k ∧ s.2.2.length = k
theorem Good.next {S : List St3} {p : List Int} (g : Good n R k S) : Good n R (k + 1) (nx3 ordR n S p) := fun x hx => by
  rcases (nx2_mem ord_mem).mp hx with z | ⟨s, hs, m, hm, _, rfl⟩
  · cases z
  · obtain ⟨g1, g2, g3, g4⟩ := g s hs
    have cp := cut_perm hm
    have cl := cp.length_eq
    rw [List.length_cons] at cl
    refine ⟨by dsimp only; omega, fun q hq => g2 q (cp.mem_iff.mp (List.mem_cons_of_mem _ hq)), ?_, ?_⟩
    · dsimp only; rw [List.length_append, g3]; rfl
    · dsimp only; rw [List.length_append, g4]; rfl
theorem catR (A B : Rows) (h : A.length + B.length ≤ 1000) : oCatT (dT A) (dT B) = some (dT (A ++ B)) := by
  have := cat_v (xs := A.map dI) (ys := B.map dI) (by rw [List.length_map, List.length_map]; exact h)
  rw [← List.map_append] at this
  exact this
end
end Mv
namespace Mv
open PySem L2 Evl
section
variable {n p : List Int} {P R L M : Rows} {k : Nat} {Γ : En} {T : Int} {post : D → Int → Prop}
def keysGo (ks : Rows) (m : List Int) : Rows := if m ∈ ks then ks else ks ++ [m]
def keysF (R : Rows) : Rows := R.foldl keysGo []
theorem keysGo_mem {x : List Int} : ∀ (R ks : Rows), x ∈ R.foldl keysGo ks ↔ x ∈ ks ∨ x ∈ R
  | [], ks => by simp
  | m :: R, ks => by
    rw [List.foldl_cons, keysGo_mem R]
    unfold keysGo
    by_cases h : m ∈ ks
    · rw [if_pos h, List.mem_cons]
      constructor
      · rintro (z | z)
        · exact .inl z
        · exact .inr (.inr z)
      · rintro (z | rfl | z)
        · exact .inl z
        · exact .inl h
        · exact .inr z
    · rw [if_neg h, List.mem_append, List.mem_singleton, List.mem_cons]
      constructor
      · rintro ((z | z) | z)
        · exact .inl z
        · exact .inr (.inl z)
        · exact .inr (.inr z)
      · rintro (z | z | z)
        · exact .inl (.inl z)
        · exact .inl (.inr z)
        · exact .inr z
theorem keysF_mem {x : List Int} : x ∈ keysF R ↔ x ∈ R := by
  unfold keysF
  rw [keysGo_mem]
  simp
theorem keysGo_nd : ∀ (R ks : Rows), ks.Nodup → (R.foldl keysGo ks).Nodup
  | [], ks, h => h
  | m :: R, ks, h => by
    rw [List.foldl_cons]
    refine keysGo_nd R _ ?_
    unfold keysGo
    split
    · exact h
    · rename_i q
      exact List.nodup_append.mpr ⟨h, by simp, fun a ha b hb e => q (by rw [← List.mem_singleton.mp hb, ← e]; exact ha)⟩
theorem keysF_nd (R : Rows) : (keysF R).Nodup := keysGo_nd R [] .nil
theorem keysGo_len : ∀ (R ks : Rows), (R.foldl keysGo ks).length ≤ ks.length + R.length
  | [], ks => by simp
  | m :: R, ks => by
    (rw [List.foldl_cons, List.length_cons])
    have h1 := keysGo_len R (keysGo ks m)
    have h2 : (keysGo ks m).length ≤ ks.length + 1 := by
      unfold keysGo
      split
      · omega
      · rw [List.length_append]; simp
    omega
theorem keysF_len (R : Rows) : (keysF R).length ≤ R.length := by
  have := keysGo_len R []
  unfold keysF
  simpa using this
theorem put_keys {es : List (KK × D)} {ks : Rows} {m : List Int} {d : D} (h : es.map (·.1) = ks.map kI) : (putD es (kI m) d).map (·.1) = (keysGo ks m).map kI := by
  have ha : (es.any fun e => decide (e.1 = kI m)) = decide (m ∈ ks) := by
    have : (es.any fun e => decide (e.1 = kI m)) = (ks.map kI).any fun x => decide (x = kI m) := by
      rw [← h, List.any_map]; rfl
    rw [this, Bool.eq_iff_iff, List.any_eq_true, decide_eq_true_eq]
    constructor
    · rintro ⟨x, hx, e⟩
      obtain ⟨y, hy, rfl⟩ := (List.mem_map.mp hx)
      rw [kI_inj (of_decide_eq_true e)] at hy
      exact hy
    · exact fun hm => ⟨kI m, List.mem_map.mpr ⟨m, hm, rfl⟩, decide_eq_true rfl⟩
  unfold putD keysGo
  rw [ha]
  by_cases hm : m ∈ ks
  · rw [if_pos (decide_eq_true hm), if_pos hm, ← h, List.map_map]
    refine List.map_congr_left fun e _ => ?_
    show (if e.1 = kI m then (e.1, d) else e).1 = e.1
    split <;> rfl
  · rw [if_neg (by rw [decide_eq_false hm]; exact Bool.false_ne_true), if_neg hm, List.map_append, List.map_append, h]; rfl
theorem keys_go (g : List Int → D) : ∀ (R : Rows) (es : List (KK × D)) (ks : Rows), es.map (·.1) = ks.map kI → (R.foldl (fun es x => putD es (kI x) (g x)) es).map (·.1) = (R.foldl keysGo ks).map kI
  | [], _, _, h => h
  | m :: R, es, ks, h => by
    (rw [List.foldl_cons, List.foldl_cons])
    exact keys_go g R _ _ (put_keys h)
def rowDict (g : List Int → D) (R : Rows) : List (KK × D) := R.foldl (fun es x => putD es (kI x) (g x)) []
theorem dictF_is : dictF n p R = rowDict (fun m => dI (addP n p m)) R := by
  unfold dictF madeD rowDict
  rw [List.filter_eq_self.mpr fun _ _ => rfl]
theorem rowDict_keys (g : List Int → D) : ((rowDict g R).map fun e => kD e.1) = (keysF R).map dI := by
  have := congrArg (List.map kD) (keys_go g R [] [] rfl)
  rw [List.map_map, List.map_map] at this
  unfold rowDict keysF
  refine this.trans (List.map_congr_left fun m _ => ?_)
  exact kD_kI m
theorem rowDict_lk (g : List Int → D) {m : List Int} (h : m ∈ R) : lkD (rowDict g R) (kI m) = some (g m) := by
  have key : ∀ (l : Rows) (acc : List (KK × D)), (m ∈ l ∨ lkD acc (kI m) = some (g m)) → lkD (l.foldl (fun es x => putD es (kI x) (g x)) acc) (kI m) = some (g m) := fun l => by
    induction l with
    | nil => intro acc h; exact h.resolve_left (fun z => by cases z)
    | cons x l ih =>
      intro acc h
      refine ih _ ?_
      rcases h with h | h
      · rcases (List.mem_cons.mp h) with rfl | h
        · exact .inr (by rw [lkD_put, if_pos rfl])
        · exact .inl h
      · refine .inr ?_
        rw [lkD_put]
        split
        · rename_i e
          rw [kI_inj e]
        · exact h
  exact key R [] (.inl h)
theorem rowGet_v (g : List Int → D) {fa fb : En → Re} {m : List Int} (hm : m ∈ R) (ha : fa Γ = some (.val (dctD (rowDict g R)))) (hb : fb Γ = some (.val (dI m))) : fDGet fa fb Γ = some (.val (g m)) := by
  unfold fDGet bnd
  rw [ha]; dsimp only
  rw [hb]; dsimp only
  rw [dctOf_dctD, keyOf0_dI]; dsimp only
  rw [rowDict_lk g hm]; rfl
theorem lc2F_of {α β : Type} {st st1 : Fs} {ft ft1 fe : En → Re} {src1 : En → Ra} {vs1 : List Nat} (e : α → D) (f : α → List β) (e1 g : β → D) : ∀ (as : List α), (∀ a ∈ as, ∃ Γ1, st (e a) Γ = some Γ1 ∧ ft Γ1 = some (.val (.bool true)) ∧ src1 Γ1 = some (.vals ((f a).map e1)) ∧ (f a).length ≤ 1000 ∧ ∀ b ∈ f a, ∃ Γ2, st1 (e1 b) (wipeC Γ1 vs1) = some Γ2 ∧ ft1 Γ2 = some (.val (.bool true)) ∧ fe Γ2 = some (.val (g b))) →
    lc2Go st ft src1 st1 ft1 fe vs1 Γ (as.map e) = some ((as.flatMap f).map g)
  | [], _ => rfl
  | a :: as, h => by
    obtain ⟨Γ1, h1, h2, h3, hb, h4⟩ := h a (List.mem_cons_self ..)
    have ih := lc2F_of (st := st) (st1 := st1) (ft := ft) (ft1 := ft1) (fe := fe) (src1 := src1) (vs1 := vs1) e f e1 g as fun x hx => h x (List.mem_cons_of_mem _ hx)
    rw [List.map_cons]
    unfold lc2Go
    rw [h1]; dsimp only
    rw [h2]; dsimp only
    rw [if_pos rfl, h3]; dsimp only
    rw [if_pos (small_of (by rw [List.length_map]; exact hb)), lcAll_of e1 g (f a) h4]; dsimp only
    rw [ih, List.flatMap_cons, List.map_append]
def e2t (s : St2) : D := .tuple [dT s.1, dT s.2]
theorem withNext_v {s : St2} (l1 : s.1.length ≤ 100) (l2 : s.2.length ≤ 100) (lR : R.length ≤ 100) : f_with_next [e2t s, dctD (rowDict (fun m => dI (addP n p m)) R), dctD (rowDict (fun m => .int (R.count m : Nat)) R)] = some (.val (.list ((wx1 n (keysF R) R p s).map e2t))) := by
  obtain ⟨A, eA⟩ : ∃ A : D, A = dctD (rowDict (fun m => dI (addP n p m)) R) := ⟨_, rfl⟩
  obtain ⟨B, eB⟩ : ∃ B : D, B = dctD (rowDict (fun m => .int (R.count m : Nat)) R) := ⟨_, rfl⟩
  rw [← eA, ← eB]
  have lk := keysF_len R
  have hf := flc_of (src := iKy (fVar 1)) (st := sName 5) (ft := fAnd (fT (fOp (oIn true) (fDGet (fVar 1) (fVar 5)) (fVar 4))) (fT (fOp oLt (fTM cntT (fVar 3) (fVar 5)) (fDGet (fVar 2) (fVar 5))))) (fe := fTup (fCons (fOp oCatT (fVar 3) (fTup (fCons (fVar 5) fNil))) (fCons (fOp oCatT (fVar 4) (fTup (fCons (fDGet (fVar 1) (fVar 5)) fNil))) fNil))) (vs := [5])
    (Γ := [.d (e2t s), .d A, .d B, .d (dT s.1), .d (dT s.2), .un]) dI (fun m => decide (addP n p m ∉ s.2) && decide (s.1.count m < R.count m)) (fun m => e2t (s.1 ++ [m], s.2 ++ [addP n p m])) (keysF R)
    (by
      unfold iKy
      rw [show fVar 1 [.d (e2t s), .d A, .d B, .d (dT s.1), .d (dT s.2), .un] = some (.val A) from rfl]; dsimp only
      rw [eA, dctOf_dctD]; dsimp only
      rw [rowDict_keys]) (by omega) fun m hm => by
      have mR := keysF_mem.mp hm
      refine ⟨[.d (e2t s), .d A, .d B, .d (dT s.1), .d (dT s.2), .d (dI m)], rfl, ?_⟩
      have c1 := rowGet_v (Γ := [.d (e2t s), .d A, .d B, .d (dT s.1), .d (dT s.2), .d (dI m)]) (fa := fVar 1) (fb := fVar 5) (fun m => dI (addP n p m)) mR (by rw [← eA]; rfl) rfl
      have c2 := rowGet_v (Γ := [.d (e2t s), .d A, .d B, .d (dT s.1), .d (dT s.2), .d (dI m)]) (fa := fVar 2) (fb := fVar 5) (fun m => PyData.int (R.count m : Nat)) mR (by rw [← eB]; rfl) rfl
      have c3 := cntT_v (Γ := [.d (e2t s), .d A, .d B, .d (dT s.1), .d (dT s.2), .d (dI m)]) (fa := fVar 3) (fb := fVar 5) (l := s.1) (m := m) rfl rfl
      have c4 := inT_v s.2 (addP n p m) true
      have c5 : oLt (.int (s.1.count m : Nat)) (.int (R.count m : Nat)) = some (.bool (decide (s.1.count m < R.count m))) := by
        show some (PyData.bool (decide (((s.1.count m : Nat) : Int) < ((R.count m : Nat) : Int)))) = _
        congr 2
        exact (decide_eq_decide.mpr (by omega))
      have a3 : oCatT (dT s.1) (.tuple [dI m]) = some (dT (s.1 ++ [m])) := catR s.1 [m] (by simp; omega)
      have a4 : oCatT (dT s.2) (.tuple [dI (addP n p m)]) = some (dT (s.2 ++ [addP n p m])) := catR s.2 [addP n p m] (by simp; omega)
      by_cases q1 : addP n p m ∈ s.2
      · have c4' : oIn true (dI (addP n p m)) (dT s.2) = some (.bool false) := by rw [c4, decide_eq_true q1]; rfl
        rw [decide_eq_false (fun z => z q1), Bool.false_and]
        refine ⟨by simp only [guardN, bodyD, fSeq, fAsg, fAsgM, fApp, fRet, fRetN, fDrop, fIfS, fNext, fRaise, fIf, fAnd, fOr, fNot, fT, bo, bnd, bndA, rB, fCall0, noEx, fCall, fCallP, permL, fCons, fNil, fTup, fLst, lim, fCb, ret, fOp, fUn, fVar, fC, fIsi, fIsiLT, isLT, fChain, fLk, fLkB, fLkM, fRevL, fSet2, fFrz, lockL, lockG, lkC, sName, sTup, sCons, sNil, wipeC, List.map_cons, List.map_nil, List.replicate_succ, List.replicate_zero, List.cons_append, List.nil_append, List.getElem?_cons_zero, List.getElem?_cons_succ, List.set_cons_zero, List.set_cons_succ, List.length_cons, List.length_nil, Nat.beq_refl, Nat.reduceAdd, Nat.reduceLeDiff, Nat.reduceEqDiff, Nat.zero_add, if_true, if_false, Bool.false_eq_true, reduceIte, Bool.not_true, Bool.not_false, small_few0, small_few1, small_few2, small_few3, c1, c4'], fun z => by cases z⟩
      · have c4' : oIn true (dI (addP n p m)) (dT s.2) = some (.bool true) := by rw [c4, decide_eq_false q1]; rfl
        rw [decide_eq_true q1, Bool.true_and]
        refine ⟨by simp only [guardN, bodyD, fSeq, fAsg, fAsgM, fApp, fRet, fRetN, fDrop, fIfS, fNext, fRaise, fIf, fAnd, fOr, fNot, fT, bo, bnd, bndA, rB, fCall0, noEx, fCall, fCallP, permL, fCons, fNil, fTup, fLst, lim, fCb, ret, fOp, fUn, fVar, fC, fIsi, fIsiLT, isLT, fChain, fLk, fLkB, fLkM, fRevL, fSet2, fFrz, lockL, lockG, lkC, sName, sTup, sCons, sNil, wipeC, List.map_cons, List.map_nil, List.replicate_succ, List.replicate_zero, List.cons_append, List.nil_append, List.getElem?_cons_zero, List.getElem?_cons_succ, List.set_cons_zero, List.set_cons_succ, List.length_cons, List.length_nil, Nat.beq_refl, Nat.reduceAdd, Nat.reduceLeDiff, Nat.reduceEqDiff, Nat.zero_add, if_true, if_false, Bool.false_eq_true, reduceIte, Bool.not_true, Bool.not_false, small_few0, small_few1, small_few2, small_few3, c1, c2, c3, c4', c5], fun _ => ?_⟩
        simp only [guardN, bodyD, fSeq, fAsg, fAsgM, fApp, fRet, fRetN, fDrop, fIfS, fNext, fRaise, fIf, fAnd, fOr, fNot, fT, bo, bnd, bndA, rB, fCall0, noEx, fCall, fCallP, permL, fCons, fNil, fTup, fLst, lim, fCb, ret, fOp, fUn, fVar, fC, fIsi, fIsiLT, isLT, fChain, fLk, fLkB, fLkM, fRevL, fSet2, fFrz, lockL, lockG, lkC, sName, sTup, sCons, sNil, wipeC, List.map_cons, List.map_nil, List.replicate_succ, List.replicate_zero, List.cons_append, List.nil_append, List.getElem?_cons_zero, List.getElem?_cons_succ, List.set_cons_zero, List.set_cons_succ, List.length_cons, List.length_nil, Nat.beq_refl, Nat.reduceAdd, Nat.reduceLeDiff, Nat.reduceEqDiff, Nat.zero_add, if_true, if_false, Bool.false_eq_true, reduceIte, Bool.not_true, Bool.not_false, small_few0, small_few1, small_few2, small_few3, c1, a3, a4]
        rfl
  refine (guard_of rfl).trans (bodyD_rt ?_)
  show b_with_next [.d (e2t s), .d A, .d B, .un, .un, .un] = _
  unfold b_with_next
  rw [seq_on (Γ1 := [.d (e2t s), .d A, .d B, .d (dT s.1), .d (dT s.2), .un]) rfl]
  simp only [guardN, bodyD, fSeq, fAsg, fAsgM, fApp, fRet, fRetN, fDrop, fIfS, fNext, fRaise, fIf, fAnd, fOr, fNot, fT, bo, bnd, bndA, rB, fCall0, noEx, fCall, fCallP, permL, fCons, fNil, fTup, fLst, lim, fCb, ret, fOp, fUn, fVar, fC, fIsi, fIsiLT, isLT, fChain, fLk, fLkB, fLkM, fRevL, fSet2, fFrz, lockL, lockG, lkC, sName, sTup, sCons, sNil, wipeC, List.map_cons, List.map_nil, List.replicate_succ, List.replicate_zero, List.cons_append, List.nil_append, List.getElem?_cons_zero, List.getElem?_cons_succ, List.set_cons_zero, List.set_cons_succ, List.length_cons, List.length_nil, Nat.beq_refl, Nat.reduceAdd, Nat.reduceLeDiff, Nat.reduceEqDiff, Nat.zero_add, if_true, if_false, Bool.false_eq_true, reduceIte, Bool.not_true, Bool.not_false, small_few0, small_few1, small_few2, small_few3, hf]
  unfold wx1
  rw [List.map_map]; rfl
theorem wx_fold_len {K : Rows} {d : Nat} (hd : K.length ≤ d) : ∀ (P : Rows) (S : List St2), (P.foldl (wx n K R) S).length ≤ S.length * d ^ P.length
  | [], S => by simp
  | p :: P, S => by
    (rw [List.foldl_cons, List.length_cons])
    refine Nat.le_trans (wx_fold_len hd P _) ?_
    rw [Nat.pow_succ, Nat.mul_comm (d ^ P.length) d, ← Nat.mul_assoc]
    exact Nat.mul_le_mul_right _ (Nat.le_trans (wx_len S) (Nat.mul_le_mul_left _ hd))
theorem wx_fold_at {K : Rows} : ∀ (P : Rows) (S : List St2) (k : Nat), (∀ s ∈ S, s.1.length = k ∧ s.2.length = k) → ∀ s ∈ P.foldl (wx n K R) S, s.1.length = k + P.length ∧ s.2.length = k + P.length
  | [], S, k, h => h
  | p :: P, S, k, h => by
    rw [List.foldl_cons, List.length_cons, show k + (P.length + 1) = k + 1 + P.length from by omega]
    refine wx_fold_at P _ (k + 1) fun x hx => ?_
    obtain ⟨s, hs, m, _, _, _, rfl⟩ := wx_mem.mp hx
    obtain ⟨h1, h2⟩ := h s hs
    constructor
    · dsimp only; rw [List.length_append, h1]; rfl
    · dsimp only; rw [List.length_append, h2]; rfl
theorem listDealt_v (hn : n ∈ fewD) (hR : ∀ p ∈ R, p ∈ placesOf n) (lP : P.length ≤ 50) (lR : R.length ≤ 50) {d : Nat} (hd : (keysF R).length ≤ d) (d1 : 1 ≤ d) (hb : d ^ P.length ≤ 100000) :
    f_list_dealt [.list (P.map fun p => dctD (dictF n p R)), dT R] = some (.val (.list (((P.foldl (wx n (keysF R) R) [([], [])]).map (·.1)).map dT))) := by
  obtain ⟨A, eA⟩ : ∃ A : D, A = .list (P.map fun p => dctD (dictF n p R)) := ⟨_, rfl⟩
  obtain ⟨B, eB⟩ : ∃ B : D, B = dctD (rowDict (fun m => .int (R.count m : Nat)) R) := ⟨_, rfl⟩
  rw [← eA]
  have lk := keysF_len R
  have s1 : fAsg (fDc (iT (fVar 1)) (sName 3) (fC (.bool true)) (fVar 3) (fTM cntT (fVar 1) (fVar 3)) [3]) (sName 2) [.d A, .d (dT R), .un, .un, .un, .un, .un, .un, .un, .un] = some (.nx [.d A, .d (dT R), .d B, .un, .un, .un, .un, .un, .un, .un]) := by
    refine fAsg_of (d := B) ?_ rfl
    have hg := dcL_of (st := sName 3) (ft := fC (.bool true)) (fk := fVar 3) (fv := fTM cntT (fVar 1) (fVar 3)) (Γ := [.d A, .d (dT R), .un, .un, .un, .un, .un, .un, .un, .un]) dI (fun m => kI m) (fun m => PyData.int (R.count m : Nat)) R [] fun m hm => by
      refine ⟨[.d A, .d (dT R), .un, .d (dI m), .un, .un, .un, .un, .un, .un], rfl, rfl, ?_, ?_, ?_⟩
      · show some (Ou.val (dI m)) = _
        rw [kD_kI]
      · rw [kD_kI]; exact keyOf_dI (in_ne hn (hR m hm))
      · exact cntT_v rfl rfl
    unfold fDc
    rw [show iT (fVar 1) [.d A, .d (dT R), .un, .un, .un, .un, .un, .un, .un, .un] = some (.vals (R.map dI)) from rfl]; dsimp only
    rw [if_pos (small_of (by rw [List.length_map]; omega)), show wipeC [Ce.d A, .d (dT R), .un, .un, .un, .un, .un, .un, .un, .un] [3] = [.d A, .d (dT R), .un, .un, .un, .un, .un, .un, .un, .un] from rfl, hg]
    rw [eB]; rfl
  have le : ∀ i, i ≤ P.length → ((P.take i).foldl (wx n (keysF R) R) [([], [])]).length ≤ 100000 := fun i hi => by
    have h1 := wx_fold_len (n := n) (R := R) hd (P.take i) [([], [])]
    rw [List.length_take, Nat.min_eq_left hi] at h1
    have h2 : d ^ i ≤ d ^ P.length := Nat.pow_le_pow_right d1 hi
    simp only [List.length_cons, List.length_nil, Nat.zero_add, Nat.one_mul] at h1
    omega
  obtain ⟨Γ', h1, c5, c6, c7, c8, c9, rfl⟩ := ffor_take (src := iL (fVar 0)) (st := sName 5) (body := fAsg (fLc2 (iL (fVar 4)) (sName 6) (fC (.bool true)) (iL (fCall0 f_with_next (fCons (fVar 6) (fCons (fVar 5) (fCons (fVar 2) fNil))))) (sName 7) (fC (.bool true)) (fVar 7) [6, 7] [7]) (sName 4)) (fun p => dctD (dictF n p R))
    (Γ := [.d A, .d (dT R), .d B, .un, .d (.list ([([], [])].map e2t)), .un, .un, .un, .un, .un])
    (fun S Γ => ∃ c5 c6 c7 c8 c9, Γ = [.d A, .d (dT R), .d B, .un, .d (.list (S.map e2t)), c5, c6, c7, c8, c9]) (wx n (keysF R) R) P [([], [])] (by rw [eA]; rfl) ⟨_, _, _, _, _, rfl⟩ fun i p S Γ hi es hJ => by
      obtain ⟨c5, c6, c7, c8, c9, rfl⟩ := hJ
      have il : i < P.length := (List.getElem?_eq_some_iff.mp hi).1
      refine ⟨[.d A, .d (dT R), .d B, .un, .d (.list (S.map e2t)), .d (dctD (dictF n p R)), c6, c7, c8, c9], rfl, [.d A, .d (dT R), .d B, .un, .d (.list ((wx n (keysF R) R S p).map e2t)), .d (dctD (dictF n p R)), c6, c7, c8, c9], ?_, _, _, _, _, _, rfl⟩
      have at_ := wx_fold_at (n := n) (K := keysF R) (R := R) (P.take i) [([], [])] 0 (fun s hs => by rw [List.mem_singleton.mp hs]; exact ⟨rfl, rfl⟩)
      rw [← es, List.length_take, Nat.min_eq_left (by omega)] at at_
      have hl := le i (by omega)
      rw [← es] at hl
      have hl2 : (wx n (keysF R) R S p).length ≤ 100000 := by
        have := le (i + 1) (by omega)
        rw [List.take_add_one, hi, List.foldl_append, ← es] at this
        exact this
      refine fAsg_of (d := .list ((wx n (keysF R) R S p).map e2t)) ?_ rfl
      have hg := lc2F_of (st := sName 6) (st1 := sName 7) (ft := fC (.bool true)) (ft1 := fC (.bool true)) (fe := fVar 7) (src1 := iL (fCall0 f_with_next (fCons (fVar 6) (fCons (fVar 5) (fCons (fVar 2) fNil))))) (vs1 := [7])
        (Γ := [.d A, .d (dT R), .d B, .un, .d (.list (S.map e2t)), .d (dctD (dictF n p R)), .un, .un, c8, c9]) e2t (wx1 n (keysF R) R p) e2t e2t S fun s hs => by
          refine ⟨[.d A, .d (dT R), .d B, .un, .d (.list (S.map e2t)), .d (dctD (dictF n p R)), .d (e2t s), .un, c8, c9], rfl, rfl, ?_, ?_, fun b hb => ⟨_, rfl, rfl, rfl⟩⟩
          · have h1 := at_ s hs
            have wn := withNext_v (n := n) (p := p) (s := s) (R := R) (by omega) (by omega) (by omega)
            rw [← dictF_is, ← eB] at wn
            have hc : fCall0 f_with_next (fCons (fVar 6) (fCons (fVar 5) (fCons (fVar 2) fNil))) [.d A, .d (dT R), .d B, .un, .d (.list (S.map e2t)), .d (dctD (dictF n p R)), .d (e2t s), .un, c8, c9] = some (.val (.list ((wx1 n (keysF R) R p s).map e2t))) := by simp only [guardN, bodyD, fSeq, fAsg, fAsgM, fApp, fRet, fRetN, fDrop, fIfS, fNext, fRaise, fIf, fAnd, fOr, fNot, fT, bo, bnd, bndA, rB, fCall0, noEx, fCall, fCallP, permL, fCons, fNil, fTup, fLst, lim, fCb, ret, fOp, fUn, fVar, fC, fIsi, fIsiLT, isLT, fChain, fLk, fLkB, fLkM, fRevL, fSet2, fFrz, lockL, lockG, lkC, sName, sTup, sCons, sNil, wipeC, List.map_cons, List.map_nil, List.replicate_succ, List.replicate_zero, List.cons_append, List.nil_append, List.getElem?_cons_zero, List.getElem?_cons_succ, List.set_cons_zero, List.set_cons_succ, List.length_cons, List.length_nil, Nat.beq_refl, Nat.reduceAdd, Nat.reduceLeDiff, Nat.reduceEqDiff, Nat.zero_add, if_true, if_false, Bool.false_eq_true, reduceIte, Bool.not_true, Bool.not_false, small_few0, small_few1, small_few2, small_few3, wn]
            unfold iL
            rw [hc]
          · have := wx1_len (n := n) (K := keysF R) (R := R) (p := p) (s := s)
            omega
      unfold fLc2
      rw [show iL (fVar 4) [.d A, .d (dT R), .d B, .un, .d (.list (S.map e2t)), .d (dctD (dictF n p R)), c6, c7, c8, c9] = some (.vals (S.map e2t)) from rfl]; dsimp only
      rw [show wipeC [Ce.d A, .d (dT R), .d B, .un, .d (.list (S.map e2t)), .d (dctD (dictF n p R)), c6, c7, c8, c9] [6, 7] = [.d A, .d (dT R), .d B, .un, .d (.list (S.map e2t)), .d (dctD (dictF n p R)), .un, .un, c8, c9] from rfl, hg]; dsimp only
      have sm : small (List.map e2t (List.flatMap (wx1 n (keysF R) R p) S)).length = true := Nat.ble_eq_true_of_le (by rw [List.length_map]; exact Nat.le_trans (show (List.flatMap (wx1 n (keysF R) R p) S).length ≤ 100000 from hl2) (by omega))
      rw [if_pos sm]; rfl
  refine (guard_of (k := 2) rfl).trans (bodyD_rt ?_)
  show b_list_dealt [.d A, .d (dT R), .un, .un, .un, .un, .un, .un, .un, .un] = _
  unfold b_list_dealt
  rw [seq_on s1, seq_on (Γ1 := [.d A, .d (dT R), .d B, .un, .d (.list ([([], [])].map e2t)), .un, .un, .un, .un, .un]) rfl, seq_on h1]
  obtain ⟨F, eF⟩ : ∃ F : List St2, F = P.foldl (wx n (keysF R) R) [([], [])] := ⟨_, rfl⟩
  rw [← eF]
  have lF : F.length ≤ 100000 := by
    have := le P.length (Nat.le_refl _)
    rw [List.take_length] at this
    rw [eF]; exact this
  have hf := flc_map (src := iL (fVar 4)) (st := sTup 2 (sCons (sName 8) (sCons (sName 9) sNil))) (ft := fC (.bool true)) (fe := fVar 8) (vs := [8, 9]) (Γ := [.d A, .d (dT R), .d B, .un, .d (.list (F.map e2t)), lkC c5, lkC c6, lkC c7, lkC c8, lkC c9]) e2t (fun s => dT s.1) F rfl (by omega) fun s _ => ⟨_, rfl, rfl, rfl⟩
  unfold fRet
  rw [show lockL (fun _ => true) [Ce.d A, .d (dT R), .d B, .un, .d (.list (F.map e2t)), c5, c6, c7, c8, c9] = [.d A, .d (dT R), .d B, .un, .d (.list (F.map e2t)), lkC c5, lkC c6, lkC c7, lkC c8, lkC c9] from rfl, hf, List.map_map]
  rfl
theorem seatingsMany_v (hn : n ∈ fewD) (o : LotOk n L) (r : RowOk n L R) (few : L.length ≤ 8) {d : Nat} (hd : (keysF R).length ≤ d) (d1 : 1 ≤ d) (hb : d ^ L.length ≤ 100000) :
    ∃ B : List Rows, f_seatings_many [dI n, dT L, dT R] = some (.val (.int (B.length : Nat))) ∧ B.Nodup ∧ ∀ M, M ∈ B ↔ SeatF n L R [] M := by
  have lr := r.len
  refine ⟨(L.foldl (wx n (keysF R) R) [([], [])]).map (·.1), ?_, ?_, fun M => ?_⟩
  · have c1 := chkDials_v hn
    have c2 := lot_ok hn o
    have c3 := row_ok hn o.few r
    have l1 := lenT L
    have g1 := gtInt_v (L.length : Nat) 8
    rw [decide_eq_false (by omega)] at g1
    have c5 : f_check_lot_most [dT L, .int 8] = some (.val .none) := by simp only [f_check_lot_most, b_check_lot_most, guardN, bodyD, fSeq, fAsg, fAsgM, fApp, fRet, fRetN, fDrop, fIfS, fNext, fRaise, fIf, fAnd, fOr, fNot, fT, bo, bnd, bndA, rB, fCall0, noEx, fCall, fCallP, permL, fCons, fNil, fTup, fLst, lim, fCb, ret, fOp, fUn, fVar, fC, fIsi, fIsiLT, isLT, fChain, fLk, fLkB, fLkM, fRevL, fSet2, fFrz, lockL, lockG, lkC, sName, sTup, sCons, sNil, wipeC, List.map_cons, List.map_nil, List.replicate_succ, List.replicate_zero, List.cons_append, List.nil_append, List.getElem?_cons_zero, List.getElem?_cons_succ, List.set_cons_zero, List.set_cons_succ, List.length_cons, List.length_nil, Nat.beq_refl, Nat.reduceAdd, Nat.reduceLeDiff, Nat.reduceEqDiff, Nat.zero_add, if_true, if_false, Bool.false_eq_true, reduceIte, Bool.not_true, Bool.not_false, small_few0, small_few1, small_few2, small_few3, l1, g1]
    have le := listEnds_v hn o.inn r.inn (by omega) (by omega)
    have ld := listDealt_v (P := L) hn r.inn (by omega) (by omega) hd d1 hb
    have ls : f_list_seatings [dI n, dT L, dT R] = some (.val (.list (((L.foldl (wx n (keysF R) R) [([], [])]).map (·.1)).map dT))) := by simp only [f_list_seatings, b_list_seatings, guardN, bodyD, fSeq, fAsg, fAsgM, fApp, fRet, fRetN, fDrop, fIfS, fNext, fRaise, fIf, fAnd, fOr, fNot, fT, bo, bnd, bndA, rB, fCall0, noEx, fCall, fCallP, permL, fCons, fNil, fTup, fLst, lim, fCb, ret, fOp, fUn, fVar, fC, fIsi, fIsiLT, isLT, fChain, fLk, fLkB, fLkM, fRevL, fSet2, fFrz, lockL, lockG, lkC, sName, sTup, sCons, sNil, wipeC, List.map_cons, List.map_nil, List.replicate_succ, List.replicate_zero, List.cons_append, List.nil_append, List.getElem?_cons_zero, List.getElem?_cons_succ, List.set_cons_zero, List.set_cons_succ, List.length_cons, List.length_nil, Nat.beq_refl, Nat.reduceAdd, Nat.reduceLeDiff, Nat.reduceEqDiff, Nat.zero_add, if_true, if_false, Bool.false_eq_true, reduceIte, Bool.not_true, Bool.not_false, small_few0, small_few1, small_few2, small_few3, le, ld]
    have l2 : oLen [.list (((L.foldl (wx n (keysF R) R) [([], [])]).map (·.1)).map dT)] = some (.int (((L.foldl (wx n (keysF R) R) [([], [])]).map (·.1)).length : Nat)) := by
      show some (PyData.int ((((L.foldl (wx n (keysF R) R) [([], [])]).map (·.1)).map dT).length : Nat)) = _
      rw [List.length_map (f := dT)]
    simp only [f_seatings_many, b_seatings_many, guardN, bodyD, fSeq, fAsg, fAsgM, fApp, fRet, fRetN, fDrop, fIfS, fNext, fRaise, fIf, fAnd, fOr, fNot, fT, bo, bnd, bndA, rB, fCall0, noEx, fCall, fCallP, permL, fCons, fNil, fTup, fLst, lim, fCb, ret, fOp, fUn, fVar, fC, fIsi, fIsiLT, isLT, fChain, fLk, fLkB, fLkM, fRevL, fSet2, fFrz, lockL, lockG, lkC, sName, sTup, sCons, sNil, wipeC, List.map_cons, List.map_nil, List.replicate_succ, List.replicate_zero, List.cons_append, List.nil_append, List.getElem?_cons_zero, List.getElem?_cons_succ, List.set_cons_zero, List.set_cons_succ, List.length_cons, List.length_nil, Nat.beq_refl, Nat.reduceAdd, Nat.reduceLeDiff, Nat.reduceEqDiff, Nat.zero_add, if_true, if_false, Bool.false_eq_true, reduceIte, Bool.not_true, Bool.not_false, small_few0, small_few1, small_few2, small_few3, c1, c2, c3, c5, ls, l2]
  · have : ∀ (P : Rows) {S : List St2}, (S.map (·.1)).Nodup → ((P.foldl (wx n (keysF R) R) S).map (·.1)).Nodup := fun P => by
      induction P with
      | nil => exact fun h => h
      | cons p P ih => exact fun h => ih (wx_nd (keysF_nd R) h)
    exact this L (by simp)
  · rw [wx_all (fun m => keysF_mem) L _ _ (fun s hs m => by rw [List.mem_singleton.mp hs]; simp)]
    constructor
    · rintro ⟨s, hs, M', e, h⟩
      rw [List.mem_singleton.mp hs] at h e
      rw [e]; exact seatC_F.mp h
    · intro h
      exact ⟨_, List.mem_singleton.mpr rfl, M, rfl, seatC_F.mpr h⟩
end
end Mv
namespace Sd
variable {R : Type} [Lean.Grind.CommRing R]
def alt {α : Type} : List α → (α → List α → R) → R
  | [], _ => 0
  | a :: l, F => F a l - alt l fun b m => F b (a :: m)
theorem alt_nil {α : Type} (F : α → List α → R) : alt [] F = 0 := rfl
theorem alt_cons {α : Type} (a : α) (l : List α) (F : α → List α → R) : alt (a :: l) F = F a l - alt l fun b m => F b (a :: m) := rfl
theorem alt_add {α : Type} : ∀ (l : List α) (F G : α → List α → R), alt l (fun a m => F a m + G a m) = alt l F + alt l G
  | [], F, G => by simp only [alt_nil]; grind
  | a :: l, F, G => by rw [alt_cons, alt_cons, alt_cons, alt_add l]; grind
theorem alt_mul {α : Type} (c : R) : ∀ (l : List α) (F : α → List α → R), alt l (fun a m => c * F a m) = c * alt l F
  | [], F => by simp only [alt_nil]; grind
  | a :: l, F => by rw [alt_cons, alt_cons, alt_mul c l]; grind
theorem alt_neg {α : Type} (l : List α) (F : α → List α → R) : alt l (fun a m => - F a m) = - alt l F := by
  have := alt_mul (-1) l F
  have e : (fun a m => -1 * F a m) = fun a m => - F a m := funext fun a => funext fun m => by grind
  rw [e] at this
  rw [this]; grind
theorem alt_congr {α : Type} : ∀ (l : List α) (F G : α → List α → R), (∀ a m, (a :: m).Perm l → F a m = G a m) → alt l F = alt l G
  | [], _, _, _ => rfl
  | a :: l, F, G, h => by
    rw [alt_cons, alt_cons, h a l (.refl _), alt_congr l _ _ fun b m p => h b (a :: m) ((List.Perm.swap a b m).trans (p.cons a))]
theorem alt_zero {α : Type} : ∀ (l : List α) (F : α → List α → R), (∀ a m, (a :: m).Perm l → F a m = 0) → alt l F = 0
  | [], _, _ => rfl
  | a :: l, F, h => by
    rw [alt_cons, h a l (.refl _), alt_zero l _ fun b m p => h b (a :: m) ((List.Perm.swap a b m).trans (p.cons a))]; grind
theorem alt_z {α : Type} (l : List α) : alt l (fun _ _ => (0 : R)) = 0 := alt_zero l _ fun _ _ _ => rfl
theorem alt_swap {α β : Type} : ∀ (l : List α) (m : List β) (F : α → List α → β → List β → R), alt l (fun a s => alt m fun b t => F a s b t) = alt m fun b t => alt l fun a s => F a s b t
  | [], m, F => by simp only [alt_nil]; rw [alt_z]
  | a :: l, m, F => by
    rw [alt_cons, alt_swap l m]
    have : (fun b t => alt (a :: l) fun a s => F a s b t) = fun b t => F a l b t + -(alt l fun c s => F c (a :: s) b t) := funext fun b => funext fun t => by rw [alt_cons]; grind
    rw [this, alt_add, alt_neg]; grind
def two {α : Type} (l : List α) (F : α → α → List α → R) : R := alt l fun y m => alt m fun z r => F y z r
theorem two_cons {α : Type} (a : α) (l : List α) (F : α → α → List α → R) : two (a :: l) F = (alt l fun z r => F a z r) - (alt l fun y m => F y a m) + two l fun y z r => F y z (a :: r) := by
  unfold two
  rw [alt_cons]
  have : (fun b m => alt (a :: m) fun z r => F b z r) = fun b m => F b a m + -(alt m fun z r => F b z (a :: r)) := funext fun b => funext fun m => by rw [alt_cons]; grind
  rw [this, alt_add, alt_neg]; grind
theorem two_swap {α : Type} : ∀ (l : List α) (F : α → α → List α → R), two l F = - two l fun y z r => F z y r
  | [], F => by show (0 : R) = -0; grind
  | a :: l, F => by
    rw [two_cons, two_cons, two_swap l fun y z r => F y z (a :: r)]
    grind
theorem two_zero {α : Type} : ∀ (l : List α) (F : α → α → List α → R), (∀ y z r, F y z r = F z y r) → two l F = 0
  | [], F, _ => rfl
  | a :: l, F, h => by
    rw [two_cons, two_zero l (fun y z r => F y z (a :: r)) fun y z r => h y z _]
    have : (fun y m => F y a m) = fun z r => F a z r := funext fun y => funext fun m => h ..
    rw [this]; grind
def DF : List R → List (R → R) → R
  | [], _ => 1
  | x :: xs, fs => alt fs fun f gs => f x * DF xs gs
theorem DF_cons (x : R) (xs : List R) (fs : List (R → R)) : DF (x :: xs) fs = alt fs fun f gs => f x * DF xs gs := rfl
theorem DF_col : ∀ (b : List R) (f : R → R) (E : List (R → R)), b.length = E.length + 1 → DF b (f :: E) = alt b fun y m => f y * DF m E
  | [], f, E, h => by simp at h
  | [y], f, [], h => by
    rw [DF_cons, alt_cons, alt_cons]; rfl
  | [y], f, _ :: _, h => by simp at h
  | y :: z :: b, f, E, h => by
    rw [DF_cons, alt_cons, alt_cons]
    have h1 : (alt E fun g gs => g y * DF (z :: b) (f :: gs)) = alt E fun g gs => alt (z :: b) fun r m => g y * (f r * DF m gs) :=
      alt_congr _ _ _ fun g gs p => by
        have := p.length_eq
        simp only [List.length_cons] at h this
        rw [DF_col (z :: b) f gs (by simp only [List.length_cons]; omega), alt_mul]
    have h2 : (alt (z :: b) fun r m => f r * DF (y :: m) E) = alt (z :: b) fun r m => alt E fun g gs => g y * (f r * DF m gs) :=
      alt_congr _ _ _ fun r m _ => by
        rw [DF_cons, ← alt_mul]
        exact alt_congr _ _ _ fun g gs _ => by grind
    rw [h1, h2, alt_swap]
theorem two_col (b : List R) (f g : R → R) (E : List (R → R)) (h : b.length = E.length + 2) : DF b (f :: g :: E) = two b fun y z r => f y * (g z * DF r E) := by
  rw [DF_col b f (g :: E) (by simp only [List.length_cons]; omega)]
  unfold two
  exact alt_congr _ _ _ fun y m p => by
    have := p.length_eq
    simp only [List.length_cons] at this
    rw [DF_col m g E (by omega), ← alt_mul]
theorem DF_swap (b : List R) (f g : R → R) (E : List (R → R)) (h : b.length = E.length + 2) : DF b (f :: g :: E) = - DF b (g :: f :: E) := by
  rw [two_col b f g E h, two_col b g f E h, two_swap]
  have : (fun y z r => f z * (g y * DF r E)) = fun y z r => g y * (f z * DF r E) := funext fun y => funext fun z => funext fun r => by grind
  rw [this]
theorem DF_same (b : List R) (f : R → R) (E : List (R → R)) (h : b.length = E.length + 2) : DF b (f :: f :: E) = 0 := by
  rw [two_col b _ _ _ h]
  exact two_zero _ _ fun y z r => by grind
theorem DF_dup : ∀ (E : List (R → R)) (b : List R) (f : R → R), f ∈ E → b.length = E.length + 1 → DF b (f :: E) = 0
  | [], b, f, h, _ => by cases h
  | g :: E, b, f, h, hl => by
    simp only [List.length_cons] at hl
    by_cases e : f = g
    · subst e; exact DF_same b f E (by omega)
    · have hE := (List.mem_cons.mp h).resolve_left e
      rw [DF_swap b f g E (by omega), DF_col b g (f :: E) (by simp only [List.length_cons]; omega)]
      rw [alt_zero b _ fun y m p => by
        have := p.length_eq
        simp only [List.length_cons] at this
        rw [DF_dup E m f hE (by omega)]; grind]
      grind
theorem DF_dup2 : ∀ (A B : List (R → R)) (b : List R) (f : R → R), f ∈ A ++ B → b.length = A.length + B.length + 1 → DF b (A ++ f :: B) = 0
  | [], B, b, f, h, hl => DF_dup B b f h (by simpa using hl)
  | g :: A, B, b, f, h, hl => by
    simp only [List.length_cons] at hl
    rw [List.cons_append]
    by_cases e : f = g
    · subst e
      exact DF_dup _ b f (List.mem_append_right _ (List.mem_cons_self ..)) (by rw [List.length_append, List.length_cons]; omega)
    · rw [DF_col b g _ (by rw [List.length_append, List.length_cons]; omega)]
      exact alt_zero b _ fun y m p => by
        have := p.length_eq
        simp only [List.length_cons] at this
        rw [DF_dup2 A B m f ((List.mem_cons.mp h).resolve_left e) (by omega)]; grind
theorem DF_lin2 (f g : R → R) (c : R) : ∀ (A B : List (R → R)) (b : List R), b.length = A.length + B.length + 1 → DF b (A ++ (fun y => g y + c * f y) :: B) = DF b (A ++ g :: B) + c * DF b (A ++ f :: B)
  | [], B, b, hl => by
    simp only [List.nil_append]
    simp only [List.length_nil, Nat.zero_add] at hl
    rw [DF_col b _ B hl, DF_col b g B hl, DF_col b f B hl, ← alt_mul, ← alt_add]
    exact alt_congr _ _ _ fun y m _ => by grind
  | e :: A, B, b, hl => by
    simp only [List.length_cons] at hl
    simp only [List.cons_append]
    have l : ∀ f : R → R, b.length = (A ++ f :: B).length + 1 := fun f => by rw [List.length_append, List.length_cons]; omega
    rw [DF_col b e _ (l _), DF_col b e _ (l _), DF_col b e _ (l _), ← alt_mul, ← alt_add]
    exact alt_congr _ _ _ fun y m p => by
      have := p.length_eq
      simp only [List.length_cons] at this
      rw [DF_lin2 f g c A B m (by omega)]; grind
def pw (k : Nat) (y : R) : R := match k with
  | 0 => 1
  | k + 1 => pw k y * y
inductive Low : Nat → (R → R) → Prop
  | zero {d : Nat} : Low d fun _ => 0
  | more {d i : Nat} {f : R → R} {c : R} (h : Low d f) (hi : i < d) : Low d fun y => f y + c * pw i y
def Monic (d : Nat) (f : R → R) : Prop := ∃ l, Low d l ∧ f = fun y => pw d y + l y
theorem Low.up {d e : Nat} {f : R → R} (h : Low d f) (hd : d ≤ e) : Low e f := by
  induction h with
  | zero => exact .zero
  | more h hi ih => exact .more ih (by omega)
theorem Low.mulx {d : Nat} {f : R → R} (h : Low d f) : Low (d + 1) fun y => f y * y := by
  induction h with
  | zero =>
    have : (fun y : R => (0 : R) * y) = fun _ => 0 := funext fun y => by grind
    rw [this]; exact .zero
  | @more i f c h hi ih =>
    have : (fun y => (f y + c * pw i y) * y) = fun y => (fun y => f y * y) y + c * pw (i + 1) y := funext fun y => by
      show _ = f y * y + c * (pw i y * y)
      grind
    rw [this]; exact .more ih (by omega)
theorem Low.add {d : Nat} {f g : R → R} (h : Low d f) (h2 : Low d g) : Low d fun y => f y + g y := by
  induction h2 with
  | zero =>
    have : (fun y => f y + 0) = f := funext fun y => by grind
    rw [this]; exact h
  | @more i g c h2 hi ih =>
    have : (fun y => f y + (g y + c * pw i y)) = fun y => (fun y => f y + g y) y + c * pw i y := funext fun y => by grind
    rw [this]; exact .more ih hi
theorem Low.mul {d : Nat} {f : R → R} (a : R) (h : Low d f) : Low d fun y => f y * a := by
  induction h with
  | zero =>
    have : (fun y : R => (0 : R) * a) = fun _ => 0 := funext fun y => by grind
    rw [this]; exact .zero
  | @more i f c h hi ih =>
    have : (fun y => (f y + c * pw i y) * a) = fun y => (fun y => f y * a) y + (c * a) * pw i y := funext fun y => by grind
    rw [this]; exact .more ih hi
theorem monic_pw (d : Nat) : Monic (R := R) d (pw d) := ⟨_, .zero, funext fun y => by grind⟩
theorem Monic.step {d : Nat} {f : R → R} (a : R) (h : Monic d f) : Monic (d + 1) fun y => f y * (y + a) := by
  obtain ⟨l, hl, rfl⟩ := h
  refine ⟨fun y => ((l y * y) + l y * a) + a * pw d y, .more ((hl.mulx).add ((hl.mul a).up (by omega))) (by omega), funext fun y => ?_⟩
  show _ = pw d y * y + _
  grind
theorem monic_shift (a : R) : ∀ d : Nat, Monic d fun y => pw d (y + a)
  | 0 => monic_pw 0
  | d + 1 => (monic_shift a d).step a
theorem Low.gone {d : Nat} {l g : R → R} {A B : List (R → R)} {b : List R} (h : Low d l) (hm : ∀ i, i < d → pw i ∈ A ++ B) (hl : b.length = A.length + B.length + 1) : DF b (A ++ (fun y => g y + l y) :: B) = DF b (A ++ g :: B) := by
  induction h with
  | zero =>
    have : (fun y => g y + 0) = g := funext fun y => by grind
    rw [this]
  | @more i f c h hi ih =>
    have : (fun y => g y + (f y + c * pw i y)) = fun y => (fun y => g y + f y) y + c * pw i y := funext fun y => by grind
    rw [this, DF_lin2 _ _ _ _ _ _ hl, ih, DF_dup2 A B b (pw i) (hm i hi) hl]; grind
theorem DF_monic (b : List R) : ∀ (m : Nat) (Q : List (Nat × (R → R))), (Q.map (·.1)).Nodup → (∀ q ∈ Q, Monic q.1 q.2) → (∀ q ∈ Q, ∀ i, i < q.1 → i ∈ Q.map (·.1)) → b.length = Q.length → (∀ q ∈ Q, q.1 < m) → DF b (Q.map (·.2)) = DF b (Q.map fun q => pw q.1) := by
  intro m Q nd hm hd hl hq
  have key : ∀ k : Nat, DF b (Q.map (·.2)) = DF b (Q.map fun q => if q.1 < k then pw q.1 else q.2) := fun k => by
    induction k with
    | zero =>
      congr 1
    | succ k ih =>
      rw [ih]
      by_cases hk : k ∈ Q.map (·.1)
      · obtain ⟨q, hqQ, e⟩ := List.mem_map.mp hk
        obtain ⟨A, B, eQ⟩ := List.append_of_mem hqQ
        have e : q.1 = k := e
        have ndk : ∀ r ∈ A ++ B, r.1 ≠ k := fun r hr z => by
          rw [eQ, List.map_append, List.map_cons] at nd
          have h1 := (List.perm_middle (a := q.1) (l₁ := A.map (·.1)) (l₂ := B.map (·.1))).nodup_iff.mp nd
          rw [List.nodup_cons, ← List.map_append] at h1
          exact h1.1 (List.mem_map.mpr ⟨r, hr, by rw [z, e]⟩)
        have same : ∀ r ∈ A ++ B, (if r.1 < k then pw (R := R) r.1 else r.2) = if r.1 < k + 1 then pw r.1 else r.2 := fun r hr => by
          have := ndk r hr
          by_cases z : r.1 < k
          · rw [if_pos z, if_pos (by omega)]
          · rw [if_neg z, if_neg (by omega)]
        have sA : (A.map fun q => if q.1 < k then pw (R := R) q.1 else q.2) = A.map fun q => if q.1 < k + 1 then pw q.1 else q.2 := List.map_congr_left fun r hr => same r (List.mem_append_left _ hr)
        have sB : (B.map fun q => if q.1 < k then pw (R := R) q.1 else q.2) = B.map fun q => if q.1 < k + 1 then pw q.1 else q.2 := List.map_congr_left fun r hr => same r (List.mem_append_right _ hr)
        obtain ⟨l, hlow, el⟩ := hm q hqQ
        have hd' := hd q hqQ
        have hlq : b.length = A.length + B.length + 1 := by rw [hl, eQ, List.length_append, List.length_cons]; omega
        rw [eQ, List.map_append, List.map_cons, List.map_append, List.map_cons, sA, sB, if_neg (by omega), if_pos (by omega), el, e]
        rw [e] at hlow hd'
        refine hlow.gone (fun i hi => ?_) (by rw [List.length_map, List.length_map]; exact hlq)
        obtain ⟨r, hr, er⟩ := List.mem_map.mp (hd' i hi)
        have er : r.1 = i := er
        rw [← List.map_append]
        refine List.mem_map.mpr ⟨r, ?_, by rw [if_pos (by omega), er]⟩
        rw [eQ] at hr
        rcases List.mem_append.mp hr with h1 | h1
        · exact List.mem_append_left _ h1
        · rcases List.mem_cons.mp h1 with h1 | h1
          · rw [h1] at er; omega
          · exact List.mem_append_right _ h1
      · congr 1
        exact List.map_congr_left fun r hr => by
          have : r.1 ≠ k := fun z => hk (List.mem_map.mpr ⟨r, hr, z⟩)
          by_cases z : r.1 < k
          · rw [if_pos z, if_pos (by omega)]
          · rw [if_neg z, if_neg (by omega)]
  rw [key m]
  congr 1
  exact List.map_congr_left fun q h => by rw [if_pos (hq q h)]
theorem DF_rswap (x y : R) (xs : List R) (fs : List (R → R)) : DF (x :: y :: xs) fs = - DF (y :: x :: xs) fs := by
  have h1 : ∀ x y, DF (x :: y :: xs) fs = two fs fun f g r => f x * (g y * DF xs r) := fun x y => by
    rw [DF_cons]
    unfold two
    exact alt_congr _ _ _ fun f m _ => by rw [DF_cons, ← alt_mul]
  rw [h1, h1, two_swap]
  have : (fun f g r => g x * (f y * DF xs r)) = fun (f g : R → R) r => f y * (g x * DF xs r) := funext fun f => funext fun g => funext fun r => by grind
  rw [this]
theorem DF_rsame (x : R) (xs : List R) (fs : List (R → R)) : DF (x :: x :: xs) fs = 0 := by
  have h1 : DF (x :: x :: xs) fs = two fs fun f g r => f x * (g x * DF xs r) := by
    rw [DF_cons]
    unfold two
    exact alt_congr _ _ _ fun f m _ => by rw [DF_cons, ← alt_mul]
  rw [h1]
  exact two_zero _ _ fun y z r => by grind
theorem DF_rdup : ∀ (xs : List R) (x : R) (fs : List (R → R)), x ∈ xs → DF (x :: xs) fs = 0
  | [], x, _, h => by cases h
  | y :: xs, x, fs, h => by
    rcases (List.mem_cons.mp h) with e | h
    · subst e; exact DF_rsame ..
    · rw [DF_rswap, DF_cons, alt_zero fs _ fun f gs _ => by rw [DF_rdup xs x gs h]; grind]
      grind
theorem DF_nodup : ∀ (xs : List R) (fs : List (R → R)), DF xs fs ≠ 0 → xs.Nodup
  | [], _, _ => List.nodup_nil
  | x :: xs, fs, h => List.nodup_cons.mpr ⟨fun z => h (DF_rdup xs x fs z), Classical.byContradiction fun z => h (by
      rw [DF_cons]
      exact alt_zero fs _ fun f gs _ => by
        rw [show DF xs gs = 0 from Classical.byContradiction fun q => z (DF_nodup xs gs q)]; grind)⟩
def so {α : Type} : Nat → List α → (List α → R) → R
  | 0, _, F => F []
  | k + 1, l, F => alt l fun a m => so k m fun o => F (a :: o)
theorem so_mul {α : Type} (c : R) : ∀ (k : Nat) (l : List α) (F : List α → R), so k l (fun o => c * F o) = c * so k l F
  | 0, _, _ => rfl
  | k + 1, l, F => by
    show alt l _ = c * alt l _
    rw [← alt_mul]
    exact alt_congr _ _ _ fun a m _ => so_mul c k m _
theorem so_congr {α : Type} : ∀ (k : Nat) (l : List α) (F G : List α → R), l.length = k → (∀ o, o.Perm l → F o = G o) → so k l F = so k l G
  | 0, l, F, G, hl, h => by
    show F [] = G []
    exact h [] (by rw [List.length_eq_zero_iff.mp hl])
  | k + 1, l, F, G, hl, h => by
    refine alt_congr _ _ _ fun a m p => so_congr k m _ _ ?_ fun o ho => h _ ((ho.cons a).trans p)
    have := p.length_eq
    simp only [List.length_cons] at this
    omega
theorem so_zero {α : Type} : ∀ (k : Nat) (l : List α), so k l (fun _ => (0 : R)) = 0
  | 0, _ => rfl
  | k + 1, l => alt_zero l _ fun a m _ => so_zero k m
theorem so_alt {α β : Type} : ∀ (k : Nat) (l : List α) (m : List β) (F : List α → β → List β → R), so k l (fun o => alt m fun b t => F o b t) = alt m fun b t => so k l fun o => F o b t
  | 0, _, _, _ => rfl
  | k + 1, l, m, F => by
    show (alt l fun a s => so k s fun o => alt m fun b t => F (a :: o) b t) = alt m fun b t => alt l fun a s => so k s fun o => F (a :: o) b t
    rw [← alt_swap]
    exact alt_congr _ _ _ fun a s _ => so_alt k s m fun o b t => F (a :: o) b t
def sh (a : R) (f : R → R) (y : R) : R := f (y + a)
theorem so_both : ∀ (as b : List R) (E : List (R → R)) (k : Nat), as.length = k → b.length = k → E.length = k →
    (so k b fun o => DF ((as.zip o).map fun q => q.2 + q.1) E) = so k E fun e => DF b ((as.zip e).map fun q => sh q.1 q.2)
  | [], b, E, 0, _, h2, _ => by
    have := List.length_eq_zero_iff.mp h2
    subst this; rfl
  | [], b, E, k + 1, h, _, _ => by simp at h
  | a :: as, b, E, 0, h, _, _ => by simp at h
  | a :: as, b, E, k + 1, h1, h2, h3 => by
    simp only [List.length_cons] at h1
    have e1 : (so (k + 1) b fun o => DF (((a :: as).zip o).map fun q => q.2 + q.1) E) = alt b fun y m => alt E fun f gs => f (y + a) * so k gs fun e => DF m ((as.zip e).map fun q => sh q.1 q.2) :=
      alt_congr _ _ _ fun y m p => by
        have := p.length_eq
        simp only [List.length_cons] at this
        show (so k m fun o => alt E fun f gs => f (y + a) * DF ((as.zip o).map fun q => q.2 + q.1) gs) = _
        rw [so_alt]
        exact alt_congr _ _ _ fun f gs pf => by
          have l := pf.length_eq
          simp only [List.length_cons] at l
          rw [so_mul, so_both as m gs k (by omega) (by omega) (by omega)]
    rw [e1, alt_swap]
    refine alt_congr _ _ _ fun f gs pf => ?_
    have l := pf.length_eq
    simp only [List.length_cons] at l
    have e2 : (alt b fun y m => f (y + a) * so k gs fun e => DF m ((as.zip e).map fun q => sh q.1 q.2)) = so k gs fun e => alt b fun y m => f (y + a) * DF m ((as.zip e).map fun q => sh q.1 q.2) := by
      rw [so_alt]
      exact alt_congr _ _ _ fun y m _ => (so_mul ..).symm
    rw [e2]
    refine so_congr k gs _ _ (by omega) fun e pe => ?_
    have le := pe.length_eq
    show _ = DF b (sh a f :: (as.zip e).map fun q => sh q.1 q.2)
    rw [DF_col b _ _ (by rw [List.length_map, List.length_zip]; omega)]
    rfl
def nn : Nat → R
  | 0 => 0
  | k + 1 => nn k + 1
def fa : Nat → R
  | 0 => 1
  | k + 1 => nn (k + 1) * fa k
theorem front : ∀ (E : List (R → R)) (b : List R), b.length = E.length → (alt E fun f gs => DF b (f :: gs)) = nn E.length * DF b E
  | [], b, h => by show (0 : R) = 0 * _; grind
  | f :: E, b, h => by
    simp only [List.length_cons] at h
    rw [alt_cons]
    have e1 : (alt E fun g m => DF b (g :: f :: m)) = - (alt E fun g m => DF b (f :: g :: m)) := by
      rw [← alt_neg]
      exact alt_congr _ _ _ fun g m p => by
        have := p.length_eq
        simp only [List.length_cons] at this
        exact DF_swap b g f m (by omega)
    have e2 : (alt E fun g m => DF b (f :: g :: m)) = nn E.length * DF b (f :: E) := by
      have e3 : (alt E fun g m => DF b (f :: g :: m)) = alt E fun g m => alt b fun y r => f y * DF r (g :: m) := alt_congr _ _ _ fun g m p => by
        have := p.length_eq
        simp only [List.length_cons] at this
        exact DF_col b f (g :: m) (by simp only [List.length_cons]; omega)
      rw [e3, alt_swap, DF_col b f E h, ← alt_mul]
      refine alt_congr _ _ _ fun y r p => ?_
      have := p.length_eq
      simp only [List.length_cons] at this
      rw [alt_mul, front E r (by omega)]; grind
    rw [e1, e2]
    show _ = (nn E.length + 1) * _
    grind
theorem all_orders : ∀ (k : Nat) (E : List (R → R)) (b : List R), E.length = k → b.length = k → (so k E fun o => DF b o) = fa k * DF b E
  | 0, E, b, h1, h2 => by
    have := List.length_eq_zero_iff.mp h2
    subst this
    show (1 : R) = 1 * 1
    grind
  | k + 1, E, b, h1, h2 => by
    show (alt E fun f m => so k m fun o => DF b (f :: o)) = nn (k + 1) * fa k * DF b E
    have e1 : (alt E fun f m => so k m fun o => DF b (f :: o)) = alt E fun f m => fa k * DF b (f :: m) := alt_congr _ _ _ fun f m p => by
      have l := p.length_eq
      simp only [List.length_cons] at l
      have e2 : (so k m fun o => DF b (f :: o)) = so k m fun o => alt b fun y r => f y * DF r o := so_congr k m _ _ (by omega) fun o po => by
        have := po.length_eq
        exact DF_col b f o (by omega)
      rw [e2, so_alt, DF_col b f m (by omega), ← alt_mul]
      refine alt_congr _ _ _ fun y r pr => ?_
      have l2 := pr.length_eq
      simp only [List.length_cons] at l2
      rw [so_mul, all_orders k m r (by omega) (by omega)]; grind
    rw [e1, alt_mul, front E b (by omega), h1]; grind
def cols (k : Nat) : List (R → R) := (List.range k).map pw
theorem so_map {α β : Type} (g : α → β) : ∀ (k : Nat) (l : List α) (F : List β → R), so k (l.map g) F = so k l fun o => F (o.map g)
  | 0, _, _ => rfl
  | k + 1, l, F => by
    have am : ∀ (l : List α) (G : β → List β → R), alt (l.map g) G = alt l fun a m => G (g a) (m.map g) := fun l => by
      induction l with
      | nil => intro G; rfl
      | cons a l ih =>
        intro G
        rw [List.map_cons, alt_cons, alt_cons, ih]; rfl
    show alt (l.map g) _ = alt l _
    rw [am]
    exact alt_congr _ _ _ fun a m _ => so_map g k m _
theorem sums (a b : List R) (h : a.length = b.length) : (so b.length b fun o => DF ((a.zip o).map fun q => q.2 + q.1) (cols b.length)) = fa b.length * DF b (cols b.length) := by
  rw [so_both a b _ b.length h rfl (by unfold cols; rw [List.length_map, List.length_range])]
  have e0 : (so b.length (cols b.length) fun e => DF b ((a.zip e).map fun q => sh q.1 q.2)) = so b.length (List.range b.length) fun o => DF b ((a.zip (o.map pw)).map fun q => sh q.1 q.2) := so_map pw _ _ _
  rw [e0]
  have e1 : (so b.length (List.range b.length) fun o => DF b ((a.zip (o.map pw)).map fun q => sh q.1 q.2)) = so b.length (List.range b.length) fun o => DF b (o.map pw) := so_congr _ _ _ _ List.length_range fun o po => by
    have lo := po.length_eq
    rw [List.length_range] at lo
    have h1 : ((a.zip (o.map pw)).map fun q => sh q.1 q.2) = ((o.zip a).map fun q => (q.1, sh q.2 (pw q.1))).map (·.2) := by
      rw [List.map_map]
      have key : ∀ (a : List R) (o : List Nat), ((a.zip (o.map pw)).map fun q => sh q.1 q.2) = (o.zip a).map fun q => sh q.2 (pw q.1) := fun a => by
        induction a with
        | nil => intro o; cases o <;> rfl
        | cons x a ih =>
          intro o
          cases o with
          | nil => rfl
          | cons d o =>
            exact congrArg (sh x (pw d) :: ·) (ih o)
      exact key a o
    have h2 : (((o.zip a).map fun q => (q.1, sh q.2 (pw (R := R) q.1))).map fun q => q.1) = o := by
      rw [List.map_map]
      exact List.map_fst_zip (by omega)
    rw [h1, DF_monic b b.length ((o.zip a).map fun q => (q.1, sh q.2 (pw q.1))) (by rw [h2]; exact po.nodup_iff.mpr List.nodup_range) (fun q hq => by
      obtain ⟨r, _, rfl⟩ := List.mem_map.mp hq
      exact monic_shift r.2 r.1) (fun q hq i hi => by
        rw [h2]
        have : q.1 ∈ o := by rw [← h2]; exact List.mem_map.mpr ⟨q, hq, rfl⟩
        have := List.mem_range.mp (po.mem_iff.mp this)
        exact po.mem_iff.mpr (List.mem_range.mpr (by omega))) (by rw [List.length_map, List.length_zip]; omega) (fun q hq => by
        have : q.1 ∈ o := by rw [← h2]; exact List.mem_map.mpr ⟨q, hq, rfl⟩
        exact List.mem_range.mp (po.mem_iff.mp this))]
    congr 1
    rw [List.map_map]
    have : ((o.zip a).map fun q => pw (R := R) q.1) = ((o.zip a).map (·.1)).map pw := by rw [List.map_map]; rfl
    show ((o.zip a).map fun q => pw (R := R) q.1) = o.map pw
    rw [this, List.map_fst_zip (by omega)]
  rw [e1]
  have e2 := so_map (R := R) pw b.length (List.range b.length) fun o => DF b o
  rw [← e2]
  exact all_orders _ _ _ (by rw [List.length_map, List.length_range]) rfl
def pr (h : R → R) (b : List R) : R := (b.map h).foldr (· * ·) 1
theorem DF_row (h : R → R) : ∀ (b : List R) (fs : List (R → R)), DF b (fs.map fun f => fun y => h y * f y) = pr h b * DF b fs
  | [], fs => by show (1 : R) = 1 * 1; grind
  | y :: b, fs => by
    have am : ∀ (l : List (R → R)) (G : (R → R) → List (R → R) → R), alt (l.map fun f => fun y => h y * f y) G = alt l fun a m => G (fun y => h y * a y) (m.map fun f => fun y => h y * f y) := fun l => by
      induction l with
      | nil => intro G; rfl
      | cons a l ih =>
        intro G
        rw [List.map_cons, alt_cons, alt_cons, ih]; rfl
    rw [DF_cons, am, DF_cons]
    show _ = (h y * pr h b) * _
    rw [← alt_mul]
    exact alt_congr _ _ _ fun f gs _ => by
      rw [DF_row h b gs]; grind
theorem vander (x : R) (xs : List R) : DF (x :: xs) (cols (xs.length + 1)) = pr (fun y => y + -x) xs * DF xs (cols xs.length) := by
  have e0 : cols (R := R) (xs.length + 1) = (((0, pw 0) :: (List.range xs.length).map fun d => (d + 1, fun y => (y + -x) * pw d y)) : List (Nat × (R → R))).map fun q => pw q.1 := by
    unfold cols
    rw [List.range_succ_eq_map, List.map_cons, List.map_cons, List.map_map, List.map_map]; rfl
  rw [e0, ← DF_monic (x :: xs) (xs.length + 1) ((0, pw 0) :: (List.range xs.length).map fun d => (d + 1, fun y => (y + -x) * pw d y)) ?_ ?_ ?_ ?_ ?_]
  · rw [List.map_cons, List.map_map, DF_cons, alt_cons, alt_zero _ _ fun f gs p => by
      have hf : f ∈ (List.range xs.length).map ((·.2) ∘ fun d => ((d + 1, fun y => (y + -x) * pw d y) : Nat × (R → R))) := p.mem_iff.mp (List.mem_cons_self ..)
      obtain ⟨d, _, rfl⟩ := List.mem_map.mp hf
      show (x + -x) * pw d x * _ = 0
      grind]
    have : (List.range xs.length).map ((·.2) ∘ fun d => ((d + 1, fun y => (y + -x) * pw d y) : Nat × (R → R))) = (cols xs.length).map fun f => fun y => (y + -x) * f y := by
      unfold cols
      rw [List.map_map]; rfl
    rw [this, DF_row (fun y => y + -x)]
    show (1 : R) * _ - 0 = _
    grind
  · rw [List.map_cons, List.map_map, List.nodup_cons]
    refine ⟨fun z => ?_, ?_⟩
    · obtain ⟨d, _, h⟩ := List.mem_map.mp z
      have : d + 1 = 0 := h
      omega
    · show ((List.range xs.length).map fun d => d + 1).Nodup
      exact List.pairwise_map.mpr (List.Pairwise.imp (fun {a b} (h : a ≠ b) (e : a + 1 = b + 1) => h (by omega)) List.nodup_range)
  · intro q hq
    rcases (List.mem_cons.mp hq) with rfl | hq
    · exact monic_pw 0
    · obtain ⟨d, _, rfl⟩ := List.mem_map.mp hq
      have := (monic_pw (R := R) d).step (-x)
      have e : (fun y => pw d y * (y + -x)) = fun y => (y + -x) * pw d y := funext fun y => by grind
      rw [e] at this
      exact this
  · intro q hq i hi
    have hq' : q.1 ≤ xs.length := by
      rcases (List.mem_cons.mp hq) with rfl | hq
      · exact Nat.zero_le _
      · obtain ⟨d, hd, rfl⟩ := List.mem_map.mp hq
        exact List.mem_range.mp hd
    rw [List.map_cons, List.map_map]
    cases i with
    | zero => exact List.mem_cons_self ..
    | succ i => exact List.mem_cons_of_mem _ (List.mem_map.mpr ⟨i, List.mem_range.mpr (by omega), rfl⟩)
  · rw [List.length_cons, List.length_cons, List.length_map, List.length_range]
  · intro q hq
    rcases (List.mem_cons.mp hq) with rfl | hq
    · exact Nat.succ_pos _
    · obtain ⟨d, hd, rfl⟩ := List.mem_map.mp hq
      have := List.mem_range.mp hd
      show d + 1 < _
      omega
theorem DF_ne (dom : ∀ x y : R, x * y = 0 → x = 0 ∨ y = 0) (one : (1 : R) ≠ 0) : ∀ b : List R, b.Nodup → DF b (cols b.length) ≠ 0
  | [], _ => one
  | x :: xs, nd => by
    rw [List.nodup_cons] at nd
    rw [List.length_cons, vander]
    intro z
    rcases dom _ _ z with h | h
    · have key : ∀ l : List R, x ∉ l → pr (fun y => y + -x) l ≠ 0 := fun l => by
        induction l with
        | nil => intro _; exact one
        | cons y l ih =>
          intro hx h
          rcases dom _ _ h with h | h
          · have : y = x := by grind
            exact hx (this ▸ List.mem_cons_self ..)
          · exact ih (fun z => hx (List.mem_cons_of_mem _ z)) h
      exact key xs nd.1 h
    · exact DF_ne dom one xs nd.2 h
theorem fa_ne (dom : ∀ x y : R, x * y = 0 → x = 0 ∨ y = 0) (one : (1 : R) ≠ 0) {m : Nat} (hn : ∀ j, 0 < j → j ≤ m → nn (R := R) j ≠ 0) : ∀ k, k ≤ m → fa (R := R) k ≠ 0
  | 0, _ => one
  | k + 1, h => fun z => by
    rcases dom _ _ z with h1 | h1
    · exact hn (k + 1) (by omega) h h1
    · exact fa_ne dom one hn k (by omega) h1
theorem order_ex (dom : ∀ x y : R, x * y = 0 → x = 0 ∨ y = 0) (one : (1 : R) ≠ 0) (a b : List R) (h : a.length = b.length) (nd : b.Nodup) (hn : ∀ j, 0 < j → j ≤ b.length → nn (R := R) j ≠ 0) : ∃ o : List R, o.Perm b ∧ ((a.zip o).map fun q => q.2 + q.1).Nodup := by
  refine Classical.byContradiction fun hx => ?_
  have s := sums a b h
  have z : (so b.length b fun o => DF ((a.zip o).map fun q => q.2 + q.1) (cols b.length)) = so b.length b fun _ => 0 := so_congr _ _ _ _ rfl fun o po => Classical.byContradiction fun q => hx ⟨o, po, DF_nodup _ _ q⟩
  rw [z, so_zero] at s
  rcases dom _ _ s.symm with h1 | h1
  · exact fa_ne dom one hn b.length (Nat.le_refl _) h1
  · exact DF_ne dom one b nd h1
end Sd
namespace Mv
open PySem L2
theorem perm_zip2 {α β : Type} {L L' : List α} (h : L.Perm L') : ∀ M : List β, M.length = L.length → ∃ M', M'.length = L'.length ∧ M'.Perm M ∧ (L'.zip M').Perm (L.zip M) := by
  induction h with
  | nil => exact fun M h => ⟨M, h, .refl _, .refl _⟩
  | cons x _ ih =>
    intro M hM
    cases M with
    | nil => simp at hM
    | cons m M =>
      obtain ⟨M', h1, h2, h3⟩ := ih M (by simpa using hM)
      exact ⟨m :: M', by simp [h1], h2.cons m, by rw [List.zip_cons_cons, List.zip_cons_cons]; exact h3.cons _⟩
  | swap x y l =>
    intro M hM
    cases M with
    | nil => simp at hM
    | cons m M =>
      cases M with
      | nil => simp at hM
      | cons m2 M => exact ⟨m2 :: m :: M, by simpa using hM, .swap _ _ _, by simp only [List.zip_cons_cons]; exact .swap _ _ _⟩
  | trans _ _ ih1 ih2 =>
    intro M hM
    obtain ⟨M1, a1, a2, a3⟩ := ih1 M hM
    obtain ⟨M2, b1, b2, b3⟩ := ih2 M1 a1
    exact ⟨M2, b1, b2.trans a2, b3.trans a3⟩
theorem perm_map_ex {α β : Type} (f : α → β) : ∀ {o : List β} {l : List α}, o.Perm (l.map f) → ∃ l' : List α, l'.Perm l ∧ l'.map f = o
  | [], l, h => by
    have := h.length_eq
    rw [List.length_map] at this
    have e := List.length_eq_zero_iff.mp this.symm
    exact ⟨[], by rw [e], rfl⟩
  | a :: o, l, h => by
    obtain ⟨x, hx, rfl⟩ := List.mem_map.mp (h.mem_iff.mp (List.mem_cons_self ..))
    obtain ⟨A, B, rfl⟩ := List.append_of_mem hx
    have p1 : (A ++ x :: B).Perm (x :: (A ++ B)) := List.perm_middle
    have p2 := h.trans (p1.map f)
    rw [List.map_cons] at p2
    obtain ⟨l', q, e⟩ := perm_map_ex f ((List.perm_cons (f x)).mp p2)
    exact ⟨x :: l', (q.cons x).trans p1.symm, by rw [List.map_cons, e]⟩
def vF (p : Nat) [NeZero p] (q : List Int) : Fin p := Fin.ofNat p (q.headD 0).toNat
theorem one_at {s : Int} {q : List Int} (h : InP q [s]) : ∃ a, q = [a] ∧ 0 ≤ a ∧ a < s := by
  cases h with
  | @cons a s p n h1 h2 h3 => cases h3; exact ⟨a, rfl, h1, h2⟩
section
variable {p : Nat} [NeZero p]
theorem vF_inj {q r : List Int} (h : InP q [(p : Int)]) (h' : InP r [(p : Int)]) (e : vF p q = vF p r) : q = r := by
  obtain ⟨a, rfl, a0, a1⟩ := one_at h
  obtain ⟨b, rfl, b0, b1⟩ := one_at h'
  have e1 : (vF p [a]).val = (vF p [b]).val := by rw [e]
  have e2 : a.toNat % p = b.toNat % p := e1
  rw [Nat.mod_eq_of_lt (by omega), Nat.mod_eq_of_lt (by omega)] at e2
  have : a = b := by omega
  rw [this]
theorem vF_add {q r : List Int} (h : InP q [(p : Int)]) (h' : InP r [(p : Int)]) : vF p (addP [(p : Int)] q r) = vF p q + vF p r := by
  obtain ⟨a, rfl, a0, a1⟩ := one_at h
  obtain ⟨b, rfl, b0, b1⟩ := one_at h'
  obtain ⟨m, rfl⟩ := Int.eq_ofNat_of_zero_le a0
  obtain ⟨k, rfl⟩ := Int.eq_ofNat_of_zero_le b0
  apply Fin.ext
  rw [Fin.val_add]
  show (((m : Int) + (k : Int)) % (p : Int)).toNat % p = ((m : Int).toNat % p + (k : Int).toNat % p) % p
  rw [← Int.natCast_add, ← Int.natCast_emod, Int.toNat_natCast, Int.toNat_natCast, Int.toNat_natCast, Nat.mod_mod, Nat.add_mod]
theorem alon_gen (dom : ∀ x y : Fin p, x * y = 0 → x = 0 ∨ y = 0) (one : (1 : Fin p) ≠ 0) (hn : ∀ j, j < p → 0 < j → Sd.nn (R := Fin p) j ≠ 0) {L R : Rows} (iL : ∀ q ∈ L, InP q [(p : Int)]) (iR : ∀ q ∈ R, InP q [(p : Int)]) (nd : L.Nodup) (len : R.length = L.length) (lt : L.length < p) :
    ∃ M, M.length = L.length ∧ M.Perm R ∧ (endsF [(p : Int)] L M).Nodup := by
  have ndv : (L.map (vF p)).Nodup := by
    have key : ∀ L : Rows, (∀ q ∈ L, InP q [(p : Int)]) → L.Nodup → (L.map (vF p)).Nodup := fun L => by
      induction L with
      | nil => intro _ _; exact .nil
      | cons x L ih =>
        intro h nd
        rw [List.nodup_cons] at nd
        (rw [List.map_cons, List.nodup_cons])
        refine ⟨fun z => ?_, ih (fun q hq => h q (List.mem_cons_of_mem _ hq)) nd.2⟩
        obtain ⟨y, hy, e⟩ := List.mem_map.mp z
        exact nd.1 (vF_inj (h y (List.mem_cons_of_mem _ hy)) (h x (List.mem_cons_self ..)) e ▸ hy)
    exact key L iL nd
  obtain ⟨o, po, no⟩ := Sd.order_ex dom one (R.map (vF p)) (L.map (vF p)) (by rw [List.length_map, List.length_map, len]) ndv fun j h1 h2 => hn j (by rw [List.length_map] at h2; omega) h1
  obtain ⟨L', pL, rfl⟩ := perm_map_ex (vF p) po
  obtain ⟨M, lM, pM, pz⟩ := perm_zip2 pL R (by rw [len, pL.length_eq])
  refine ⟨M, lM, pM, ?_⟩
  have e1 : (endsF [(p : Int)] L M).Perm ((L'.zip R).map fun q => addP [(p : Int)] q.1 q.2) := pz.map _
  rw [e1.nodup_iff]
  have e2 : (((R.map (vF p)).zip (L'.map (vF p))).map fun q => q.2 + q.1) = ((L'.zip R).map fun q => addP [(p : Int)] q.1 q.2).map (vF p) := by
    have key : ∀ (L' R : Rows), (∀ q ∈ L', InP q [(p : Int)]) → (∀ q ∈ R, InP q [(p : Int)]) → (((R.map (vF p)).zip (L'.map (vF p))).map fun q => q.2 + q.1) = ((L'.zip R).map fun q => addP [(p : Int)] q.1 q.2).map (vF p) := fun L' => by
      induction L' with
      | nil => intro R _ _; cases R <;> rfl
      | cons x L' ih =>
        intro R h1 h2
        cases R with
        | nil => rfl
        | cons y R =>
          simp only [List.map_cons, List.zip_cons_cons]
          rw [vF_add (h1 x (List.mem_cons_self ..)) (h2 y (List.mem_cons_self ..)), ih R (fun q hq => h1 q (List.mem_cons_of_mem _ hq)) fun q hq => h2 q (List.mem_cons_of_mem _ hq)]
    exact key L' R (fun q hq => iL q (pL.mem_iff.mp hq)) iR
  rw [e2] at no
  exact List.Pairwise.imp (fun {a b} (h : vF p a ≠ vF p b) (e : a = b) => h (congrArg (vF p) e)) (List.pairwise_map.mp no)
end
def primeD : List (List Int) := [[3], [5], [7], [11], [13], [17], [19], [23]]
theorem alon {n : List Int} (h : n ∈ primeD) {L R : Rows} : (∀ q ∈ L, InP q n) → (∀ q ∈ R, InP q n) → L.Nodup → R.length = L.length → (L.length : Int) < n.headD 0 → ∃ M, M.length = L.length ∧ M.Perm R ∧ (endsF n L M).Nodup := by
  unfold primeD at h
  simp only [List.mem_cons, List.not_mem_nil, or_false] at h
  rcases h with rfl | rfl | rfl | rfl | rfl | rfl | rfl | rfl
  · exact fun iL iR nd len lt => alon_gen (p := 3) (by decide +kernel) (by decide +kernel) (by decide +kernel) iL iR nd len (by have : (L.length : Int) < 3 := lt; omega)
  · exact fun iL iR nd len lt => alon_gen (p := 5) (by decide +kernel) (by decide +kernel) (by decide +kernel) iL iR nd len (by have : (L.length : Int) < 5 := lt; omega)
  · exact fun iL iR nd len lt => alon_gen (p := 7) (by decide +kernel) (by decide +kernel) (by decide +kernel) iL iR nd len (by have : (L.length : Int) < 7 := lt; omega)
  · exact fun iL iR nd len lt => alon_gen (p := 11) (by decide +kernel) (by decide +kernel) (by decide +kernel) iL iR nd len (by have : (L.length : Int) < 11 := lt; omega)
  · exact fun iL iR nd len lt => alon_gen (p := 13) (by decide +kernel) (by decide +kernel) (by decide +kernel) iL iR nd len (by have : (L.length : Int) < 13 := lt; omega)
  · exact fun iL iR nd len lt => alon_gen (p := 17) (by decide +kernel) (by decide +kernel) (by decide +kernel) iL iR nd len (by have : (L.length : Int) < 17 := lt; omega)
  · exact fun iL iR nd len lt => alon_gen (p := 19) (by decide +kernel) (by decide +kernel) (by decide +kernel) iL iR nd len (by have : (L.length : Int) < 19 := lt; omega)
  · exact fun iL iR nd len lt => alon_gen (p := 23) (by decide +kernel) (by decide +kernel) (by decide +kernel) iL iR nd len (by have : (L.length : Int) < 23 := lt; omega)
end Mv
namespace Mv
open PySem L2 Evl
section
variable {n p : List Int} {P R L M : Rows} {k : Nat} {Γ : En}
theorem seating_part (hn : n ∈ fewD) (o : LotOk n L) (r : RowOk n L R) (few : L.length ≤ 8) (ha : L.length ≠ (placesOf n).length) : ∃ q : Option Rows, f_seating [dI n, dT L, dT R] = some (.val (optT q)) ∧ (∀ M, q = some M → SeatOk n L R M) ∧ ((∃ M, SeatOk n L R M) → q.isSome = true) := by
  have c1 := chkDials_v hn
  have c2 := lot_ok hn o
  have c3 := row_ok hn o.few r
  have l1 := lenT L
  have cp : f_place_count [dI n] = some (.val (.int ((placesOf n).length : Nat))) := count_places hn
  have e1 := eqI_v (L.length : Nat) ((placesOf n).length : Nat)
  have g1 := gtInt_v (L.length : Nat) 8
  rw [decide_eq_false (by omega)] at g1
  rw [decide_eq_false (fun z => ha (by omega))] at e1
  have h1 : f_has_all_places [dI n, dT L] = some (.val (.bool false)) := by simp only [f_has_all_places, b_has_all_places, guardN, bodyD, fSeq, fAsg, fAsgM, fApp, fRet, fRetN, fDrop, fIfS, fNext, fRaise, fIf, fAnd, fOr, fNot, fT, bo, bnd, bndA, rB, fCall0, noEx, fCall, fCallP, permL, fCons, fNil, fTup, fLst, lim, fCb, ret, fOp, fUn, fVar, fC, fIsi, fIsiLT, isLT, fChain, fLk, fLkB, fLkM, fRevL, fSet2, fFrz, lockL, lockG, lkC, sName, sTup, sCons, sNil, wipeC, List.map_cons, List.map_nil, List.replicate_succ, List.replicate_zero, List.cons_append, List.nil_append, List.getElem?_cons_zero, List.getElem?_cons_succ, List.set_cons_zero, List.set_cons_succ, List.length_cons, List.length_nil, Nat.beq_refl, Nat.reduceAdd, Nat.reduceLeDiff, Nat.reduceEqDiff, Nat.zero_add, if_true, if_false, Bool.false_eq_true, reduceIte, Bool.not_true, Bool.not_false, small_few0, small_few1, small_few2, small_few3, l1, cp, e1]
  have c5 : f_check_lot_most [dT L, .int 8] = some (.val .none) := by simp only [f_check_lot_most, b_check_lot_most, guardN, bodyD, fSeq, fAsg, fAsgM, fApp, fRet, fRetN, fDrop, fIfS, fNext, fRaise, fIf, fAnd, fOr, fNot, fT, bo, bnd, bndA, rB, fCall0, noEx, fCall, fCallP, permL, fCons, fNil, fTup, fLst, lim, fCb, ret, fOp, fUn, fVar, fC, fIsi, fIsiLT, isLT, fChain, fLk, fLkB, fLkM, fRevL, fSet2, fFrz, lockL, lockG, lkC, sName, sTup, sCons, sNil, wipeC, List.map_cons, List.map_nil, List.replicate_succ, List.replicate_zero, List.cons_append, List.nil_append, List.getElem?_cons_zero, List.getElem?_cons_succ, List.set_cons_zero, List.set_cons_succ, List.length_cons, List.length_nil, Nat.beq_refl, Nat.reduceAdd, Nat.reduceLeDiff, Nat.reduceEqDiff, Nat.zero_add, if_true, if_false, Bool.false_eq_true, reduceIte, Bool.not_true, Bool.not_false, small_few0, small_few1, small_few2, small_few3, l1, g1]
  have c4 : f_check_lot_or_all [dI n, dT L, .int 8] = some (.val .none) := by simp only [f_check_lot_or_all, b_check_lot_or_all, guardN, bodyD, fSeq, fAsg, fAsgM, fApp, fRet, fRetN, fDrop, fIfS, fNext, fRaise, fIf, fAnd, fOr, fNot, fT, bo, bnd, bndA, rB, fCall0, noEx, fCall, fCallP, permL, fCons, fNil, fTup, fLst, lim, fCb, ret, fOp, fUn, fVar, fC, fIsi, fIsiLT, isLT, fChain, fLk, fLkB, fLkM, fRevL, fSet2, fFrz, lockL, lockG, lkC, sName, sTup, sCons, sNil, wipeC, List.map_cons, List.map_nil, List.replicate_succ, List.replicate_zero, List.cons_append, List.nil_append, List.getElem?_cons_zero, List.getElem?_cons_succ, List.set_cons_zero, List.set_cons_succ, List.length_cons, List.length_nil, Nat.beq_refl, Nat.reduceAdd, Nat.reduceLeDiff, Nat.reduceEqDiff, Nat.zero_add, if_true, if_false, Bool.false_eq_true, reduceIte, Bool.not_true, Bool.not_false, small_few0, small_few1, small_few2, small_few3, h1, c5]
  have hb := partBar_v hn o r
  have le := listEnds_v hn o.inn r.inn (by omega) (by have := r.len; omega)
  have fv := firstDealt_v hn r.inn 10 L R [] (by omega) o.few (fun _ h => h) (by have := r.len; omega) (by simp; omega) o.inn
  have snd : ∀ M', fdF n L R [] = some M' → SeatOk n L R M' := fun M' q2 => by
    have sd := fd_sound L R [] M' q2
    obtain ⟨rest, hr⟩ := sd.sub
    have r0 : rest = [] := by
      have := hr.length_eq
      rw [List.length_append, sd.len, r.len] at this
      exact List.eq_nil_of_length_eq_zero (by omega)
    rw [r0, List.append_nil] at hr
    exact ⟨fun p hp => r.inn p (hr.mem_iff.mp hp), sd.len, by rw [sort_perm hr, asc_is r.asc], sd.nd⟩
  cases q1 : barF n L R with
  | some B =>
    rw [q1] at hb
    have k1 : oNotN (dT B) .none = some (.bool true) := rfl
    refine ⟨none, by simp only [f_seating, b_seating, f_find_seating, b_find_seating, guardN, bodyD, fSeq, fAsg, fAsgM, fApp, fRet, fRetN, fDrop, fIfS, fNext, fRaise, fIf, fAnd, fOr, fNot, fT, bo, bnd, bndA, rB, fCall0, noEx, fCall, fCallP, permL, fCons, fNil, fTup, fLst, lim, fCb, ret, fOp, fUn, fVar, fC, fIsi, fIsiLT, isLT, fChain, fLk, fLkB, fLkM, fRevL, fSet2, fFrz, lockL, lockG, lkC, sName, sTup, sCons, sNil, wipeC, List.map_cons, List.map_nil, List.replicate_succ, List.replicate_zero, List.cons_append, List.nil_append, List.getElem?_cons_zero, List.getElem?_cons_succ, List.set_cons_zero, List.set_cons_succ, List.length_cons, List.length_nil, Nat.beq_refl, Nat.reduceAdd, Nat.reduceLeDiff, Nat.reduceEqDiff, Nat.zero_add, if_true, if_false, Bool.false_eq_true, reduceIte, Bool.not_true, Bool.not_false, small_few0, small_few1, small_few2, small_few3, c1, c2, c3, c4, h1, hb, optT, k1], (fun M z => by cases z), fun ⟨M, s⟩ => ?_⟩
    rw [bar_none hn o r s] at q1; cases q1
  | none =>
    rw [q1] at hb
    have k1 : oNotN .none .none = some (.bool false) := rfl
    refine ⟨fdF n L R [], ?_, snd, fun ⟨M, s⟩ => ?_⟩
    · cases q2 : fdF n L R [] with
      | none =>
        rw [q2] at fv
        have fv' : f_first_dealt [.list (L.map fun p => dctD (dictF n p R)), dT R, .tuple []] = some (.val .none) := fv
        simp only [f_seating, b_seating, f_find_seating, b_find_seating, guardN, bodyD, fSeq, fAsg, fAsgM, fApp, fRet, fRetN, fDrop, fIfS, fNext, fRaise, fIf, fAnd, fOr, fNot, fT, bo, bnd, bndA, rB, fCall0, noEx, fCall, fCallP, permL, fCons, fNil, fTup, fLst, lim, fCb, ret, fOp, fUn, fVar, fC, fIsi, fIsiLT, isLT, fChain, fLk, fLkB, fLkM, fRevL, fSet2, fFrz, lockL, lockG, lkC, sName, sTup, sCons, sNil, wipeC, List.map_cons, List.map_nil, List.replicate_succ, List.replicate_zero, List.cons_append, List.nil_append, List.getElem?_cons_zero, List.getElem?_cons_succ, List.set_cons_zero, List.set_cons_succ, List.length_cons, List.length_nil, Nat.beq_refl, Nat.reduceAdd, Nat.reduceLeDiff, Nat.reduceEqDiff, Nat.zero_add, if_true, if_false, Bool.false_eq_true, reduceIte, Bool.not_true, Bool.not_false, small_few0, small_few1, small_few2, small_few3, c1, c2, c3, c4, h1, hb, optT, k1, le, fv']
      | some M' =>
        rw [q2] at fv
        have fv' : f_first_dealt [.list (L.map fun p => dctD (dictF n p R)), dT R, .tuple []] = some (.val (dT M')) := fv
        simp only [f_seating, b_seating, f_find_seating, b_find_seating, guardN, bodyD, fSeq, fAsg, fAsgM, fApp, fRet, fRetN, fDrop, fIfS, fNext, fRaise, fIf, fAnd, fOr, fNot, fT, bo, bnd, bndA, rB, fCall0, noEx, fCall, fCallP, permL, fCons, fNil, fTup, fLst, lim, fCb, ret, fOp, fUn, fVar, fC, fIsi, fIsiLT, isLT, fChain, fLk, fLkB, fLkM, fRevL, fSet2, fFrz, lockL, lockG, lkC, sName, sTup, sCons, sNil, wipeC, List.map_cons, List.map_nil, List.replicate_succ, List.replicate_zero, List.cons_append, List.nil_append, List.getElem?_cons_zero, List.getElem?_cons_succ, List.set_cons_zero, List.set_cons_succ, List.length_cons, List.length_nil, Nat.beq_refl, Nat.reduceAdd, Nat.reduceLeDiff, Nat.reduceEqDiff, Nat.zero_add, if_true, if_false, Bool.false_eq_true, reduceIte, Bool.not_true, Bool.not_false, small_few0, small_few1, small_few2, small_few3, c1, c2, c3, c4, h1, hb, optT, k1, le, fv']
    · have pm : M.Perm R := by rw [← s.row]; exact (isort_perm M).symm
      exact fd_complete L R [] M ⟨s.len, ⟨[], by rw [List.append_nil]; exact pm⟩, s.nd, fun _ _ h => by cases h⟩
theorem prime_few : (primeD.all fun n => decide (n ∈ fewD) && decide (((placesOf n).length : Int) = n.headD 0)) = true := by decide +kernel
theorem prime_seat (h : n ∈ primeD) (o : LotOk n L) (r : RowOk n L R) (lt : (L.length : Int) < n.headD 0) : ∃ M, SeatOk n L R M := by
  have hn : n ∈ fewD := of_decide_eq_true (Bool.and_eq_true _ _ ▸ List.all_eq_true.mp prime_few n h).1
  obtain ⟨M, lM, pM, nd⟩ := alon h (L := L) (R := R) (fun q hq => few_inP hn (o.inn q hq)) (fun q hq => few_inP hn (r.inn q hq)) (rise_nodup o.rise) r.len lt
  exact ⟨M, fun p hp => r.inn p (pM.mem_iff.mp hp), lM, by rw [sort_perm pM, asc_is r.asc], nd⟩
end
end Mv
namespace Mv
open PySem L2 Evl
section
variable {n : List Int} {T : Int} {post : D → Int → Prop} {A O R G : Rows}
structure RowZ (n : List Int) (R : Rows) : Prop where
  o : MovesOk n R
  a : isAsc R = true
theorem RowZ.len (r : RowZ n R) : R.length = (placesOf n).length := r.o.len
end
end Mv
namespace Mv
open PySem L2 Evl
end Mv
namespace Mv
open PySem L2 Evl
end Mv
namespace Mv
open PySem L2 Evl
section
variable {n p : List Int} {P R L M : Rows} {k : Nat} {Γ : En} {T : Int} {post : D → Int → Prop}
theorem wprime_v (hT : T < 100000000) (h : ∀ n, n ∈ primeD → post (dI n) (T + 1)) : W__law_prime_dials [.int 23] T post := by
  refine bodyW_of rfl fun s => ?_
  unfold F__law_prime_dials
  repeat (first | refine wSeq_of ?_ | refine wAsg_of ?_ | refine wDraw_of ?_ | refine wCons_of ?_ | refine wNil_of ?_ | refine wTup_of ?_ | refine wRet_of ?_ | refine wIfS_of ?_ | refine wNot_of ?_ | refine wT_of ?_ | refine wNext_of ?_ | refine pw_of (f := fVar _) rfl ?_ | refine pw_of (f := fC _) rfl ?_ | refine wCb_of ?_ | refine wOp_of ?_ | refine wOr_of ?_ | refine wAnd_of ?_ | refine wLst_of ?_ | refine wCall_of ?_ | refine wIf_of ?_ | refine wSl_of ?_)
  refine pw_of (d := .list (primeD.map dI)) rfl ?_
  repeat (first | refine wSeq_of ?_ | refine wAsg_of ?_ | refine wDraw_of ?_ | refine wCons_of ?_ | refine wNil_of ?_ | refine wTup_of ?_ | refine wRet_of ?_ | refine wIfS_of ?_ | refine wNot_of ?_ | refine wT_of ?_ | refine wNext_of ?_ | refine pw_of (f := fVar _) rfl ?_ | refine pw_of (f := fC _) rfl ?_ | refine wCb_of ?_ | refine wOp_of ?_ | refine wOr_of ?_ | refine wAnd_of ?_ | refine wLst_of ?_ | refine wCall_of ?_ | refine wIf_of ?_ | refine wSl_of ?_)
  refine wpick_v (as := primeD.map dI) (by decide) (by decide) (by omega) fun d hd => ?_
  obtain ⟨n, hn, rfl⟩ := List.mem_map.mp hd
  exact h n hn
theorem prime_one : ∀ n ∈ primeD, ∃ x : Int, n = [x] ∧ 3 ≤ x ∧ x ≤ 23 := by
  intro n h
  unfold primeD at h
  simp only [List.mem_cons, List.not_mem_nil, or_false] at h
  rcases h with rfl | rfl | rfl | rfl | rfl | rfl | rfl | rfl <;> exact ⟨_, rfl, by decide, by decide⟩
abbrev G65 (a s : Addr) (c2 c3 c4 c5 c6 : Ce) : En := [.fx (.ref a), .fx (.ref s), c2, c3, c4, c5, c6]
theorem law_math (a : Addr) (N : Nat) (h : N ≤ 63) (s : Addr) : F_law a N (Ce.fx (.ref a) :: Ce.fx (.ref s) :: List.replicate 5 .un) 0 (fun _ _ => False) (fun d _ => d = .bool true) := by
  unfold F_law
  refine wSeq_of (wFor_of ?_)
  obtain ⟨K, hK, k2⟩ : ∃ K : Nat, 3 + (if (4 : Int) < (N : Int) then (4 : Int) else (N : Int)) = (K : Int) ∧ K ≤ 7 := by
    by_cases z : (4 : Int) < (N : Int)
    · exact ⟨7, by rw [if_pos z]; rfl, by omega⟩
    · exact ⟨N + 3, by rw [if_neg z]; omega, by omega⟩
  have e0 : oMin2 [.int (N : Nat), .int 4] = some (.int (if (4 : Int) < (N : Int) then (4 : Int) else (N : Int))) := rfl
  have e1 : oAdd (.int 3) (.int (if (4 : Int) < (N : Int) then (4 : Int) else (N : Int))) = some (.int (K : Nat)) := by
    show some (PyData.int (3 + _)) = _
    rw [← hK]
  simp only [wR1, wCons, wOp, wCb, wNil, wLenS, pw, fC, e0, e1, Int.toNat_natCast]
  refine ⟨rfl, small_of (by omega), by omega, ?_⟩
  refine forW_go (fun i Γ T => (∃ c2 c3 c4 c5 c6, Γ = G65 a s c2 c3 c4 c5 c6) ∧ T ≤ 20000 * (i : Int)) _ 0 _ 0 ⟨⟨_, _, _, _, _, rfl⟩, by simp⟩ (fun i x Γ T nx' hi hI hq => ?_) fun Γ T hI => ?_
  · obtain ⟨⟨c2, c3, c4, c5, c6, rfl⟩, hT⟩ := hI
    obtain ⟨ik, rfl⟩ := upFrom_at hi
    refine ⟨_, rfl, ?_⟩
    simp only [Nat.zero_add, Int.zero_add] at hT hq ⊢
    have hq' : ∀ c2 c3 c4 c5 c6 T2, T2 ≤ 20000 * ((i : Int) + 1) → nx' (G65 a s c2 c3 c4 c5 c6) T2 := fun c2 c3 c4 c5 c6 T2 t => hq _ _ ⟨⟨_, _, _, _, _, rfl⟩, by omega⟩
    refine (show wSeq _ _ (G65 a s (.d (.int (i : Int))) c3 c4 c5 c6) T _ _ from ?_)
    repeat (first | refine wSeq_of ?_ | refine wAsg_of ?_ | refine wDraw_of ?_ | refine wCons_of ?_ | refine wNil_of ?_ | refine wTup_of ?_ | refine wRet_of ?_ | refine wIfS_of ?_ | refine wNot_of ?_ | refine wT_of ?_ | refine wNext_of ?_ | refine pw_of (f := fVar _) rfl ?_ | refine pw_of (f := fC _) rfl ?_ | refine wCb_of ?_ | refine wOp_of ?_ | refine wOr_of ?_ | refine wAnd_of ?_ | refine wLst_of ?_ | refine wCall_of ?_ | refine wIf_of ?_ | refine wSl_of ?_)
    refine wprime_v (by omega) fun n hp => ?_
    have hn : n ∈ fewD := of_decide_eq_true (Bool.and_eq_true _ _ ▸ List.all_eq_true.mp prime_few n hp).1
    have lenP : ((placesOf n).length : Int) = n.headD 0 := of_decide_eq_true (Bool.and_eq_true _ _ ▸ List.all_eq_true.mp prime_few n hp).2
    obtain ⟨x, ex, x3, x23⟩ := prime_one n hp
    have hx : n.headD 0 = x := by rw [ex]; rfl
    rw [hx] at lenP
    have n24 := few_24 hn
    refine (show wSeq _ _ (G65 a s (.d (.int (i : Int))) (.d (dI n)) c4 c5 c6) _ _ _ from ?_)
    have x0 : oIxT (dI n) (.int 0) = some (.int x) := by rw [ex]; rfl
    obtain ⟨m, hm, m1, m8, mx⟩ : ∃ m : Nat, (if (8 : Int) < x - 1 then (8 : Int) else x - 1) = (m : Int) ∧ 1 ≤ m ∧ m ≤ 8 ∧ (m : Int) < x := by
      by_cases z : (8 : Int) < x - 1
      · exact ⟨8, by rw [if_pos z]; rfl, by omega, by omega, by omega⟩
      · exact ⟨(x - 1).toNat, by rw [if_neg z]; omega, by omega, by omega, by omega⟩
    have e2 : oSub (.int x) (.int 1) = some (.int (x - 1)) := rfl
    have e3 : oMin2 [.int (x - 1), .int 8] = some (.int (m : Nat)) := by
      show some (PyData.int (if (8 : Int) < x - 1 then (8 : Int) else x - 1)) = _
      rw [hm]
    refine wSeq_of (pws_nx (Γ' := G65 a s (.d (.int (i : Int))) (.d (dI n)) (.d (.int (m : Nat))) c5 c6) (by simp only [guardN, bodyD, fSeq, fAsg, fAsgM, fApp, fRet, fRetN, fDrop, fIfS, fNext, fRaise, fIf, fAnd, fOr, fNot, fT, bo, bnd, bndA, rB, fCall0, noEx, fCall, fCallP, permL, fCons, fNil, fTup, fLst, lim, fCb, ret, fOp, fUn, fVar, fC, fIsi, fIsiLT, isLT, fChain, fLk, fLkB, fLkM, fRevL, fSet2, fFrz, lockL, lockG, lkC, sName, sTup, sCons, sNil, wipeC, List.map_cons, List.map_nil, List.replicate_succ, List.replicate_zero, List.cons_append, List.nil_append, List.getElem?_cons_zero, List.getElem?_cons_succ, List.set_cons_zero, List.set_cons_succ, List.length_cons, List.length_nil, Nat.beq_refl, Nat.reduceAdd, Nat.reduceLeDiff, Nat.reduceEqDiff, Nat.zero_add, if_true, if_false, Bool.false_eq_true, reduceIte, Bool.not_true, Bool.not_false, small_few0, small_few1, small_few2, small_few3, x0, e2, e3]) rfl ?_)
    repeat (first | refine wSeq_of ?_ | refine wAsg_of ?_ | refine wDraw_of ?_ | refine wCons_of ?_ | refine wNil_of ?_ | refine wTup_of ?_ | refine wRet_of ?_ | refine wIfS_of ?_ | refine wNot_of ?_ | refine wT_of ?_ | refine wNext_of ?_ | refine pw_of (f := fVar _) rfl ?_ | refine pw_of (f := fC _) rfl ?_ | refine wCb_of ?_ | refine wOp_of ?_ | refine wOr_of ?_ | refine wAnd_of ?_ | refine wLst_of ?_ | refine wCall_of ?_ | refine wIf_of ?_ | refine wSl_of ?_)
    refine wlot_v (most := m) hn (by omega) (by omega) (by omega) fun L0 T1 o0 l0 t1 t2 => ?_
    refine (show wSeq _ _ (G65 a s (.d (.int (i : Int))) (.d (dI n)) (.d (.int (m : Nat))) (.d (dT L0)) c6) _ _ _ from ?_)
    have rest : ∀ (L : Rows) T2, LotOk n L → L.length ≤ m → T1 ≤ T2 → T2 ≤ T1 + 100 → (wSeq (wAsg (wDraw W__law_lot_row (wCons (pw (fVar 3)) (wCons (pw (fCb oLen (fCons (fVar 5) fNil))) wNil))) (sName 6)) (pws 1 (fIfS (fT (fOp oLt (fCb oLen (fCons (fVar 5) fNil)) (fOp oIxT (fVar 3) (fC (.int 0))))) (fSeq (fIfS (fNot (fT (fCall0 f__law_seats (fCons (fVar 3) (fCons (fVar 5) (fCons (fVar 6) (fCons (fCall f_seating (fCons (fVar 3) (fCons (fVar 5) (fCons (fVar 6) fNil)))) fNil))))))) (fRet (fC (.bool false))) fNext) (fSeq (fIfS (fT (fOp oNotN (fCall f_part_bar (fCons (fVar 3) (fCons (fVar 5) (fCons (fVar 6) fNil)))) (fC .none))) (fRet (fC (.bool false))) fNext) (fIfS (fAnd (fT (fOp oLt (fCb oLen (fCons (fVar 5) fNil)) (fC (.int 6)))) (fT (fOp oLt (fCall f_seatings_many (fCons (fVar 3) (fCons (fVar 5) (fCons (fVar 6) fNil)))) (fC (.int 1))))) (fRet (fC (.bool false))) fNext))) fNext)))
        (G65 a s (.d (.int (i : Int))) (.d (dI n)) (.d (.int (m : Nat))) (.d (dT L)) c6) T2 nx' (fun d _ => d = .bool true) := fun L T2 o lm t3 t4 => by
      have lL := lenT L
      have lp := List.length_pos_iff.mpr o.ne
      repeat (first | refine wSeq_of ?_ | refine wAsg_of ?_ | refine wDraw_of ?_ | refine wCons_of ?_ | refine wNil_of ?_ | refine wTup_of ?_ | refine wRet_of ?_ | refine wIfS_of ?_ | refine wNot_of ?_ | refine wT_of ?_ | refine wNext_of ?_ | refine pw_of (f := fVar _) rfl ?_ | refine pw_of (f := fC _) rfl ?_ | refine wCb_of ?_ | refine wOp_of ?_ | refine wOr_of ?_ | refine wAnd_of ?_ | refine wLst_of ?_ | refine wCall_of ?_ | refine wIf_of ?_ | refine wSl_of ?_)
      refine pw_of (d := .int (L.length : Nat)) (by simp only [guardN, bodyD, fSeq, fAsg, fAsgM, fApp, fRet, fRetN, fDrop, fIfS, fNext, fRaise, fIf, fAnd, fOr, fNot, fT, bo, bnd, bndA, rB, fCall0, noEx, fCall, fCallP, permL, fCons, fNil, fTup, fLst, lim, fCb, ret, fOp, fUn, fVar, fC, fIsi, fIsiLT, isLT, fChain, fLk, fLkB, fLkM, fRevL, fSet2, fFrz, lockL, lockG, lkC, sName, sTup, sCons, sNil, wipeC, List.map_cons, List.map_nil, List.replicate_succ, List.replicate_zero, List.cons_append, List.nil_append, List.getElem?_cons_zero, List.getElem?_cons_succ, List.set_cons_zero, List.set_cons_succ, List.length_cons, List.length_nil, Nat.beq_refl, Nat.reduceAdd, Nat.reduceLeDiff, Nat.reduceEqDiff, Nat.zero_add, if_true, if_false, Bool.false_eq_true, reduceIte, Bool.not_true, Bool.not_false, small_few0, small_few1, small_few2, small_few3, lL]) ?_
      repeat (first | refine wSeq_of ?_ | refine wAsg_of ?_ | refine wDraw_of ?_ | refine wCons_of ?_ | refine wNil_of ?_ | refine wTup_of ?_ | refine wRet_of ?_ | refine wIfS_of ?_ | refine wNot_of ?_ | refine wT_of ?_ | refine wNext_of ?_ | refine pw_of (f := fVar _) rfl ?_ | refine pw_of (f := fC _) rfl ?_ | refine wCb_of ?_ | refine wOp_of ?_ | refine wOr_of ?_ | refine wAnd_of ?_ | refine wLst_of ?_ | refine wCall_of ?_ | refine wIf_of ?_ | refine wSl_of ?_)
      refine wrow_v (k := L.length) hn (by omega) (by omega) (by omega) fun X T3 hX lX t5 t6 => ?_
      have r := row_sorted (L := L) hX lX
      obtain ⟨R, eR⟩ : ∃ R, R = sortR X := ⟨_, rfl⟩
      rw [← eR] at r ⊢
      obtain ⟨M, sM⟩ := prime_seat hp o r (by rw [hx]; omega)
      obtain ⟨q, hq0, hq1, hq2⟩ := seating_part hn o r (by omega) (by omega)
      obtain ⟨M', eM⟩ := Option.isSome_iff_exists.mp (hq2 ⟨M, sM⟩)
      have sM' := hq1 M' eM
      rw [eM] at hq0
      have hq0 : f_seating [dI n, dT L, dT R] = some (.val (dT M')) := hq0
      have h6 := lseats_v (R := R) hn o.inn o.few (dT M')
      rw [seatB_yes hn sM'] at h6
      have h7 := barTold_v hn o r
      rw [bar_none hn o r sM] at h7
      have h7 : f_part_bar [dI n, dT L, dT R] = some (.val .none) := h7
      have k1 : oNotN .none .none = some (.bool false) := rfl
      have k2 : oLt (.int (L.length : Nat)) (.int x) = some (.bool true) := by
        show some (PyData.bool (decide ((L.length : Int) < x))) = _
        (rw [decide_eq_true (by omega)])
      refine pws_nx (Γ' := G65 a s (.d (.int (i : Int))) (.d (dI n)) (.d (.int (m : Nat))) (.d (dT L)) (.d (dT R))) ?_ rfl (hq' _ _ _ _ _ _ (by omega))
      refine (show (fIfS (fT (fOp oLt (fCb oLen (fCons (fVar 5) fNil)) (fOp oIxT (fVar 3) (fC (.int 0))))) (fSeq (fIfS (fNot (fT (fCall0 f__law_seats (fCons (fVar 3) (fCons (fVar 5) (fCons (fVar 6) (fCons (fCall f_seating (fCons (fVar 3) (fCons (fVar 5) (fCons (fVar 6) fNil)))) fNil))))))) (fRet (fC (.bool false))) fNext) (fSeq (fIfS (fT (fOp oNotN (fCall f_part_bar (fCons (fVar 3) (fCons (fVar 5) (fCons (fVar 6) fNil)))) (fC .none))) (fRet (fC (.bool false))) fNext) (fIfS (fAnd (fT (fOp oLt (fCb oLen (fCons (fVar 5) fNil)) (fC (.int 6)))) (fT (fOp oLt (fCall f_seatings_many (fCons (fVar 3) (fCons (fVar 5) (fCons (fVar 6) fNil)))) (fC (.int 1))))) (fRet (fC (.bool false))) fNext))) fNext) (G65 a s (.d (.int (i : Int))) (.d (dI n)) (.d (.int (m : Nat))) (.d (dT L)) (.d (dT R))) = _ from ?_)
      by_cases z6 : (L.length : Int) < 6
      · have k3 : oLt (.int (L.length : Nat)) (.int 6) = some (.bool true) := by
          show some (PyData.bool (decide ((L.length : Int) < 6))) = _
          rw [decide_eq_true z6]
        obtain ⟨B, hB, _, mB⟩ := seatingsMany_v hn o r (by omega) (d := 5) (by have := keysF_len R; have := r.len; omega) (by decide) (Nat.le_trans (Nat.pow_le_pow_right (by decide) (show L.length ≤ 5 by omega)) (by decide))
        have hm : M ∈ B := (mB M).mpr ⟨sM.len, ⟨[], by rw [List.append_nil, ← sM.row]; exact (isort_perm M).symm⟩, sM.nd, fun _ _ h => by cases h⟩
        have lB := List.length_pos_of_mem hm
        have k4 : oLt (.int (B.length : Nat)) (.int 1) = some (.bool false) := by
          show some (PyData.bool (decide ((B.length : Int) < 1))) = _
          (rw [decide_eq_false (by omega)])
        simp only [guardN, bodyD, fSeq, fAsg, fAsgM, fApp, fRet, fRetN, fDrop, fIfS, fNext, fRaise, fIf, fAnd, fOr, fNot, fT, bo, bnd, bndA, rB, fCall0, noEx, fCall, fCallP, permL, fCons, fNil, fTup, fLst, lim, fCb, ret, fOp, fUn, fVar, fC, fIsi, fIsiLT, isLT, fChain, fLk, fLkB, fLkM, fRevL, fSet2, fFrz, lockL, lockG, lkC, sName, sTup, sCons, sNil, wipeC, List.map_cons, List.map_nil, List.replicate_succ, List.replicate_zero, List.cons_append, List.nil_append, List.getElem?_cons_zero, List.getElem?_cons_succ, List.set_cons_zero, List.set_cons_succ, List.length_cons, List.length_nil, Nat.beq_refl, Nat.reduceAdd, Nat.reduceLeDiff, Nat.reduceEqDiff, Nat.zero_add, if_true, if_false, Bool.false_eq_true, reduceIte, Bool.not_true, Bool.not_false, small_few0, small_few1, small_few2, small_few3, lL, x0, k2, h6, hq0, h7, k1, k3, hB, k4]
      · have k3 : oLt (.int (L.length : Nat)) (.int 6) = some (.bool false) := by
          show some (PyData.bool (decide ((L.length : Int) < 6))) = _
          rw [decide_eq_false z6]
        simp only [guardN, bodyD, fSeq, fAsg, fAsgM, fApp, fRet, fRetN, fDrop, fIfS, fNext, fRaise, fIf, fAnd, fOr, fNot, fT, bo, bnd, bndA, rB, fCall0, noEx, fCall, fCallP, permL, fCons, fNil, fTup, fLst, lim, fCb, ret, fOp, fUn, fVar, fC, fIsi, fIsiLT, isLT, fChain, fLk, fLkB, fLkM, fRevL, fSet2, fFrz, lockL, lockG, lkC, sName, sTup, sCons, sNil, wipeC, List.map_cons, List.map_nil, List.replicate_succ, List.replicate_zero, List.cons_append, List.nil_append, List.getElem?_cons_zero, List.getElem?_cons_succ, List.set_cons_zero, List.set_cons_succ, List.length_cons, List.length_nil, Nat.beq_refl, Nat.reduceAdd, Nat.reduceLeDiff, Nat.reduceEqDiff, Nat.zero_add, if_true, if_false, Bool.false_eq_true, reduceIte, Bool.not_true, Bool.not_false, small_few0, small_few1, small_few2, small_few3, lL, x0, k2, h6, hq0, h7, k1, k3]
    repeat (first | refine wSeq_of ?_ | refine wAsg_of ?_ | refine wDraw_of ?_ | refine wCons_of ?_ | refine wNil_of ?_ | refine wTup_of ?_ | refine wRet_of ?_ | refine wIfS_of ?_ | refine wNot_of ?_ | refine wT_of ?_ | refine wNext_of ?_ | refine pw_of (f := fVar _) rfl ?_ | refine pw_of (f := fC _) rfl ?_ | refine wCb_of ?_ | refine wOp_of ?_ | refine wOr_of ?_ | refine wAnd_of ?_ | refine wLst_of ?_ | refine wCall_of ?_ | refine wIf_of ?_ | refine wSl_of ?_)
    refine draw_of (by decide) (by decide) (by omega) fun r hr => ?_
    repeat (first | refine wSeq_of ?_ | refine wAsg_of ?_ | refine wDraw_of ?_ | refine wCons_of ?_ | refine wNil_of ?_ | refine wTup_of ?_ | refine wRet_of ?_ | refine wIfS_of ?_ | refine wNot_of ?_ | refine wT_of ?_ | refine wNext_of ?_ | refine pw_of (f := fVar _) rfl ?_ | refine pw_of (f := fC _) rfl ?_ | refine wCb_of ?_ | refine wOp_of ?_ | refine wOr_of ?_ | refine wAnd_of ?_ | refine wLst_of ?_ | refine wCall_of ?_ | refine wIf_of ?_ | refine wSl_of ?_)
    have e4 : oEqA (.int (r : Int)) (.int 0) = some (.bool (decide ((r : Int) = 0))) := rfl
    rw [e4]; dsimp only
    by_cases zr : (r : Int) = 0
    · rw [decide_eq_true zr, if_pos rfl]
      have p0 := lplaces_v hn
      repeat (first | refine wSeq_of ?_ | refine wAsg_of ?_ | refine wDraw_of ?_ | refine wCons_of ?_ | refine wNil_of ?_ | refine wTup_of ?_ | refine wRet_of ?_ | refine wIfS_of ?_ | refine wNot_of ?_ | refine wT_of ?_ | refine wNext_of ?_ | refine pw_of (f := fVar _) rfl ?_ | refine pw_of (f := fC _) rfl ?_ | refine wCb_of ?_ | refine wOp_of ?_ | refine wOr_of ?_ | refine wAnd_of ?_ | refine wLst_of ?_ | refine wCall_of ?_ | refine wIf_of ?_ | refine wSl_of ?_)
      refine pw_of (d := dL (placesOf n)) (by simp only [guardN, bodyD, fSeq, fAsg, fAsgM, fApp, fRet, fRetN, fDrop, fIfS, fNext, fRaise, fIf, fAnd, fOr, fNot, fT, bo, bnd, bndA, rB, fCall0, noEx, fCall, fCallP, permL, fCons, fNil, fTup, fLst, lim, fCb, ret, fOp, fUn, fVar, fC, fIsi, fIsiLT, isLT, fChain, fLk, fLkB, fLkM, fRevL, fSet2, fFrz, lockL, lockG, lkC, sName, sTup, sCons, sNil, wipeC, List.map_cons, List.map_nil, List.replicate_succ, List.replicate_zero, List.cons_append, List.nil_append, List.getElem?_cons_zero, List.getElem?_cons_succ, List.set_cons_zero, List.set_cons_succ, List.length_cons, List.length_nil, Nat.beq_refl, Nat.reduceAdd, Nat.reduceLeDiff, Nat.reduceEqDiff, Nat.zero_add, if_true, if_false, Bool.false_eq_true, reduceIte, Bool.not_true, Bool.not_false, small_few0, small_few1, small_few2, small_few3, p0]) ?_
      repeat (first | refine wSeq_of ?_ | refine wAsg_of ?_ | refine wDraw_of ?_ | refine wCons_of ?_ | refine wNil_of ?_ | refine wTup_of ?_ | refine wRet_of ?_ | refine wIfS_of ?_ | refine wNot_of ?_ | refine wT_of ?_ | refine wNext_of ?_ | refine pw_of (f := fVar _) rfl ?_ | refine pw_of (f := fC _) rfl ?_ | refine wCb_of ?_ | refine wOp_of ?_ | refine wOr_of ?_ | refine wAnd_of ?_ | refine wLst_of ?_ | refine wCall_of ?_ | refine wIf_of ?_ | refine wSl_of ?_)
      refine mixed_v (by omega) (by omega) fun S hS => ?_
      dsimp only [sqOf, dL]
      refine (show pw (fVar 4) _ _ _ from pw_of (d := .int (m : Nat)) rfl ?_)
      dsimp only
      rw [cut_to, ← List.map_take]
      have iS : ∀ p ∈ S.take m, p ∈ placesOf n := fun p hp => hS.mem_iff.mp (List.mem_of_mem_take hp)
      have lS : (S.take m).length = m := by rw [List.length_take, hS.length_eq]; omega
      have ndS : (S.take m).Nodup := (List.take_sublist _ _).nodup (hS.nodup_iff.mpr (few_nodup hn))
      have oS := lot_sorted hn iS ndS (fun z => by rw [z] at lS; simp at lS; omega)
      have so := sorted_v hn iS
      have tp : oTuple [.list ((sortR (S.take m)).map dI)] = some (dT (sortR (S.take m))) := rfl
      dsimp only [sq]
      rw [if_pos rfl]
      repeat (first | refine wSeq_of ?_ | refine wAsg_of ?_ | refine wDraw_of ?_ | refine wCons_of ?_ | refine wNil_of ?_ | refine wTup_of ?_ | refine wRet_of ?_ | refine wIfS_of ?_ | refine wNot_of ?_ | refine wT_of ?_ | refine wNext_of ?_ | refine pw_of (f := fVar _) rfl ?_ | refine pw_of (f := fC _) rfl ?_ | refine wCb_of ?_ | refine wOp_of ?_ | refine wOr_of ?_ | refine wAnd_of ?_ | refine wLst_of ?_ | refine wCall_of ?_ | refine wIf_of ?_ | refine wSl_of ?_)
      rw [so]; dsimp only
      refine wNil_of ?_
      have hl := hS.length_eq
      exact rest (sortR (S.take m)) _ oS (by rw [sort_len]; omega) (by omega) (by omega)
    · rw [decide_eq_false zr, if_neg (by decide)]
      refine wNext_of ?_
      exact rest L0 _ o0 l0 (by omega) (by omega)
  · obtain ⟨⟨c2, c3, c4, c5, c6, rfl⟩, _⟩ := hI
    exact pws_rt (d := .bool true) rfl rfl
end
end Mv
namespace Mv
open PySem LamX L2 PyProof.Rows PySem.Spec
section
variable {P : Program} {w : World} {K : PySem.W.Frag} {mg mb : Str → Option Value} {fa a : Addr} {s₁ : Shared} {vs : List Value} {ns : List Int}
def startS (K : PySem.W.Frag) (a : Addr) (vs : List Value) (ns : List Int) : Hp := fun b =>
  if b = a ∧ K.lookup a = none then some (.frz { cls := .type "list", data := .seq vs.toArray } (.lst (ns.map V.int))) else none
theorem startS_some {b : Addr} {u : HO} (h : startS K a vs ns b = some u) : b = a ∧ K.lookup a = none ∧ u = .frz { cls := .type "list", data := .seq vs.toArray } (.lst (ns.map V.int)) := by
  unfold startS at h
  by_cases h2 : b = a ∧ K.lookup a = none
  · rw [if_pos h2] at h
    exact ⟨h2.1, h2.2, (Option.some.inj h).symm⟩
  · rw [if_neg h2] at h
    cases h
theorem call_atS (KX : K.In s₁.heap) (nsG : s₁.heap.Ns mainGlobals mg) (hb : s₁.heap.Ns builtinsNs mb) (boots : ∀ x : Str, x ≠ "__name__" → mb x = bootBuiltins x) (lims : s₁.heap.NoLimit) (hg : s₁.gens = #[])
    (ha : s₁.heap.get? a = some { cls := .type "list", data := .seq vs.toArray }) (hi : IntsAre vs ns) (hl : ns.length ≤ sizeLine) (sy : ∃ mm, s₁.heap.Ns sysModules mm)
    (F : ∀ base : Heap, K.In base → base.Ns mainGlobals mg → (∃ o, base.get? sysModules = some o) → ∀ H : Hp, Env0 P w K mg base callerA [] s₁ H → SqL K H a (ns.map V.int) →
      codeAny (model P w) callerA (.call (.ref fa) ⟨[.ref a], []⟩) (CR CX0 [] P w H s₁ (fun v _ => v = .bl true) fun _ _ _ => False) s₁) :
    codeAny (model P w) callerA (.call (.ref fa) ⟨[.ref a], []⟩)
      (fun r z => r = .ok (.ret (.bool true)) ∧ OldK s₁.heap z.heap ∧ z.os = s₁.os ∧ AllBare z.gens) s₁ := by
  obtain ⟨H, hH⟩ : ∃ H : Hp, H = startS K a vs ns := ⟨_, rfl⟩
  have rel := vals_ints hi
  have len := hi.length
  have is_ : ∀ {b : Addr} {u : HO}, H b = some u → b = a ∧ K.lookup a = none ∧ u = .frz { cls := .type "list", data := .seq vs.toArray } (.lst (ns.map V.int)) := fun h => startS_some (by rw [← hH]; exact h)
  have seq : SqL K H a (ns.map V.int) := by
    cases q : K.lookup a with
    | none =>
      refine .inl (.inr ⟨{ cls := .type "list", data := .seq vs.toArray }, ?_⟩)
      rw [hH]
      exact if_pos ⟨rfl, q⟩
    | some o =>
      have e := KX a o q
      rw [ha] at e
      cases e
      exact .inr ⟨_, vs.toArray, _, q, rfl, rfl, rfl, by rw [List.size_toArray, len]; exact hl, by simpa using rel⟩
  have good : HOk P w H s₁.heap := fun b u e => by
    rcases is_ e with ⟨rfl, _, rfl⟩
    exact ⟨ha, by rw [List.length_map]; exact hl, vs, _, rel, ha⟩
  have bare : ∀ {b : Addr} {o : Obj}, s₁.heap.get? b = some o → (∀ us n, o.data ≠ .seq us n) → H b = none := fun {b o} e h1 => by
    cases q : H b with
    | none => rfl
    | some u =>
      rcases is_ q with ⟨z, _⟩
      rw [z, ha] at e; cases e; exact (h1 _ _ rfl).elim
  have below : ∀ {b : Addr} {o : Obj}, s₁.heap.get? b = some o → (∀ us n, o.data ≠ .seq us n) → (hidT s₁.heap H).get? b = some o := fun e h1 => hidT_get e (bare e h1)
  have space : ∀ {b : Addr} {m : Str → Option Value}, s₁.heap.Ns b m → (hidT s₁.heap H).Ns b m := fun ⟨o, es, ep, e, d, r⟩ => ⟨o, es, ep, below e (fun us n z => by rw [d] at z; cases z), d, r⟩
  have Kb : K.In (hidT s₁.heap H) := fun b o e => hidT_get (KX b o e) (by
    cases q : H b with
    | none => rfl
    | some u =>
      rcases is_ q with ⟨z, k, _⟩
      rw [z, k] at e; cases e)
  have env : Env0 P w K mg (hidT s₁.heap H) callerA [] s₁ H :=
    ⟨rfl, ⟨Kb, space nsG, ⟨mb, space hb, boots⟩, lims.elim fun m h => ⟨m, space h.1, h.2⟩⟩, fun b o e => of_hidT e, Nat.le_of_eq (hidT_size _ _), trivial, fun b z => absurd (show b ∈ ([] : List Addr) from z) List.not_mem_nil, good, .of_eq hg⟩
  refine codeAny_mono (F _ Kb (space nsG) (let ⟨_, h⟩ := sy; let ⟨o, _, _, e, _⟩ := space h; ⟨o, e⟩) H env seq) fun r s' h => ?_
  cases r with
  | error e => exact h.elim
  | ok fl =>
    cases fl with
    | next => exact False.elim h
    | brk => exact False.elim h
    | cont => exact False.elim h
    | ret u =>
      obtain ⟨v, H', os, bareG, un, ok', rv, q⟩ := h
      obtain rfl : v = .bl true := q
      obtain rfl : u = Value.bool true := rv
      have stays : ∀ b o, s₁.heap.get? b = some o → s'.heap.get? b = some o := fun b o e => by
        cases q : H b with
        | none => exact un.keep b o e q (fun z => absurd (show b ∈ ([] : List Addr) from z) List.not_mem_nil) List.not_mem_nil
        | some u =>
          rcases is_ q with ⟨z, _, hu⟩
          rw [hu] at q
          obtain ⟨e1, _⟩ := good b _ q
          obtain ⟨e2, _⟩ := ok' b _ (un.frzs b _ _ q)
          rw [e] at e1
          cases e1
          exact e2
      exact ⟨rfl, ⟨fun b o e => .inl (stays b o e), fun b o e => ⟨o, stays b o e⟩⟩, os, bareG⟩
end
theorem walk_atS {l : PySem.W.OpenLaw} {n : Nat} {q : Program} {loose : List Str} {XP : (Str → Option Value) → Heap → Prop} {YP : World → Heap → Prop} {d : DefRec} {K : Params → PySem.W.Frag} (hn : l.most = some n) (hn2 : n ≤ sizeLine) (hdf : d.params.defaults = [])
    (hY : ∀ (w : World) (h : Heap), YP w h → (K w.params).In h) (hin : importsNone q = true)
    (F : ∀ (w : World) (mg : Str → Option Value) (fa : Addr) (h : Heap), YP w h → (K w.params).In h → h.Ns mainGlobals mg → mg d.name = some (.ref fa) →
      ∀ base : Heap, (K w.params).In base → base.Ns mainGlobals mg → (∃ o, base.get? sysModules = some o) → ∀ (s : Shared) (H : Hp) (a : Addr) (ns : List Int), ns.length ≤ n → Env0 l.prog w (K w.params) mg base callerA [] s H → SqL (K w.params) H a (ns.map V.int) →
        codeAny (model l.prog w) callerA (.call (.ref fa) ⟨[.ref a], []⟩) (CR CX0 [] l.prog w H s (fun v _ => v = .bl true) fun _ _ _ => False) s) :
    PySem.W.WalkO q loose XP YP l.row.toRowW d []
      (fun g us => PySem.call g us) := by
  refine Att.attach_callB hn hdf fun w s₀ s₁ mg mb fa o pm cd doc a vs ns G Y _ _ _ hmg hobj hints hlen _ hg => ?_
  have KX := hY w _ Y
  exact call_atS KX G.T.g G.T.b G.T.builtins G.T.nolimit hg hobj hints (Nat.le_trans hlen hn2) (let ⟨mm, h, _⟩ := (G.T.seer hin).mods; ⟨mm, h⟩) fun base k1 k2 ky H k4 k5 => F w mg fa _ Y KX G.T.g hmg base k1 k2 ky s₁ H a ns hlen k4 k5
end Mv
namespace Mv
open PySem L2 LamX Evl
theorem all_mk {P : Program} {w : World} {K : PySem.W.Frag} {h : Heap} {mg : Str → Option Value} {fa : Addr} {f0 f1 f2 f3 f4 f5 f6 f7 f8 f9 f10 f11 f12 f13 f14 f15 f16 f17 f18 f19 f20 f21 f22 f23 f24 f25 f26 f27 f28 f29 f30 f31 f32 f33 f34 f35 f36 f37 f38 f39 f40 f41 f42 f43 f44 f45 f46 f47 f48 f49 f50 f51 f52 f53 f54 f55 C1 C2 C3 : Addr}
  {od0 an0 od1 an1 od2 an2 od3 an3 od4 an4 od5 an5 od6 an6 od7 an7 od8 an8 od9 an9 od10 an10 od11 an11 od12 an12 od13 an13 od14 an14 od15 an15 od16 an16 od17 an17 od18 an18 od19 an19 od20 an20 od21 an21 od22 an22 od23 an23 od24 an24 od25 an25 od26 an26 od27 an27 od28 an28 od29 an29 od30 an30 od31 an31 od32 an32 od33 an33 od34 an34 od35 an35 od36 an36 od37 an37 od38 an38 od39 an39 od40 an40 od41 an41 od42 an42 od43 an43 od44 an44 od45 an45 od46 an46 od47 an47 od48 an48 od49 an49 od50 an50 od51 an51 od52 an52 od53 an53 od54 an54 od55 an55   : Option Addr}
  {sl0 sl1 sl2 sl3 sl4 sl5 sl6 sl7 sl8 sl9 sl10 sl11 sl12 sl13 sl14 sl15 sl16 sl17 sl18 sl19 sl20 sl21 sl22 sl23 sl24 sl25 sl26 sl27 sl28 sl29 sl30 sl31 sl32 sl33 sl34 sl35 sl36 sl37 sl38 sl39 sl40 sl41 sl42 sl43 sl44 sl45 sl46 sl47 sl48 sl49 sl50 sl51 sl52 sl53 sl54 sl55   : Array (Option Value)}
  {oc0 kV0 dc0 pm0 cd0 ct0 oc1 kV1 dc1 pm1 cd1 ct1 oc2 kV2 dc2 pm2 cd2 ct2 oc3 kV3 dc3 pm3 cd3 ct3 oc4 kV4 dc4 pm4 cd4 ct4 oc5 kV5 dc5 pm5 cd5 ct5 oc6 kV6 dc6 pm6 cd6 ct6 oc7 kV7 dc7 pm7 cd7 ct7 oc8 kV8 dc8 pm8 cd8 ct8 oc9 kV9 dc9 pm9 cd9 ct9 oc10 kV10 dc10 pm10 cd10 ct10 oc11 kV11 dc11 pm11 cd11 ct11 oc12 kV12 dc12 pm12 cd12 ct12 oc13 kV13 dc13 pm13 cd13 ct13 oc14 kV14 dc14 pm14 cd14 ct14 oc15 kV15 dc15 pm15 cd15 ct15 oc16 kV16 dc16 pm16 cd16 ct16 oc17 kV17 dc17 pm17 cd17 ct17 oc18 kV18 dc18 pm18 cd18 ct18 oc19 kV19 dc19 pm19 cd19 ct19 oc20 kV20 dc20 pm20 cd20 ct20 oc21 kV21 dc21 pm21 cd21 ct21 oc22 kV22 dc22 pm22 cd22 ct22 oc23 kV23 dc23 pm23 cd23 ct23 oc24 kV24 dc24 pm24 cd24 ct24 oc25 kV25 dc25 pm25 cd25 ct25 oc26 kV26 dc26 pm26 cd26 ct26 oc27 kV27 dc27 pm27 cd27 ct27 oc28 kV28 dc28 pm28 cd28 ct28 oc29 kV29 dc29 pm29 cd29 ct29 oc30 kV30 dc30 pm30 cd30 ct30 oc31 kV31 dc31 pm31 cd31 ct31 oc32 kV32 dc32 pm32 cd32 ct32 oc33 kV33 dc33 pm33 cd33 ct33 oc34 kV34 dc34 pm34 cd34 ct34 oc35 kV35 dc35 pm35 cd35 ct35 oc36 kV36 dc36 pm36 cd36 ct36 oc37 kV37 dc37 pm37 cd37 ct37 oc38 kV38 dc38 pm38 cd38 ct38 oc39 kV39 dc39 pm39 cd39 ct39 oc40 kV40 dc40 pm40 cd40 ct40 oc41 kV41 dc41 pm41 cd41 ct41 oc42 kV42 dc42 pm42 cd42 ct42 oc43 kV43 dc43 pm43 cd43 ct43 oc44 kV44 dc44 pm44 cd44 ct44 oc45 kV45 dc45 pm45 cd45 ct45 oc46 kV46 dc46 pm46 cd46 ct46 oc47 kV47 dc47 pm47 cd47 ct47 oc48 kV48 dc48 pm48 cd48 ct48 oc49 kV49 dc49 pm49 cd49 ct49 oc50 kV50 dc50 pm50 cd50 ct50 oc51 kV51 dc51 pm51 cd51 ct51 oc52 kV52 dc52 pm52 cd52 ct52 oc53 kV53 dc53 pm53 cd53 ct53 oc54 kV54 dc54 pm54 cd54 ct54 oc55 kV55 dc55 pm55 cd55 ct55   : Value}  (KX : K.In h) (G : h.Ns mainGlobals mg) (hfa : mg "law" = some (.ref fa))
  (a0 : PySem.W.nsIn K mainGlobals "place_count" = some (some (.ref f0))) (l0 : K.lookup f0 = some ⟨oc0, od0, .func (PySem.W.fnOf "place_count" "place_count" (defArgs s_place_count) (defBody s_place_count) (defScope s_place_count) .none kV0 dc0 pm0 an0 cd0 ct0), sl0⟩) (c0 : PySem.W.codeIn K cd0 "place_count" = true) (k0 : PySem.W.keepIn K (.ref f0) = true)
  (a1 : PySem.W.nsIn K mainGlobals "all_places" = some (some (.ref f1))) (l1 : K.lookup f1 = some ⟨oc1, od1, .func (PySem.W.fnOf "all_places" "all_places" (defArgs s_all_places) (defBody s_all_places) (defScope s_all_places) .none kV1 dc1 pm1 an1 cd1 ct1), sl1⟩) (c1 : PySem.W.codeIn K cd1 "all_places" = true) (k1 : PySem.W.keepIn K (.ref f1) = true)
  (a2 : PySem.W.nsIn K mainGlobals "nothing_of" = some (some (.ref f2))) (l2 : K.lookup f2 = some ⟨oc2, od2, .func (PySem.W.fnOf "nothing_of" "nothing_of" (defArgs s_nothing_of) (defBody s_nothing_of) (defScope s_nothing_of) .none kV2 dc2 pm2 an2 cd2 ct2), sl2⟩) (c2 : PySem.W.codeIn K cd2 "nothing_of" = true) (k2 : PySem.W.keepIn K (.ref f2) = true)
  (a3 : PySem.W.nsIn K mainGlobals "add" = some (some (.ref f3))) (l3 : K.lookup f3 = some ⟨oc3, od3, .func (PySem.W.fnOf "add" "add" (defArgs s_add) (defBody s_add) (defScope s_add) .none kV3 dc3 pm3 an3 cd3 ct3), sl3⟩) (c3 : PySem.W.codeIn K cd3 "add" = true) (k3 : PySem.W.keepIn K (.ref f3) = true)
  (a4 : PySem.W.nsIn K mainGlobals "take_off" = some (some (.ref f4))) (l4 : K.lookup f4 = some ⟨oc4, od4, .func (PySem.W.fnOf "take_off" "take_off" (defArgs s_take_off) (defBody s_take_off) (defScope s_take_off) .none kV4 dc4 pm4 an4 cd4 ct4), sl4⟩) (c4 : PySem.W.codeIn K cd4 "take_off" = true) (k4 : PySem.W.keepIn K (.ref f4) = true)
  (a5 : PySem.W.nsIn K mainGlobals "add_up" = some (some (.ref f5))) (l5 : K.lookup f5 = some ⟨oc5, od5, .func (PySem.W.fnOf "add_up" "add_up" (defArgs s_add_up) (defBody s_add_up) (defScope s_add_up) .none kV5 dc5 pm5 an5 cd5 ct5), sl5⟩) (c5 : PySem.W.codeIn K cd5 "add_up" = true) (k5 : PySem.W.keepIn K (.ref f5) = true)
  (a6 : PySem.W.nsIn K mainGlobals "multiply" = some (some (.ref f6))) (l6 : K.lookup f6 = some ⟨oc6, od6, .func (PySem.W.fnOf "multiply" "multiply" (defArgs s_multiply) (defBody s_multiply) (defScope s_multiply) .none kV6 dc6 pm6 an6 cd6 ct6), sl6⟩) (c6 : PySem.W.codeIn K cd6 "multiply" = true) (k6 : PySem.W.keepIn K (.ref f6) = true)
  (a7 : PySem.W.nsIn K mainGlobals "moves_to" = some (some (.ref f7))) (l7 : K.lookup f7 = some ⟨oc7, od7, .func (PySem.W.fnOf "moves_to" "moves_to" (defArgs s_moves_to) (defBody s_moves_to) (defScope s_moves_to) .none kV7 dc7 pm7 an7 cd7 ct7), sl7⟩) (c7 : PySem.W.codeIn K cd7 "moves_to" = true) (k7 : PySem.W.keepIn K (.ref f7) = true)
  (a8 : PySem.W.nsIn K mainGlobals "is_number" = some (some (.ref f8))) (l8 : K.lookup f8 = some ⟨oc8, od8, .func (PySem.W.fnOf "is_number" "is_number" (defArgs s_is_number) (defBody s_is_number) (defScope s_is_number) .none kV8 dc8 pm8 an8 cd8 ct8), sl8⟩) (c8 : PySem.W.codeIn K cd8 "is_number" = true) (k8 : PySem.W.keepIn K (.ref f8) = true)
  (a9 : PySem.W.nsIn K mainGlobals "is_between" = some (some (.ref f9))) (l9 : K.lookup f9 = some ⟨oc9, od9, .func (PySem.W.fnOf "is_between" "is_between" (defArgs s_is_between) (defBody s_is_between) (defScope s_is_between) .none kV9 dc9 pm9 an9 cd9 ct9), sl9⟩) (c9 : PySem.W.codeIn K cd9 "is_between" = true) (k9 : PySem.W.keepIn K (.ref f9) = true)
  (a10 : PySem.W.nsIn K mainGlobals "is_listed" = some (some (.ref f10))) (l10 : K.lookup f10 = some ⟨oc10, od10, .func (PySem.W.fnOf "is_listed" "is_listed" (defArgs s_is_listed) (defBody s_is_listed) (defScope s_is_listed) .none kV10 dc10 pm10 an10 cd10 ct10), sl10⟩) (c10 : PySem.W.codeIn K cd10 "is_listed" = true) (k10 : PySem.W.keepIn K (.ref f10) = true)
  (a11 : PySem.W.nsIn K mainGlobals "is_tuple_of" = some (some (.ref f11))) (l11 : K.lookup f11 = some ⟨oc11, od11, .func (PySem.W.fnOf "is_tuple_of" "is_tuple_of" (defArgs s_is_tuple_of) (defBody s_is_tuple_of) (defScope s_is_tuple_of) .none kV11 dc11 pm11 an11 cd11 ct11), sl11⟩) (c11 : PySem.W.codeIn K cd11 "is_tuple_of" = true) (k11 : PySem.W.keepIn K (.ref f11) = true)
  (a12 : PySem.W.nsIn K mainGlobals "is_ascending" = some (some (.ref f12))) (l12 : K.lookup f12 = some ⟨oc12, od12, .func (PySem.W.fnOf "is_ascending" "is_ascending" (defArgs s_is_ascending) (defBody s_is_ascending) (defScope s_is_ascending) .none kV12 dc12 pm12 an12 cd12 ct12), sl12⟩) (c12 : PySem.W.codeIn K cd12 "is_ascending" = true) (k12 : PySem.W.keepIn K (.ref f12) = true)
  (a13 : PySem.W.nsIn K mainGlobals "is_rising" = some (some (.ref f13))) (l13 : K.lookup f13 = some ⟨oc13, od13, .func (PySem.W.fnOf "is_rising" "is_rising" (defArgs s_is_rising) (defBody s_is_rising) (defScope s_is_rising) .none kV13 dc13 pm13 an13 cd13 ct13), sl13⟩) (c13 : PySem.W.codeIn K cd13 "is_rising" = true) (k13 : PySem.W.keepIn K (.ref f13) = true)
  (a14 : PySem.W.nsIn K mainGlobals "is_dials" = some (some (.ref f14))) (l14 : K.lookup f14 = some ⟨oc14, od14, .func (PySem.W.fnOf "is_dials" "is_dials" (defArgs s_is_dials) (defBody s_is_dials) (defScope s_is_dials) .none kV14 dc14 pm14 an14 cd14 ct14), sl14⟩) (c14 : PySem.W.codeIn K cd14 "is_dials" = true) (k14 : PySem.W.keepIn K (.ref f14) = true)
  (a15 : PySem.W.nsIn K mainGlobals "is_place" = some (some (.ref f15))) (l15 : K.lookup f15 = some ⟨oc15, od15, .func (PySem.W.fnOf "is_place" "is_place" (defArgs s_is_place) (defBody s_is_place) (defScope s_is_place) .none kV15 dc15 pm15 an15 cd15 ct15), sl15⟩) (c15 : PySem.W.codeIn K cd15 "is_place" = true) (k15 : PySem.W.keepIn K (.ref f15) = true)
  (a16 : PySem.W.nsIn K mainGlobals "are_places" = some (some (.ref f16))) (l16 : K.lookup f16 = some ⟨oc16, od16, .func (PySem.W.fnOf "are_places" "are_places" (defArgs s_are_places) (defBody s_are_places) (defScope s_are_places) .none kV16 dc16 pm16 an16 cd16 ct16), sl16⟩) (c16 : PySem.W.codeIn K cd16 "are_places" = true) (k16 : PySem.W.keepIn K (.ref f16) = true)
  (a17 : PySem.W.nsIn K mainGlobals "is_part_of_dials" = some (some (.ref f17))) (l17 : K.lookup f17 = some ⟨oc17, od17, .func (PySem.W.fnOf "is_part_of_dials" "is_part_of_dials" (defArgs s_is_part_of_dials) (defBody s_is_part_of_dials) (defScope s_is_part_of_dials) .none kV17 dc17 pm17 an17 cd17 ct17), sl17⟩) (c17 : PySem.W.codeIn K cd17 "is_part_of_dials" = true) (k17 : PySem.W.keepIn K (.ref f17) = true)
  (a18 : PySem.W.nsIn K mainGlobals "check_dials" = some (some (.ref f18))) (l18 : K.lookup f18 = some ⟨oc18, od18, .func (PySem.W.fnOf "check_dials" "check_dials" (defArgs s_check_dials) (defBody s_check_dials) (defScope s_check_dials) .none kV18 dc18 pm18 an18 cd18 ct18), sl18⟩) (c18 : PySem.W.codeIn K cd18 "check_dials" = true) (k18 : PySem.W.keepIn K (.ref f18) = true)
  (a19 : PySem.W.nsIn K mainGlobals "pass_on" = some (some (.ref f19))) (l19 : K.lookup f19 = some ⟨oc19, od19, .func (PySem.W.fnOf "pass_on" "pass_on" (defArgs s_pass_on) (defBody s_pass_on) (defScope s_pass_on) .none kV19 dc19 pm19 an19 cd19 ct19), sl19⟩) (c19 : PySem.W.codeIn K cd19 "pass_on" = true) (k19 : PySem.W.keepIn K (.ref f19) = true)
  (a20 : PySem.W.nsIn K mainGlobals "finished" = some (some (.ref f20))) (l20 : K.lookup f20 = some ⟨oc20, od20, .func (PySem.W.fnOf "finished" "finished" (defArgs s_finished) (defBody s_finished) (defScope s_finished) .none kV20 dc20 pm20 an20 cd20 ct20), sl20⟩) (c20 : PySem.W.codeIn K cd20 "finished" = true) (k20 : PySem.W.keepIn K (.ref f20) = true)
  (a21 : PySem.W.nsIn K mainGlobals "hand_all" = some (some (.ref f21))) (l21 : K.lookup f21 = some ⟨oc21, od21, .func (PySem.W.fnOf "hand_all" "hand_all" (defArgs s_hand_all) (defBody s_hand_all) (defScope s_hand_all) .none kV21 dc21 pm21 an21 cd21 ct21), sl21⟩) (c21 : PySem.W.codeIn K cd21 "hand_all" = true) (k21 : PySem.W.keepIn K (.ref f21) = true)
  (a22 : PySem.W.nsIn K mainGlobals "deal" = some (some (.ref f22))) (l22 : K.lookup f22 = some ⟨oc22, od22, .func (PySem.W.fnOf "deal" "deal" (defArgs s_deal) (defBody s_deal) (defScope s_deal) .none kV22 dc22 pm22 an22 cd22 ct22), sl22⟩) (c22 : PySem.W.codeIn K cd22 "deal" = true) (k22 : PySem.W.keepIn K (.ref f22) = true)
  (a23 : PySem.W.nsIn K mainGlobals "with_next" = some (some (.ref f23))) (l23 : K.lookup f23 = some ⟨oc23, od23, .func (PySem.W.fnOf "with_next" "with_next" (defArgs s_with_next) (defBody s_with_next) (defScope s_with_next) .none kV23 dc23 pm23 an23 cd23 ct23), sl23⟩) (c23 : PySem.W.codeIn K cd23 "with_next" = true) (k23 : PySem.W.keepIn K (.ref f23) = true)
  (a24 : PySem.W.nsIn K mainGlobals "list_dealt" = some (some (.ref f24))) (l24 : K.lookup f24 = some ⟨oc24, od24, .func (PySem.W.fnOf "list_dealt" "list_dealt" (defArgs s_list_dealt) (defBody s_list_dealt) (defScope s_list_dealt) .none kV24 dc24 pm24 an24 cd24 ct24), sl24⟩) (c24 : PySem.W.codeIn K cd24 "list_dealt" = true) (k24 : PySem.W.keepIn K (.ref f24) = true)
  (a25 : PySem.W.nsIn K mainGlobals "first_dealt" = some (some (.ref f25))) (l25 : K.lookup f25 = some ⟨oc25, od25, .func (PySem.W.fnOf "first_dealt" "first_dealt" (defArgs s_first_dealt) (defBody s_first_dealt) (defScope s_first_dealt) .none kV25 dc25 pm25 an25 cd25 ct25), sl25⟩) (c25 : PySem.W.codeIn K cd25 "first_dealt" = true) (k25 : PySem.W.keepIn K (.ref f25) = true)
  (a26 : PySem.W.nsIn K mainGlobals "list_ends" = some (some (.ref f26))) (l26 : K.lookup f26 = some ⟨oc26, od26, .func (PySem.W.fnOf "list_ends" "list_ends" (defArgs s_list_ends) (defBody s_list_ends) (defScope s_list_ends) .none kV26 dc26 pm26 an26 cd26 ct26), sl26⟩) (c26 : PySem.W.codeIn K cd26 "list_ends" = true) (k26 : PySem.W.keepIn K (.ref f26) = true)
  (a27 : PySem.W.nsIn K mainGlobals "is_lot_of" = some (some (.ref f27))) (l27 : K.lookup f27 = some ⟨oc27, od27, .func (PySem.W.fnOf "is_lot_of" "is_lot_of" (defArgs s_is_lot_of) (defBody s_is_lot_of) (defScope s_is_lot_of) .none kV27 dc27 pm27 an27 cd27 ct27), sl27⟩) (c27 : PySem.W.codeIn K cd27 "is_lot_of" = true) (k27 : PySem.W.keepIn K (.ref f27) = true)
  (a28 : PySem.W.nsIn K mainGlobals "check_lot" = some (some (.ref f28))) (l28 : K.lookup f28 = some ⟨oc28, od28, .func (PySem.W.fnOf "check_lot" "check_lot" (defArgs s_check_lot) (defBody s_check_lot) (defScope s_check_lot) .none kV28 dc28 pm28 an28 cd28 ct28), sl28⟩) (c28 : PySem.W.codeIn K cd28 "check_lot" = true) (k28 : PySem.W.keepIn K (.ref f28) = true)
  (a29 : PySem.W.nsIn K mainGlobals "is_row_for" = some (some (.ref f29))) (l29 : K.lookup f29 = some ⟨oc29, od29, .func (PySem.W.fnOf "is_row_for" "is_row_for" (defArgs s_is_row_for) (defBody s_is_row_for) (defScope s_is_row_for) .none kV29 dc29 pm29 an29 cd29 ct29), sl29⟩) (c29 : PySem.W.codeIn K cd29 "is_row_for" = true) (k29 : PySem.W.keepIn K (.ref f29) = true)
  (a30 : PySem.W.nsIn K mainGlobals "check_lot_row" = some (some (.ref f30))) (l30 : K.lookup f30 = some ⟨oc30, od30, .func (PySem.W.fnOf "check_lot_row" "check_lot_row" (defArgs s_check_lot_row) (defBody s_check_lot_row) (defScope s_check_lot_row) .none kV30 dc30 pm30 an30 cd30 ct30), sl30⟩) (c30 : PySem.W.codeIn K cd30 "check_lot_row" = true) (k30 : PySem.W.keepIn K (.ref f30) = true)
  (a31 : PySem.W.nsIn K mainGlobals "check_lot_most" = some (some (.ref f31))) (l31 : K.lookup f31 = some ⟨oc31, od31, .func (PySem.W.fnOf "check_lot_most" "check_lot_most" (defArgs s_check_lot_most) (defBody s_check_lot_most) (defScope s_check_lot_most) .none kV31 dc31 pm31 an31 cd31 ct31), sl31⟩) (c31 : PySem.W.codeIn K cd31 "check_lot_most" = true) (k31 : PySem.W.keepIn K (.ref f31) = true)
  (a32 : PySem.W.nsIn K mainGlobals "has_all_places" = some (some (.ref f32))) (l32 : K.lookup f32 = some ⟨oc32, od32, .func (PySem.W.fnOf "has_all_places" "has_all_places" (defArgs s_has_all_places) (defBody s_has_all_places) (defScope s_has_all_places) .none kV32 dc32 pm32 an32 cd32 ct32), sl32⟩) (c32 : PySem.W.codeIn K cd32 "has_all_places" = true) (k32 : PySem.W.keepIn K (.ref f32) = true)
  (a33 : PySem.W.nsIn K mainGlobals "check_lot_or_all" = some (some (.ref f33))) (l33 : K.lookup f33 = some ⟨oc33, od33, .func (PySem.W.fnOf "check_lot_or_all" "check_lot_or_all" (defArgs s_check_lot_or_all) (defBody s_check_lot_or_all) (defScope s_check_lot_or_all) .none kV33 dc33 pm33 an33 cd33 ct33), sl33⟩) (c33 : PySem.W.codeIn K cd33 "check_lot_or_all" = true) (k33 : PySem.W.keepIn K (.ref f33) = true)
  (a34 : PySem.W.nsIn K mainGlobals "find_part_bar" = some (some (.ref f34))) (l34 : K.lookup f34 = some ⟨oc34, od34, .func (PySem.W.fnOf "find_part_bar" "find_part_bar" (defArgs s_find_part_bar) (defBody s_find_part_bar) (defScope s_find_part_bar) .none kV34 dc34 pm34 an34 cd34 ct34), sl34⟩) (c34 : PySem.W.codeIn K cd34 "find_part_bar" = true) (k34 : PySem.W.keepIn K (.ref f34) = true)
  (a35 : PySem.W.nsIn K mainGlobals "find_seating" = some (some (.ref f35))) (l35 : K.lookup f35 = some ⟨oc35, od35, .func (PySem.W.fnOf "find_seating" "find_seating" (defArgs s_find_seating) (defBody s_find_seating) (defScope s_find_seating) .none kV35 dc35 pm35 an35 cd35 ct35), sl35⟩) (c35 : PySem.W.codeIn K cd35 "find_seating" = true) (k35 : PySem.W.keepIn K (.ref f35) = true)
  (a36 : PySem.W.nsIn K mainGlobals "seating" = some (some (.ref f36))) (l36 : K.lookup f36 = some ⟨oc36, od36, .func (PySem.W.fnOf "seating" "seating" (defArgs s_seating) (defBody s_seating) (defScope s_seating) .none kV36 dc36 pm36 an36 cd36 ct36), sl36⟩) (c36 : PySem.W.codeIn K cd36 "seating" = true) (k36 : PySem.W.keepIn K (.ref f36) = true)
  (a37 : PySem.W.nsIn K mainGlobals "list_seatings" = some (some (.ref f37))) (l37 : K.lookup f37 = some ⟨oc37, od37, .func (PySem.W.fnOf "list_seatings" "list_seatings" (defArgs s_list_seatings) (defBody s_list_seatings) (defScope s_list_seatings) .none kV37 dc37 pm37 an37 cd37 ct37), sl37⟩) (c37 : PySem.W.codeIn K cd37 "list_seatings" = true) (k37 : PySem.W.keepIn K (.ref f37) = true)
  (a38 : PySem.W.nsIn K mainGlobals "seatings_many" = some (some (.ref f38))) (l38 : K.lookup f38 = some ⟨oc38, od38, .func (PySem.W.fnOf "seatings_many" "seatings_many" (defArgs s_seatings_many) (defBody s_seatings_many) (defScope s_seatings_many) .none kV38 dc38 pm38 an38 cd38 ct38), sl38⟩) (c38 : PySem.W.codeIn K cd38 "seatings_many" = true) (k38 : PySem.W.keepIn K (.ref f38) = true)
  (a39 : PySem.W.nsIn K mainGlobals "part_bar" = some (some (.ref f39))) (l39 : K.lookup f39 = some ⟨oc39, od39, .func (PySem.W.fnOf "part_bar" "part_bar" (defArgs s_part_bar) (defBody s_part_bar) (defScope s_part_bar) .none kV39 dc39 pm39 an39 cd39 ct39), sl39⟩) (c39 : PySem.W.codeIn K cd39 "part_bar" = true) (k39 : PySem.W.keepIn K (.ref f39) = true)
  (a40 : PySem.W.nsIn K mainGlobals "_law_begun" = some (some (.ref f40))) (l40 : K.lookup f40 = some ⟨oc40, od40, .func (PySem.W.fnOf "_law_begun" "_law_begun" (defArgs s__law_begun) (defBody s__law_begun) (defScope s__law_begun) .none kV40 dc40 pm40 an40 cd40 ct40), sl40⟩) (c40 : PySem.W.codeIn K cd40 "_law_begun" = true) (k40 : PySem.W.keepIn K (.ref f40) = true)
  (a41 : PySem.W.nsIn K mainGlobals "_law_draw" = some (some (.ref f41))) (l41 : K.lookup f41 = some ⟨oc41, od41, .func (PySem.W.fnOf "_law_draw" "_law_draw" (defArgs s__law_draw) (defBody s__law_draw) (defScope s__law_draw) .none kV41 dc41 pm41 an41 cd41 ct41), sl41⟩) (c41 : PySem.W.codeIn K cd41 "_law_draw" = true) (k41 : PySem.W.keepIn K (.ref f41) = true)
  (a42 : PySem.W.nsIn K mainGlobals "_law_pick" = some (some (.ref f42))) (l42 : K.lookup f42 = some ⟨oc42, od42, .func (PySem.W.fnOf "_law_pick" "_law_pick" (defArgs s__law_pick) (defBody s__law_pick) (defScope s__law_pick) .none kV42 dc42 pm42 an42 cd42 ct42), sl42⟩) (c42 : PySem.W.codeIn K cd42 "_law_pick" = true) (k42 : PySem.W.keepIn K (.ref f42) = true)
  (a43 : PySem.W.nsIn K mainGlobals "_law_mixed" = some (some (.ref f43))) (l43 : K.lookup f43 = some ⟨oc43, od43, .func (PySem.W.fnOf "_law_mixed" "_law_mixed" (defArgs s__law_mixed) (defBody s__law_mixed) (defScope s__law_mixed) .none kV43 dc43 pm43 an43 cd43 ct43), sl43⟩) (c43 : PySem.W.codeIn K cd43 "_law_mixed" = true) (k43 : PySem.W.keepIn K (.ref f43) = true)
  (a44 : PySem.W.nsIn K mainGlobals "_law_is_whole" = some (some (.ref f44))) (l44 : K.lookup f44 = some ⟨oc44, od44, .func (PySem.W.fnOf "_law_is_whole" "_law_is_whole" (defArgs s__law_is_whole) (defBody s__law_is_whole) (defScope s__law_is_whole) .none kV44 dc44 pm44 an44 cd44 ct44), sl44⟩) (c44 : PySem.W.codeIn K cd44 "_law_is_whole" = true) (k44 : PySem.W.keepIn K (.ref f44) = true)
  (a45 : PySem.W.nsIn K mainGlobals "_law_places" = some (some (.ref f45))) (l45 : K.lookup f45 = some ⟨oc45, od45, .func (PySem.W.fnOf "_law_places" "_law_places" (defArgs s__law_places) (defBody s__law_places) (defScope s__law_places) .none kV45 dc45 pm45 an45 cd45 ct45), sl45⟩) (c45 : PySem.W.codeIn K cd45 "_law_places" = true) (k45 : PySem.W.keepIn K (.ref f45) = true)
  (a46 : PySem.W.nsIn K mainGlobals "_law_plus" = some (some (.ref f46))) (l46 : K.lookup f46 = some ⟨oc46, od46, .func (PySem.W.fnOf "_law_plus" "_law_plus" (defArgs s__law_plus) (defBody s__law_plus) (defScope s__law_plus) .none kV46 dc46 pm46 an46 cd46 ct46), sl46⟩) (c46 : PySem.W.codeIn K cd46 "_law_plus" = true) (k46 : PySem.W.keepIn K (.ref f46) = true)
  (a47 : PySem.W.nsIn K mainGlobals "_law_nothing" = some (some (.ref f47))) (l47 : K.lookup f47 = some ⟨oc47, od47, .func (PySem.W.fnOf "_law_nothing" "_law_nothing" (defArgs s__law_nothing) (defBody s__law_nothing) (defScope s__law_nothing) .none kV47 dc47 pm47 an47 cd47 ct47), sl47⟩) (c47 : PySem.W.codeIn K cd47 "_law_nothing" = true) (k47 : PySem.W.keepIn K (.ref f47) = true)
  (a48 : PySem.W.nsIn K mainGlobals "_law_is_place" = some (some (.ref f48))) (l48 : K.lookup f48 = some ⟨oc48, od48, .func (PySem.W.fnOf "_law_is_place" "_law_is_place" (defArgs s__law_is_place) (defBody s__law_is_place) (defScope s__law_is_place) .none kV48 dc48 pm48 an48 cd48 ct48), sl48⟩) (c48 : PySem.W.codeIn K cd48 "_law_is_place" = true) (k48 : PySem.W.keepIn K (.ref f48) = true)
  (a49 : PySem.W.nsIn K mainGlobals "_law_place" = some (some (.ref f49))) (l49 : K.lookup f49 = some ⟨oc49, od49, .func (PySem.W.fnOf "_law_place" "_law_place" (defArgs s__law_place) (defBody s__law_place) (defScope s__law_place) .none kV49 dc49 pm49 an49 cd49 ct49), sl49⟩) (c49 : PySem.W.codeIn K cd49 "_law_place" = true) (k49 : PySem.W.keepIn K (.ref f49) = true)
  (a50 : PySem.W.nsIn K mainGlobals "_law_grown_part" = some (some (.ref f50))) (l50 : K.lookup f50 = some ⟨oc50, od50, .func (PySem.W.fnOf "_law_grown_part" "_law_grown_part" (defArgs s__law_grown_part) (defBody s__law_grown_part) (defScope s__law_grown_part) .none kV50 dc50 pm50 an50 cd50 ct50), sl50⟩) (c50 : PySem.W.codeIn K cd50 "_law_grown_part" = true) (k50 : PySem.W.keepIn K (.ref f50) = true)
  (a51 : PySem.W.nsIn K mainGlobals "_law_lot" = some (some (.ref f51))) (l51 : K.lookup f51 = some ⟨oc51, od51, .func (PySem.W.fnOf "_law_lot" "_law_lot" (defArgs s__law_lot) (defBody s__law_lot) (defScope s__law_lot) .none kV51 dc51 pm51 an51 cd51 ct51), sl51⟩) (c51 : PySem.W.codeIn K cd51 "_law_lot" = true) (k51 : PySem.W.keepIn K (.ref f51) = true)
  (a52 : PySem.W.nsIn K mainGlobals "_law_lot_row" = some (some (.ref f52))) (l52 : K.lookup f52 = some ⟨oc52, od52, .func (PySem.W.fnOf "_law_lot_row" "_law_lot_row" (defArgs s__law_lot_row) (defBody s__law_lot_row) (defScope s__law_lot_row) .none kV52 dc52 pm52 an52 cd52 ct52), sl52⟩) (c52 : PySem.W.codeIn K cd52 "_law_lot_row" = true) (k52 : PySem.W.keepIn K (.ref f52) = true)
  (a53 : PySem.W.nsIn K mainGlobals "_law_seats" = some (some (.ref f53))) (l53 : K.lookup f53 = some ⟨oc53, od53, .func (PySem.W.fnOf "_law_seats" "_law_seats" (defArgs s__law_seats) (defBody s__law_seats) (defScope s__law_seats) .none kV53 dc53 pm53 an53 cd53 ct53), sl53⟩) (c53 : PySem.W.codeIn K cd53 "_law_seats" = true) (k53 : PySem.W.keepIn K (.ref f53) = true)
  (a54 : PySem.W.nsIn K mainGlobals "_law_prime_dials" = some (some (.ref f54))) (l54 : K.lookup f54 = some ⟨oc54, od54, .func (PySem.W.fnOf "_law_prime_dials" "_law_prime_dials" (defArgs s__law_prime_dials) (defBody s__law_prime_dials) (defScope s__law_prime_dials) .none kV54 dc54 pm54 an54 cd54 ct54), sl54⟩) (c54 : PySem.W.codeIn K cd54 "_law_prime_dials" = true) (k54 : PySem.W.keepIn K (.ref f54) = true)
  (a55 : PySem.W.nsIn K mainGlobals "law" = some (some (.ref f55))) (l55 : K.lookup f55 = some ⟨oc55, od55, .func (PySem.W.fnOf "law" "law" (defArgs s_law) (defBody s_law) (defScope s_law) .none kV55 dc55 pm55 an55 cd55 ct55), sl55⟩) (c55 : PySem.W.codeIn K cd55 "law" = true) (k55 : PySem.W.keepIn K (.ref f55) = true)
  (z_len : PySem.W.nsIn K mainGlobals "len" = some none)
  (z_zip : PySem.W.nsIn K mainGlobals "zip" = some none)
  (z_tuple : PySem.W.nsIn K mainGlobals "tuple" = some none)
  (z_list : PySem.W.nsIn K mainGlobals "list" = some none)
  (z_range : PySem.W.nsIn K mainGlobals "range" = some none)
  (z_all : PySem.W.nsIn K mainGlobals "all" = some none)
  (z_int : PySem.W.nsIn K mainGlobals "int" = some none)
  (z_bool : PySem.W.nsIn K mainGlobals "bool" = some none)
  (z_isinstance : PySem.W.nsIn K mainGlobals "isinstance" = some none)
  (z_abs : PySem.W.nsIn K mainGlobals "abs" = some none)
  (z_min : PySem.W.nsIn K mainGlobals "min" = some none)
  (z_repr : PySem.W.nsIn K mainGlobals "repr" = some none)
  (z_sorted : PySem.W.nsIn K mainGlobals "sorted" = some none)
  (z_set : PySem.W.nsIn K mainGlobals "set" = some none)
  (z_enumerate : PySem.W.nsIn K mainGlobals "enumerate" = some none)
  (ac1 : PySem.W.nsIn K mainGlobals "BadDials" = some (some (.ref C1)))
  (kc1 : PySem.W.keepIn K (.ref C1) = true)
  (xc1 : PySem.W.excIn K C1 [.type "ValueError", .type "Exception", .type "BaseException", .type "object"] "ValueError.__new__" = true)
  (bc1 : PySem.W.subIn K (.ref C1) (.type "BaseException") = some true)
  (tc1 : PySem.W.typeIn K (.ref C1) = some (.type "type"))
  (ac2 : PySem.W.nsIn K mainGlobals "BadLot" = some (some (.ref C2)))
  (kc2 : PySem.W.keepIn K (.ref C2) = true)
  (xc2 : PySem.W.excIn K C2 [.type "ValueError", .type "Exception", .type "BaseException", .type "object"] "ValueError.__new__" = true)
  (bc2 : PySem.W.subIn K (.ref C2) (.type "BaseException") = some true)
  (tc2 : PySem.W.typeIn K (.ref C2) = some (.type "type"))
  (ac3 : PySem.W.nsIn K mainGlobals "BadRow" = some (some (.ref C3)))
  (kc3 : PySem.W.keepIn K (.ref C3) = true)
  (xc3 : PySem.W.excIn K C3 [.type "ValueError", .type "Exception", .type "BaseException", .type "object"] "ValueError.__new__" = true)
  (bc3 : PySem.W.subIn K (.ref C3) (.type "BaseException") = some true)
  (tc3 : PySem.W.typeIn K (.ref C3) = some (.type "type"))
  : ∀ base : Heap, K.In base → base.Ns mainGlobals mg → (∃ o, base.get? sysModules = some o) → ∀ (s : Shared) (H : Hp) (a : Addr) (ns : List Int), ns.length ≤ 63 → Env0 P w K mg base callerA [] s H → SqL K H a (ns.map V.int) →
        codeAny (model P w) callerA (.call (.ref fa) ⟨[.ref a], []⟩) (CR CX0 [] P w H s (fun v _ => v = .bl true) fun _ _ _ => False) s := by
  intro base kb gb hsy s H a ns hl e0 hS
  have Z : Zs mg := ⟨PySem.W.mg_none_of KX G z_len, PySem.W.mg_none_of KX G z_zip, PySem.W.mg_none_of KX G z_tuple, PySem.W.mg_none_of KX G z_list, PySem.W.mg_none_of KX G z_range, PySem.W.mg_none_of KX G z_all, PySem.W.mg_none_of KX G z_int, PySem.W.mg_none_of KX G z_bool, PySem.W.mg_none_of KX G z_isinstance, PySem.W.mg_none_of KX G z_abs, PySem.W.mg_none_of KX G z_min, PySem.W.mg_none_of KX G z_repr⟩
  have Z_sorted := PySem.W.mg_none_of KX G z_sorted
  have Z_set := PySem.W.mg_none_of KX G z_set
  have Z_enumerate := PySem.W.mg_none_of KX G z_enumerate
  obtain ⟨ad, had⟩ : ∃ ad : Str → Addr, ad = fun x => (([("BadDials", C1), ("BadLot", C2), ("BadRow", C3)] : List (Str × Addr)).lookup x).getD 0 := ⟨_, rfl⟩
  have ad1 : ad "BadDials" = C1 := by rw [had]; rfl
  have B_BadDials : ExcC K mg "BadDials" (ad "BadDials") := by rw [ad1]; exact ⟨xc1, PySem.W.mg_of KX G ac1, kc1, bc1, tc1⟩
  have ad2 : ad "BadLot" = C2 := by rw [had]; rfl
  have B_BadLot : ExcC K mg "BadLot" (ad "BadLot") := by rw [ad2]; exact ⟨xc2, PySem.W.mg_of KX G ac2, kc2, bc2, tc2⟩
  have ad3 : ad "BadRow" = C3 := by rw [had]; rfl
  have B_BadRow : ExcC K mg "BadRow" (ad "BadRow") := by rw [ad3]; exact ⟨xc3, PySem.W.mg_of KX G ac3, kc3, bc3, tc3⟩
  have F0 := fun_mk (x := "place_count") (qual := "place_count") (st := s_place_count) l0 c0 k0
  have C_place_count : Cal P w K mg base CX0 1 "place_count" ["dials"] (SpF ad f_place_count) := ⟨f0, _, ok_place_count F0, PySem.W.mg_of KX G a0, k0, F0.binds (fun _ _ _ _ _ _ us hl => match us, hl with | [_], _ => rfl)⟩
  have F1 := fun_mk (x := "all_places") (qual := "all_places") (st := s_all_places) l1 c1 k1
  have C_all_places : Cal P w K mg base CX0 1 "all_places" ["dials"] (SpF ad f_all_places) := ⟨f1, _, ok_all_places F1, PySem.W.mg_of KX G a1, k1, F1.binds (fun _ _ _ _ _ _ us hl => match us, hl with | [_], _ => rfl)⟩
  have F2 := fun_mk (x := "nothing_of") (qual := "nothing_of") (st := s_nothing_of) l2 c2 k2
  have C_nothing_of : Cal P w K mg base CX0 1 "nothing_of" ["dials"] (SpF ad f_nothing_of) := ⟨f2, _, ok_nothing_of Z F2, PySem.W.mg_of KX G a2, k2, F2.binds (fun _ _ _ _ _ _ us hl => match us, hl with | [_], _ => rfl)⟩
  have F3 := fun_mk (x := "add") (qual := "add") (st := s_add) l3 c3 k3
  have C_add : Cal P w K mg base CX0 1 "add" ["dials", "one", "other"] (SpF ad f_add) := ⟨f3, _, ok_add Z F3, PySem.W.mg_of KX G a3, k3, F3.binds (fun _ _ _ _ _ _ us hl => match us, hl with | [_, _, _], _ => rfl)⟩
  have F4 := fun_mk (x := "take_off") (qual := "take_off") (st := s_take_off) l4 c4 k4
  have C_take_off : Cal P w K mg base CX0 1 "take_off" ["dials", "one", "other"] (SpF ad f_take_off) := ⟨f4, _, ok_take_off Z F4, PySem.W.mg_of KX G a4, k4, F4.binds (fun _ _ _ _ _ _ us hl => match us, hl with | [_, _, _], _ => rfl)⟩
  have F5 := fun_mk (x := "add_up") (qual := "add_up") (st := s_add_up) l5 c5 k5
  have C_add_up : Cal P w K mg base CX0 2 "add_up" ["dials", "several"] (SpF ad f_add_up) := ⟨f5, _, ok_add_up C_nothing_of C_add F5, PySem.W.mg_of KX G a5, k5, F5.binds (fun _ _ _ _ _ _ us hl => match us, hl with | [_, _], _ => rfl)⟩
  have F6 := fun_mk (x := "multiply") (qual := "multiply") (st := s_multiply) l6 c6 k6
  have C_multiply : Cal P w K mg base CX0 1 "multiply" ["dials", "place", "number"] (SpF ad f_multiply) := ⟨f6, _, ok_multiply Z F6, PySem.W.mg_of KX G a6, k6, F6.binds (fun _ _ _ _ _ _ us hl => match us, hl with | [_, _, _], _ => rfl)⟩
  have F7 := fun_mk (x := "moves_to") (qual := "moves_to") (st := s_moves_to) l7 c7 k7
  have C_moves_to : Cal P w K mg base CX0 2 "moves_to" ["dials", "goals"] (SpF ad f_moves_to) := ⟨f7, _, ok_moves_to F7, PySem.W.mg_of KX G a7, k7, F7.binds (fun _ _ _ _ _ _ us hl => match us, hl with | [_, _], _ => rfl)⟩
  have F8 := fun_mk (x := "is_number") (qual := "is_number") (st := s_is_number) l8 c8 k8
  have C_is_number : Cal P w K mg base CX0 1 "is_number" ["thing"] (SpF ad f_is_number) := ⟨f8, _, ok_is_number Z F8, PySem.W.mg_of KX G a8, k8, F8.binds (fun _ _ _ _ _ _ us hl => match us, hl with | [_], _ => rfl)⟩
  have F9 := fun_mk (x := "is_between") (qual := "is_between") (st := s_is_between) l9 c9 k9
  have C_is_between : Cal P w K mg base CX0 2 "is_between" ["thing", "low", "high"] (SpF ad f_is_between) := ⟨f9, _, ok_is_between C_is_number F9, PySem.W.mg_of KX G a9, k9, F9.binds (fun _ _ _ _ _ _ us hl => match us, hl with | [_, _, _], _ => rfl)⟩
  have F10 := fun_mk (x := "is_listed") (qual := "is_listed") (st := s_is_listed) l10 c10 k10
  have C_is_listed : Cal P w K mg base CX0 1 "is_listed" ["thing"] (SpF ad f_is_listed) := ⟨f10, _, ok_is_listed Z F10, PySem.W.mg_of KX G a10, k10, F10.binds (fun _ _ _ _ _ _ us hl => match us, hl with | [_], _ => rfl)⟩
  have F11 := fun_mk (x := "is_tuple_of") (qual := "is_tuple_of") (st := s_is_tuple_of) l11 c11 k11
  have C_is_tuple_of : Cal P w K mg base CX0 1 "is_tuple_of" ["thing", "many"] (SpF ad f_is_tuple_of) := ⟨f11, _, ok_is_tuple_of Z F11, PySem.W.mg_of KX G a11, k11, F11.binds (fun _ _ _ _ _ _ us hl => match us, hl with | [_, _], _ => rfl)⟩
  have F12 := fun_mk (x := "is_ascending") (qual := "is_ascending") (st := s_is_ascending) l12 c12 k12
  have C_is_ascending : Cal P w K mg base CX0 1 "is_ascending" ["items"] (SpF ad f_is_ascending) := ⟨f12, _, ok_is_ascending Z F12, PySem.W.mg_of KX G a12, k12, F12.binds (fun _ _ _ _ _ _ us hl => match us, hl with | [_], _ => rfl)⟩
  have F13 := fun_mk (x := "is_rising") (qual := "is_rising") (st := s_is_rising) l13 c13 k13
  have C_is_rising : Cal P w K mg base CX0 1 "is_rising" ["items"] (SpF ad f_is_rising) := ⟨f13, _, ok_is_rising Z F13, PySem.W.mg_of KX G a13, k13, F13.binds (fun _ _ _ _ _ _ us hl => match us, hl with | [_], _ => rfl)⟩
  have F14 := fun_mk (x := "is_dials") (qual := "is_dials") (st := s_is_dials) l14 c14 k14
  have C_is_dials : Cal P w K mg base CX0 3 "is_dials" ["thing"] (SpF ad f_is_dials) := ⟨f14, _, ok_is_dials Z C_place_count C_is_between F14, PySem.W.mg_of KX G a14, k14, F14.binds (fun _ _ _ _ _ _ us hl => match us, hl with | [_], _ => rfl)⟩
  have F15 := fun_mk (x := "is_place") (qual := "is_place") (st := s_is_place) l15 c15 k15
  have C_is_place : Cal P w K mg base CX0 3 "is_place" ["dials", "thing"] (SpF ad f_is_place) := ⟨f15, _, ok_is_place Z C_is_tuple_of C_is_between F15, PySem.W.mg_of KX G a15, k15, F15.binds (fun _ _ _ _ _ _ us hl => match us, hl with | [_, _], _ => rfl)⟩
  have F16 := fun_mk (x := "are_places") (qual := "are_places") (st := s_are_places) l16 c16 k16
  have C_are_places : Cal P w K mg base CX0 4 "are_places" ["dials", "thing"] (SpF ad f_are_places) := ⟨f16, _, ok_are_places Z C_is_listed C_is_place F16, PySem.W.mg_of KX G a16, k16, F16.binds (fun _ _ _ _ _ _ us hl => match us, hl with | [_, _], _ => rfl)⟩
  have F17 := fun_mk (x := "is_part_of_dials") (qual := "is_part_of_dials") (st := s_is_part_of_dials) l17 c17 k17
  have C_is_part_of_dials : Cal P w K mg base CX0 5 "is_part_of_dials" ["dials", "thing"] (SpF ad f_is_part_of_dials) := ⟨f17, _, ok_is_part_of_dials Z C_are_places C_is_rising C_nothing_of C_add F17, PySem.W.mg_of KX G a17, k17, F17.binds (fun _ _ _ _ _ _ us hl => match us, hl with | [_, _], _ => rfl)⟩
  have F18 := fun_mk (x := "check_dials") (qual := "check_dials") (st := s_check_dials) l18 c18 k18
  have C_check_dials : Cal P w K mg base (L2.CX P w) 4 "check_dials" ["dials"] (SpF ad f_check_dials) := ⟨f18, _, ok_check_dials B_BadDials C_is_dials F18, PySem.W.mg_of KX G a18, k18, F18.binds (fun _ _ _ _ _ _ us hl => match us, hl with | [_], _ => rfl)⟩
  have F19 := fun_mk (x := "pass_on") (qual := "pass_on") (st := s_pass_on) l19 c19 k19
  have C_pass_on : Cal P w K mg base CX0 2 "pass_on" ["dials", "begun", "first", "second", "move"] (SpF ad fz_pass_on) := ⟨f19, _, ok_pass_on F19, PySem.W.mg_of KX G a19, k19, F19.binds (fun _ _ _ _ _ _ us hl => match us, hl with | [_, _, _, _, _], _ => rfl)⟩
  have F20 := fun_mk (x := "finished") (qual := "finished") (st := s_finished) l20 c20 k20
  have C_finished : Cal P w K mg base CX0 3 "finished" ["dials", "held"] (SpF ad f_finished) := ⟨f20, _, ok_finished F20, PySem.W.mg_of KX G a20, k20, F20.binds (fun _ _ _ _ _ _ us hl => match us, hl with | [_, _], _ => rfl)⟩
  have F21 := fun_mk (x := "hand_all") (qual := "hand_all") (st := s_hand_all) l21 c21 k21
  have C_hand_all : Cal P w K mg base CX0 3 "hand_all" ["dials", "persons", "moves"] (SpF ad f_hand_all) := ⟨f21, _, ok_hand_all F21, PySem.W.mg_of KX G a21, k21, F21.binds (fun _ _ _ _ _ _ us hl => match us, hl with | [_, _, _], _ => rfl)⟩
  have F22 := fun_mk (x := "deal") (qual := "deal") (st := s_deal) l22 c22 k22
  have C_deal : Cal P w K mg base CX0 4 "deal" ["dials", "row"] (SpF ad f_deal) := ⟨f22, _, ok_deal F22, PySem.W.mg_of KX G a22, k22, F22.binds (fun _ _ _ _ _ _ us hl => match us, hl with | [_, _], _ => rfl)⟩
  have F23 := fun_mk (x := "with_next") (qual := "with_next") (st := s_with_next) l23 c23 k23
  have C_with_next : Cal P w K mg base CX0 1 "with_next" ["begun", "goals", "limits"] (SpF ad f_with_next) := ⟨f23, _, ok_with_next F23, PySem.W.mg_of KX G a23, k23, F23.binds (fun _ _ _ _ _ _ us hl => match us, hl with | [_, _, _], _ => rfl)⟩
  have F24 := fun_mk (x := "list_dealt") (qual := "list_dealt") (st := s_list_dealt) l24 c24 k24
  have C_list_dealt : Cal P w K mg base CX0 2 "list_dealt" ["ends_of", "row"] (SpF ad f_list_dealt) := ⟨f24, _, ok_list_dealt C_with_next F24, PySem.W.mg_of KX G a24, k24, F24.binds (fun _ _ _ _ _ _ us hl => match us, hl with | [_, _], _ => rfl)⟩
  have F25 := fun_mk (x := "first_dealt") (qual := "first_dealt") (st := s_first_dealt) l25 c25 k25
  have C_first_dealt : Cal P w K mg base CX0 11 "first_dealt" ["ends_of", "left", "taken"] (SpF ad f_first_dealt) := ⟨f25, _, ok_first_dealt Z_enumerate (PySem.W.mg_of KX G a25) k25 (F25.binds (fun _ _ _ _ _ _ us hl => match us, hl with | [_, _, _], _ => rfl)) F25, PySem.W.mg_of KX G a25, k25, F25.binds (fun _ _ _ _ _ _ us hl => match us, hl with | [_, _, _], _ => rfl)⟩
  have F26 := fun_mk (x := "list_ends") (qual := "list_ends") (st := s_list_ends) l26 c26 k26
  have C_list_ends : Cal P w K mg base CX0 2 "list_ends" ["dials", "persons", "row"] (SpF ad f_list_ends) := ⟨f26, _, ok_list_ends C_add F26, PySem.W.mg_of KX G a26, k26, F26.binds (fun _ _ _ _ _ _ us hl => match us, hl with | [_, _, _], _ => rfl)⟩
  have F27 := fun_mk (x := "is_lot_of") (qual := "is_lot_of") (st := s_is_lot_of) l27 c27 k27
  have C_is_lot_of : Cal P w K mg base CX0 5 "is_lot_of" ["dials", "thing"] (SpF ad f_is_lot_of) := ⟨f27, _, ok_is_lot_of Z C_are_places C_is_rising F27, PySem.W.mg_of KX G a27, k27, F27.binds (fun _ _ _ _ _ _ us hl => match us, hl with | [_, _], _ => rfl)⟩
  have F28 := fun_mk (x := "check_lot") (qual := "check_lot") (st := s_check_lot) l28 c28 k28
  have C_check_lot : Cal P w K mg base (L2.CX P w) 6 "check_lot" ["dials", "lot"] (SpF ad f_check_lot) := ⟨f28, _, ok_check_lot B_BadLot C_is_lot_of F28, PySem.W.mg_of KX G a28, k28, F28.binds (fun _ _ _ _ _ _ us hl => match us, hl with | [_, _], _ => rfl)⟩
  have F29 := fun_mk (x := "is_row_for") (qual := "is_row_for") (st := s_is_row_for) l29 c29 k29
  have C_is_row_for : Cal P w K mg base CX0 5 "is_row_for" ["dials", "lot", "thing"] (SpF ad f_is_row_for) := ⟨f29, _, ok_is_row_for Z C_is_tuple_of C_are_places C_is_ascending F29, PySem.W.mg_of KX G a29, k29, F29.binds (fun _ _ _ _ _ _ us hl => match us, hl with | [_, _, _], _ => rfl)⟩
  have F30 := fun_mk (x := "check_lot_row") (qual := "check_lot_row") (st := s_check_lot_row) l30 c30 k30
  have C_check_lot_row : Cal P w K mg base (L2.CX P w) 6 "check_lot_row" ["dials", "lot", "row"] (SpF ad f_check_lot_row) := ⟨f30, _, ok_check_lot_row B_BadRow C_is_row_for F30, PySem.W.mg_of KX G a30, k30, F30.binds (fun _ _ _ _ _ _ us hl => match us, hl with | [_, _, _], _ => rfl)⟩
  have F31 := fun_mk (x := "check_lot_most") (qual := "check_lot_most") (st := s_check_lot_most) l31 c31 k31
  have C_check_lot_most : Cal P w K mg base (L2.CX P w) 1 "check_lot_most" ["lot", "most"] (SpF ad f_check_lot_most) := ⟨f31, _, ok_check_lot_most Z F31, PySem.W.mg_of KX G a31, k31, F31.binds (fun _ _ _ _ _ _ us hl => match us, hl with | [_, _], _ => rfl)⟩
  have F32 := fun_mk (x := "has_all_places") (qual := "has_all_places") (st := s_has_all_places) l32 c32 k32
  have C_has_all_places : Cal P w K mg base CX0 2 "has_all_places" ["dials", "lot"] (SpF ad f_has_all_places) := ⟨f32, _, ok_has_all_places Z C_place_count F32, PySem.W.mg_of KX G a32, k32, F32.binds (fun _ _ _ _ _ _ us hl => match us, hl with | [_, _], _ => rfl)⟩
  have F33 := fun_mk (x := "check_lot_or_all") (qual := "check_lot_or_all") (st := s_check_lot_or_all) l33 c33 k33
  have C_check_lot_or_all : Cal P w K mg base (L2.CX P w) 3 "check_lot_or_all" ["dials", "lot", "most"] (SpF ad f_check_lot_or_all) := ⟨f33, _, ok_check_lot_or_all C_has_all_places C_check_lot_most F33, PySem.W.mg_of KX G a33, k33, F33.binds (fun _ _ _ _ _ _ us hl => match us, hl with | [_, _, _], _ => rfl)⟩
  have F34 := fun_mk (x := "find_part_bar") (qual := "find_part_bar") (st := s_find_part_bar) l34 c34 k34
  have C_find_part_bar : Cal P w K mg base CX0 6 "find_part_bar" ["dials", "lot", "row"] (SpF ad f_find_part_bar) := ⟨f34, _, ok_find_part_bar Z Z_sorted C_is_part_of_dials C_add_up C_multiply C_take_off F34, PySem.W.mg_of KX G a34, k34, F34.binds (fun _ _ _ _ _ _ us hl => match us, hl with | [_, _, _], _ => rfl)⟩
  have F35 := fun_mk (x := "find_seating") (qual := "find_seating") (st := s_find_seating) l35 c35 k35
  have C_find_seating : Cal P w K mg base CX0 12 "find_seating" ["dials", "lot", "row"] (SpF ad f_find_seating) := ⟨f35, _, ok_find_seating C_has_all_places C_first_dealt C_deal C_find_part_bar C_list_ends F35, PySem.W.mg_of KX G a35, k35, F35.binds (fun _ _ _ _ _ _ us hl => match us, hl with | [_, _, _], _ => rfl)⟩
  have F36 := fun_mk (x := "seating") (qual := "seating") (st := s_seating) l36 c36 k36
  have C_seating : Cal P w K mg base (L2.CX P w) 13 "seating" ["dials", "lot", "row"] (SpF ad f_seating) := ⟨f36, _, ok_seating C_check_dials C_check_lot C_check_lot_row C_check_lot_or_all C_find_seating F36, PySem.W.mg_of KX G a36, k36, F36.binds (fun _ _ _ _ _ _ us hl => match us, hl with | [_, _, _], _ => rfl)⟩
  have F37 := fun_mk (x := "list_seatings") (qual := "list_seatings") (st := s_list_seatings) l37 c37 k37
  have C_list_seatings : Cal P w K mg base CX0 3 "list_seatings" ["dials", "lot", "row"] (SpF ad f_list_seatings) := ⟨f37, _, ok_list_seatings C_list_dealt C_list_ends F37, PySem.W.mg_of KX G a37, k37, F37.binds (fun _ _ _ _ _ _ us hl => match us, hl with | [_, _, _], _ => rfl)⟩
  have F38 := fun_mk (x := "seatings_many") (qual := "seatings_many") (st := s_seatings_many) l38 c38 k38
  have C_seatings_many : Cal P w K mg base (L2.CX P w) 7 "seatings_many" ["dials", "lot", "row"] (SpF ad f_seatings_many) := ⟨f38, _, ok_seatings_many Z C_check_dials C_check_lot C_check_lot_row C_check_lot_most C_list_seatings F38, PySem.W.mg_of KX G a38, k38, F38.binds (fun _ _ _ _ _ _ us hl => match us, hl with | [_, _, _], _ => rfl)⟩
  have F39 := fun_mk (x := "part_bar") (qual := "part_bar") (st := s_part_bar) l39 c39 k39
  have C_part_bar : Cal P w K mg base (L2.CX P w) 7 "part_bar" ["dials", "lot", "row"] (SpF ad f_part_bar) := ⟨f39, _, ok_part_bar C_check_dials C_check_lot C_check_lot_row C_find_part_bar F39, PySem.W.mg_of KX G a39, k39, F39.binds (fun _ _ _ _ _ _ us hl => match us, hl with | [_, _, _], _ => rfl)⟩
  have F40 := fun_mk (x := "_law_begun") (qual := "_law_begun") (st := s__law_begun) l40 c40 k40
  have C__law_begun : Cal P w K mg base CX0 1 "_law_begun" ["script"] (SpBegun K) := ⟨f40, _, ok__law_begun Z F40, PySem.W.mg_of KX G a40, k40, F40.binds (fun _ _ _ _ _ _ us hl => match us, hl with | [_], _ => rfl)⟩
  have F41 := fun_mk (x := "_law_draw") (qual := "_law_draw") (st := s__law_draw) l41 c41 k41
  have D__law_draw : Cal P w K mg base CX0 1 "_law_draw" ["state", "size_here"] SpDraw := ⟨f41, _, ok__law_draw Z F41, PySem.W.mg_of KX G a41, k41, F41.binds (fun _ _ _ _ _ _ us hl => match us, hl with | [_, _], _ => rfl)⟩
  have C__law_draw : Cal P w K mg base CX0 1 "_law_draw" ["state", "size_here"] (SpW [] W__law_draw) := ⟨f41, _, (ok__law_draw Z F41).imp pri_draw, PySem.W.mg_of KX G a41, k41, F41.binds (fun _ _ _ _ _ _ us hl => match us, hl with | [_, _], _ => rfl)⟩
  have F42 := fun_mk (x := "_law_pick") (qual := "_law_pick") (st := s__law_pick) l42 c42 k42
  have C__law_pick : Cal P w K mg base CX0 2 "_law_pick" ["state", "several"] (SpW [] W__law_pick) := ⟨f42, _, ok__law_pick Z C__law_draw F42, PySem.W.mg_of KX G a42, k42, F42.binds (fun _ _ _ _ _ _ us hl => match us, hl with | [_, _], _ => rfl)⟩
  have F43 := fun_mk (x := "_law_mixed") (qual := "_law_mixed") (st := s__law_mixed) l43 c43 k43
  have C__law_mixed : Cal P w K mg base CX0 2 "_law_mixed" ["state", "several"] (SpW [] W__law_mixed) := ⟨f43, _, (ok__law_mixed Z D__law_draw F43).imp pri_mixed, PySem.W.mg_of KX G a43, k43, F43.binds (fun _ _ _ _ _ _ us hl => match us, hl with | [_, _], _ => rfl)⟩
  have F44 := fun_mk (x := "_law_is_whole") (qual := "_law_is_whole") (st := s__law_is_whole) l44 c44 k44
  have C__law_is_whole : Cal P w K mg base CX0 1 "_law_is_whole" ["item"] (SpF ad f__law_is_whole) := ⟨f44, _, ok__law_is_whole Z F44, PySem.W.mg_of KX G a44, k44, F44.binds (fun _ _ _ _ _ _ us hl => match us, hl with | [_], _ => rfl)⟩
  have F45 := fun_mk (x := "_law_places") (qual := "_law_places") (st := s__law_places) l45 c45 k45
  have C__law_places : Cal P w K mg base CX0 1 "_law_places" ["dials_here"] (SpF ad f__law_places) := ⟨f45, _, ok__law_places Z F45, PySem.W.mg_of KX G a45, k45, F45.binds (fun _ _ _ _ _ _ us hl => match us, hl with | [_], _ => rfl)⟩
  have F46 := fun_mk (x := "_law_plus") (qual := "_law_plus") (st := s__law_plus) l46 c46 k46
  have C__law_plus : Cal P w K mg base CX0 1 "_law_plus" ["dials_here", "one", "other"] (SpF ad f__law_plus) := ⟨f46, _, ok__law_plus Z F46, PySem.W.mg_of KX G a46, k46, F46.binds (fun _ _ _ _ _ _ us hl => match us, hl with | [_, _, _], _ => rfl)⟩
  have F47 := fun_mk (x := "_law_nothing") (qual := "_law_nothing") (st := s__law_nothing) l47 c47 k47
  have C__law_nothing : Cal P w K mg base CX0 1 "_law_nothing" ["dials_here"] (SpF ad f__law_nothing) := ⟨f47, _, ok__law_nothing Z F47, PySem.W.mg_of KX G a47, k47, F47.binds (fun _ _ _ _ _ _ us hl => match us, hl with | [_], _ => rfl)⟩
  have F48 := fun_mk (x := "_law_is_place") (qual := "_law_is_place") (st := s__law_is_place) l48 c48 k48
  have C__law_is_place : Cal P w K mg base CX0 2 "_law_is_place" ["dials_here", "item"] (SpF ad f__law_is_place) := ⟨f48, _, ok__law_is_place Z C__law_is_whole F48, PySem.W.mg_of KX G a48, k48, F48.binds (fun _ _ _ _ _ _ us hl => match us, hl with | [_, _], _ => rfl)⟩
  have F49 := fun_mk (x := "_law_place") (qual := "_law_place") (st := s__law_place) l49 c49 k49
  have C__law_place : Cal P w K mg base CX0 2 "_law_place" ["state", "dials_here"] (SpW [] W__law_place) := ⟨f49, _, ok__law_place Z C__law_draw F49, PySem.W.mg_of KX G a49, k49, F49.binds (fun _ _ _ _ _ _ us hl => match us, hl with | [_, _], _ => rfl)⟩
  have F50 := fun_mk (x := "_law_grown_part") (qual := "_law_grown_part") (st := s__law_grown_part) l50 c50 k50
  have C__law_grown_part : Cal P w K mg base CX0 2 "_law_grown_part" ["dials_here", "several"] (SpF ad f__law_grown_part) := ⟨f50, _, ok__law_grown_part Z Z_sorted C__law_nothing C__law_plus F50, PySem.W.mg_of KX G a50, k50, F50.binds (fun _ _ _ _ _ _ us hl => match us, hl with | [_, _], _ => rfl)⟩
  have F51 := fun_mk (x := "_law_lot") (qual := "_law_lot") (st := s__law_lot) l51 c51 k51
  have C__law_lot : Cal P w K mg base CX0 3 "_law_lot" ["state", "dials_here", "most"] (SpW [] W__law_lot) := ⟨f51, _, ok__law_lot Z Z_sorted C__law_place C__law_places C__law_draw C__law_grown_part C__law_plus C__law_mixed F51, PySem.W.mg_of KX G a51, k51, F51.binds (fun _ _ _ _ _ _ us hl => match us, hl with | [_, _, _], _ => rfl)⟩
  have F52 := fun_mk (x := "_law_lot_row") (qual := "_law_lot_row") (st := s__law_lot_row) l52 c52 k52
  have C__law_lot_row : Cal P w K mg base CX0 3 "_law_lot_row" ["state", "dials_here", "many"] (SpW [] W__law_lot_row) := ⟨f52, _, ok__law_lot_row Z Z_sorted C__law_places C__law_draw C__law_mixed C__law_grown_part C__law_place C__law_plus C__law_pick F52, PySem.W.mg_of KX G a52, k52, F52.binds (fun _ _ _ _ _ _ us hl => match us, hl with | [_, _, _], _ => rfl)⟩
  have F53 := fun_mk (x := "_law_seats") (qual := "_law_seats") (st := s__law_seats) l53 c53 k53
  have C__law_seats : Cal P w K mg base CX0 3 "_law_seats" ["dials_here", "lot", "row", "thing"] (SpF ad f__law_seats) := ⟨f53, _, ok__law_seats Z Z_sorted Z_set C__law_plus C__law_is_place F53, PySem.W.mg_of KX G a53, k53, F53.binds (fun _ _ _ _ _ _ us hl => match us, hl with | [_, _, _, _], _ => rfl)⟩
  have F54 := fun_mk (x := "_law_prime_dials") (qual := "_law_prime_dials") (st := s__law_prime_dials) l54 c54 k54
  have C__law_prime_dials : Cal P w K mg base CX0 3 "_law_prime_dials" ["state", "most"] (SpW [] W__law_prime_dials) := ⟨f54, _, ok__law_prime_dials C__law_pick F54, PySem.W.mg_of KX G a54, k54, F54.binds (fun _ _ _ _ _ _ us hl => match us, hl with | [_, _], _ => rfl)⟩
  have mgL := PySem.W.mg_of KX G a55
  rw [hfa] at mgL
  cases mgL
  exact law_run (TL := []) Z Z_sorted C__law_prime_dials C__law_lot C__law_lot_row C__law_draw C__law_seats C_part_bar C_seating C_seatings_many C__law_mixed C__law_places C__law_begun l55 c55 e0 (.of_eq rfl) rfl ⟨rfl, by decide, by decide⟩ hS hl (fun p hp => absurd hp List.not_mem_nil) (fun s => law_math a ns.length hl s) fun _ => rfl
end Mv
open PySem PyProof.Rows PySem.W
set_option maxRecDepth 99999 in
set_option maxHeartbeats 0 in
theorem PySem.Challenge.cw_movedround_k65_whole_fewer_than_a_prime_holds : PySem.Challenge.rw_movedround_k65_whole_fewer_than_a_prime.Holds := by
  w_on; o_law; k_head; (case hw => w_witness2)
  k_fill
  refine Mv.walk_atS (n := 63) rfl (by decide) rfl (fun w h Y => PySem.W.kIn_of Y) (by decide +kernel) ?F
  case F =>
    intro w mg fa h Y KX G hmg
    refine' Mv.all_mk KX G hmg ?a0 ?l0 ?c0 ?k0 ?a1 ?l1 ?c1 ?k1 ?a2 ?l2 ?c2 ?k2 ?a3 ?l3 ?c3 ?k3 ?a4 ?l4 ?c4 ?k4 ?a5 ?l5 ?c5 ?k5 ?a6 ?l6 ?c6 ?k6 ?a7 ?l7 ?c7 ?k7 ?a8 ?l8 ?c8 ?k8 ?a9 ?l9 ?c9 ?k9 ?a10 ?l10 ?c10 ?k10 ?a11 ?l11 ?c11 ?k11 ?a12 ?l12 ?c12 ?k12 ?a13 ?l13 ?c13 ?k13 ?a14 ?l14 ?c14 ?k14 ?a15 ?l15 ?c15 ?k15 ?a16 ?l16 ?c16 ?k16 ?a17 ?l17 ?c17 ?k17 ?a18 ?l18 ?c18 ?k18 ?a19 ?l19 ?c19 ?k19 ?a20 ?l20 ?c20 ?k20 ?a21 ?l21 ?c21 ?k21 ?a22 ?l22 ?c22 ?k22 ?a23 ?l23 ?c23 ?k23 ?a24 ?l24 ?c24 ?k24 ?a25 ?l25 ?c25 ?k25 ?a26 ?l26 ?c26 ?k26 ?a27 ?l27 ?c27 ?k27 ?a28 ?l28 ?c28 ?k28 ?a29 ?l29 ?c29 ?k29 ?a30 ?l30 ?c30 ?k30 ?a31 ?l31 ?c31 ?k31 ?a32 ?l32 ?c32 ?k32 ?a33 ?l33 ?c33 ?k33 ?a34 ?l34 ?c34 ?k34 ?a35 ?l35 ?c35 ?k35 ?a36 ?l36 ?c36 ?k36 ?a37 ?l37 ?c37 ?k37 ?a38 ?l38 ?c38 ?k38 ?a39 ?l39 ?c39 ?k39 ?a40 ?l40 ?c40 ?k40 ?a41 ?l41 ?c41 ?k41 ?a42 ?l42 ?c42 ?k42 ?a43 ?l43 ?c43 ?k43 ?a44 ?l44 ?c44 ?k44 ?a45 ?l45 ?c45 ?k45 ?a46 ?l46 ?c46 ?k46 ?a47 ?l47 ?c47 ?k47 ?a48 ?l48 ?c48 ?k48 ?a49 ?l49 ?c49 ?k49 ?a50 ?l50 ?c50 ?k50 ?a51 ?l51 ?c51 ?k51 ?a52 ?l52 ?c52 ?k52 ?a53 ?l53 ?c53 ?k53 ?a54 ?l54 ?c54 ?k54 ?a55 ?l55 ?c55 ?k55 ?z_len ?z_zip ?z_tuple ?z_list ?z_range ?z_all ?z_int ?z_bool ?z_isinstance ?z_abs ?z_min ?z_repr ?z_sorted ?z_set ?z_enumerate ?ac1 ?kc1 ?xc1 ?bc1 ?tc1 ?ac2 ?kc2 ?xc2 ?bc2 ?tc2 ?ac3 ?kc3 ?xc3 ?bc3 ?tc3
    (case a0 => k_is)
    (case l0 => k_is)
    (case c0 => k_is)
    (case k0 => k_is)
    (case a1 => k_is)
    (case l1 => k_is)
    (case c1 => k_is)
    (case k1 => k_is)
    (case a2 => k_is)
    (case l2 => k_is)
    (case c2 => k_is)
    (case k2 => k_is)
    (case a3 => k_is)
    (case l3 => k_is)
    (case c3 => k_is)
    (case k3 => k_is)
    (case a4 => k_is)
    (case l4 => k_is)
    (case c4 => k_is)
    (case k4 => k_is)
    (case a5 => k_is)
    (case l5 => k_is)
    (case c5 => k_is)
    (case k5 => k_is)
    (case a6 => k_is)
    (case l6 => k_is)
    (case c6 => k_is)
    (case k6 => k_is)
    (case a7 => k_is)
    (case l7 => k_is)
    (case c7 => k_is)
    (case k7 => k_is)
    (case a8 => k_is)
    (case l8 => k_is)
    (case c8 => k_is)
    (case k8 => k_is)
    (case a9 => k_is)
    (case l9 => k_is)
    (case c9 => k_is)
    (case k9 => k_is)
    (case a10 => k_is)
    (case l10 => k_is)
    (case c10 => k_is)
    (case k10 => k_is)
    (case a11 => k_is)
    (case l11 => k_is)
    (case c11 => k_is)
    (case k11 => k_is)
    (case a12 => k_is)
    (case l12 => k_is)
    (case c12 => k_is)
    (case k12 => k_is)
    (case a13 => k_is)
    (case l13 => k_is)
    (case c13 => k_is)
    (case k13 => k_is)
    (case a14 => k_is)
    (case l14 => k_is)
    (case c14 => k_is)
    (case k14 => k_is)
    (case a15 => k_is)
    (case l15 => k_is)
    (case c15 => k_is)
    (case k15 => k_is)
    (case a16 => k_is)
    (case l16 => k_is)
    (case c16 => k_is)
    (case k16 => k_is)
    (case a17 => k_is)
    (case l17 => k_is)
    (case c17 => k_is)
    (case k17 => k_is)
    (case a18 => k_is)
    (case l18 => k_is)
    (case c18 => k_is)
    (case k18 => k_is)
    (case a19 => k_is)
    (case l19 => k_is)
    (case c19 => k_is)
    (case k19 => k_is)
    (case a20 => k_is)
    (case l20 => k_is)
    (case c20 => k_is)
    (case k20 => k_is)
    (case a21 => k_is)
    (case l21 => k_is)
    (case c21 => k_is)
    (case k21 => k_is)
    (case a22 => k_is)
    (case l22 => k_is)
    (case c22 => k_is)
    (case k22 => k_is)
    (case a23 => k_is)
    (case l23 => k_is)
    (case c23 => k_is)
    (case k23 => k_is)
    (case a24 => k_is)
    (case l24 => k_is)
    (case c24 => k_is)
    (case k24 => k_is)
    (case a25 => k_is)
    (case l25 => k_is)
    (case c25 => k_is)
    (case k25 => k_is)
    (case a26 => k_is)
    (case l26 => k_is)
    (case c26 => k_is)
    (case k26 => k_is)
    (case a27 => k_is)
    (case l27 => k_is)
    (case c27 => k_is)
    (case k27 => k_is)
    (case a28 => k_is)
    (case l28 => k_is)
    (case c28 => k_is)
    (case k28 => k_is)
    (case a29 => k_is)
    (case l29 => k_is)
    (case c29 => k_is)
    (case k29 => k_is)
    (case a30 => k_is)
    (case l30 => k_is)
    (case c30 => k_is)
    (case k30 => k_is)
    (case a31 => k_is)
    (case l31 => k_is)
    (case c31 => k_is)
    (case k31 => k_is)
    (case a32 => k_is)
    (case l32 => k_is)
    (case c32 => k_is)
    (case k32 => k_is)
    (case a33 => k_is)
    (case l33 => k_is)
    (case c33 => k_is)
    (case k33 => k_is)
    (case a34 => k_is)
    (case l34 => k_is)
    (case c34 => k_is)
    (case k34 => k_is)
    (case a35 => k_is)
    (case l35 => k_is)
    (case c35 => k_is)
    (case k35 => k_is)
    (case a36 => k_is)
    (case l36 => k_is)
    (case c36 => k_is)
    (case k36 => k_is)
    (case a37 => k_is)
    (case l37 => k_is)
    (case c37 => k_is)
    (case k37 => k_is)
    (case a38 => k_is)
    (case l38 => k_is)
    (case c38 => k_is)
    (case k38 => k_is)
    (case a39 => k_is)
    (case l39 => k_is)
    (case c39 => k_is)
    (case k39 => k_is)
    (case a40 => k_is)
    (case l40 => k_is)
    (case c40 => k_is)
    (case k40 => k_is)
    (case a41 => k_is)
    (case l41 => k_is)
    (case c41 => k_is)
    (case k41 => k_is)
    (case a42 => k_is)
    (case l42 => k_is)
    (case c42 => k_is)
    (case k42 => k_is)
    (case a43 => k_is)
    (case l43 => k_is)
    (case c43 => k_is)
    (case k43 => k_is)
    (case a44 => k_is)
    (case l44 => k_is)
    (case c44 => k_is)
    (case k44 => k_is)
    (case a45 => k_is)
    (case l45 => k_is)
    (case c45 => k_is)
    (case k45 => k_is)
    (case a46 => k_is)
    (case l46 => k_is)
    (case c46 => k_is)
    (case k46 => k_is)
    (case a47 => k_is)
    (case l47 => k_is)
    (case c47 => k_is)
    (case k47 => k_is)
    (case a48 => k_is)
    (case l48 => k_is)
    (case c48 => k_is)
    (case k48 => k_is)
    (case a49 => k_is)
    (case l49 => k_is)
    (case c49 => k_is)
    (case k49 => k_is)
    (case a50 => k_is)
    (case l50 => k_is)
    (case c50 => k_is)
    (case k50 => k_is)
    (case a51 => k_is)
    (case l51 => k_is)
    (case c51 => k_is)
    (case k51 => k_is)
    (case a52 => k_is)
    (case l52 => k_is)
    (case c52 => k_is)
    (case k52 => k_is)
    (case a53 => k_is)
    (case l53 => k_is)
    (case c53 => k_is)
    (case k53 => k_is)
    (case a54 => k_is)
    (case l54 => k_is)
    (case c54 => k_is)
    (case k54 => k_is)
    (case a55 => k_is)
    (case l55 => k_is)
    (case c55 => k_is)
    (case k55 => k_is)
    (case z_len => k_is)
    (case z_zip => k_is)
    (case z_tuple => k_is)
    (case z_list => k_is)
    (case z_range => k_is)
    (case z_all => k_is)
    (case z_int => k_is)
    (case z_bool => k_is)
    (case z_isinstance => k_is)
    (case z_abs => k_is)
    (case z_min => k_is)
    (case z_repr => k_is)
    (case z_sorted => k_is)
    (case z_set => k_is)
    (case z_enumerate => k_is)
    (case ac1 => k_is)
    (case kc1 => k_is)
    (case xc1 => k_exc)
    (case bc1 => k_is)
    (case tc1 => k_is)
    (case ac2 => k_is)
    (case kc2 => k_is)
    (case xc2 => k_exc)
    (case bc2 => k_is)
    (case tc2 => k_is)
    (case ac3 => k_is)
    (case kc3 => k_is)
    (case xc3 => k_exc)
    (case bc3 => k_is)
    (case tc3 => k_is)
