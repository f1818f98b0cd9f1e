import PyProof.Rows.All
import Wide.All
import OpenK.AllK
import Wide.FinOn
import HandS.Base
import HandS.Call
import HandS.List
import HandS.Dict
import HandS.Iter
import KE.GoesMore
import KE.GoesEnum
import HandS.ForMost
import HandS.Evl
import HandS.TupAny
import HandS.TupMul
import HandS.TupLe
import HandS.IsInst
import HandS.ForExc
import PyProof.TupleOfSeq
import KE.SortData
import HandS.Deep
import HandS.ExcOwn
import HandS.ExcValue
import HandS.Style
import HandS.TupSets
import PyProof.CollectWalk
import KE.KDictZip
import HandS.DictComp
import HandS.DictTup
import HandS.Conv
import KE.KDictList
import PyProof.DictMoreH
import HandS.Walk
import HandS.DictSubView
import KE.KDictCopyH
import HandS.ExcIs
import HandS.Lambda
import PyProof.ReprRoads
import PyProof.ReprBulk
import HandS.EndTab
import PySem.Challenge.RW_movedround_k19_whole_the_last_person_is
set_option Elab.async false
set_option linter.all false
set_option maxRecDepth 100000
set_option maxHeartbeats 3999999
namespace Mv
open PySem L2 PyProof.Rows PySem.Spec

/-! zip of two or three, each a list (true) or a tuple (false) -/
def SqK (K : PySem.W.Frag) : Bool → Hp → Addr → List V → Prop
  | true, H, a, xs => SqL K H a xs
  | false, H, a, xs => SqT K H a xs
def ItrK : Bool → Heap → Addr → Addr → Nat → Prop
  | true, h, it, a, i => h.IsListIter it a i
  | false, h, it, a, i => h.IsTupleIter it a i
def HasK : Bool → Heap → Addr → Array Value → Prop
  | true, h, a, xs => h.IsList a xs
  | false, h, a, xs => h.IsTuple a xs
def newK : Bool → Addr → Obj
  | true, a => { cls := .type "list_iterator", data := .fields #[.ref a, .int 0 0] }
  | false, a => { cls := .type "tuple_iterator", data := .fields #[.ref a, .int 0 0] }
theorem drawsK {prog : Program} {w : World} {A : Around} (k : Bool) (hh : A.handled = none) (it l : Addr) (hne : l ≠ it) (items : Array Value) :
    Draws prog w A it [it, l] items.size (fun i v => items[i]? = some v) (fun i h => ItrK k h it l i ∧ HasK k h l items) := by
  cases k with
  | true => exact Draws.list hh it l hne items
  | false => exact Draws.tuple hh it l hne items
theorem beginsK (k : Bool) (l : Addr) (items : Array Value) : Begins (.ref l) (newK k l) fun h => HasK k h l items := by
  cases k with
  | true => exact begins_list l items
  | false => exact begins_tuple l items
theorem itrK_new {k : Bool} {h : Heap} {it a : Addr} (e : h.get? it = some (newK k a)) : ItrK k h it a 0 := by
  cases k with
  | true => exact ⟨_, e, rfl, rfl⟩
  | false => exact ⟨_, e, rfl, rfl⟩
theorem ItrK.ob {k : Bool} {h : Heap} {it a : Addr} {i : Nat} (x : ItrK k h it a i) : ∃ o, h.get? it = some o ∧ ∀ v, o.data ≠ .cell v := by
  cases k with
  | true => obtain ⟨o, e, _, d⟩ := x; exact ⟨o, e, fun v q => by rw [d] at q; cases q⟩
  | false => obtain ⟨o, e, _, d⟩ := x; exact ⟨o, e, fun v q => by rw [d] at q; cases q⟩
theorem ItrK.at {k : Bool} {h h' : Heap} {it a : Addr} {i : Nat} (x : ItrK k h it a i) (e : ∀ o, h.get? it = some o → h'.get? it = some o) : ItrK k h' it a i := by
  cases k with
  | true => exact Heap.IsListIter.at x e
  | false => exact Heap.IsTupleIter.at x e
theorem HasK.lt {k : Bool} {h : Heap} {a : Addr} {xs : Array Value} (x : HasK k h a xs) : a < h.objs.size := by
  cases k with
  | true => obtain ⟨o, e, _⟩ := x; exact Heap.lt_size e
  | false => obtain ⟨o, e, _⟩ := x; exact Heap.lt_size e
section
variable {X : Cx} {pns : List (Addr × Obj)} {σ : L2.St} {H : Hp} {s : Shared} {a : Addr} {xs : List V} {k : Bool}
theorem seqK (I : Inv X pns σ H s) (h : SqK X.K k H a xs) : ∃ its : List Value, Vals xs its ∧ HasK k s.heap a its.toArray ∧ xs.length ≤ sizeLine := by
  cases k with
  | true => obtain ⟨its, rv, p, z⟩ := I.list h; exact ⟨its, rv, p.isList, z⟩
  | false => obtain ⟨its, rv, p, z⟩ := I.tuple h; exact ⟨its, rv, p, z⟩
theorem seqK_inj {ys : List V} (I : Inv X pns σ H s) (h : SqK X.K k H a xs) (h' : SqK X.K k H a ys) : xs = ys := by
  cases k with
  | true => exact I.list_inj h h'
  | false => exact I.tuple_inj h h'
end

def It3 (K : PySem.W.Frag) (k1 k2 k3 : Bool) (a b c : Addr) : It :=
  ⟨fun i H => ∃ (xs ys zs : List V) (x y z : V), SqK K k1 H a xs ∧ SqK K k2 H b ys ∧ SqK K k3 H c zs ∧ xs[i]? = some x ∧ ys[i]? = some y ∧ zs[i]? = some z,
    fun i H v H' => ∃ T x y z, v = .ref T ∧ H T = none ∧ H' = upd H T (.tup [x, y, z]) ∧ (∀ xs, SqK K k1 H a xs → xs[i]? = some x) ∧ (∀ ys, SqK K k2 H b ys → ys[i]? = some y) ∧ ∀ zs, SqK K k3 H c zs → zs[i]? = some z,
    fun i H => ∃ xs ys zs : List V, SqK K k1 H a xs ∧ SqK K k2 H b ys ∧ SqK K k3 H c zs ∧ i ≤ xs.length ∧ i ≤ ys.length ∧ i ≤ zs.length ∧ (i = xs.length ∨ i = ys.length ∨ i = zs.length)⟩

/-- the cells apart, and from what is walked -/
structure Sep3 (z TI TO i1 i2 i3 a b c : Addr) : Prop where
  sep : ZipSep3 z TI TO i1 i2 i3 [i1, a] [i2, b] [i3, c]
  n1 : a ≠ i1
  n2 : b ≠ i2
  n3 : c ≠ i3

theorem turn_zip3 {P : Program} {w : World} {K : PySem.W.Frag} {elts : List Expr} {kk : Nat} {tpos : Pos} {k1 k2 k3 : Bool} {a b c z TI TO i1 i2 i3 : Addr} (D : Sep3 z TI TO i1 i2 i3 a b c) :
    Turn P w K (.Tuple elts kk tpos) (It3 K k1 k2 k3 a b c) [z, TI, TO, i1, i2, i3] z (fun i h => IsZip h z TI TO .none ∧ IsTupOf3 h TI (.ref i1) (.ref i2) (.ref i3) ∧ (∃ x y u, IsTupOf3 h TO x y u) ∧ ItrK k1 h i1 a i ∧ ItrK k2 h i2 b i ∧ ItrK k3 h i3 c i) where
  mem := by simp
  obj := fun i h stz q hq => by
    obtain ⟨atZ, atI, ⟨x, y, u, atO⟩, h1, h2, h3⟩ := stz
    have altE : q = z ∨ q = TI ∨ q = TO ∨ q = i1 ∨ q = i2 ∨ q = i3 := by simpa using hq
    rcases altE with e | e | e | e | e | e
    · rw [e]; exact ⟨_, atZ, fun v q => nomatch q⟩
    · rw [e]; exact ⟨_, atI, fun v q => nomatch q⟩
    · rw [e]; exact ⟨_, atO, fun v q => nomatch q⟩
    · rw [e]; exact h1.ob
    · rw [e]; exact h2.ob
    · rw [e]; exact h3.ob
  keep := fun i h h' stz k => by
    obtain ⟨atZ, atI, ⟨x, y, u, atO⟩, h1, h2, h3⟩ := stz
    exact ⟨k z (by simp) _ atZ, k TI (by simp) _ atI, ⟨x, y, u, k TO (by simp) _ atO⟩, h1.at fun o q => k i1 (by simp) o q, h2.at fun o q => k i2 (by simp) o q, h3.at fun o q => k i3 (by simp) o q⟩
  item := by
    intro X ofP ofW ofK hc i pns s σ H E I hf stz hg
    subst ofP ofW ofK
    obtain ⟨atZ, atI, ⟨x0, y0, u0, atO⟩, h1, h2, h3⟩ := stz
    obtain ⟨xs, ys, zs, x, y, u, q1, q2, q3, hx, hy, hu⟩ := hg
    obtain ⟨t1, r1, p1, _⟩ := seqK I q1
    obtain ⟨t2, r2, p2, _⟩ := seqK I q2
    obtain ⟨t3, r3, p3, _⟩ := seqK I q3
    obtain ⟨v1, e1, w1⟩ := r1.get hx
    obtain ⟨v2, e2, w2⟩ := r2.get hy
    obtain ⟨v3, e3, w3⟩ := r3.get hu
    have hh : X.A.in1.handled = none := I.ok.hd hc
    have ltZ : z < s.heap.objs.size := Heap.lt_size atZ
    refine wpAny_pyNext_zipD3_item D.sep (drawsK k1 hh i1 a D.n1 t1.toArray) (drawsK k2 hh i2 b D.n2 t2.toArray) (drawsK k3 hh i3 c D.n3 t3.toArray) atZ atI atO ⟨h1, p1⟩ ⟨h2, p2⟩ ⟨h3, p3⟩
      (by have := (List.getElem?_eq_some_iff.mp e1).1; simpa using this) (by have := (List.getElem?_eq_some_iff.mp e2).1; simpa using this) (by have := (List.getElem?_eq_some_iff.mp e3).1; simpa using this)
      fun y1 y2 y3 h' tk g1 g2 g3 hz' hTO' sA s2 s3 hT hsz hk => ?_
    have f1 : y1 = v1 := by
      have : t1[i]? = some y1 := by simpa using g1
      rw [e1] at this; exact (Option.some.inj this).symm
    have f2 : y2 = v2 := by
      have : t2[i]? = some y2 := by simpa using g2
      rw [e2] at this; exact (Option.some.inj this).symm
    have f3 : y3 = v3 := by
      have : t3[i]? = some y3 := by simpa using g3
      rw [e3] at this; exact (Option.some.inj this).symm
    subst f1 f2 f3
    refine ⟨_, rfl, wpAny_letOwnedTupleGo_zip (s := { s with heap := h', toks := tk }) hz' fun heapB hz'' sb => ?_⟩
    have hT2 : heapB.get? s.heap.objs.size = some { cls := .type "tuple", data := .seq #[y1, y2, y3] } := (sb.2 _ (Nat.ne_of_gt ltZ)).trans hT
    have fresh_ : ObjOk X.prog X.w (upd H s.heap.objs.size (.tup [x, y, u])) heapB s.heap.objs.size (.tup [x, y, u]) :=
      ⟨by show 3 ≤ sizeLine; decide, [y1, y2, y3], .cons w1 (.cons w2 (.cons w3 .nil)), ⟨_, hT2, rfl, _, rfl⟩⟩
    have invA : Inv X pns σ (upd H s.heap.objs.size (.tup [x, y, u])) { s with heap := heapB, toks := tk } :=
      I.turnedNew (t' := tk) (ch := [z, TI, TO, i1, i2, i3]) (fun c o hb q => (sb.2 c (fun q' => hb (by simp [q']))).trans (hk c o (fun q' => hb (by simp [q'])) (fun q' => hb (by simp [q'])) (fun q' => hb (by simp [q'])) (fun q' => hb (by simp [q'])) (fun q' => hb (by simp [q'])) q)) hf (Nat.le_refl _) fresh_
    have S := D.sep
    refine ⟨.ref s.heap.objs.size, _, invA, rfl, ⟨_, x, y, u, rfl, I.hok.fresh (Nat.le_refl _), rfl, fun l hl => by rw [seqK_inj I hl q1]; exact hx, fun l hl => by rw [seqK_inj I hl q2]; exact hy, fun l hl => by rw [seqK_inj I hl q3]; exact hu⟩, ⟨hz'', ?_, ⟨y1, y2, y3, ?_⟩, ?_, ?_, ?_⟩, fun c among => ?_⟩
    · exact (sb.2 _ S.TIz).trans (hk _ _ S.TIz S.TITO S.TIi1 S.TIi2 S.TIi3 atI)
    · exact (sb.2 _ S.TOz).trans hTO'
    · exact sA.1.at fun o q => (sb.2 _ (fun e => S.zf1 (by rw [← e]; exact S.mem1))).trans q
    · exact s2.1.at fun o q => (sb.2 _ (fun e => S.zf2 (by rw [← e]; exact S.mem2))).trans q
    · exact s3.1.at fun o q => (sb.2 _ (fun e => S.zf3 (by rw [← e]; exact S.mem3))).trans q
    · have ltC : c < s.heap.objs.size := by
        have altE : c = z ∨ c = TI ∨ c = TO ∨ c = i1 ∨ c = i2 ∨ c = i3 := by simpa using among
        rcases altE with q | q | q | q | q | q
        · rw [q]; exact ltZ
        · rw [q]; exact Heap.lt_size atI
        · rw [q]; exact Heap.lt_size atO
        · rw [q]; obtain ⟨_, e1, _⟩ := h1.ob; exact Heap.lt_size e1
        · rw [q]; obtain ⟨_, e2, _⟩ := h2.ob; exact Heap.lt_size e2
        · rw [q]; obtain ⟨_, e3, _⟩ := h3.ob; exact Heap.lt_size e3
      rw [upd_ne (Nat.ne_of_lt ltC)]
      exact (hf c among).1
  done := by
    intro X ofP ofW ofK hc i pns s σ H E I hf stz hg
    subst ofP ofW ofK
    obtain ⟨atZ, atI, ⟨x0, y0, u0, atO⟩, h1, h2, h3⟩ := stz
    obtain ⟨xs, ys, zs, q1, q2, q3, l1, l2, l3, he⟩ := hg
    obtain ⟨t1, r1, p1, _⟩ := seqK I q1
    obtain ⟨t2, r2, p2, _⟩ := seqK I q2
    obtain ⟨t3, r3, p3, _⟩ := seqK I q3
    have hh : X.A.in1.handled = none := I.ok.hd hc
    have m1 := r1.length
    have m2 := r2.length
    have m3 := r3.length
    have z1 : t1.toArray.size = t1.length := List.size_toArray
    have z2 : t2.toArray.size = t2.length := List.size_toArray
    have z3 : t3.toArray.size = t3.length := List.size_toArray
    refine wpAny_pyNext_zipD3_end D.sep (drawsK k1 hh i1 a D.n1 t1.toArray) (drawsK k2 hh i2 b D.n2 t2.toArray) (drawsK k3 hh i3 c D.n3 t3.toArray) atZ atI atO ⟨h1, p1⟩ ⟨h2, p2⟩ ⟨h3, p3⟩
      (by omega) (by omega) (by omega) (by omega) fun h' tk hk => ⟨rfl, I.turnedL (t' := tk) (ch := [z, TI, TO, i1, i2, i3]) (fun c o hb q =>
      hk c o (fun q' => hb (by simp [q'])) (fun q' => hb (by simp [q'])) (fun q' => hb (by simp [q'])) (fun q' => hb (by simp [q'])) (fun q' => hb (by simp [q'])) q) hf⟩
  self := fun A i s Q E stz h => wpAny_pyIter_zip stz.1 h

def iZip3 (K : PySem.W.Frag) (k1 k2 k3 : Bool) (ta : TA) : TI := fun σ H Rq => ta σ H fun vs H1 => ∃ a b c xs ys zs, vs = [.ref a, .ref b, .ref c] ∧ SqK K k1 H1 a xs ∧ SqK K k2 H1 b ys ∧ SqK K k3 H1 c zs ∧ Rq (It3 K k1 k2 k3 a b c) H1
theorem pi_zip3 (k1 k2 k3 : Bool) {X : Cx} {e e2 e3 : Expr} {ta : TA} {p pos tpos : Pos} {elts : List Expr} {kk : Nat} (hg : Gl X "zip") (hm : X.mg "zip" = none) (ha : PA X [e, e2, e3] ta)
    (hs : starEach [e, e2, e3] X.env = (false, eval e X.env) :: starEach [e2, e3] X.env := by rfl) (plain_ : (backTo pos (starEach [e2, e3] X.env)).any (·.1) = false := by rfl) :
    PI X (.Tuple elts kk tpos) (.Call (.Name "zip" p) [e, e2, e3] [] pos) (iZip3 X.K k1 k2 k3 ta) := by
  refine ⟨fun pns s σ H Rq I h => ?_⟩
  refine Call_ (ld_blt I hg hm PyProof.Rows.boot_zip (PyProof.Rows.callWith_type1 (thn (ha.run pos pns s σ H _ I h) fun uz sA ⟨vs, H1, invA, r1, q1⟩ => ?_) hs plain_))
  obtain ⟨a, b, c, xs, ys, zs, ex, sx, sy, hqz, q⟩ := q1
  subst ex
  cases r1 with
  | cons r rr =>
    cases rr with
    | cons r' rr =>
      cases rr with
      | cons r'' rr =>
        cases rr
        cases r
        cases r'
        cases r''
        have allNew6 : ∀ c, c ∈ [sA.heap.objs.size + 5, sA.heap.objs.size + 3, sA.heap.objs.size + 4, sA.heap.objs.size, sA.heap.objs.size + 1, sA.heap.objs.size + 2] → FpOk X pns H1 c := fun c among => by
          have altE : c = sA.heap.objs.size + 5 ∨ c = sA.heap.objs.size + 3 ∨ c = sA.heap.objs.size + 4 ∨ c = sA.heap.objs.size ∨ c = sA.heap.objs.size + 1 ∨ c = sA.heap.objs.size + 2 := by simpa using among
          have geC : sA.heap.objs.size ≤ c := by
            rcases altE with z | z | z | z | z | z
            · rw [z]; exact (Nat.le_add_right _ _)
            · rw [z]; exact (Nat.le_add_right _ _)
            · rw [z]; exact (Nat.le_add_right _ _)
            · rw [z]; exact Nat.le_refl _
            · rw [z]; exact (Nat.le_add_right _ _)
            · rw [z]; exact (Nat.le_add_right _ _)
          exact invA.fpOk geC (invA.hok.fresh geC)
        obtain ⟨t1, r1, p1, _⟩ := seqK invA sx
        obtain ⟨t2, r2, p2, _⟩ := seqK invA sy
        obtain ⟨t3, r3, p3, _⟩ := seqK invA hqz
        have n1 := p1.lt
        have n2 := p2.lt
        have n3 := p3.lt
        refine zip_begins3 (beginsK k1 a t1.toArray) (beginsK k2 b t2.toArray) (beginsK k3 c t3.toArray) p1 p2 p3 fun h' atZ atI atO e1 e2 e3 hsz hk => wpAny_pyIter_zip atZ ?_
        have invB : Inv X pns σ H1 { sA with heap := h' } := invA.kept (t' := sA.toks) hk
        have D : Sep3 (sA.heap.objs.size + 5) (sA.heap.objs.size + 3) (sA.heap.objs.size + 4) sA.heap.objs.size (sA.heap.objs.size + 1) (sA.heap.objs.size + 2) a b c :=
          ⟨zip_sep3 (by simpa using n1) (by simpa using n2) (by simpa using n3), Nat.ne_of_lt n1, Nat.ne_of_lt (Nat.lt_add_right 1 n2), Nat.ne_of_lt (Nat.lt_add_right 2 n3)⟩
        exact ⟨sA.heap.objs.size + 5, [sA.heap.objs.size + 5, sA.heap.objs.size + 3, sA.heap.objs.size + 4, sA.heap.objs.size, sA.heap.objs.size + 1, sA.heap.objs.size + 2], _, _, H1, rfl, invB, turn_zip3 D, ⟨atZ, atI, ⟨_, _, _, atO⟩, itrK_new e1, itrK_new e2, itrK_new e3⟩, allNew6, q⟩

def It2 (K : PySem.W.Frag) (k1 k2 : Bool) (a b : Addr) : It :=
  ⟨fun i H => ∃ (xs ys : List V) (x y : V), SqK K k1 H a xs ∧ SqK K k2 H b ys ∧ xs[i]? = some x ∧ ys[i]? = some y,
    fun i H v H' => ∃ T x y, v = .ref T ∧ H T = none ∧ H' = upd H T (.tup [x, y]) ∧ (∀ xs, SqK K k1 H a xs → xs[i]? = some x) ∧ (∀ ys, SqK K k2 H b ys → ys[i]? = some y),
    fun i H => ∃ xs ys : List V, SqK K k1 H a xs ∧ SqK K k2 H b ys ∧ i ≤ xs.length ∧ i ≤ ys.length ∧ (i = xs.length ∨ i = ys.length)⟩

/-- the cells apart, and from what is walked -/
structure Sep2Z (z TI TO i1 i2 a b : Addr) : Prop where
  sep : ZipSep2 z TI TO i1 i2 [i1, a] [i2, b]
  n1 : a ≠ i1
  n2 : b ≠ i2

theorem turn_zip2k {P : Program} {w : World} {K : PySem.W.Frag} {elts : List Expr} {kk : Nat} {tpos : Pos} {k1 k2 : Bool} {a b z TI TO i1 i2 : Addr} (D : Sep2Z z TI TO i1 i2 a b) :
    Turn P w K (.Tuple elts kk tpos) (It2 K k1 k2 a b) [z, TI, TO, i1, i2] z (fun i h => IsZip h z TI TO .none ∧ IsTupOf2 h TI (.ref i1) (.ref i2) ∧ (∃ x y, IsTupOf2 h TO x y) ∧ ItrK k1 h i1 a i ∧ ItrK k2 h i2 b i) where
  mem := by simp
  obj := fun i h stz q hq => by
    obtain ⟨atZ, atI, ⟨x, y, atO⟩, h1, h2⟩ := stz
    have altE : q = z ∨ q = TI ∨ q = TO ∨ q = i1 ∨ q = i2 := by simpa using hq
    rcases altE with e | e | e | e | e
    · rw [e]; exact ⟨_, atZ, fun v q => nomatch q⟩
    · rw [e]; exact ⟨_, atI, fun v q => nomatch q⟩
    · rw [e]; exact ⟨_, atO, fun v q => nomatch q⟩
    · rw [e]; exact h1.ob
    · rw [e]; exact h2.ob
  keep := fun i h h' stz k => by
    obtain ⟨atZ, atI, ⟨x, y, atO⟩, h1, h2⟩ := stz
    exact ⟨k z (by simp) _ atZ, k TI (by simp) _ atI, ⟨x, y, k TO (by simp) _ atO⟩, h1.at fun o q => k i1 (by simp) o q, h2.at fun o q => k i2 (by simp) o q⟩
  item := by
    intro X ofP ofW ofK hc i pns s σ H E I hf stz hg
    subst ofP ofW ofK
    obtain ⟨atZ, atI, ⟨x0, y0, atO⟩, h1, h2⟩ := stz
    obtain ⟨xs, ys, x, y, q1, q2, hx, hy⟩ := hg
    obtain ⟨t1, r1, p1, _⟩ := seqK I q1
    obtain ⟨t2, r2, p2, _⟩ := seqK I q2
    obtain ⟨v1, e1, w1⟩ := r1.get hx
    obtain ⟨v2, e2, w2⟩ := r2.get hy
    have hh : X.A.in1.handled = none := I.ok.hd hc
    have ltZ : z < s.heap.objs.size := Heap.lt_size atZ
    refine wpAny_pyNext_zipD2_item D.sep (drawsK k1 hh i1 a D.n1 t1.toArray) (drawsK k2 hh i2 b D.n2 t2.toArray) atZ atI atO ⟨h1, p1⟩ ⟨h2, p2⟩
      (by have := (List.getElem?_eq_some_iff.mp e1).1; simpa using this) (by have := (List.getElem?_eq_some_iff.mp e2).1; simpa using this)
      fun y1 y2 h' tk g1 g2 hz' hTO' sA s2 hT hsz hk => ?_
    have f1 : y1 = v1 := by
      have : t1[i]? = some y1 := by simpa using g1
      rw [e1] at this; exact (Option.some.inj this).symm
    have f2 : y2 = v2 := by
      have : t2[i]? = some y2 := by simpa using g2
      rw [e2] at this; exact (Option.some.inj this).symm
    subst f1 f2
    refine ⟨_, rfl, wpAny_letOwnedTupleGo_zip (s := { s with heap := h', toks := tk }) hz' fun heapB hz'' sb => ?_⟩
    have hT2 : heapB.get? s.heap.objs.size = some { cls := .type "tuple", data := .seq #[y1, y2] } := (sb.2 _ (Nat.ne_of_gt ltZ)).trans hT
    have fresh_ : ObjOk X.prog X.w (upd H s.heap.objs.size (.tup [x, y])) heapB s.heap.objs.size (.tup [x, y]) :=
      ⟨by show 2 ≤ sizeLine; decide, [y1, y2], .cons w1 (.cons w2 .nil), ⟨_, hT2, rfl, _, rfl⟩⟩
    have invA : Inv X pns σ (upd H s.heap.objs.size (.tup [x, y])) { s with heap := heapB, toks := tk } :=
      I.turnedNew (t' := tk) (ch := [z, TI, TO, i1, i2]) (fun c o hb q => (sb.2 c (fun q' => hb (by simp [q']))).trans (hk c o (fun q' => hb (by simp [q'])) (fun q' => hb (by simp [q'])) (fun q' => hb (by simp [q'])) (fun q' => hb (by simp [q'])) q)) hf (Nat.le_refl _) fresh_
    have S := D.sep
    refine ⟨.ref s.heap.objs.size, _, invA, rfl, ⟨_, x, y, rfl, I.hok.fresh (Nat.le_refl _), rfl, fun l hl => by rw [seqK_inj I hl q1]; exact hx, fun l hl => by rw [seqK_inj I hl q2]; exact hy⟩, ⟨hz'', ?_, ⟨y1, y2, ?_⟩, ?_, ?_⟩, fun c among => ?_⟩
    · exact (sb.2 _ S.TIz).trans (hk _ _ S.TIz S.TITO S.TIi1 S.TIi2 atI)
    · exact (sb.2 _ S.TOz).trans hTO'
    · exact sA.1.at fun o q => (sb.2 _ (fun e => S.zf1 (by rw [← e]; exact S.mem1))).trans q
    · exact s2.1.at fun o q => (sb.2 _ (fun e => S.zf2 (by rw [← e]; exact S.mem2))).trans q
    · have ltC : c < s.heap.objs.size := by
        have altE : c = z ∨ c = TI ∨ c = TO ∨ c = i1 ∨ c = i2 := by simpa using among
        rcases altE with q | q | q | q | q
        · rw [q]; exact ltZ
        · rw [q]; exact Heap.lt_size atI
        · rw [q]; exact Heap.lt_size atO
        · rw [q]; obtain ⟨_, e1, _⟩ := h1.ob; exact Heap.lt_size e1
        · rw [q]; obtain ⟨_, e2, _⟩ := h2.ob; exact Heap.lt_size e2
      rw [upd_ne (Nat.ne_of_lt ltC)]
      exact (hf c among).1
  done := by
    intro X ofP ofW ofK hc i pns s σ H E I hf stz hg
    subst ofP ofW ofK
    obtain ⟨atZ, atI, ⟨x0, y0, atO⟩, h1, h2⟩ := stz
    obtain ⟨xs, ys, q1, q2, l1, l2, he⟩ := hg
    obtain ⟨t1, r1, p1, _⟩ := seqK I q1
    obtain ⟨t2, r2, p2, _⟩ := seqK I q2
    have hh : X.A.in1.handled = none := I.ok.hd hc
    have m1 := r1.length
    have m2 := r2.length
    have z1 : t1.toArray.size = t1.length := List.size_toArray
    have z2 : t2.toArray.size = t2.length := List.size_toArray
    refine wpAny_pyNext_zipD2_end D.sep (drawsK k1 hh i1 a D.n1 t1.toArray) (drawsK k2 hh i2 b D.n2 t2.toArray) atZ atI atO ⟨h1, p1⟩ ⟨h2, p2⟩
      (by omega) (by omega) (by omega) fun h' tk hk => ⟨rfl, I.turnedL (t' := tk) (ch := [z, TI, TO, i1, i2]) (fun c o hb q =>
      hk c o (fun q' => hb (by simp [q'])) (fun q' => hb (by simp [q'])) (fun q' => hb (by simp [q'])) (fun q' => hb (by simp [q'])) q) hf⟩
  self := fun A i s Q E stz h => wpAny_pyIter_zip stz.1 h

def iZip2 (K : PySem.W.Frag) (k1 k2 : Bool) (ta : TA) : TI := fun σ H Rq => ta σ H fun vs H1 => ∃ a b xs ys, vs = [.ref a, .ref b] ∧ SqK K k1 H1 a xs ∧ SqK K k2 H1 b ys ∧ Rq (It2 K k1 k2 a b) H1
theorem pi_zip2 (k1 k2 : Bool) {X : Cx} {e e2 : Expr} {ta : TA} {p pos tpos : Pos} {elts : List Expr} {kk : Nat} (hg : Gl X "zip") (hm : X.mg "zip" = none) (ha : PA X [e, e2] ta)
    (hs : starEach [e, e2] X.env = (false, eval e X.env) :: starEach [e2] X.env := by rfl) (plain_ : (backTo pos (starEach [e2] X.env)).any (·.1) = false := by rfl) :
    PI X (.Tuple elts kk tpos) (.Call (.Name "zip" p) [e, e2] [] pos) (iZip2 X.K k1 k2 ta) := by
  refine ⟨fun pns s σ H Rq I h => ?_⟩
  refine Call_ (ld_blt I hg hm PyProof.Rows.boot_zip (PyProof.Rows.callWith_type1 (thn (ha.run pos pns s σ H _ I h) fun uz sA ⟨vs, H1, invA, r1, q1⟩ => ?_) hs plain_))
  obtain ⟨a, b, xs, ys, ex, sx, sy, q⟩ := q1
  subst ex
  cases r1 with
  | cons r rr =>
    cases rr with
    | cons r' rr =>
      cases rr
      cases r
      cases r'
      have allNew : ∀ c, c ∈ [sA.heap.objs.size + 4, sA.heap.objs.size + 2, sA.heap.objs.size + 3, sA.heap.objs.size, sA.heap.objs.size + 1] → FpOk X pns H1 c := fun c among => by
        have altE : c = sA.heap.objs.size + 4 ∨ c = sA.heap.objs.size + 2 ∨ c = sA.heap.objs.size + 3 ∨ c = sA.heap.objs.size ∨ c = sA.heap.objs.size + 1 := by simpa using among
        have geC : sA.heap.objs.size ≤ c := by
          rcases altE with z | z | z | z | z
          · rw [z]; exact (Nat.le_add_right _ _)
          · rw [z]; exact (Nat.le_add_right _ _)
          · rw [z]; exact (Nat.le_add_right _ _)
          · rw [z]; exact Nat.le_refl _
          · rw [z]; exact (Nat.le_add_right _ _)
        exact invA.fpOk geC (invA.hok.fresh geC)
      obtain ⟨t1, r1, p1, _⟩ := seqK invA sx
      obtain ⟨t2, r2, p2, _⟩ := seqK invA sy
      have n1 := p1.lt
      have n2 := p2.lt
      refine zip_begins2 (beginsK k1 a t1.toArray) (beginsK k2 b t2.toArray) p1 p2 fun h' atZ atI atO e1 e2 hsz hk => wpAny_pyIter_zip atZ ?_
      have invB : Inv X pns σ H1 { sA with heap := h' } := invA.kept (t' := sA.toks) hk
      have D : Sep2Z (sA.heap.objs.size + 4) (sA.heap.objs.size + 2) (sA.heap.objs.size + 3) sA.heap.objs.size (sA.heap.objs.size + 1) a b :=
        ⟨zip_sep2 (by simpa using n1) (by simpa using n2), Nat.ne_of_lt n1, Nat.ne_of_lt (Nat.lt_add_right 1 n2)⟩
      exact ⟨sA.heap.objs.size + 4, [sA.heap.objs.size + 4, sA.heap.objs.size + 2, sA.heap.objs.size + 3, sA.heap.objs.size, sA.heap.objs.size + 1], _, _, H1, rfl, invB, turn_zip2k D, ⟨atZ, atI, ⟨_, _, atO⟩, itrK_new e1, itrK_new e2⟩, allNew, q⟩
end Mv

namespace Mv
open PySem L2 Evl

/-! ### rules' readings by name -/
abbrev rLenA (K : PySem.W.Frag) : List V → Hp → VK → Prop := fun xs H Q => ∃ p ys, xs = [.ref p] ∧ (SqL K H p ys ∨ SqT K H p ys) ∧ Q (.int ys.length) H
abbrev rTupOf (K : PySem.W.Frag) : List V → Hp → VK → Prop := fun xs H Q => ∃ p ys, xs = [.ref p] ∧ ((SqL K H p ys ∧ ∀ l, H l = none → Q (.ref l) (upd H l (.tup ys))) ∨ (SqT K H p ys ∧ Q (.ref p) H))
abbrev rListOf (K : PySem.W.Frag) : List V → Hp → VK → Prop := fun xs H Q => ∃ p ys, xs = [.ref p] ∧ (SqL K H p ys ∨ SqT K H p ys) ∧ ∀ l, H l = none → Q (.ref l) (upd H l (.lst ys))

/-! ### data that stand in G -/
abbrev D := PyData
/-- the data of a key's item -/
def keyD : L2.Key → D
  | .inl i => .int i
  | .inr x => .str x
/-- the data of a tuple that is a key -/
def kD (k : List L2.Key) : D := .tuple (k.map keyD)
/-- a dict with at least one pair, the first one's key no tuple -/
def plainD : List (D × D) → Bool
  | (.tuple _, _) :: _ => false
  | _ :: _ => true
  | [] => false
/-- a dict whose keys are tuples -/
abbrev dctD (es : List (List L2.Key × D)) : D := .dict (es.map fun e => (kD e.1, e.2))
mutual
inductive Dq (G : Hp) : V → D → Prop
  | non : Dq G .non .none
  | bl (b : Bool) : Dq G (.bl b) (.bool b)
  | int (i : Int) : Dq G (.int i) (.int i)
  | str (x : Str) : Dq G (.str x) (.str x)
  | lst {a : Addr} {xs : List V} {ds : List D} : G a = some (.lst xs) → DqA G xs ds → Dq G (.ref a) (.list ds)
  | tup {a : Addr} {xs : List V} {ds : List D} : G a = some (.tup xs) → DqA G xs ds → Dq G (.ref a) (.tuple ds)
  | emp {a : Addr} {kvs : List (L2.Key × V)} {ds : List (D × D)} : G a = some (.dK kvs) → plainD ds = true → Dq G (.ref a) (.dict ds)
  | dct {a : Addr} {o : Obj} {kvs : List (List L2.Key × V)} {es : List (List L2.Key × D)} {ds : List (D × D)} : G a = some (.frz o (.dT kvs)) → DqP G kvs es → ds = es.map (fun e => (kD e.1, e.2)) → Dq G (.ref a) (.dict ds)
inductive DqA (G : Hp) : List V → List D → Prop
  | nil : DqA G [] []
  | cons {v : V} {vs : List V} {d : D} {ds : List D} : Dq G v d → DqA G vs ds → DqA G (v :: vs) (d :: ds)
inductive DqP (G : Hp) : List (List L2.Key × V) → List (List L2.Key × D) → Prop
  | nil : DqP G [] []
  | cons {k : List L2.Key} {v : V} {d : D} {kvs : List (List L2.Key × V)} {es : List (List L2.Key × D)} : Dq G v d → DqP G kvs es → DqP G ((k, v) :: kvs) ((k, d) :: es)
end
mutual
theorem Dq.mono {G G' : Hp} (e : Ex G G') : ∀ {v : V} {d : D}, Dq G v d → Dq G' v d
  | _, _, .non => .non
  | _, _, .bl b => .bl b
  | _, _, .int i => .int i
  | _, _, .str x => .str x
  | _, _, .lst h k => .lst (e _ _ h) (DqA.mono e k)
  | _, _, .tup h k => .tup (e _ _ h) (DqA.mono e k)
  | _, _, .emp h q => .emp (e _ _ h) q
  | _, _, .dct h k q => .dct (e _ _ h) (DqP.mono e k) q
theorem DqA.mono {G G' : Hp} (e : Ex G G') : ∀ {vs : List V} {ds : List D}, DqA G vs ds → DqA G' vs ds
  | _, _, .nil => .nil
  | _, _, .cons h k => .cons (Dq.mono e h) (DqA.mono e k)
theorem DqP.mono {G G' : Hp} (e : Ex G G') : ∀ {kvs : List (List L2.Key × V)} {es : List (List L2.Key × D)}, DqP G kvs es → DqP G' kvs es
  | _, _, .nil => .nil
  | _, _, .cons h k => .cons (Dq.mono e h) (DqP.mono e k)
end
theorem DqA.len {G : Hp} : ∀ {vs : List V} {ds : List D}, DqA G vs ds → vs.length = ds.length
  | _, _, .nil => rfl
  | _, _, .cons _ k => by rw [List.length_cons, List.length_cons, k.len]
theorem DqA.app {G : Hp} : ∀ {vs ws : List V} {ds es : List D}, DqA G vs ds → DqA G ws es → DqA G (vs ++ ws) (ds ++ es)
  | _, _, _, _, .nil, k => k
  | _, _, _, _, .cons h t, k => .cons h (DqA.app t k)
theorem DqA.get {G : Hp} : ∀ {vs : List V} {ds : List D} {i : Nat} {v : V}, DqA G vs ds → vs[i]? = some v → ∃ d, ds[i]? = some d ∧ Dq G v d
  | _, _, _, _, .nil, e => by simp at e
  | _, _, 0, _, .cons h _, e => by simp at e; subst e; exact ⟨_, rfl, h⟩
  | _, _, i + 1, _, .cons _ t, e => by
    obtain ⟨d, h1, h2⟩ := DqA.get (i := i) t (by simpa using e)
    exact ⟨d, by simpa using h1, h2⟩
theorem DqA.getD {G : Hp} : ∀ {vs : List V} {ds : List D} {i : Nat} {d : D}, DqA G vs ds → ds[i]? = some d → ∃ v, vs[i]? = some v ∧ Dq G v d
  | _, _, _, _, .nil, e => by simp at e
  | _, _, 0, _, .cons h _, e => by simp at e; subst e; exact ⟨_, rfl, h⟩
  | _, _, i + 1, _, .cons _ t, e => by
    obtain ⟨d, h1, h2⟩ := DqA.getD (i := i) t (by simpa using e)
    exact ⟨d, by simpa using h1, h2⟩
theorem DqA.snoc {G : Hp} {vs : List V} {ds : List D} {v : V} {d : D} (h : DqA G vs ds) (k : Dq G v d) : DqA G (vs ++ [v]) (ds ++ [d]) := h.app (.cons k .nil)
theorem DqA.rep {G : Hp} {vs : List V} {ds : List D} (h : DqA G vs ds) : ∀ n : Nat, DqA G (List.replicate n vs).flatten (List.replicate n ds).flatten
  | 0 => .nil
  | n + 1 => by
    (rw [List.replicate_succ, List.replicate_succ, List.flatten_cons, List.flatten_cons])
    exact h.app (h.rep n)
theorem DqA.drop {G : Hp} : ∀ {vs : List V} {ds : List D} (n : Nat), DqA G vs ds → DqA G (vs.drop n) (ds.drop n)
  | _, _, 0, h => h
  | _, _, _ + 1, .nil => .nil
  | _, _, n + 1, .cons _ t => DqA.drop n t
theorem DqA.take {G : Hp} : ∀ {vs : List V} {ds : List D} (n : Nat), DqA G vs ds → DqA G (vs.take n) (ds.take n)
  | _, _, 0, _ => .nil
  | _, _, _ + 1, .nil => .nil
  | _, _, n + 1, .cons h t => .cons h (DqA.take n t)
theorem DqA.ints {G : Hp} : ∀ {vs : List V} {ns : List Int}, DqA G vs (ns.map PyData.int) → vs = ns.map V.int
  | _, [], h => by cases h; rfl
  | _, n :: ns, h => by
    cases h with
    | cons h t =>
      cases h
      rw [List.map_cons, ← DqA.ints t]
theorem DqA.ofInts {G : Hp} : ∀ (ns : List Int), DqA G (ns.map V.int) (ns.map PyData.int)
  | [] => .nil
  | n :: ns => .cons (.int n) (DqA.ofInts ns)
theorem DqA.bls {G : Hp} : ∀ {vs : List V} {bs : List Bool}, DqA G vs (bs.map PyData.bool) → vs = bs.map V.bl
  | _, [], h => by cases h; rfl
  | _, n :: ns, h => by
    cases h with
    | cons h t =>
      cases h
      rw [List.map_cons, ← DqA.bls t]

/-! ### steps: what is known grows, what stands stays, what is not known stays unknown -/
structure Stp (G H G' H' : Hp) : Prop where
  g : Ex G G'
  h : Ex H H'
  w : Ex G' H'
  n : ∀ b, G b = none → H b ≠ none → (∀ xs, H b ≠ some (.tup xs)) → G' b = none
theorem Stp.refl {G H : Hp} (e : Ex G H) : Stp G H G H := ⟨.refl G, .refl H, e, fun _ h _ _ => h⟩
theorem Stp.trans {G H G1 H1 G2 H2 : Hp} (a : Stp G H G1 H1) (b : Stp G1 H1 G2 H2) : Stp G H G2 H2 :=
  ⟨a.g.trans b.g, a.h.trans b.h, b.w, fun c h1 h2 h3 => b.n c (a.n c h1 h2 h3) (fun z => by
    cases q : H c with
    | none => exact h2 q
    | some o => rw [a.h c o q] at z; cases z) fun xs z => by
    cases q : H c with
    | none => exact h2 q
    | some o => rw [a.h c o q] at z; exact h3 xs (q.trans z)⟩
theorem Stp.new {G H : Hp} {p : Addr} {o : HO} (e : Ex G H) (hp : H p = none) : Stp G H (upd G p o) (upd H p o) := by
  have gp : G p = none := fresh_back e hp
  refine ⟨.new gp, .new hp, fun a u q => ?_, fun b h1 h2 _ => ?_⟩
  · by_cases ha : a = p
    · subst ha; rw [upd_same] at q ⊢; exact q
    · rw [upd_ne ha] at q ⊢; exact e a u q
  · have hb : b ≠ p := fun z => h2 (z ▸ hp)
    rw [upd_ne hb]; exact h1
/-- the heap alone moves on, by what is not known -/
theorem Stp.old {G H H' : Hp} (e : Ex G H) (h : Ex H H') : Stp G H G H' := ⟨.refl G, h, e.trans h, fun _ h _ _ => h⟩

/-! ### evaluation, told of data -/
def EvD (te : TE) (σ : L2.St) (G : Hp) (d : D) : Prop := ∀ G1 H1, Ex G G1 → Ex G1 H1 → ∀ Q : VK, (∀ v G2 H2, Stp G1 H1 G2 H2 → Dq G2 v d → Q v H2) → te σ H1 Q
def EvB (tt : TT) (σ : L2.St) (G : Hp) (b : Bool) : Prop := ∀ G1 H1, Ex G G1 → Ex G1 H1 → ∀ Q : Bool → Hp → Prop, (∀ G2 H2, Stp G1 H1 G2 H2 → Q b H2) → tt σ H1 Q
def EvS (ta : TA) (σ : L2.St) (G : Hp) (ds : List D) : Prop := ∀ G1 H1, Ex G G1 → Ex G1 H1 → ∀ Q : List V → Hp → Prop, (∀ vs G2 H2, Stp G1 H1 G2 H2 → DqA G2 vs ds → Q vs H2) → ta σ H1 Q
/-- operations on values -/
def OpD (r : R2) (G : Hp) (d e z : D) : Prop := ∀ x y G1 H1, Ex G G1 → Ex G1 H1 → Dq G1 x d → Dq G1 y e → ∀ Q : VK, (∀ v G2 H2, Stp G1 H1 G2 H2 → Dq G2 v z → Q v H2) → r x y H1 Q
def UnD (r : V → Hp → VK → Prop) (G : Hp) (d z : D) : Prop := ∀ x G1 H1, Ex G G1 → Ex G1 H1 → Dq G1 x d → ∀ Q : VK, (∀ v G2 H2, Stp G1 H1 G2 H2 → Dq G2 v z → Q v H2) → r x H1 Q
def CaD (r : List V → Hp → VK → Prop) (G : Hp) (ds : List D) (z : D) : Prop := ∀ vs G1 H1, Ex G G1 → Ex G1 H1 → DqA G1 vs ds → ∀ Q : VK, (∀ v G2 H2, Stp G1 H1 G2 H2 → Dq G2 v z → Q v H2) → r vs H1 Q
section
variable {K : PySem.W.Frag} {σ : L2.St} {G G' H H' : Hp} {ta tb te tx : TE} {t u : TT} {r : R2} {d e z : D} {ds es : List D}
theorem EvD.mono (x : Ex G G') (h : EvD te σ G d) : EvD te σ G' d := fun G1 H1 a b Q q => h G1 H1 (x.trans a) b Q q
theorem EvB.mono {b : Bool} (x : Ex G G') (h : EvB t σ G b) : EvB t σ G' b := fun G1 H1 a b Q q => h G1 H1 (x.trans a) b Q q
theorem EvD.is (h : EvD te σ G d) (x : d = e) : EvD te σ G e := x ▸ h
theorem EvB.is {b c : Bool} (h : EvB t σ G b) (x : b = c) : EvB t σ G c := x ▸ h
theorem d_var {i : Nat} {v : V} (h : σ[i]? = some (some v)) (k : Dq G v d) : EvD (tVar i) σ G d := fun G1 H1 a b Q q => ⟨v, h, q v G1 H1 (.refl b) (k.mono a)⟩
theorem d_c {v : V} (k : Dq G v d) : EvD (tC v) σ G d := fun G1 H1 a b Q q => q v G1 H1 (.refl b) (k.mono a)
theorem d_op (ha : EvD ta σ G d) (hb : EvD tb σ G e) (hr : OpD r G d e z) : EvD (tOp r ta tb) σ G z := fun G1 H1 a b Q q =>
  ha G1 H1 a b _ fun x G2 H2 s1 hx => hb G2 H2 (a.trans s1.g) s1.w _ fun y G3 H3 s2 hy => hr x y G3 H3 ((a.trans s1.g).trans s2.g) s2.w (hx.mono s2.g) hy Q fun v G4 H4 s3 hv => q v G4 H4 ((s1.trans s2).trans s3) hv
theorem d_un {r : V → Hp → VK → Prop} (ha : EvD ta σ G d) (hr : UnD r G d z) : EvD (tUn r ta) σ G z := fun G1 H1 a b Q q =>
  ha G1 H1 a b _ fun x G2 H2 s1 hx => hr x G2 H2 (a.trans s1.g) s1.w hx Q fun v G4 H4 s3 hv => q v G4 H4 (s1.trans s3) hv
theorem opd_I0 {g : Int → Int → V} {i j : Int} (h : ∀ G, Dq G (g i j) z) : OpD (rI0 g) G (.int i) (.int j) z := fun x y G1 H1 a b hx hy Q q => by
  cases hx; cases hy
  exact ⟨i, j, rfl, rfl, q _ G1 H1 (.refl b) (h G1)⟩
theorem opd_I {C : Int → Int → Prop} {g : Int → Int → V} {i j : Int} (hc : C i j) (h : ∀ G, Dq G (g i j) z) : OpD (rI C g) G (.int i) (.int j) z := fun x y G1 H1 a b hx hy Q q => by
  cases hx; cases hy
  exact ⟨i, j, rfl, rfl, hc, q _ G1 H1 (.refl b) (h G1)⟩
theorem opd_catT {as bs : List D} (hz : as.length + bs.length ≤ sizeLine) : OpD (rCatA K) G (.tuple as) (.tuple bs) (.tuple (as ++ bs)) := fun x y G1 H1 a b hx hy Q q => by
  cases hx with
  | @tup p xs _ hp hxs =>
    cases hy with
    | @tup p2 ys _ hp2 hys =>
      refine ⟨p, p2, xs, ys, rfl, rfl, SqT.of (b _ _ hp), SqT.of (b _ _ hp2), by rw [hxs.len, hys.len]; exact hz, fun e => ?_, fun _ e => ?_, fun _ _ l hl => ?_⟩
      · subst e
        cases hxs
        exact q _ G1 H1 (.refl b) (.tup hp2 hys)
      · subst e
        cases hys
        rw [List.append_nil] at q
        exact q _ G1 H1 (.refl b) (.tup hp hxs)
      · have s := Stp.new (o := .tup (xs ++ ys)) b hl
        exact q _ _ _ s (.tup upd_same ((hxs.app hys).mono s.g))
theorem opd_cat {as bs : List D} (hz : as.length + bs.length ≤ sizeLine) : OpD rCat G (.list as) (.list bs) (.list (as ++ bs)) := fun x y G1 H1 a b hx hy Q q => by
  cases hx with
  | @lst p xs _ hp hxs =>
    cases hy with
    | @lst p2 ys _ hp2 hys =>
      refine ⟨p, p2, xs, ys, rfl, rfl, b _ _ hp, b _ _ hp2, by rw [hxs.len, hys.len]; exact hz, fun l hl => ?_⟩
      have s := Stp.new (o := .lst (xs ++ ys)) b hl
      exact q _ _ _ s (.lst upd_same ((hxs.app hys).mono s.g))
theorem opd_ixT {as : List D} {j : Nat} (h : as[j]? = some z) : OpD (rIxT K) G (.tuple as) (.int (j : Int)) z := fun x y G1 H1 a b hx hy Q q => by
  cases hx with
  | @tup p xs _ hp hxs =>
    cases hy
    obtain ⟨v, hv, hd⟩ := hxs.getD h
    exact ⟨p, xs, (j : Int), v, rfl, rfl, SqT.of (b _ _ hp), atI_nat hv, q v G1 H1 (.refl b) hd⟩
theorem opd_ixL {as : List D} {j : Nat} (h : as[j]? = some z) : OpD (rIxL K) G (.list as) (.int (j : Int)) z := fun x y G1 H1 a b hx hy Q q => by
  cases hx with
  | @lst p xs _ hp hxs =>
    cases hy
    obtain ⟨v, hv, hd⟩ := hxs.getD h
    exact ⟨p, xs, (j : Int), v, rfl, rfl, SqL.of (b _ _ hp), atI_nat hv, q v G1 H1 (.refl b) hd⟩
mutual
def flatD : D → Bool
  | .dict _ => false
  | .list xs => flatDs xs
  | .tuple xs => flatDs xs
  | _ => true
def flatDs : List D → Bool
  | [] => true
  | x :: xs => flatD x && flatDs xs
end
mutual
theorem dp_of (x : Ex G H) : ∀ {d : D} {v : V}, Dq G v d → flatD d = true → Dp K H v d
  | _, _, .non, _ => .non
  | _, _, .bl b, _ => .bl b
  | _, _, .int i, _ => .int i
  | _, _, .str s, _ => .str s
  | _, _, .lst h k, f => .lst (SqL.of (x _ _ h)) (dpAll_of x k (by simpa [flatD] using f))
  | _, _, .tup h k, f => .tup (SqT.of (x _ _ h)) (dpAll_of x k (by simpa [flatD] using f))
  | _, _, .emp _ _, f => by simp [flatD] at f
  | _, _, .dct _ _ _, f => by simp [flatD] at f
theorem dpAll_of (x : Ex G H) : ∀ {ds : List D} {vs : List V}, DqA G vs ds → flatDs ds = true → DpAll K H vs ds
  | _, _, .nil, _ => .nil
  | _, _, .cons h k, f => by
    simp only [flatDs, Bool.and_eq_true] at f
    exact .cons (dp_of x h f.1) (dpAll_of x k f.2)
end
theorem opd_eq (f1 : flatD d = true) (f2 : flatD e = true) (s1 : SeqAt.shaped d = true) (s2 : SeqAt.shaped e = true) : OpD (rEqD K) G d e (.bool (PyData.eqv d e)) := fun x y G1 H1 a b hx hy Q q =>
  ⟨d, e, dp_of b hx f1, dp_of b hy f2, s1, s2, q _ G1 H1 (.refl b) (.bl _)⟩
theorem opd_ne (f1 : flatD d = true) (f2 : flatD e = true) (s1 : SeqAt.shaped d = true) (s2 : SeqAt.shaped e = true) : OpD (rNeD K) G d e (.bool (!PyData.eqv d e)) := fun x y G1 H1 a b hx hy Q q =>
  ⟨d, e, dp_of b hx f1, dp_of b hy f2, s1, s2, q _ G1 H1 (.refl b) (.bl _)⟩

/-! ### tests -/
theorem b_test {b : Bool} (h : EvD te σ G (.bool b)) : EvB (tTest te) σ G b := fun G1 H1 a w Q q => h G1 H1 a w _ fun v G2 H2 s hv => by
  cases hv
  exact ⟨b, rfl, q G2 H2 s⟩
theorem b_B {b : Bool} (h : EvD te σ G (.bool b)) : EvB (tB te) σ G b := fun G1 H1 a w Q q => h G1 H1 a w _ fun v G2 H2 s hv => by
  cases hv
  exact ⟨b, rfl, q G2 H2 s⟩
theorem b_and {a b : Bool} (h1 : EvB t σ G a) (h2 : a = true → EvB u σ G b) : EvB (tAnd t u) σ G (a && b) := fun G1 H1 x w Q q => h1 G1 H1 x w _ fun G2 H2 s => by
  cases a with
  | true => exact iteT (h2 rfl G2 H2 (x.trans s.g) s.w Q fun G3 H3 s3 => q G3 H3 (s.trans s3))
  | false => exact iteF (q G2 H2 s)
theorem b_or {a b : Bool} (h1 : EvB t σ G a) (h2 : a = false → EvB u σ G b) : EvB (tOr t u) σ G (a || b) := fun G1 H1 x w Q q => h1 G1 H1 x w _ fun G2 H2 s => by
  cases a with
  | true => exact iteT (q G2 H2 s)
  | false => exact iteF (h2 rfl G2 H2 (x.trans s.g) s.w Q fun G3 H3 s3 => q G3 H3 (s.trans s3))
theorem b_not {a : Bool} (h1 : EvB t σ G a) : EvB (tNot t) σ G (!a) := fun G1 H1 x w Q q => h1 G1 H1 x w _ fun G2 H2 s => q G2 H2 s
theorem b_yes : EvB tYes σ G true := fun G1 H1 x w Q q => q G1 H1 (.refl w)
theorem d_and {a b : Bool} (h1 : EvD ta σ G (.bool a)) (h2 : a = true → EvD tb σ G (.bool b)) : EvD (tAndV ta tb) σ G (.bool (a && b)) := fun G1 H1 x w Q q => h1 G1 H1 x w _ fun v G2 H2 s hv => by
  cases hv
  refine ⟨a, rfl, ?_⟩
  cases a with
  | true => exact iteT (h2 rfl G2 H2 (x.trans s.g) s.w Q fun v G3 H3 s3 => q v G3 H3 (s.trans s3))
  | false => exact iteF (q _ G2 H2 s (.bl false))
theorem d_or {a b : Bool} (h1 : EvD ta σ G (.bool a)) (h2 : a = false → EvD tb σ G (.bool b)) : EvD (tOrV ta tb) σ G (.bool (a || b)) := fun G1 H1 x w Q q => h1 G1 H1 x w _ fun v G2 H2 s hv => by
  cases hv
  refine ⟨a, rfl, ?_⟩
  cases a with
  | true => exact iteT (q _ G2 H2 s (.bl true))
  | false => exact iteF (h2 rfl G2 H2 (x.trans s.g) s.w Q fun v G3 H3 s3 => q v G3 H3 (s.trans s3))
theorem d_not {a : Bool} (h1 : EvD ta σ G (.bool a)) : EvD (tNotV ta) σ G (.bool (!a)) := fun G1 H1 x w Q q => h1 G1 H1 x w _ fun v G2 H2 s hv => by
  cases hv
  exact ⟨a, rfl, q _ G2 H2 s (.bl _)⟩
theorem d_if {b : Bool} (h : EvB t σ G b) (h1 : b = true → EvD ta σ G d) (h2 : b = false → EvD tb σ G d) : EvD (tIf t ta tb) σ G d := fun G1 H1 x w Q q => h G1 H1 x w _ fun G2 H2 s => by
  cases b with
  | true => exact iteT (h1 rfl G2 H2 (x.trans s.g) s.w Q fun v G3 H3 s3 => q v G3 H3 (s.trans s3))
  | false => exact iteF (h2 rfl G2 H2 (x.trans s.g) s.w Q fun v G3 H3 s3 => q v G3 H3 (s.trans s3))
/-- a < b < c over ints -/
theorem d_chainI {f g : Int → Int → Bool} {tc : TE} {i j k : Int} (ha : EvD ta σ G (.int i)) (hb : EvD tb σ G (.int j)) (hc : EvD tc σ G (.int k)) :
    EvD (tChain (rI0 fun i j => .bl (f i j)) (rI0 fun i j => .bl (g i j)) ta tb tc) σ G (.bool (f i j && g j k)) := fun G1 H1 x w Q q => ha G1 H1 x w _ fun v G2 H2 s hv => by
  cases hv
  refine hb G2 H2 (x.trans s.g) s.w _ fun v G3 H3 s3 hv => ?_
  cases hv
  refine ⟨i, j, rfl, rfl, f i j, rfl, ?_⟩
  cases hf : f i j with
  | true =>
    refine hc G3 H3 ((x.trans s.g).trans s3.g) s3.w _ fun v G4 H4 s4 hv => ?_
    cases hv
    rw [hf] at q
    exact ⟨j, k, rfl, rfl, q _ G4 H4 ((s.trans s3).trans s4) (.bl _)⟩
  | false =>
    rw [hf] at q
    exact q _ G3 H3 (s.trans s3) (.bl _)

/-! ### arguments, displays, calls -/
theorem a_nil : EvS tNil σ G [] := fun G1 H1 x w Q q => q [] G1 H1 (.refl w) .nil
theorem a_cons {tr : TA} (h : EvD ta σ G d) (hr : EvS tr σ G ds) : EvS (tCons ta tr) σ G (d :: ds) := fun G1 H1 x w Q q =>
  h G1 H1 x w _ fun v G2 H2 s hv => hr G2 H2 (x.trans s.g) s.w _ fun vs G3 H3 s3 hvs => q (v :: vs) G3 H3 (s.trans s3) (.cons (hv.mono s3.g) hvs)
theorem d_tup {tr : TA} (h : EvS tr σ G ds) (hz : ds.length ≤ sizeLine) : EvD (tTup tr) σ G (.tuple ds) := fun G1 H1 x w Q q =>
  h G1 H1 x w _ fun vs G2 H2 s hvs => ⟨by rw [hvs.len]; exact hz, fun p hp => by
    have s2 := Stp.new (o := .tup vs) s.w hp
    exact q _ _ _ (s.trans s2) (.tup upd_same (hvs.mono s2.g))⟩
theorem d_lst {tr : TA} (h : EvS tr σ G ds) (hz : ds.length ≤ sizeLine) : EvD (tLst tr) σ G (.list ds) := fun G1 H1 x w Q q =>
  h G1 H1 x w _ fun vs G2 H2 s hvs => ⟨by rw [hvs.len]; exact hz, fun p hp => by
    have s2 := Stp.new (o := .lst vs) s.w hp
    exact q _ _ _ (s.trans s2) (.lst upd_same (hvs.mono s2.g))⟩
theorem d_cb {rc : List V → Hp → VK → Prop} {tr : TA} (h : EvS tr σ G ds) (hr : CaD rc G ds z) : EvD (tCB rc tr) σ G z := fun G1 H1 x w Q q =>
  h G1 H1 x w _ fun vs G2 H2 s hvs => hr vs G2 H2 (x.trans s.g) s.w hvs Q fun v G3 H3 s3 hv => q v G3 H3 (s.trans s3) hv
/-- a def without effect: from data that P says right to the data f tells -/
def SpD (P : List D → Prop) (f : List D → D) : Sp := fun vs H Q _ => ∃ G ds, Ex G H ∧ DqA G vs ds ∧ P ds ∧ ∀ v G2 H2, Stp G H G2 H2 → Dq G2 v (f ds) → Q v H2
theorem d_call {P : List D → Prop} {f : List D → D} {E : XK} {tr : TA} (h : EvS tr σ G ds) (hp : P ds) : EvD (tCall (SpD P f) [] E tr) σ G (f ds) := fun G1 H1 x w Q q =>
  h G1 H1 x w _ fun vs G2 H2 s hvs => by
    rw [List.append_nil]
    exact ⟨G2, ds, s.w, hvs, hp, fun v G3 H3 s3 hv => q v G3 H3 (s.trans s3) hv⟩
theorem cad_lenL : CaD (rLenA K) G [.list ds] (.int ds.length) := fun vs G1 H1 x w h Q q => by
  cases h with
  | cons h k =>
    cases k
    cases h with
    | lst hp hx => exact ⟨_, _, rfl, .inl (SqL.of (w _ _ hp)), by rw [hx.len]; exact q _ G1 H1 (.refl w) (.int _)⟩
theorem cad_lenT : CaD (rLenA K) G [.tuple ds] (.int ds.length) := fun vs G1 H1 x w h Q q => by
  cases h with
  | cons h k =>
    cases k
    cases h with
    | tup hp hx => exact ⟨_, _, rfl, .inr (SqT.of (w _ _ hp)), by rw [hx.len]; exact q _ G1 H1 (.refl w) (.int _)⟩
theorem cad_tuple : CaD (rTupOf K) G [.list ds] (.tuple ds) := fun vs G1 H1 x w h Q q => by
  cases h with
  | cons h k =>
    cases k
    cases h with
    | @lst p xs _ hp hx =>
      refine ⟨_, _, rfl, .inl ⟨SqL.of (w _ _ hp), fun l hl => ?_⟩⟩
      have s2 := Stp.new (o := .tup xs) w hl
      exact q _ _ _ s2 (.tup upd_same (hx.mono s2.g))
theorem cad_list : CaD (rListOf K) G [.list ds] (.list ds) := fun vs G1 H1 x w h Q q => by
  cases h with
  | cons h k =>
    cases k
    cases h with
    | @lst p xs _ hp hx =>
      refine ⟨_, _, rfl, .inl (SqL.of (w _ _ hp)), fun l hl => ?_⟩
      have s2 := Stp.new (o := .lst xs) w hl
      exact q _ _ _ s2 (.lst upd_same (hx.mono s2.g))
theorem cad_int1 {i : Int} : CaD (fun xs H Q => (∃ i, xs = [.int i] ∧ Q (.int i) H) ∨ ∃ k, xs = [.bl k] ∧ Q (.int (if k then 1 else 0)) H) G [.int i] (.int i) := fun vs G1 H1 x w h Q q => by
  cases h with
  | cons h k =>
    cases k
    cases h
    exact .inl ⟨i, rfl, q _ G1 H1 (.refl w) (.int _)⟩
theorem cad_all {bs : List Bool} : CaD (rAll K) G [.list (bs.map PyData.bool)] (.bool (bs.all id)) := fun vs G1 H1 x w h Q q => by
  cases h with
  | cons h k =>
    cases k
    cases h with
    | @lst p xs _ hp hx =>
      have e := hx.bls
      subst e
      exact ⟨p, bs, rfl, SqL.of (w _ _ hp), q _ G1 H1 (.refl w) (.bl _)⟩
theorem cad_min2 {i j : Int} : CaD (fun xs H Q => ∃ i j, xs = [.int i, .int j] ∧ Q (.int (if j < i then j else i)) H) G [.int i, .int j] (.int (if j < i then j else i)) := fun vs G1 H1 x w h Q q => by
  cases h with
  | cons h k =>
    cases k with
    | cons h2 k =>
      cases k
      cases h
      cases h2
      exact ⟨i, j, rfl, q _ G1 H1 (.refl w) (.int _)⟩

/-! ### comprehensions -/
/-- the list that is being made: acc, in which what d tells stands, beside what is known -/
structure Mk2 (G0 H0 : Hp) (p : Addr) (ds : List D) (H : Hp) : Prop where
  at_ : ∃ G vs, Stp G0 H0 G H ∧ G p = none ∧ DqA G vs ds ∧ H p = some (.lst vs)
theorem Mk2.start {G0 H0 : Hp} {p : Addr} (x : Ex G0 H0) (hp : H0 p = none) : Mk2 G0 H0 p [] (upd H0 p (.lst [])) :=
  ⟨G0, [], ⟨.refl _, .new hp, x.trans (.new hp), fun _ h _ _ => h⟩, fresh_back x hp, .nil, upd_same⟩
/-- one turn: the test, the item -/
theorem Mk2.turn {G0 H0 H1 : Hp} {p : Addr} {acc : List D} {σ2 : L2.St} {b : Bool} (h0 : H0 p = none) (m : Mk2 G0 H0 p acc H1) (hz : acc.length < sizeLine)
    (ht : ∀ G, Ex G0 G → Ex G H1 → EvB t σ2 G b) (he : ∀ G, Ex G0 G → Ex G H1 → b = true → EvD te σ2 G d) {N : Hp → Prop} (k : ∀ H2, Mk2 G0 H0 p (if b then acc ++ [d] else acc) H2 → N H2) :
    t σ2 H1 fun b' H3 => if b' = true then te σ2 H3 fun y H4 => ∃ ac, H4 p = some (.lst ac) ∧ ac.length < sizeLine ∧ N (upd H4 p (.lst (ac ++ [y]))) else N H3 := by
  obtain ⟨G, vs, s, gp, hvs, hH⟩ := m
  refine ht G s.g s.w G H1 (.refl G) s.w _ fun G2 H2 s2 => ?_
  have g2 : G2 p = none := s2.n p gp (by rw [hH]; intro z; cases z) (by rw [hH]; intro xs z; cases z)
  cases b with
  | false => exact iteF (k _ ⟨G2, vs, s.trans s2, g2, hvs.mono s2.g, s2.h _ _ hH⟩)
  | true =>
    refine iteT (he G s.g s.w rfl G2 H2 s2.g s2.w _ fun v G3 H3 s3 hv => ?_)
    have h3 : H3 p = some (.lst vs) := s3.h _ _ (s2.h _ _ hH)
    have g3 : G3 p = none := s3.n p g2 (by rw [s2.h _ _ hH]; intro z; cases z) (by rw [s2.h _ _ hH]; intro xs z; cases z)
    refine ⟨vs, h3, by rw [hvs.len]; exact hz, k _ ⟨G3, vs ++ [v], ?_, g3, (hvs.mono (s2.g.trans s3.g)).snoc hv, upd_same⟩⟩
    have s4 := (s.trans s2).trans s3
    refine ⟨s4.g, s4.h.mut h0, fun a o q => ?_, s4.n⟩
    have ha : a ≠ p := fun z => by rw [z, g3] at q; cases q
    rw [upd_ne ha]
    exact s3.w a o q
/-- the end: the list is known from now on -/
theorem Mk2.done {G0 H0 H1 : Hp} {p : Addr} {acc : List D} (h0 : H0 p = none) (m : Mk2 G0 H0 p acc H1) : ∃ G, Stp G0 H0 G H1 ∧ Dq G (.ref p) (.list acc) := by
  obtain ⟨G, vs, s, gp, hvs, hH⟩ := m
  refine ⟨upd G p (.lst vs), ⟨s.g.trans (.new gp), s.h, fun a o q => ?_, fun b h1 h2 h3 => ?_⟩, .lst upd_same (hvs.mono (.new gp))⟩
  · by_cases ha : a = p
    · subst ha; rw [upd_same] at q; rw [← q]; exact hH
    · rw [upd_ne ha] at q; exact s.w a o q
  · have hb : b ≠ p := fun z => h2 (z ▸ h0)
    rw [upd_ne hb]; exact s.n b h1 h2 h3
/-- what a comprehension has made behind so many items -/
def made {α : Type} (p : α → Bool) (f : α → D) (l : List α) : List D := (l.filter p).map f
theorem made_snoc {α : Type} (p : α → Bool) (f : α → D) (l : List α) (x : α) : made p f (l ++ [x]) = if p x then made p f l ++ [f x] else made p f l := by
  unfold made
  rw [List.filter_append, List.map_append]
  cases h : p x with
  | true => rw [List.filter_cons, if_pos h] <;> rfl
  | false =>
    rw [List.filter_cons, if_neg (by rw [h]; decide)]
    show _ ++ [] = _
    rw [List.append_nil] <;> rfl
theorem made_len {α : Type} (p : α → Bool) (f : α → D) (l : List α) : (made p f l).length ≤ l.length := by
  unfold made
  rw [List.length_map]
  exact List.length_filter_le _ _
theorem take_more {α : Type} {l : List α} {i : Nat} {x : α} (h : l[i]? = some x) : l.take (i + 1) = l.take i ++ [x] := by
  rw [List.take_add_one, h]; rfl
/-- over a tuple or a list of data -/
theorem d_lcT {tl : TE} {j : Nat} {vs : List Nat} {as : List D} (p : D → Bool) (f : D → D) (h : EvD tl σ G (.tuple as)) (hz : as.length ≤ 1000000) (hw : ∀ x, wipe ((wipe σ vs).set j (some x)) vs = wipe σ vs)
    (ht : ∀ v a G1, Ex G G1 → a ∈ as → Dq G1 v a → EvB t ((wipe σ vs).set j (some v)) G1 (p a)) (he : ∀ v a G1, Ex G G1 → a ∈ as → Dq G1 v a → p a = true → EvD te ((wipe σ vs).set j (some v)) G1 (f a)) :
    EvD (tLc (iTup K tl) (gName j) t te vs) σ G (.list (made p f as)) := fun G1 H1 x w Q q => h G1 H1 x w _ fun v G2 H2 s hv => by
  cases hv with
  | @tup a xs _ ha hxs =>
    refine ⟨a, rfl, ⟨xs, SqT.of (s.w _ _ ha)⟩, fun Dl hD => ?_⟩
    refine lc_tup (xs := xs) (fun i H => Mk2 G2 H2 Dl (made p f (as.take i)) H) (Mk2.start s.w hD) (fun i H _ m => ?_) (fun i v H hi m => ⟨hw v, ?_⟩) (fun H m => ?_)
    · obtain ⟨G3, _, s3, _⟩ := m
      exact SqT.of (s3.w _ _ (s3.g _ _ ha))
    · obtain ⟨dv, hdv, hq⟩ := hxs.get hi
      have hl : i < as.length := (List.getElem?_eq_some_iff.mp hdv).1
      refine Mk2.turn (b := p dv) (d := f dv) hD m ?_ (fun G3 e1 _ => (ht v dv G3 ((x.trans s.g).trans e1) (List.mem_of_getElem? hdv) (hq.mono e1))) (fun G3 e1 _ hp => (he v dv G3 ((x.trans s.g).trans e1) (List.mem_of_getElem? hdv) (hq.mono e1) hp)) fun H3 m3 => ?_
      · have h1 := made_len p f (as.take i)
        rw [List.length_take] at h1
        rw [sizeLine_eq]; omega
      · rw [take_more hdv, made_snoc]; exact m3
    · rw [hxs.len, List.take_length] at m
      obtain ⟨G3, s3, h3⟩ := m.done hD
      exact q _ G3 H (s.trans s3) h3
theorem d_lcL {tl : TE} {j : Nat} {vs : List Nat} {as : List D} (p : D → Bool) (f : D → D) (h : EvD tl σ G (.list as)) (hz : as.length ≤ 1000000) (hw : ∀ x, wipe ((wipe σ vs).set j (some x)) vs = wipe σ vs)
    (ht : ∀ v a G1, Ex G G1 → a ∈ as → Dq G1 v a → EvB t ((wipe σ vs).set j (some v)) G1 (p a)) (he : ∀ v a G1, Ex G G1 → a ∈ as → Dq G1 v a → p a = true → EvD te ((wipe σ vs).set j (some v)) G1 (f a)) :
    EvD (tLc (iList K tl) (gName j) t te vs) σ G (.list (made p f as)) := fun G1 H1 x w Q q => h G1 H1 x w _ fun v G2 H2 s hv => by
  cases hv with
  | @lst a xs _ ha hxs =>
    refine ⟨a, rfl, ⟨xs, SqL.of (s.w _ _ ha)⟩, fun Dl hD => ?_⟩
    refine lc_list (xs := xs) (fun i H => Mk2 G2 H2 Dl (made p f (as.take i)) H) (Mk2.start s.w hD) (fun i H _ m => ?_) (fun i v H hi m => ⟨hw v, ?_⟩) (fun H m => ?_)
    · obtain ⟨G3, _, s3, _⟩ := m
      exact SqL.of (s3.w _ _ (s3.g _ _ ha))
    · obtain ⟨dv, hdv, hq⟩ := hxs.get hi
      have hl : i < as.length := (List.getElem?_eq_some_iff.mp hdv).1
      refine Mk2.turn (b := p dv) (d := f dv) hD m ?_ (fun G3 e1 _ => (ht v dv G3 ((x.trans s.g).trans e1) (List.mem_of_getElem? hdv) (hq.mono e1))) (fun G3 e1 _ hp => (he v dv G3 ((x.trans s.g).trans e1) (List.mem_of_getElem? hdv) (hq.mono e1) hp)) fun H3 m3 => ?_
      · have h1 := made_len p f (as.take i)
        rw [List.length_take] at h1
        rw [sizeLine_eq]; omega
      · rw [take_more hdv, made_snoc]; exact m3
    · rw [hxs.len, List.take_length] at m
      obtain ⟨G3, s3, h3⟩ := m.done hD
      exact q _ G3 H (s.trans s3) h3
/-- over range(n) -/
theorem d_lcR {ta : TA} {j : Nat} {vs : List Nat} {n : Nat} (p : Nat → Bool) (f : Nat → D) (h : EvS ta σ G [.int (n : Int)]) (hz : n ≤ 1000000) (hw : ∀ x, wipe ((wipe σ vs).set j (some x)) vs = wipe σ vs)
    (ht : ∀ (i : Nat) G1, Ex G G1 → i < n → EvB t ((wipe σ vs).set j (some (.int (i : Int)))) G1 (p i)) (he : ∀ (i : Nat) G1, Ex G G1 → i < n → p i = true → EvD te ((wipe σ vs).set j (some (.int (i : Int)))) G1 (f i)) :
    EvD (tLc (iRng1 ta) (gName j) t te vs) σ G (.list (made p f (List.range n))) := fun G1 H1 x w Q q => h G1 H1 x w _ fun us G2 H2 s hv => by
  cases hv with
  | cons hv hn =>
    cases hn
    cases hv
    refine ⟨(n : Int), rfl, by omega, by omega, fun Dl hD => ?_⟩
    have hn' : ((n : Int)).toNat = n := by omega
    rw [hn']
    refine lc_range (lo := 0) (n := n) (fun i H => Mk2 G2 H2 Dl (made p f ((List.range n).take i)) H) (Mk2.start s.w hD) (fun i H hi m => ?_) (fun H m => ?_)
    · have e0 : (0 : Int) + (i : Int) = (i : Int) := Int.zero_add _
      show wipe ((wipe σ vs).set j (some (.int ((0 : Int) + (i : Int))))) vs = wipe σ vs ∧ _
      refine ⟨hw _, ?_⟩
      rw [e0]
      have hdv : (List.range n)[i]? = some i := by rw [List.getElem?_range hi]
      refine Mk2.turn (b := p i) (d := f i) hD m ?_ (fun G3 e1 _ => (ht i G3 ((x.trans s.g).trans e1) hi)) (fun G3 e1 _ hp => (he i G3 ((x.trans s.g).trans e1) hi hp)) fun H3 m3 => ?_
      · have h1 := made_len p f ((List.range n).take i)
        rw [List.length_take, List.length_range] at h1
        rw [sizeLine_eq]; omega
      · rw [take_more hdv, made_snoc]; exact m3
    · have e : (List.range n).take n = List.range n := List.take_of_length_le (by rw [List.length_range]; exact Nat.le_refl _)
      rw [e] at m
      obtain ⟨G3, s3, h3⟩ := m.done hD
      exact q _ G3 H (s.trans s3) h3
end
end Mv


namespace Mv
open PySem L2 Evl

/-! ### built-ins' names that the program leaves alone -/
structure Zs (mg : Str → Option Value) : Prop where
  len : mg "len" = none
  zip : mg "zip" = none
  tuple : mg "tuple" = none
  list : mg "list" = none
  range : mg "range" = none
  all : mg "all" = none
  int : mg "int" = none
  bool : mg "bool" = none
  isinstance : mg "isinstance" = none
  abs : mg "abs" = none
  min : mg "min" = none
  repr : mg "repr" = none
/-- a def that can be called by its name, with its promise -/
structure Cal (P : Program) (w : World) (K : PySem.W.Frag) (mg : Str → Option Value) (base : Heap) (CX : CXT) (k : Nat) (x : Str) (ps : List Str) (sp : Sp) : Prop where
  ex : ∃ (f : Addr) (fd : FuncData), FnOk P w K mg base CX k f fd ps sp ∧ mg x = some (.ref f) ∧ PySem.W.keepIn K (.ref f) = true ∧ Binds K fd ps []
theorem pe_cal {X : Cx} {CX : CXT} {k : Nat} {x : Str} {ps : List Str} {sp : Sp} {E : XK} {p pos : Pos} {e : Expr} {es : List Expr} {t : TA} (C : Cal X.prog X.w X.K X.mg X.base CX k x ps sp) (hr : Room k X.A) (hx : Passes CX X E) (ha : PA X (e :: es) t)
    (hg : Gl X x := by rfl) (hs : starEach (e :: es) X.env = (false, eval e X.env) :: starEach es X.env := by rfl) (hpl : (backTo pos (starEach es X.env)).any (·.1) = false := by rfl) (hdb : (x == ("__debug__" : Str)) = false := by decide) :
    PE X (.Call (.Name x p) (e :: es) [] pos) (tCall sp [] E t) := by
  obtain ⟨f, fd, F, hm, hk, hb⟩ := C.ex
  exact pe_call F hr hg hm hk hb .nil hx ha hdb hs hpl

/-! ### promises over data -/
/-- from data to the data that R tells -/
def SpR (R : List D → D → Prop) : Sp := fun vs H Q _ => ∃ G ds z, Ex G H ∧ DqA G vs ds ∧ R ds z ∧ ∀ v G2 H2, Stp G H G2 H2 → Dq G2 v z → Q v H2
/-- the same, or an error of the class at C -/
def SpE (R : List D → Except Addr D → Prop) : Sp := fun vs H Q E => ∃ G ds r, Ex G H ∧ DqA G vs ds ∧ R ds r ∧ (∀ z, r = .ok z → ∀ v G2 H2, Stp G H G2 H2 → Dq G2 v z → Q v H2) ∧ (∀ C, r = .error C → ∀ G2 H2, Stp G H G2 H2 → E (.ref C) none H2)
section
variable {K : PySem.W.Frag} {σ : L2.St} {G G' H H' : Hp} {ta tb te tx : TE} {t u : TT} {d e z : D} {ds es : List D} {D' : Ends} {tu tz : TS}
theorem d_cal {R : List D → D → Prop} {E : XK} {tr : TA} (h : EvS tr σ G ds) (hp : R ds z) : EvD (tCall (SpR R) [] E tr) σ G z := fun G1 H1 x w Q q =>
  h G1 H1 x w _ fun vs G2 H2 s hvs => by
    rw [List.append_nil]
    exact ⟨G2, ds, z, s.w, hvs, hp, fun v G3 H3 s3 hv => q v G3 H3 (s.trans s3) hv⟩
theorem d_calE {R : List D → Except Addr D → Prop} {E : XK} {tr : TA} (h : EvS tr σ G ds) (hp : R ds (.ok z)) : EvD (tCall (SpE R) [] E tr) σ G z := fun G1 H1 x w Q q =>
  h G1 H1 x w _ fun vs G2 H2 s hvs => by
    rw [List.append_nil]
    exact ⟨G2, ds, _, s.w, hvs, hp, fun z hz v G3 H3 s3 hv => by cases hz; exact q v G3 H3 (s.trans s3) hv, fun C hC => nomatch hC⟩

/-! ### statements -/
theorem s_asg {i : Nat} (h : EvD te σ G d) (w : Ex G H) (k : ∀ v G1 H1, Stp G H G1 H1 → Dq G1 v d → D'.nx (σ.set i (some v)) H1) : tAsg te (gName i) D' σ H := h G H (.refl G) w _ fun v G1 H1 s hv => k v G1 H1 s hv
theorem q_asg {i : Nat} (h : EvD te σ G d) (w : Ex G H) (k : ∀ v G1 H1, Stp G H G1 H1 → Dq G1 v d → tz D' (σ.set i (some v)) H1) : tSeq (tAsg te (gName i)) tz D' σ H := s_asg (D' := { D' with nx := tz D' }) h w k
theorem s_ret (h : EvD te σ G d) (w : Ex G H) (k : ∀ v G1 H1, Stp G H G1 H1 → Dq G1 v d → D'.rt v H1) : tRet te D' σ H := h G H (.refl G) w _ k
theorem s_if {b : Bool} (h : EvB t σ G b) (w : Ex G H) (h1 : b = true → ∀ G1 H1, Stp G H G1 H1 → tu D' σ H1) (h2 : b = false → ∀ G1 H1, Stp G H G1 H1 → tz D' σ H1) : tIfS t tu tz D' σ H := h G H (.refl G) w _ fun G1 H1 s => by
  cases b with
  | true => exact iteT (h1 rfl G1 H1 s)
  | false => exact iteF (h2 rfl G1 H1 s)
theorem q_if {b : Bool} {tv : TS} (h : EvB t σ G b) (w : Ex G H) (h1 : b = true → ∀ G1 H1, Stp G H G1 H1 → tu { D' with nx := tv D' } σ H1) (h2 : b = false → ∀ G1 H1, Stp G H G1 H1 → tz { D' with nx := tv D' } σ H1) : tSeq (tIfS t tu tz) tv D' σ H := s_if (D' := { D' with nx := tv D' }) h w h1 h2
/-- if c: .. (and no else), then the rest -/
theorem q_when {b : Bool} {tv : TS} (h : EvB t σ G b) (w : Ex G H) (h1 : b = true → ∀ G1 H1, Stp G H G1 H1 → tu { D' with nx := tv D' } σ H1) (h2 : b = false → ∀ G1 H1, Stp G H G1 H1 → tv D' σ H1) : tSeq (tIfS t tu tNext) tv D' σ H := q_if h w h1 h2
theorem s_when {b : Bool} (h : EvB t σ G b) (w : Ex G H) (h1 : b = true → ∀ G1 H1, Stp G H G1 H1 → tu D' σ H1) (h2 : b = false → ∀ G1 H1, Stp G H G1 H1 → D'.nx σ H1) : tIfS t tu tNext D' σ H := s_if h w h1 h2
/-- a loop's word: what P says of the slots and of what is known, some steps behind the start -/
def Nw (G H : Hp) (Pv : Nat → L2.St → Hp → Prop) (i : Nat) : L2.St → Hp → Prop := fun σ' H' => ∃ G', Stp G H G' H' ∧ Pv i σ' G'
theorem s_forT {g : TG} {tl : TE} {as : List D} (h : EvD tl σ G (.tuple as)) (w : Ex G H) (Pv : Nat → L2.St → Hp → Prop) (h0 : ∀ G1 H1, Stp G H G1 H1 → Pv 0 σ G1)
    (hs : ∀ G1 H1, Stp G H G1 H1 → ∀ (i : Nat) v a σ' G2 H2, as[i]? = some a → Stp G1 H1 G2 H2 → Pv i σ' G2 → Dq G2 v a → g v σ' H2 fun σ2 H3 => tu { D' with nx := Nw G1 H1 Pv (i + 1), ct := Nw G1 H1 Pv (i + 1), bk := D'.nx } σ2 H3)
    (hd : ∀ σ' G2 H2, Stp G H G2 H2 → Pv as.length σ' G2 → D'.nx σ' H2) : tFor (iTup K tl) g tu D' σ H := h G H (.refl G) w _ fun v G1 H1 s hv => by
  cases hv with
  | @tup a xs _ ha hxs =>
    refine ⟨a, rfl, ⟨xs, SqT.of (s.w _ _ ha)⟩, for_tup (xs := xs) (fun i σ' H' => Nw G1 H1 Pv i σ' H') ⟨G1, .refl s.w, h0 G1 H1 s⟩ (fun i σ' H' _ ⟨G', s', _⟩ => SqT.of (s'.w _ _ (s'.g _ _ ha))) ?_ ?_⟩
    · rintro i v σ' H' hi ⟨G', s', p⟩
      obtain ⟨dv, hdv, hq⟩ := hxs.get hi
      exact hs G1 H1 s i v dv σ' G' H' hdv s' p (hq.mono s'.g)
    · rintro σ' H' ⟨G', s', p⟩
      rw [hxs.len] at p
      exact hd σ' G' H' (s.trans s') p
theorem s_forL {g : TG} {tl : TE} {as : List D} (h : EvD tl σ G (.list as)) (w : Ex G H) (Pv : Nat → L2.St → Hp → Prop) (h0 : ∀ G1 H1, Stp G H G1 H1 → Pv 0 σ G1)
    (hs : ∀ G1 H1, Stp G H G1 H1 → ∀ (i : Nat) v a σ' G2 H2, as[i]? = some a → Stp G1 H1 G2 H2 → Pv i σ' G2 → Dq G2 v a → g v σ' H2 fun σ2 H3 => tu { D' with nx := Nw G1 H1 Pv (i + 1), ct := Nw G1 H1 Pv (i + 1), bk := D'.nx } σ2 H3)
    (hd : ∀ σ' G2 H2, Stp G H G2 H2 → Pv as.length σ' G2 → D'.nx σ' H2) : tFor (iList K tl) g tu D' σ H := h G H (.refl G) w _ fun v G1 H1 s hv => by
  cases hv with
  | @lst a xs _ ha hxs =>
    refine ⟨a, rfl, ⟨xs, SqL.of (s.w _ _ ha)⟩, for_list (xs := xs) (fun i σ' H' => Nw G1 H1 Pv i σ' H') ⟨G1, .refl s.w, h0 G1 H1 s⟩ (fun i σ' H' _ ⟨G', s', _⟩ => SqL.of (s'.w _ _ (s'.g _ _ ha))) ?_ ?_⟩
    · rintro i v σ' H' hi ⟨G', s', p⟩
      obtain ⟨dv, hdv, hq⟩ := hxs.get hi
      exact hs G1 H1 s i v dv σ' G' H' hdv s' p (hq.mono s'.g)
    · rintro σ' H' ⟨G', s', p⟩
      rw [hxs.len] at p
      exact hd σ' G' H' (s.trans s') p
theorem s_forR {ta : TA} {j : Nat} {n : Nat} (h : EvS ta σ G [.int (n : Int)]) (hz : n ≤ 1000000) (w : Ex G H) (Pv : Nat → L2.St → Hp → Prop) (h0 : ∀ G1 H1, Stp G H G1 H1 → Pv 0 σ G1)
    (hs : ∀ G1 H1, Stp G H G1 H1 → ∀ (i : Nat) σ' G2 H2, i < n → Stp G1 H1 G2 H2 → Pv i σ' G2 → tu { D' with nx := Nw G1 H1 Pv (i + 1), ct := Nw G1 H1 Pv (i + 1), bk := D'.nx } (σ'.set j (some (.int (i : Int)))) H2)
    (hd : ∀ σ' G2 H2, Stp G H G2 H2 → Pv n σ' G2 → D'.nx σ' H2) : tFor (iRng1 ta) (gName j) tu D' σ H := h G H (.refl G) w _ fun us G1 H1 s hv => by
  cases hv with
  | cons hv hn =>
    cases hn
    cases hv
    refine ⟨(n : Int), rfl, by omega, by omega, ?_⟩
    have hn' : ((n : Int)).toNat = n := by omega
    rw [hn']
    refine for_range (lo := 0) (n := n) (fun i σ' H' => Nw G1 H1 Pv i σ' H') ⟨G1, .refl s.w, h0 G1 H1 s⟩ ?_ ?_
    · rintro i σ' H' hi ⟨G', s', p⟩
      have e0 : ((0 : Int) + (i : Int) = (i : Int)) := Int.zero_add _
      show tu { D' with nx := Nw G1 H1 Pv (i + 1), ct := Nw G1 H1 Pv (i + 1), bk := D'.nx } (σ'.set j (some (.int ((0 : Int) + (i : Int))))) H'
      rw [e0]
      exact hs G1 H1 s i σ' G' H' hi s' p
    · rintro σ' H' ⟨G', s', p⟩
      exact hd σ' G' H' (s.trans s') p
/-- zip of three: the items, one by one -/
def zip3 : List D → List D → List D → List (D × D × D)
  | a :: as, b :: bs, c :: cs => (a, b, c) :: zip3 as bs cs
  | _, _, _ => []
theorem zip3_get : ∀ {as bs cs : List D} {i : Nat} {a b c : D}, as[i]? = some a → bs[i]? = some b → cs[i]? = some c → (zip3 as bs cs)[i]? = some (a, b, c)
  | a :: as, b :: bs, c :: cs, 0, _, _, _, h1, h2, h3 => by simp at h1 h2 h3; subst h1 h2 h3; rfl
  | a :: as, b :: bs, c :: cs, i + 1, _, _, _, h1, h2, h3 => by
    simp only [List.getElem?_cons_succ] at h1 h2 h3
    show (zip3 as bs cs)[i]? = _
    exact zip3_get h1 h2 h3
  | [], _, _, _, _, _, _, h, _, _ => by simp at h
  | _ :: _, [], _, _, _, _, _, _, h, _ => by simp at h
  | _ :: _, _ :: _, [], _, _, _, _, _, _, h => by simp at h
theorem zip3_len : ∀ (as bs cs : List D), (zip3 as bs cs).length = min as.length (min bs.length cs.length)
  | a :: as, b :: bs, c :: cs => by
    show (zip3 as bs cs).length + 1 = _
    rw [zip3_len as bs cs]
    simp only [List.length_cons]
    omega
  | [], _, _ => by simp [zip3]
  | _ :: _, [], _ => by simp [zip3]
  | _ :: _, _ :: _, [] => by simp [zip3]
/-- a list or a tuple -/
def sq (k : Bool) (as : List D) : D := if k then .list as else .tuple as
theorem sq_at {k : Bool} {as : List D} {v : V} {G : Hp} (h : Dq G v (sq k as)) : ∃ a xs, v = .ref a ∧ DqA G xs as ∧ ∀ H, Ex G H → SqK K k H a xs := by
  cases k with
  | true =>
    have h : Dq G v (.list as) := h
    cases h with
    | lst ha hx => exact ⟨_, _, rfl, hx, fun H e => SqL.of (e _ _ ha)⟩
  | false =>
    have h : Dq G v (.tuple as) := h
    cases h with
    | tup ha hx => exact ⟨_, _, rfl, hx, fun H e => SqT.of (e _ _ ha)⟩
/-- a tuple of three names -/
abbrev gT3 (K : PySem.W.Frag) (i j k : Nat) : TG := gTup K 3 (gCons (gName i) (gCons (gName j) (gCons (gName k) gNil)))
abbrev gT2 (K : PySem.W.Frag) (i j : Nat) : TG := gTup K 2 (gCons (gName i) (gCons (gName j) gNil))
theorem d_lcZ3 {ta : TA} {i j k : Nat} {vs : List Nat} {k1 k2 k3 : Bool} {as bs cs : List D} (p : D × D × D → Bool) (f : D × D × D → D) (h : EvS ta σ G [sq k1 as, sq k2 bs, sq k3 cs]) (hz : as.length ≤ 1000000)
    (hl : as.length = bs.length ∧ bs.length = cs.length) (hw : ∀ x y z, wipe ((((wipe σ vs).set i (some x)).set j (some y)).set k (some z)) vs = wipe σ vs)
    (ht : ∀ x y z a b c G1, Ex G G1 → (a, b, c) ∈ zip3 as bs cs → Dq G1 x a → Dq G1 y b → Dq G1 z c → EvB t ((((wipe σ vs).set i (some x)).set j (some y)).set k (some z)) G1 (p (a, b, c)))
    (he : ∀ x y z a b c G1, Ex G G1 → (a, b, c) ∈ zip3 as bs cs → Dq G1 x a → Dq G1 y b → Dq G1 z c → p (a, b, c) = true → EvD te ((((wipe σ vs).set i (some x)).set j (some y)).set k (some z)) G1 (f (a, b, c))) :
    EvD (tLc (iZip3 K k1 k2 k3 ta) (gT3 K i j k) t te vs) σ G (.list (made p f (zip3 as bs cs))) := fun G1 H1 x w Q q => h G1 H1 x w _ fun us G2 H2 s hv => by
  cases hv with
  | cons hv hn =>
    cases hn with
    | cons hv2 hn =>
      cases hn with
      | cons hv3 hn =>
        cases hn
        obtain ⟨a, xs, rfl, hxs, qa⟩ := sq_at (K := K) hv
        obtain ⟨b, ys, rfl, hys, qb⟩ := sq_at (K := K) hv2
        obtain ⟨c, zs, rfl, hzs, qc⟩ := sq_at (K := K) hv3
        refine ⟨a, b, c, xs, ys, zs, rfl, qa _ s.w, qb _ s.w, qc _ s.w, fun Dl hD => ?_⟩
        have lz : (zip3 as bs cs).length = as.length := by rw [zip3_len]; omega
        have l1 := hxs.len
        have l2 := hys.len
        have l3 := hzs.len
        refine ⟨fun i m H => m = as.length - i ∧ i ≤ as.length ∧ Mk2 G2 H2 Dl (made p f ((zip3 as bs cs).take i)) H, ⟨as.length, rfl, Nat.zero_le _, Mk2.start s.w hD⟩, ?_⟩
        rintro n m H ⟨rfl, hn, mk⟩
        obtain ⟨G3, vs3, s3, g3, hvs3, hH3⟩ := id mk
        have qa' := qa H (s3.g.trans s3.w)
        have qb' := qb H (s3.g.trans s3.w)
        have qc' := qc H (s3.g.trans s3.w)
        by_cases hlt : n < as.length
        · have ex : xs[n]? = some (xs[n]'(by omega)) := List.getElem?_eq_getElem _
          have ey : ys[n]? = some (ys[n]'(by omega)) := List.getElem?_eq_getElem _
          have ez : zs[n]? = some (zs[n]'(by omega)) := List.getElem?_eq_getElem _
          refine .inr ⟨⟨xs, ys, zs, _, _, _, qa', qb', qc', ex, ey, ez⟩, fun H' => Mk2 G2 H2 Dl (made p f ((zip3 as bs cs).take (n + 1))) H', fun H' m' => ⟨as.length - (n + 1), by omega, rfl, hlt, m'⟩, ?_⟩
          rintro v H' ⟨T, x', y', z', rfl, hT, rfl, f1, f2, f3⟩
          obtain ⟨dx, hdx, qx⟩ := hxs.get (f1 xs qa')
          obtain ⟨dy, hdy, qy⟩ := hys.get (f2 ys qb')
          obtain ⟨dz, hdz, qz⟩ := hzs.get (f3 zs qc')
          have hz3 := zip3_get hdx hdy hdz
          refine ⟨T, [x', y', z'], rfl, SqT.of upd_same, rfl, x', _, rfl, y', _, rfl, z', _, rfl, rfl, hw _ _ _, ?_⟩
          have hTD : T ≠ Dl := fun e => by rw [e, hH3] at hT; cases hT
          have mk' : Mk2 G2 H2 Dl (made p f ((zip3 as bs cs).take n)) (upd H T (.tup [x', y', z'])) :=
            ⟨G3, vs3, s3.trans (.old s3.w (.new hT)), g3, hvs3, by rw [upd_ne hTD.symm]; exact hH3⟩
          refine Mk2.turn (b := p (dx, dy, dz)) (d := f (dx, dy, dz)) hD mk' ?_ (fun G4 e1 _ => ht _ _ _ _ _ _ G4 ((x.trans s.g).trans e1) (List.mem_of_getElem? hz3) (qx.mono e1) (qy.mono e1) (qz.mono e1))
            (fun G4 e1 _ hp => he _ _ _ _ _ _ G4 ((x.trans s.g).trans e1) (List.mem_of_getElem? hz3) (qx.mono e1) (qy.mono e1) (qz.mono e1) hp) fun H3 m3 => ?_
          · have h1 := made_len p f ((zip3 as bs cs).take n)
            rw [List.length_take] at h1
            rw [sizeLine_eq]; omega
          · rw [take_more hz3, made_snoc]; exact m3
        · have e : n = as.length := by omega
          subst e
          refine .inl ⟨⟨xs, ys, zs, qa', qb', qc', by omega, by omega, by omega, by omega⟩, ?_⟩
          rw [← lz, List.take_length] at mk
          obtain ⟨G4, s4, h4⟩ := mk.done hD
          exact q _ G4 H (s.trans s4) h4
/-- zip of two -/
theorem d_lcZ2 {ta : TA} {i j : Nat} {vs : List Nat} {k1 k2 : Bool} {as bs : List D} (p : D × D → Bool) (f : D × D → D) (h : EvS ta σ G [sq k1 as, sq k2 bs]) (hz : as.length ≤ 1000000)
    (hl : as.length = bs.length) (hw : ∀ x y, wipe (((wipe σ vs).set i (some x)).set j (some y)) vs = wipe σ vs)
    (ht : ∀ x y a b G1, Ex G G1 → (a, b) ∈ as.zip bs → Dq G1 x a → Dq G1 y b → EvB t (((wipe σ vs).set i (some x)).set j (some y)) G1 (p (a, b)))
    (he : ∀ x y a b G1, Ex G G1 → (a, b) ∈ as.zip bs → Dq G1 x a → Dq G1 y b → p (a, b) = true → EvD te (((wipe σ vs).set i (some x)).set j (some y)) G1 (f (a, b))) :
    EvD (tLc (iZip2 K k1 k2 ta) (gT2 K i j) t te vs) σ G (.list (made p f (as.zip bs))) := fun G1 H1 x w Q q => h G1 H1 x w _ fun us G2 H2 s hv => by
  cases hv with
  | cons hv hn =>
    cases hn with
    | cons hv2 hn =>
      cases hn
      obtain ⟨a, xs, rfl, hxs, qa⟩ := sq_at (K := K) hv
      obtain ⟨b, ys, rfl, hys, qb⟩ := sq_at (K := K) hv2
      refine ⟨a, b, xs, ys, rfl, qa _ s.w, qb _ s.w, fun Dl hD => ?_⟩
      have lz : (as.zip bs).length = as.length := by rw [List.length_zip]; omega
      have l1 := hxs.len
      have l2 := hys.len
      refine ⟨fun i m H => m = as.length - i ∧ i ≤ as.length ∧ Mk2 G2 H2 Dl (made p f ((as.zip bs).take i)) H, ⟨as.length, rfl, Nat.zero_le _, Mk2.start s.w hD⟩, ?_⟩
      rintro n m H ⟨rfl, hn, mk⟩
      obtain ⟨G3, vs3, s3, g3, hvs3, hH3⟩ := id mk
      have qa' := qa H (s3.g.trans s3.w)
      have qb' := qb H (s3.g.trans s3.w)
      by_cases hlt : n < as.length
      · have ex : xs[n]? = some (xs[n]'(by omega)) := List.getElem?_eq_getElem _
        have ey : ys[n]? = some (ys[n]'(by omega)) := List.getElem?_eq_getElem _
        refine .inr ⟨⟨xs, ys, _, _, qa', qb', ex, ey⟩, fun H' => Mk2 G2 H2 Dl (made p f ((as.zip bs).take (n + 1))) H', fun H' m' => ⟨as.length - (n + 1), by omega, rfl, hlt, m'⟩, ?_⟩
        rintro v H' ⟨T, x', y', rfl, hT, rfl, f1, f2⟩
        obtain ⟨dx, hdx, qx⟩ := hxs.get (f1 xs qa')
        obtain ⟨dy, hdy, qy⟩ := hys.get (f2 ys qb')
        have hz3 : (as.zip bs)[n]? = some (dx, dy) := List.getElem?_zip_eq_some.mpr ⟨hdx, hdy⟩
        refine ⟨T, [x', y'], rfl, SqT.of upd_same, rfl, x', _, rfl, y', _, rfl, rfl, hw _ _, ?_⟩
        have hTD : T ≠ Dl := fun e => by rw [e, hH3] at hT; cases hT
        have mk' : Mk2 G2 H2 Dl (made p f ((as.zip bs).take n)) (upd H T (.tup [x', y'])) :=
          ⟨G3, vs3, s3.trans (.old s3.w (.new hT)), g3, hvs3, by rw [upd_ne hTD.symm]; exact hH3⟩
        refine Mk2.turn (b := p (dx, dy)) (d := f (dx, dy)) hD mk' ?_ (fun G4 e1 _ => ht _ _ _ _ G4 ((x.trans s.g).trans e1) (List.mem_of_getElem? hz3) (qx.mono e1) (qy.mono e1))
          (fun G4 e1 _ hp => he _ _ _ _ G4 ((x.trans s.g).trans e1) (List.mem_of_getElem? hz3) (qx.mono e1) (qy.mono e1) hp) fun H3 m3 => ?_
        · have h1 := made_len p f ((as.zip bs).take n)
          rw [List.length_take] at h1
          rw [sizeLine_eq]; omega
        · rw [take_more hz3, made_snoc]; exact m3
      · have e : n = as.length := by omega
        subst e
        refine .inl ⟨⟨xs, ys, qa', qb', by omega, by omega, by omega⟩, ?_⟩
        rw [← lz, List.take_length] at mk
        obtain ⟨G4, s4, h4⟩ := mk.done hD
        exact q _ G4 H (s.trans s4) h4
end
end Mv

namespace Mv
open PySem L2 Evl
section
variable {K : PySem.W.Frag} {σ : L2.St} {G G' H H' : Hp} {ta tb te tx : TE} {t u : TT} {d e z : D} {ds es : List D} {D' : Ends} {tu tz : TS}
/-- [e for a in xs for i in range(n)] -/
theorem d_lc2LR {tl : TE} {ta : TA} {j j1 : Nat} {vs vs1 : List Nat} {as : List D} {n : Nat} (f : D → Nat → D) (h : EvD tl σ G (.list as)) (hn : n ≤ 1000) (hz : as.length ≤ 1000)
    (hr : ∀ v a G1, Ex G G1 → a ∈ as → Dq G1 v a → EvS ta ((wipe σ vs).set j (some v)) G1 [.int (n : Int)])
    (hw : ∀ x, wipe ((wipe σ vs).set j (some x)) vs = wipe σ vs) (hw1 : ∀ x y, wipe ((wipe ((wipe σ vs).set j (some x)) vs1).set j1 (some y)) vs1 = wipe ((wipe σ vs).set j (some x)) vs1)
    (he : ∀ v a (i : Nat) G1, Ex G G1 → a ∈ as → Dq G1 v a → i < n → EvD te ((wipe ((wipe σ vs).set j (some v)) vs1).set j1 (some (.int (i : Int)))) G1 (f a i)) :
    EvD (tLc2 (iList K tl) (gName j) tYes (iRng1 ta) (gName j1) tYes te vs vs1) σ G (.list (as.flatMap fun a => (List.range n).map (f a))) := fun G1 H1 x w Q q => h G1 H1 x w _ fun v G2 H2 s hv => by
  cases hv with
  | @lst a xs _ ha hxs =>
    have fl : ∀ l : List D, (l.flatMap fun a => (List.range n).map (f a)).length = l.length * n := fun l => by
      induction l with
      | nil => simp
      | cons b l ih => rw [List.flatMap_cons, List.length_append, ih, List.length_map, List.length_range, List.length_cons, Nat.succ_mul, Nat.add_comm]
    refine ⟨a, rfl, ⟨xs, SqL.of (s.w _ _ ha)⟩, fun Dl hD => ?_⟩
    refine ⟨fun i m H => m = xs.length - i ∧ i ≤ xs.length ∧ Mk2 G2 H2 Dl ((as.take i).flatMap fun a => (List.range n).map (f a)) H, ⟨xs.length, rfl, Nat.zero_le _, Mk2.start s.w hD⟩, ?_⟩
    rintro i m H ⟨rfl, hi, mk⟩
    obtain ⟨G3, vs3, s3, g3, hvs3, hH3⟩ := id mk
    have q3 : SqL K H a xs := SqL.of (s3.w _ _ (s3.g _ _ ha))
    have l1 := hxs.len
    by_cases hlt : i < xs.length
    · have ex : xs[i]? = some (xs[i]) := List.getElem?_eq_getElem _
      obtain ⟨dv, hdv, hqv⟩ := hxs.get ex
      have hmem := List.mem_of_getElem? hdv
      refine .inr ⟨⟨xs, _, q3, ex⟩, fun H' => Mk2 G2 H2 Dl ((as.take (i + 1)).flatMap fun a => (List.range n).map (f a)) H', fun H' m' => ⟨xs.length - (i + 1), by omega, rfl, hlt, m'⟩, ?_⟩
      rintro v H' ⟨rfl, yv⟩
      have ev : xs[i] = v := by
        have := yv xs q3
        rw [ex] at this
        exact Option.some.inj this
      subst ev
      refine ⟨hw _, ?_⟩
      simp only [tYes, ↓reduceIte]
      refine hr _ dv G3 ((x.trans s.g).trans s3.g) hmem (hqv.mono s3.g) G3 H' (.refl _) s3.w _ fun us G4 H4 s4 hus => ?_
      cases hus with
      | cons hus hun =>
        cases hun
        cases hus
        refine ⟨(n : Int), rfl, by omega, by omega, ?_⟩
        have hn' : ((n : Int)).toNat = n := by omega
        rw [hn']
        have mk4 : Mk2 G2 H2 Dl ((as.take i).flatMap fun a => (List.range n).map (f a)) H4 := ⟨G4, vs3, s3.trans s4, s4.n _ g3 (by rw [hH3]; intro z; cases z) (by rw [hH3]; intro _ z; cases z), hvs3.mono s4.g, s4.h _ _ hH3⟩
        refine ⟨fun k m H => m = n - k ∧ k ≤ n ∧ Mk2 G2 H2 Dl (((as.take i).flatMap fun a => (List.range n).map (f a)) ++ (List.range k).map (f dv)) H, ⟨n, rfl, Nat.zero_le _, by simpa using mk4⟩, ?_⟩
        rintro k m H5 ⟨rfl, hk, mk5⟩
        by_cases hkn : k < n
        · refine .inr ⟨hkn, fun H' => Mk2 G2 H2 Dl (((as.take i).flatMap fun a => (List.range n).map (f a)) ++ (List.range (k + 1)).map (f dv)) H', fun H' m' => ⟨n - (k + 1), by omega, rfl, hkn, m'⟩, ?_⟩
          rintro v H6 ⟨rfl, rfl⟩
          have e0 : (0 : Int) + (k : Int) = (k : Int) := Int.zero_add _
          rw [e0]
          refine ⟨hw1 _ _, ?_⟩
          refine Eq.mp (congrArg (fun p : Prop => p) (if_pos rfl)) (Mk2.turn (σ2 := List.set (wipe (List.set (wipe σ vs) j (some xs[i])) vs1) j1 (some (V.int (k : Int)))) (t := fun _ H Q => Q true H) (te := te) (b := true) (d := f dv k) hD mk5 ?_ (fun G5 _ _ => fun G1 H1 x w Q q => q G1 H1 (.refl w)) (fun G5 e1 _ _ => he _ dv k G5 ((x.trans s.g).trans e1) hmem (hqv.mono e1) hkn) fun H7 m7 => ?_)
          · rw [List.length_append, fl, List.length_map, List.length_range, sizeLine_eq]
            have : (as.take i).length * n ≤ 1000 * 1000 := Nat.mul_le_mul (by rw [List.length_take]; omega) hn
            omega
          · rw [if_pos rfl, List.append_assoc] at m7
            rw [List.range_succ, List.map_append]
            exact m7
        · have ek : k = n := by omega
          subst ek
          refine .inl ⟨Nat.le_refl _, ?_⟩
          rw [take_more hdv, List.flatMap_append]
          simpa using mk5
    · have e : (i = xs.length) := by omega
      subst e
      refine .inl ⟨⟨xs, q3, Nat.le_refl _⟩, ?_⟩
      rw [l1, List.take_length] at mk
      obtain ⟨G4, s4, h4⟩ := mk.done hD
      exact q _ G4 H (s.trans s4) h4
end

/-! ### tuple * int, any number from 1 on -/
section
variable {X : Cx}
theorem tuple_mul1 (l : Addr) (items : Array Value) (n : Nat) (dd : Option Addr) (sl : Array (Option Value)) (u : Tok) :
    Meets (Builtin.«tuple.__mul__» ⟨[.ref l, .int 1 u], []⟩) (fun _ R s => s.heap.get? l = some { cls := .type "tuple", dict := dd, data := .seq items n, slots := sl } ∧ R (.ok (.ret (Value.ref l))) s) :=
  .of_wp fun prog w A R s h => by
    obtain ⟨hp, g, d, tk, os⟩ := (s)
    obtain ⟨hl, h⟩ := h
    have f1 := AutoSeq1.idx_int
    wp_walk using wpAny_loadPart' hl
    exact ⟨_, rfl, h⟩
theorem int_rmul1 (a : Int) (t : Tok) (l : Addr) (items : Array Value) (n : Nat) (dd : Option Addr) (sl : Array (Option Value)) :
    Meets (Builtin.«int.__rmul__» ⟨[.int a t, .ref l], []⟩) (fun _ R s => s.heap.get? l = some { cls := .type "tuple", dict := dd, data := .seq items n, slots := sl } ∧ R (.ok (.ret Value.notImplemented)) s) := int_rmul_tuple a t l items n dd sl
def rRepA (K : PySem.W.Frag) : R2 := fun x y H Q => ∃ l k xs, x = .ref l ∧ y = .int k ∧ SqT K H l xs ∧ xs ≠ [] ∧ 1 ≤ k ∧ k ≤ 1000 ∧ xs.length ≤ 1000 ∧ (k = 1 → Q (.ref l) H) ∧ (2 ≤ k → ∀ p, H p = none → Q (.ref p) (upd H p (.tup (List.replicate k.toNat xs).flatten)))
theorem op_repA : OpR X (binaryOp .Mult) (rRepA X.K) := by
  intro pins; intro s σ H x y v u Q I rx ry h
  obtain ⟨l, k, xs, rfl, rfl, hT, hne, h1, h2, hz, q1, q2⟩ := h
  by_cases hk : k = 1
  · subst hk
    cases rx
    obtain ⟨t, rfl⟩ := ry
    obtain ⟨its, r, ⟨⟨cls, dd, data, sl⟩, ho, hc, n, hd⟩, hs⟩ := (I.tuple hT)
    simp only at hc hd
    subst hc hd
    refine wpAny_binaryOp_repeat_ref (T := "tuple") (U := "int") (by decide) ⟨_, ho, rfl⟩ (fun s' => typeIs_int s' 1 t) noFill_tuple_mul F.fills_int_mul F.slot_int_rmul repeat_tuple F.slot_int_index.lookup
      (call_meets F.slot_int_rmul (typeIs_int s 1 t) F.entry_int_rmul (F.args_int_rmul_2 _ _) (int_rmul1 1 t l its.toArray n dd sl)
        ⟨ho, rfl, ⟨_, ho, rfl⟩, call_meets F.slot_tuple_mul ⟨_, ho, rfl⟩ F.entry_tuple_mul (F.args_tuple_mul_2 _ _) (tuple_mul1 l its.toArray n dd sl t) ⟨ho, ?_⟩⟩)
    exact ⟨.ref l, H, I, rfl, q1 rfl⟩
  · exact op_repT pins s σ H _ _ v u Q I rx ry ⟨l, k, xs, rfl, rfl, hT, hne, by omega, h2, hz, q2 (by omega)⟩
end
section
variable {K : PySem.W.Frag} {G : Hp} {z : D}
theorem opd_rep {as : List D} {k : Nat} (hne : as ≠ []) (h1 : 1 ≤ k) (h2 : k ≤ 1000) (hz : as.length ≤ 1000) : OpD (rRepA K) G (.tuple as) (.int (k : Int)) (.tuple (List.replicate k as).flatten) := fun x y G1 H1 a b hx hy Q q => by
  cases hx with
  | @tup p xs _ hp hxs =>
    cases hy
    refine ⟨p, (k : Int), xs, rfl, rfl, SqT.of (b _ _ hp), fun e => hne (by subst e; cases hxs; rfl), by omega, by omega, by rw [hxs.len]; exact hz, fun e => ?_, fun _ l hl => ?_⟩
    · have e : k = 1 := by omega
      subst e
      rw [List.replicate_one, List.flatten_singleton] at q
      exact q _ G1 H1 (.refl b) (.tup hp hxs)
    · have s := Stp.new (o := .tup (List.replicate (k : Int).toNat xs).flatten) b hl
      have hk : ((k : Int)).toNat = k := by omega
      rw [hk] at s ⊢
      exact q _ _ _ s (.tup upd_same ((hxs.rep k).mono s.g))
end
end Mv


namespace Mv
open PySem PySem.Spec PyProof.Rows L2 Evl
section
variable {prog : Program} {w : World} {A : Around} {E : Value → Shared → Prop} {s : Shared}
/-- sorted, of a list or a tuple: what sorts the new list -/
theorem sorted_seq {T : String} {at_ : Addr} {ob : Obj} {vs : List Value} {n : Nat} {Q : Value → Shared → Prop} (hT : T = "list" ∨ T = "tuple") (ho : s.heap.get? at_ = some ob) (hc : ob.cls = .type T) (hd : ob.data = .seq vs.toArray n) (hL : vs.length ≤ sizeLine)
    (go : ∀ hp : Heap, (∀ b u, s.heap.get? b = some u → hp.get? b = some u) → ∀ E' : Value → Shared → Prop,
      wpAny (model prog w) A.in1.in1 (Builtin.«list.sort» ⟨[.ref hp.objs.size], []⟩) (fun f z => f = .done (.ret .none) ∧ Q (.ref hp.objs.size) z) E' { s with heap := hp.push (seqObj "list" vs.toArray 0) }) :
    wpAny (model prog w) A (call (.builtin "sorted") [.ref at_]) Q E s := by
  refine PySem.Calls.call_function_entry kind_sorted plain_sorted entry_sorted (args_sorted1 _) ?_
  unfold Builtin.«sorted»
  refine (wpAny_bind (m := checkCount "sorted" 1 1 _) (wpAny_pure ?_))
  refine wpAny_bind (PySem.wpAny_collect_seq at_ (items := vs.toArray) hT ho hc hd (fun hp keep => ?_) (by simpa using hL))
  refine wpAny_bind (wpAny_newList ?_ (by simpa using hL))
  refine wpAny_bind (wpAny_holding (PySem.wpAny_call_entry slot_list_sort ⟨_, Heap.get?_push_size _ rfl, rfl⟩ entry_list_sort ?body (args_list_sort _)))
  case body =>
    refine wpAny_mono (go hp keep _) (fun f z ⟨e, q⟩ => ?_) fun _ _ e => e
    subst e
    exact ⟨_, rfl, wpAny_pure ⟨_, rfl, q⟩⟩
end
/-- what sorts as data sorts -/
def ordD : D → D → Bool := PySem.W.dataLe false (id : D → D)
def sortD (ds : List D) : List D := ds.mergeSort ordD
/-- values with what they are -/
def rSortD (K : PySem.W.Frag) : List V → Hp → VK → Prop := fun vs H Q => ∃ (a : Addr) (bs : List (V × D)), vs = [.ref a] ∧ (SqL K H a (bs.map (·.1)) ∨ SqT K H a (bs.map (·.1))) ∧ (∀ b ∈ bs, Dp K H b.1 b.2) ∧ PySem.W.AllAlike (bs.map (·.2)) ∧ PySem.W.Sortable (bs.map (·.2)) ∧ (∀ b ∈ bs, b.2.depth ≤ 60) ∧
  ∀ p, H p = none → Q (.ref p) (upd H p (.lst ((bs.mergeSort (PySem.W.dataLe false (·.2))).map (·.1))))
theorem each_vals {bs : List (V × D)} {its : List Value} (h : Vals (bs.map (·.1)) its) : PySem.W.EachIs (fun v b => RelV b.1 v) its bs := by
  induction bs generalizing its with
  | nil => cases h; exact .nil
  | cons b bs ih => cases h with | cons h1 h2 => exact .cons h1 (ih h2)
theorem vals_each {bs : List (V × D)} {its : List Value} (h : PySem.W.EachIs (fun v b => RelV b.1 v) its bs) : Vals (bs.map (·.1)) its := by
  induction h with
  | nil => exact .nil
  | cons h1 _ ih => exact .cons h1 ih
section
variable {X : Cx}
theorem call_sortD (hu : X.A.units + 64 < cLine) : CallR X (.builtin "sorted") (rSortD X.K) := by
  intro pins; intro s σ H vs us Q I r h
  obtain ⟨a, bs, rfl, hs, hd, hal, hk, hdp, q⟩ := h
  rw [Vals.ref1 r]
  obtain ⟨its, rv, hsz, T, ob, n, hT, ho, hc, hdat⟩ : ∃ its : List Value, Vals (bs.map (·.1)) its ∧ (bs.map (·.1)).length ≤ sizeLine ∧ ∃ (T : String) (ob : Obj) (n : Nat), (T = "list" ∨ T = "tuple") ∧ s.heap.get? a = some ob ∧ ob.cls = .type T ∧ ob.data = .seq its.toArray n := by
    rcases hs with hs | hs
    · obtain ⟨its, rv, hl, hz⟩ := I.list hs
      obtain ⟨o, ho, hc, n, hd⟩ := hl.isList
      exact ⟨its, rv, hz, "list", o, n, .inl rfl, ho, hc, hd⟩
    · obtain ⟨its, rv, hl, hz⟩ := I.tuple hs
      obtain ⟨o, ho, hc, n, hd⟩ := (hl)
      exact ⟨its, rv, hz, "tuple", o, n, .inr rfl, ho, hc, hd⟩
  have ev := each_vals rv
  have er : ∀ {s' : Shared}, (∀ b u, s.heap.get? b = some u → s'.heap.get? b = some u) → PySem.W.EachIs (fun v b => ∃ as, Reads s'.heap v b.2 as) its bs := fun {s'} keep => by
    have key : ∀ {its : List Value} {cs : List (V × D)}, PySem.W.EachIs (fun v b => RelV b.1 v) its cs → (∀ b ∈ cs, b ∈ bs) → PySem.W.EachIs (fun v b => ∃ as, Reads s'.heap v b.2 as) its cs := fun {its cs} h => by
      induction h with
      | nil => intro _; exact .nil
      | @cons v b vs cs h1 _ ih =>
        intro m
        obtain ⟨as, r⟩ := Dp.reads I b.2 b.1 v (hd b (m b (.head _))) h1
        exact .cons ⟨as, Reads.keeps keep r⟩ (ih fun x hx => m x (.tail _ hx))
    exact key ev fun _ h => h
  have il : its.length ≤ sizeLine := by rw [← rv.length]; exact hsz
  refine sorted_seq hT ho hc hdat il fun hp keep E' => ?_
  have up : ∀ b u, s.heap.get? b = some u → (hp.push (seqObj "list" its.toArray 0)).get? b = some u := fun b u q => Heap.get?_push_of_some _ (keep b u q)
  have ne : ∀ b u, s.heap.get? b = some u → b ≠ hp.objs.size := fun b u q => Nat.ne_of_lt (Heap.lt_size (keep b u q))
  have er2 := er (s' := { s with heap := PySem.W.sortingHeap (hp.push (seqObj "list" its.toArray 0)) hp.objs.size its }) fun b u q => PySem.W.sortingHeap_old (ne b u q) (up b u q)
  refine PySem.W.list_sort_vals (s := { s with heap := hp.push (seqObj "list" its.toArray 0) }) (Heap.get?_push_size _ rfl) (PySem.W.SortsAt.data (s := { s with heap := PySem.W.sortingHeap (hp.push (seqObj "list" its.toArray 0)) hp.objs.size its }) (PySem.W.each_map (R := fun v d => ∃ as, Reads (PySem.W.sortingHeap (hp.push (seqObj "list" its.toArray 0)) hp.objs.size its) v d as) (fun b : V × D => b.2) er2) hal hk (fun d m => ?_)) il ⟨rfl, ?_⟩
  · obtain ⟨b, hb, rfl⟩ := List.mem_map.mp m
    have := hdp b hb
    show X.A.units + 2 + _ < _
    omega
  · have ev2 := PySem.W.sortVals_data (R := fun v (b : V × D) => RelV b.1 v) (enc := fun b : V × D => b.2) false ev er2 hal
    have none1 : s.heap.get? hp.objs.size = none := by
      cases q : s.heap.get? hp.objs.size with
      | none => rfl
      | some u => exact absurd rfl (ne _ u q)
    have none2 : H hp.objs.size = none := I.hok.gone none1
    obtain ⟨ep, at2⟩ := sortedHeap_at (out := (PySem.W.sortVals (PySem.W.dataKind (PySem.W.sortingHeap (hp.push (seqObj "list" its.toArray 0)) hp.objs.size its) (bs.map (·.2))) false its its).toArray) (Heap.get?_push_size _ rfl : (hp.push (seqObj "list" its.toArray 0)).get? hp.objs.size = some (seqObj "list" its.toArray 0))
    have vl := vals_each ev2
    have vlen := vl.length
    refine ⟨.ref _, upd H hp.objs.size (.lst ((bs.mergeSort (PySem.W.dataLe false (·.2))).map (·.1))), I.laidN (t' := s.toks) (fun b u q => ?_) none1 none2 ⟨?_, _, ep, vl, at2⟩, rfl, q _ none2⟩
    · rw [sortedHeap_old (ne b u q) (Heap.lt_size (up b u q))]
      exact up b u q
    · rw [List.length_map, List.length_mergeSort]
      rw [List.length_map] at hsz
      exact hsz
end
section
variable {K : PySem.W.Frag} {σ : L2.St} {G H : Hp} {te : TE} {d e z : D} {ds : List D}
theorem zip_dq {G : Hp} : ∀ {vs : List V} {ds : List D}, DqA G vs ds → (vs.zip ds).map (·.1) = vs ∧ (vs.zip ds).map (·.2) = ds ∧ ∀ b ∈ vs.zip ds, Dq G b.1 b.2
  | _, _, .nil => ⟨rfl, rfl, fun _ h => by cases h⟩
  | _, _, .cons h hn => by
    obtain ⟨e1, e2, e3⟩ := zip_dq hn
    refine ⟨by rw [List.zip_cons_cons, List.map_cons, e1], by rw [List.zip_cons_cons, List.map_cons, e2], fun b hb => ?_⟩
    rw [List.zip_cons_cons] at hb
    rcases (List.mem_cons.mp hb) with rfl | hb
    · exact h
    · exact e3 b hb
theorem dqa_pairs {G : Hp} : ∀ {bs : List (V × D)}, (∀ b ∈ bs, Dq G b.1 b.2) → DqA G (bs.map (·.1)) (bs.map (·.2))
  | [], _ => .nil
  | b :: bs, h => .cons (h b (.head _)) (dqa_pairs fun x hx => h x (.tail _ hx))
theorem flat_mem : ∀ {ds : List D}, flatDs ds = true → ∀ d ∈ ds, flatD d = true
  | d :: ds, h, x, hx => by
    simp only [flatDs, Bool.and_eq_true] at h
    rcases (List.mem_cons.mp hx) with rfl | hx
    · exact h.1
    · exact flat_mem h.2 x hx
  | [], _, x, hx => by cases hx
theorem sort_pairs {bs : List (V × D)} : (bs.mergeSort (PySem.W.dataLe false (·.2))).map (·.2) = sortD (bs.map (·.2)) := PySem.W.sort_maps (s := ordD) (fun b : V × D => b.2) fun _ _ _ _ => rfl
/-- what a list must be to be sorted -/
structure SortOk (ds : List D) : Prop where
  f : flatDs ds = true
  al : PySem.W.AllAlike ds
  so : PySem.W.Sortable ds
  dp : ∀ d ∈ ds, d.depth ≤ 60
theorem cad_sortL (o : SortOk ds) : CaD (rSortD K) G [.list ds] (.list (sortD ds)) := fun vs G1 H1 x w h Q q => by
  cases h with
  | cons h k =>
    cases k
    cases h with
    | @lst p xs _ hp hxs =>
      obtain ⟨e1, e2, e3⟩ := zip_dq hxs
      refine ⟨p, xs.zip ds, rfl, .inl (by rw [e1]; exact SqL.of (w _ _ hp)), fun b hb => ?_, by rw [e2]; exact o.al, by rw [e2]; exact o.so, fun b hb => ?_, fun p2 hp2 => ?_⟩
      · exact dp_of w (e3 b hb) (flat_mem o.f _ (by rw [← e2]; exact List.mem_map.mpr ⟨b, hb, rfl⟩))
      · exact o.dp _ (by rw [← e2]; exact List.mem_map.mpr ⟨b, hb, rfl⟩)
      · have s := Stp.new (o := .lst (((xs.zip ds).mergeSort (PySem.W.dataLe false (·.2))).map (·.1))) w hp2
        refine q _ _ _ s (.lst upd_same ?_)
        have := dqa_pairs (G := G1) (bs := (xs.zip ds).mergeSort (PySem.W.dataLe false (·.2))) fun b hb => e3 b (List.mem_mergeSort.mp hb)
        rw [sort_pairs, e2] at this
        exact this.mono s.g
theorem cad_sortT (o : SortOk ds) : CaD (rSortD K) G [.tuple ds] (.list (sortD ds)) := fun vs G1 H1 x w h Q q => by
  cases h with
  | cons h k =>
    cases k
    cases h with
    | @tup p xs _ hp hxs =>
      obtain ⟨e1, e2, e3⟩ := zip_dq hxs
      refine ⟨p, xs.zip ds, rfl, .inr (by rw [e1]; exact SqT.of (w _ _ hp)), fun b hb => ?_, by rw [e2]; exact o.al, by rw [e2]; exact o.so, fun b hb => ?_, fun p2 hp2 => ?_⟩
      · exact dp_of w (e3 b hb) (flat_mem o.f _ (by rw [← e2]; exact List.mem_map.mpr ⟨b, hb, rfl⟩))
      · exact o.dp _ (by rw [← e2]; exact List.mem_map.mpr ⟨b, hb, rfl⟩)
      · have s := Stp.new (o := .lst (((xs.zip ds).mergeSort (PySem.W.dataLe false (·.2))).map (·.1))) w hp2
        refine q _ _ _ s (.lst upd_same ?_)
        have := dqa_pairs (G := G1) (bs := (xs.zip ds).mergeSort (PySem.W.dataLe false (·.2))) fun b hb => e3 b (List.mem_mergeSort.mp hb)
        rw [sort_pairs, e2] at this
        exact this.mono s.g
/-! ### in, not in -/
def rInA (K : PySem.W.Frag) (neg : Bool) : R2 := fun x y H Q => ∃ (d : D) (ds : List D), Dp K H x d ∧ (Dp K H y (.list ds) ∧ SeqAt.shaped (.list ds) = true ∨ Dp K H y (.tuple ds) ∧ SeqAt.shaped (.tuple ds) = true) ∧ SeqAt.shaped d = true ∧ Q (.bl (if neg then !ds.any fun z => PyData.eqv z d else ds.any fun z => PyData.eqv z d)) H
theorem op_inA {X : Cx} (hu : X.A.units + 64 + 1 < cLine) : OpR X (compareOp .In) (rInA X.K false) := by
  intro pins; intro s σ H x y v u Q I rx ry h
  obtain ⟨d, ds, hd, he, sd, q⟩ := h
  obtain ⟨as, r1⟩ := (Dp.reads I d x v hd rx)
  rcases he with ⟨he, se⟩ | ⟨he, se⟩
  · obtain ⟨bs, r2⟩ := Dp.reads I (.list ds) y u he ry
    exact (SeqAt.in_list_reads r2 r1 (SeqAt.canLay_of_shaped se) (SeqAt.canLay_of_shaped sd) (room_in_shaped sd hu) ⟨.bl _, H, I, rfl, q⟩)
  · obtain ⟨bs, r2⟩ := Dp.reads I (.tuple ds) y u he ry
    exact SeqAt.in_tuple_reads r2 r1 (SeqAt.canLay_of_shaped se) (SeqAt.canLay_of_shaped sd) (room_in_shaped sd hu) ⟨.bl _, H, I, rfl, q⟩
theorem op_notInA {X : Cx} (hu : X.A.units + 64 + 1 < cLine) : OpR X (compareOp .NotIn) (rInA X.K true) := by
  intro pins; intro s σ H x y v u Q I rx ry h
  obtain ⟨d, ds, hd, he, sd, q⟩ := h
  obtain ⟨as, r1⟩ := (Dp.reads I d x v hd rx)
  rcases he with ⟨he, se⟩ | ⟨he, se⟩
  · obtain ⟨bs, r2⟩ := Dp.reads I (.list ds) y u he ry
    exact (SeqAt.notIn_list_reads r2 r1 (SeqAt.canLay_of_shaped se) (SeqAt.canLay_of_shaped sd) (room_in_shaped sd hu) ⟨.bl _, H, I, rfl, q⟩)
  · obtain ⟨bs, r2⟩ := Dp.reads I (.tuple ds) y u he ry
    exact SeqAt.notIn_tuple_reads r2 r1 (SeqAt.canLay_of_shaped se) (SeqAt.canLay_of_shaped sd) (room_in_shaped sd hu) ⟨.bl _, H, I, rfl, q⟩
theorem opd_inL {neg : Bool} (f1 : flatD d = true) (f2 : flatD (.list ds) = true) (s1 : SeqAt.shaped d = true) (s2 : SeqAt.shaped (.list ds) = true) : OpD (rInA K neg) G d (.list ds) (.bool (if neg then !ds.any fun z => PyData.eqv z d else ds.any fun z => PyData.eqv z d)) := fun x y G1 H1 a b hx hy Q q =>
  ⟨d, ds, dp_of b hx f1, .inl ⟨dp_of b hy f2, s2⟩, s1, q _ G1 H1 (.refl b) (.bl _)⟩
theorem opd_inT {neg : Bool} (f1 : flatD d = true) (f2 : flatD (.tuple ds) = true) (s1 : SeqAt.shaped d = true) (s2 : SeqAt.shaped (.tuple ds) = true) : OpD (rInA K neg) G d (.tuple ds) (.bool (if neg then !ds.any fun z => PyData.eqv z d else ds.any fun z => PyData.eqv z d)) := fun x y G1 H1 a b hx hy Q q =>
  ⟨d, ds, dp_of b hx f1, .inr ⟨dp_of b hy f2, s2⟩, s1, q _ G1 H1 (.refl b) (.bl _)⟩
/-! ### one place before another one -/
theorem opd_ltT {a b : List Int} : OpD (rLtT K) G (.tuple (a.map PyData.int)) (.tuple (b.map PyData.int)) (.bool (HT.lexLt a b)) := fun x y G1 H1 u w hx hy Q q => by
  cases hx with
  | tup hp hxs =>
    cases hy with
    | tup hp2 hys =>
      have e1 := hxs.ints
      have e2 := hys.ints
      subst e1 e2
      exact ⟨_, _, a, b, rfl, rfl, SqT.of (w _ _ hp), SqT.of (w _ _ hp2), q _ G1 H1 (.refl w) (.bl _)⟩
end
end Mv


namespace Mv
open PySem PySem.Spec PyProof.Rows L2 Evl HT
/-! ### a tuple's items backwards -/
section
variable {prog : Program} {w : World} {A : Around} {E : Value → Shared → Prop} {s : Shared}
theorem back_adjust (n : Nat) : Builtin.Slice.sliceAdjust none none (-1) (n : Int) = ((n : Int) - 1, -1) := by
  unfold Builtin.Slice.sliceAdjust
  simp
theorem back_places (n : Nat) : Builtin.Slice.slicePlaces ((n : Int) - 1) (-1) (-1) = n := by
  unfold Builtin.Slice.slicePlaces
  simp only [gt_iff_lt, Int.reduceNeg]
  rw [if_neg (by decide)]
  simp
  split <;> omega
theorem fm_congr {α β : Type} {f g : α → Option β} : ∀ {l : List α}, (∀ x ∈ l, f x = g x) → l.filterMap f = l.filterMap g
  | [], _ => rfl
  | x :: l, h => by rw [List.filterMap_cons, List.filterMap_cons, h x (.head _), fm_congr fun y hy => h y (.tail _ hy)]
theorem back_pick (xs : Array Value) : ((List.range xs.size).filterMap fun (m : Nat) => xs[(((xs.size : Int) - 1) + (m : Int) * -1).toNat]?).toArray = xs.toList.reverse.toArray := by
  have e : (List.range xs.size).filterMap (fun (m : Nat) => xs[(((xs.size : Int) - 1) + (m : Int) * -1).toNat]?) = ((List.range xs.size).map fun k => xs.size - 1 - k).filterMap fun k => xs[k]? := by
    rw [List.filterMap_map]
    refine fm_congr fun m hm => ?_
    have := List.mem_range.mp hm
    show _ = xs[xs.size - 1 - m]?
    have z : (((xs.size : Int) - 1) + (m : Int) * -1).toNat = xs.size - 1 - m := by omega
    rw [z]
  rw [e, PySem.W.krv_range, List.filterMap_reverse, PySem.W.krv_all]
theorem back_applied {sl : Addr} {vl vu vs : Value} {n : Nat} {Q : Int × Int × Nat → Shared → Prop} (hs : s.heap.IsSliceOf sl vl vu vs) (pl : IsPart vl none) (pu : IsPart vu none) (ps : IsPart vs (some (-1)))
    (h : Q ((n : Int) - 1, -1, n) s) : wpAny (model prog w) A (Builtin.Slice.sliceApplied (.ref sl) (pure (n : Int))) Q E s := by
  obtain ⟨ob, at_, _, dat⟩ := id hs
  unfold Builtin.Slice.sliceApplied Builtin.Slice.sliceFields
  refine wpAny_bind (wpAny_bind (wpAny_field at_ dat (x := vl) rfl (wpAny_bind (wpAny_field at_ dat (x := vu) rfl (wpAny_bind (wpAny_field at_ dat (x := vs) rfl (wpAny_pure ?_)))))))
  refine wpAny_bind (slicePart_ ps ?_)
  show wpAny _ _ (if ((-1 : Int) == 0) = true then _ else _) _ _ s
  rw [if_neg (by decide)]
  refine (wpAny_bind (slicePart_ pl (wpAny_bind (slicePart_ pu (wpAny_bind (wpAny_pure ?_))))))
  show wpAny _ _ (match Builtin.Slice.sliceAdjust none none (-1) (n : Int) with | (lo, hi) => pure (lo, (-1 : Int), Builtin.Slice.slicePlaces lo hi (-1))) _ _ s
  rw [back_adjust n]
  show wpAny _ _ (pure (((n : Int) - 1), (-1 : Int), Builtin.Slice.slicePlaces ((n : Int) - 1) (-1) (-1))) _ _ s
  rw [back_places]
  exact wpAny_pure h
theorem getItem_back {t sl : Addr} {items : Array Value} {vl vu vs : Value} {Q : Value → Shared → Prop} (tup : IsTup s.heap t items) (hs : s.heap.IsSliceOf sl vl vu vs) (pl : IsPart vl none) (pu : IsPart vu none) (ps : IsPart vs (some (-1)))
    (h : Q (.ref s.heap.objs.size) { s with heap := s.heap.push { cls := .type "tuple", data := .seq items.toList.reverse.toArray } }) (small : items.size ≤ sizeLine) : wpAny (model prog w) A (getItem (.ref t) (.ref sl)) Q E s := by
  have fits : sizeOk (.seq items.toList.reverse.toArray) := by
    show items.toList.reverse.toArray.size ≤ sizeLine
    rw [List.size_toArray, List.length_reverse, Array.length_toList]
    exact small
  obtain ⟨ob, at_, isSl, _⟩ := id hs
  have tySl : s.TypeIs (.ref sl) "slice" := ⟨ob, at_, isSl⟩
  unfold getItem
  try with_reducible refine wpAny_holding ?_
  first | refine wpAny_bind (wpAny_pure ?_) | skip
  refine wpAny_bind (wpAny_sequenceKey tup.typeIs (by decide) ?_)
  refine wpAny_bind (wpAny_callSpecial?_slot (name := Str.ofString "__getitem__") tup.typeIs PyProof.Rows.slot_tuple_getitem
    (wpAny_call_entry PyProof.Rows.slot_tuple_getitem tup.typeIs entry_tuple_getitem ?_ (args_tuple_getitem _ _)))
  show (wpAny _ _ (Builtin.Tuple.tupleItemsOf (.ref t) >>= _) _ _ s)
  refine wpAny_bind (tupleItemsOf_ tup ?_)
  refine wpAny_bind (wpAny_typeOf tySl ?_)
  rw [if_pos (by decide)]
  refine wpAny_bind (back_applied hs pl pu ps ?_)
  show wpAny _ _ (if (((items.size : Int) - 1) == 0 && (-1 : Int) == 1 && items.size == items.size) = true then _ else _) _ _ s
  rw [if_neg (by simp), back_pick]
  first
    | exact wpAny_bind (m := Builtin.Tuple.tupleExact _) (wpAny_newObj_type (wpAny_pure ⟨_, rfl, wpAny_pure h⟩) fits)
    | exact wpAny_bind (wpAny_bind (m := Builtin.Tuple.tupleExact _) (wpAny_newObj_type (wpAny_pure (wpAny_pure ⟨_, rfl, wpAny_pure h⟩)) fits))
    | exact wpAny_bind (wpAny_bind (m := Builtin.Tuple.tupleExact _) (wpAny_newObj_type (wpAny_pure ⟨_, rfl, wpAny_pure h⟩) fits))
end
section
variable {X : Cx}
def tRevT (K : PySem.W.Frag) (te : TE) : TE := fun σ H Q => te σ H fun x H1 => ∃ a xs, x = .ref a ∧ SqT K H1 a xs ∧ ∀ p, H1 p = none → Q (.ref p) (upd H1 p (.tup xs.reverse))
theorem pe_revT {e : Expr} {te : TE} {k : Nat} {p1 p2 p3 pos : Pos} (he : PE X e te) : PE X (.Subscript e (.Slice none none (some (.UnaryOp .USub (.Constant (.int 1) k p1) p2)) p3) pos) (tRevT X.K te) := by
  refine ⟨fun pns s σ H Rq I h => ?_⟩
  refine Subscript_ (thn (he.run pns s σ H _ I h) fun v sA ⟨x, H1, invA, r1, q1⟩ => ?_)
  obtain ⟨a, xs, ex, hx, q⟩ := (q1)
  subst ex
  cases r1
  have step : PO X (some (.UnaryOp .USub (.Constant (.int 1) k p1) p2)) (tPart (tUn (rU fun i => .int (-i)) (tC (.int 1)))) := po_some (pe_un un_neg pe_int)
  refine wpAny_Slice (thn (po_none.run pns sA σ H1 (fun o Hb => o = none ∧ Hb = H1) invA ⟨rfl, rfl⟩) fun vl sB ⟨l, H2, invB, pl, el, e2⟩ => ?_)
  subst el e2
  refine thn (po_none.run pns sB σ H2 (fun o Hb => o = none ∧ Hb = H2) invB ⟨rfl, rfl⟩) fun vu sC ⟨u, H3, invC, pu, eu, e3⟩ => ?_
  subst eu e3
  refine thn (step.run pns sC σ H3 (fun o Hb => o = some (-1) ∧ Hb = H3) invC ⟨1, rfl, -1, rfl, rfl, rfl⟩) fun vst sD' ⟨o, H4, invD, ps, eo, e4⟩ => ?_
  subst eo e4
  have invE : Inv X pns σ H4 { sD' with heap := sD'.heap.push { cls := .type "slice", data := .fields #[vl, vu, vst] } } := invD.kept (t' := sD'.toks) fun b ob q => Heap.get?_push_of_some _ q
  obtain ⟨its, r, tt, hz⟩ := invE.tuple hx
  have hlen := r.length
  show wpAny (model X.prog X.w) X.A (subscriptTail e (.Slice none none (some (.UnaryOp .USub (.Constant (.int 1) k p1) p2)) p3) (.ref a) (.ref sD'.heap.objs.size)) (EP X pns σ Rq) X.xe { sD' with heap := sD'.heap.push { cls := .type "slice", data := .fields #[vl, vu, vst] } }
  refine tail_any (ops := [.ref a, .ref sD'.heap.objs.size]) tt.typeIs (PyProof.Rows.slot_tuple_getitem.lookup) ?_ (by with_unfolding_all rfl)
  refine getItem_back tt (Heap.IsSliceOf.new _ vl vu vst) pl pu ps ?_ (by rw [List.size_toArray]; omega)
  refine ⟨.ref _, _, invE.laid (t' := sD'.toks) (o := .tup xs.reverse) (fun b ob q => Heap.get?_push_of_some _ q) (Nat.le_refl _) ?_, rfl, q _ (invE.hok.fresh (Nat.le_refl _))⟩
  exact ⟨by rw [List.length_reverse]; exact hz, its.reverse, r.reverse, IsTup.new _ _⟩
theorem d_revT {K : PySem.W.Frag} {σ : L2.St} {G : Hp} {te : TE} {ds : List D} (h : EvD te σ G (.tuple ds)) : EvD (tRevT K te) σ G (.tuple ds.reverse) := fun G1 H1 x w Q q => h G1 H1 x w _ fun v G2 H2 s hv => by
  cases hv with
  | @tup a xs _ ha hxs =>
    refine ⟨a, xs, rfl, SqT.of (s.w _ _ ha), fun p hp => ?_⟩
    have s3 := Stp.new (o := .tup xs.reverse) s.w hp
    have rv : ∀ {vs : List V} {es : List D}, DqA G2 vs es → DqA G2 vs.reverse es.reverse := fun {vs es} k => by
      induction vs generalizing es with
      | nil => cases k; exact .nil
      | cons v vs ih =>
        cases k with
        | cons k1 k2 => rw [List.reverse_cons, List.reverse_cons]; exact (ih k2).snoc k1
    exact q _ _ _ (s.trans s3) (.tup upd_same ((rv hxs).mono s3.g))
end
section
variable {K : PySem.W.Frag} {σ : L2.St} {G : Hp} {te : TE}
/-- two fors: over a tuple, and over a tuple that a slot holds -/
theorem d_lc2TT {tl : TE} {j j1 i2 : Nat} {vs vs1 : List Nat} {as bs : List D} {vb : V} (f : D → D → D) (h : EvD tl σ G (.tuple as)) (hb : Dq G vb (.tuple bs)) (hn : bs.length ≤ 1000) (hz : as.length ≤ 1000)
    (hi2 : ∀ x, ((wipe σ vs).set j (some x))[i2]? = some (some vb))
    (hw : ∀ x, wipe ((wipe σ vs).set j (some x)) vs = wipe σ vs) (hw1 : ∀ x y, wipe ((wipe ((wipe σ vs).set j (some x)) vs1).set j1 (some y)) vs1 = wipe ((wipe σ vs).set j (some x)) vs1)
    (he : ∀ v a u b G1, Ex G G1 → a ∈ as → Dq G1 v a → b ∈ bs → Dq G1 u b → EvD te ((wipe ((wipe σ vs).set j (some v)) vs1).set j1 (some u)) G1 (f a b)) :
    EvD (tLc2 (iTup K tl) (gName j) tYes (iTup K (tVar i2)) (gName j1) tYes te vs vs1) σ G (.list (as.flatMap fun a => bs.map (f a))) := fun G1 H1 x w Q q => h G1 H1 x w _ fun v G2 H2 s hv => by
  cases hv with
  | @tup a xs _ ha hxs =>
    cases hb with
    | @tup b ys _ hb hys =>
    have fl : ∀ l : List D, (l.flatMap fun a => bs.map (f a)).length = l.length * bs.length := fun l => by
      induction l with
      | nil => simp
      | cons c l ih => rw [List.flatMap_cons, List.length_append, ih, List.length_map, List.length_cons, Nat.succ_mul, Nat.add_comm]
    refine ⟨a, rfl, ⟨xs, SqT.of (s.w _ _ ha)⟩, fun Dl hD => ?_⟩
    refine ⟨fun i m H => m = xs.length - i ∧ i ≤ xs.length ∧ Mk2 G2 H2 Dl ((as.take i).flatMap fun a => bs.map (f a)) H, ⟨xs.length, rfl, Nat.zero_le _, Mk2.start s.w hD⟩, ?_⟩
    rintro i m H ⟨rfl, hi, mk⟩
    obtain ⟨G3, vs3, s3, g3, hvs3, hH3⟩ := id mk
    have q3 : SqT K H a xs := SqT.of (s3.w _ _ (s3.g _ _ ha))
    have l1 := hxs.len
    have l2 := hys.len
    by_cases hlt : i < xs.length
    · have ex : xs[i]? = some (xs[i]) := List.getElem?_eq_getElem _
      obtain ⟨dv, hdv, hqv⟩ := hxs.get ex
      have hmem := List.mem_of_getElem? hdv
      refine .inr ⟨⟨xs, _, q3, ex⟩, fun H' => Mk2 G2 H2 Dl ((as.take (i + 1)).flatMap fun a => bs.map (f a)) H', fun H' m' => ⟨xs.length - (i + 1), by omega, rfl, hlt, m'⟩, ?_⟩
      rintro v H' ⟨rfl, yv⟩
      have ev : xs[i] = v := by
        have := yv xs q3
        rw [ex] at this
        exact Option.some.inj this
      subst ev
      refine ⟨hw _, ?_⟩
      simp only [tYes, ↓reduceIte]
      have kb : ∀ {H : Hp} {ds : List D}, Mk2 G2 H2 Dl ds H → SqT K H b ys := fun {H ds} mk => by
        obtain ⟨G5, vs5, s5, _⟩ := id mk
        exact SqT.of (s5.w _ _ (s5.g _ _ (s.g _ _ (x _ _ hb))))
      refine ⟨.ref b, hi2 _, b, rfl, ⟨ys, kb mk⟩, ?_⟩
      refine ⟨fun k m H => m = ys.length - k ∧ k ≤ ys.length ∧ Mk2 G2 H2 Dl (((as.take i).flatMap fun a => bs.map (f a)) ++ (bs.take k).map (f dv)) H, ⟨ys.length, rfl, Nat.zero_le _, by simpa using mk⟩, ?_⟩
      rintro k m H5 ⟨rfl, hk, mk5⟩
      by_cases hkn : k < ys.length
      · have ey : ys[k]? = some (ys[k]) := List.getElem?_eq_getElem _
        obtain ⟨du, hdu, hqu⟩ := hys.get ey
        have humem := List.mem_of_getElem? hdu
        refine .inr ⟨⟨ys, _, kb mk5, ey⟩, fun H' => Mk2 G2 H2 Dl (((as.take i).flatMap fun a => bs.map (f a)) ++ (bs.take (k + 1)).map (f dv)) H', fun H' m' => ⟨ys.length - (k + 1), by omega, rfl, hkn, m'⟩, ?_⟩
        rintro u H6 ⟨rfl, yu⟩
        have eu : ys[k] = u := by
          have := yu ys (kb mk5)
          rw [ey] at this
          exact Option.some.inj this
        subst eu
        refine ⟨hw1 _ _, ?_⟩
        refine Eq.mp (congrArg (fun p : Prop => p) (if_pos rfl)) (Mk2.turn (σ2 := List.set (wipe (List.set (wipe σ vs) j (some xs[i])) vs1) j1 (some ys[k])) (t := fun _ H Q => Q true H) (te := te) (b := true) (d := f dv du) hD mk5 ?_ (fun G5 _ _ => fun G1 H1 x w Q q => q G1 H1 (.refl w)) (fun G5 e1 _ _ => he _ dv _ du G5 ((x.trans s.g).trans e1) hmem (hqv.mono e1) humem (hqu.mono ((x.trans s.g).trans e1))) fun H7 m7 => ?_)
        · rw [List.length_append, fl, List.length_map, sizeLine_eq]
          have tk : (bs.take k).length ≤ 1000 := by rw [List.length_take]; omega
          have : (as.take i).length * bs.length ≤ 1000 * 1000 := Nat.mul_le_mul (by rw [List.length_take]; omega) hn
          omega
        · rw [if_pos rfl, List.append_assoc] at m7
          rw [take_more hdu, List.map_append]
          exact m7
      · have ek : k = ys.length := by omega
        subst ek
        refine .inl ⟨⟨ys, kb mk5, Nat.le_refl _⟩, ?_⟩
        rw [l2, List.take_length] at mk5
        rw [take_more hdv, List.flatMap_append]
        simpa using mk5
    · have e : (i = xs.length) := by omega
      subst e
      refine .inl ⟨⟨xs, q3, Nat.le_refl _⟩, ?_⟩
      rw [l1, List.take_length] at mk
      obtain ⟨G4, s4, h4⟩ := mk.done hD
      exact q _ G4 H (s.trans s4) h4
end
end Mv


namespace Mv
open PySem PySem.Spec PyProof.Rows L2 Evl
section
variable {X : Cx}
/-- len of a set of tuples of ints -/
def rLenST (K : PySem.W.Frag) (P : Program) (w : World) : List V → Hp → VK → Prop := fun xs H Q => ∃ (a : Addr) (L : List (Addr × List Int)), xs = [V.ref a] ∧ H a = some (SetTO P w a L) ∧ (∀ p ∈ L, SqT K H p.1 (p.2.map V.int)) ∧ ((L.map (·.2)).Nodup → Q (.int (L.length : Nat)) H)
theorem call_lenST : CallR X (.builtin "len") (rLenST X.K X.prog X.w) := by
  intro pins; intro s σ H xs us Q I r h
  obtain ⟨a, L, rfl, ha, ht, q⟩ := h
  rw [Vals.ref1 r]
  obtain ⟨R0, _⟩ := I.hok a _ ha
  obtain ⟨es, ep, t, R⟩ := SetT0.full R0 fun p hp => I.isT (ht p hp)
  obtain ⟨o, ho, hex, hd⟩ := (R.ob)
  refine call_len_set ho hex hd R.fits (by rw [R.size]; have := R.few; omega) ⟨.int (L.length : Nat), H, I.tok _, ⟨_, by rw [R.size]⟩, q R.nd⟩
end
/-! ### as many as there are different ones -/
theorem nodup_len {α : Type} [DecidableEq α] : ∀ {L M : List α}, L.Nodup → (∀ x ∈ L, x ∈ M) → L.length ≤ M.length
  | [], _, _, _ => Nat.zero_le _
  | x :: L, M, h, s => by
    have hx := s x (.head _)
    have hn := List.nodup_cons.mp h
    have ih := nodup_len (L := L) (M := M.erase x) hn.2 fun y hy => (List.mem_erase_of_ne (fun e => hn.1 (by rw [← e]; exact hy))).mpr (s y (.tail _ hy))
    rw [List.length_erase_of_mem hx] at ih
    have := List.length_pos_of_mem hx
    rw [List.length_cons]
    omega
theorem nodup_perm {α : Type} [DecidableEq α] : ∀ {L M : List α}, L.Nodup → (∀ x ∈ L, x ∈ M) → L.length = M.length → L.Perm M
  | [], M, _, _, e => by
    have : M = [] := List.eq_nil_of_length_eq_zero e.symm
    rw [this]
  | x :: L, M, h, s, e => by
    have hx := s x (.head _)
    have hn := List.nodup_cons.mp h
    have hl : L.length = (M.erase x).length := by
      rw [List.length_erase_of_mem hx]
      rw [List.length_cons] at e
      omega
    have ih := nodup_perm (L := L) (M := M.erase x) hn.2 (fun y hy => (List.mem_erase_of_ne (fun e => hn.1 (by rw [← e]; exact hy))).mpr (s y (.tail _ hy))) hl
    exact (ih.cons x).trans (List.perm_cons_erase hx).symm
/-- a list with as many items as different ones -/
theorem nodup_iff {α : Type} [DecidableEq α] {L M : List α} (h : L.Nodup) (s : ∀ x ∈ L, x ∈ M) (t : ∀ x ∈ M, x ∈ L) : L.length = M.length ↔ M.Nodup := by
  refine ⟨fun e => (nodup_perm h s e).nodup_iff.mp h, fun hm => ?_⟩
  have h1 := nodup_len h s
  have h2 := nodup_len hm t
  omega
section
variable {K : PySem.W.Frag} {P : Program} {w : World} {σ : L2.St} {G H : Hp} {te : TE}
theorem refs_of {G : Hp} : ∀ {R : List (List Int)} {xs : List V}, DqA G xs (R.map fun p => PyData.tuple (p.map PyData.int)) → ∃ ks : List (Addr × List Int), xs = ks.map (fun p => V.ref p.1) ∧ ks.map (·.2) = R ∧ ∀ p ∈ ks, G p.1 = some (.tup (p.2.map V.int))
  | [], _, h => by cases h; exact ⟨[], rfl, rfl, fun _ h => by cases h⟩
  | r :: R, _, h => by
    cases h with
    | cons h1 h2 =>
      obtain ⟨ks, rfl, e, hk⟩ := refs_of h2
      cases h1 with
      | @tup a xs _ ha hxs =>
        have e2 := hxs.ints
        subst e2
        refine ⟨(a, r) :: ks, rfl, by rw [List.map_cons, e], fun p hp => ?_⟩
        rcases (List.mem_cons.mp hp) with rfl | hp
        · exact ha
        · exact hk p hp
/-- len(set(xs)), xs a list of rows -/
theorem d_lenset {R : List (List Int)} (h : EvD te σ G (.list (R.map fun p => PyData.tuple (p.map PyData.int)))) (hl : R.length < 64) (z : Int) (hz : ∀ M : List (List Int), M.Nodup → (∀ x ∈ M, x ∈ R) → (∀ x ∈ R, x ∈ M) → ((M.length : Nat) : Int) = z) :
    EvD (tCB (rLenST K P w) (tCons (tCB (rSetOfT K P w) (tCons te tNil)) tNil)) σ G (.int z) := fun G1 H1 x wf Q q => h G1 H1 x wf _ fun v G2 H2 s hv => by
  cases hv with
  | @lst a xs _ ha hxs =>
    obtain ⟨ks, rfl, e, hk⟩ := refs_of hxs
    have lk : ks.length = R.length := by rw [← e, List.length_map]
    refine ⟨a, ks, rfl, SqL.of (s.w _ _ ha), fun p hp => SqT.of (s.w _ _ (hk p hp)), by omega, fun b L hb h1 h2 => ?_⟩
    have st := Stp.old s.w (show Ex H2 (upd H2 b (SetTO P w b L)) from .new hb)
    refine ⟨b, L, rfl, upd_same, fun p hp => SqT.of (st.h _ _ (s.w _ _ (hk p (h1 p hp)))), fun nd => ?_⟩
    have e3 := hz (L.map (·.2)) nd (fun x hx => by
      obtain ⟨p, hp, rfl⟩ := List.mem_map.mp hx
      rw [← e]
      exact List.mem_map.mpr ⟨p, h1 p hp, rfl⟩) (fun x hx => by
      rw [← e] at hx
      obtain ⟨p, hp, rfl⟩ := List.mem_map.mp hx
      exact h2 p hp)
    rw [List.length_map] at e3
    rw [e3]
    exact q _ _ _ (s.trans st) (.int z)
end
end Mv


namespace Mv
open PySem PySem.Spec PyProof.Rows L2 Evl
section
variable {prog : Program} {w : World} {A : Around} {E : Value → Shared → Prop} {s : Shared} {z TI TO i1 i2 T : Addr} {fp1 fp2 : List Addr} {n1 n2 i : Nat} {P1 P2 : Nat → Value → Prop} {St1 St2 : Nat → Heap → Prop} {f : Bool} {oT : Obj}
/-- a zip whose first tuple is kept by somebody gives a new tuple each time -/
theorem zipH_item {Q : Value → Shared → Prop} (S : ZipSep2 z TI TO i1 i2 fp1 fp2) (D1 : Draws prog w A i1 fp1 n1 P1 St1) (D2 : Draws prog w A i2 fp2 n2 P2 St2)
    (hz : IsZipHeld s.heap z TI TO T f) (hT : s.heap.get? T = some oT) (hTI : IsTupOf2 s.heap TI (.ref i1) (.ref i2)) (st1 : St1 i s.heap) (st2 : St2 i s.heap) (hlt1 : i < n1) (hlt2 : i < n2)
    (hQ : ∀ x1 x2 h' tk, P1 i x1 → P2 i x2 → IsZipHeld h' z TI TO T true → St1 (i + 1) h' → St2 (i + 1) h' → IsTupOf2 h' s.heap.objs.size x1 x2 → h'.objs.size = s.heap.objs.size + 1 →
      (∀ c o, c ≠ z → c ≠ i1 → c ≠ i2 → s.heap.get? c = some o → h'.get? c = some o) → Q (.ref s.heap.objs.size) { s with heap := h', toks := tk }) :
    wpAny (model prog w) A (Builtin.«zip.__next__» ⟨[.ref z], []⟩) (fun fin s' => ∃ v, fin = .done (.ret v) ∧ Q v s') E s := by
  obtain ⟨hp, g, d, tk0, os⟩ := (s)
  show (wpAny _ _ (field (.ref z) 2 >>= _) _ _ _)
  refine (wpAny_bind (wpAny_field hz rfl (x := .bool false) rfl ?_))
  show (wpAny _ _ (field (.ref z) 3 >>= _) _ _ _)
  refine (wpAny_bind (wpAny_field hz rfl (x := .ref TI) rfl ?_))
  refine (wpAny_bind (wpAny_seqItems hTI rfl ?_))
  show (wpAny _ _ (Builtin.SmallTypes.ownedTupleIsFree (.ref z) >>= _) _ _ _)
  refine wpAny_bind (wpAny_tupleHeld_zip hz hT fun g0 hz0 hs0 => ?_)
  have hs0 : Heap.SameBut z hp g0 := hs0
  (simp only [Bool.false_eq_true, if_false])
  refine wpAny_bind ?_
  rw [← Array.forIn_toList]
  (simp only [List.forIn_cons, List.forIn_nil])
  refine (wpAny_bind (wpAny_bind (wpAny_holding ?_)))
  show (wpAny _ _ (Builtin.SmallTypes.nextOf (.ref i1) >>= _) _ _ ⟨g0, g, d, tk0, os⟩)
  refine (wpAny_bind (D1.item i _ _ _ hlt1 (D1.over st1 hs0 S.zf1) fun x1 p1 tk1 hx1 sn1 hp1 => wpAny_pure ?_))
  have hp1 : Heap.SameBut i1 g0 p1 := hp1
  refine wpAny_pure ?_
  refine (wpAny_bind (wpAny_bind (wpAny_holding ?_)))
  show wpAny _ _ (Builtin.SmallTypes.nextOf (.ref i2) >>= _) _ _ ⟨p1, g, d, tk1, os⟩
  refine wpAny_bind (D2.item i _ _ _ hlt2 (D2.over (D2.over st2 hs0 S.zf2) hp1 S.sep1_2) fun x2 p2 tk2 hx2 sn2 hp2 => wpAny_pure ?_)
  replace hp2 : Heap.SameBut i2 p1 p2 := hp2
  refine (wpAny_pure (wpAny_pure ?_))
  show wpAny _ _ (newTuple [x1, x2] >>= _) _ _ ⟨p2, g, d, tk2, os⟩
  refine (wpAny_bind (wpAny_newTuple ?_))
  have hsz : p2.objs.size = hp.objs.size := by rw [hp2.1, hp1.1, hs0.1]
  have hz3 : IsZipHeld p2 z TI TO T true := hp2.extBut _ _ S.zi2 (hp1.extBut _ _ S.zi1 hz0)
  have hk : ∀ c o, c ≠ z → c ≠ i1 → c ≠ i2 → hp.get? c = some o → p2.get? c = some o := fun c o c1 c2 c3 e => hp2.extBut _ _ c3 (hp1.extBut _ _ c2 (hs0.extBut _ _ c1 e))
  refine (wpAny_pure ⟨_, rfl, ?_⟩)
  show Q (.ref p2.objs.size) _
  have ht : IsTupOf2 (p2.push { cls := .type "tuple", data := .seq #[x1, x2] }) p2.objs.size x1 x2 := Heap.get?_push_size _ rfl
  have hz4 : (p2.push { cls := .type "tuple", data := .seq #[x1, x2] }).objs.size = p2.objs.size + 1 := Heap.size_push ..
  rw [hsz] at ht hz4 ⊢
  have up : ∀ {b : Addr} {u : Obj}, p2.get? b = some u → (p2.push { cls := .type "tuple", data := .seq #[x1, x2] }).get? b = some u := fun e => Heap.get?_push_of_some _ e
  exact hQ x1 x2 _ tk2 hx1 hx2 (up hz3) (D1.frame _ _ _ (D1.over sn1 hp2 S.sep2_1) fun _ _ _ e => up e) (D2.frame _ _ _ sn2 fun _ _ _ e => up e) ht hz4 fun c o c1 c2 c3 e => up (hk c o c1 c2 c3 e)
theorem zipH_end {Q : Fin → Shared → Prop} (S : ZipSep2 z TI TO i1 i2 fp1 fp2) (D1 : Draws prog w A i1 fp1 n1 P1 St1) (D2 : Draws prog w A i2 fp2 n2 P2 St2)
    (hz : IsZipHeld s.heap z TI TO T f) (hT : s.heap.get? T = some oT) (hTI : IsTupOf2 s.heap TI (.ref i1) (.ref i2)) (st1 : St1 n1 s.heap)
    (hE : ∀ h' e, (∀ c o, c ≠ z → c ≠ i1 → c ≠ i2 → s.heap.get? c = some o → h'.get? c = some o) → (∃ o, h'.get? e = some o ∧ o.cls = .type "StopIteration") → E (.ref e) { s with heap := h' }) :
    wpAny (model prog w) A (Builtin.«zip.__next__» ⟨[.ref z], []⟩) Q E s := by
  obtain ⟨hp, g, d, tk0, os⟩ := (s)
  show (wpAny _ _ (field (.ref z) 2 >>= _) _ _ _)
  refine (wpAny_bind (wpAny_field hz rfl (x := .bool false) rfl ?_))
  show (wpAny _ _ (field (.ref z) 3 >>= _) _ _ _)
  refine (wpAny_bind (wpAny_field hz rfl (x := .ref TI) rfl ?_))
  refine (wpAny_bind (wpAny_seqItems hTI rfl ?_))
  show (wpAny _ _ (Builtin.SmallTypes.ownedTupleIsFree (.ref z) >>= _) _ _ _)
  refine wpAny_bind (wpAny_tupleHeld_zip hz hT fun g0 hz0 hs0 => ?_)
  have hs0 : Heap.SameBut z hp g0 := hs0
  (simp only [Bool.false_eq_true, if_false])
  refine wpAny_bind ?_
  rw [← Array.forIn_toList]
  (simp only [List.forIn_cons, List.forIn_nil])
  refine (wpAny_bind (wpAny_bind (wpAny_holding ?_)))
  show (wpAny _ _ (Builtin.SmallTypes.nextOf (.ref i1) >>= _) _ _ ⟨g0, g, d, tk0, os⟩)
  refine wpAny_bind (D1.done ⟨g0, g, d, tk0, os⟩ _ _ (D1.over st1 hs0 S.zf1) fun q e hq he => ?_)
  have hq : Heap.ExtBut i1 g0 q := hq
  exact hE q e (fun c o c1 c2 _ x => hq _ _ c2 (hs0.extBut _ _ c1 x)) he
end
section
variable {prog : Program} {w : World} {A : Around} {E : Value → Shared → Prop} {s : Shared} {z TI TO i1 i2 T : Addr} {fp1 fp2 : List Addr} {n1 n2 i : Nat} {P1 P2 : Nat → Value → Prop} {St1 St2 : Nat → Heap → Prop} {f : Bool} {oT : Obj}
theorem nextH_item {Q : Option Value → Shared → Prop} (S : ZipSep2 z TI TO i1 i2 fp1 fp2) (D1 : Draws prog w A.in1 i1 fp1 n1 P1 St1) (D2 : Draws prog w A.in1 i2 fp2 n2 P2 St2)
    (hz : IsZipHeld s.heap z TI TO T f) (hT : s.heap.get? T = some oT) (hTI : IsTupOf2 s.heap TI (.ref i1) (.ref i2)) (st1 : St1 i s.heap) (st2 : St2 i s.heap) (hlt1 : i < n1) (hlt2 : i < n2)
    (hQ : ∀ x1 x2 h' tk, P1 i x1 → P2 i x2 → IsZipHeld h' z TI TO T true → St1 (i + 1) h' → St2 (i + 1) h' → IsTupOf2 h' s.heap.objs.size x1 x2 → h'.objs.size = s.heap.objs.size + 1 →
      (∀ c o, c ≠ z → c ≠ i1 → c ≠ i2 → s.heap.get? c = some o → h'.get? c = some o) → Q (some (.ref s.heap.objs.size)) { s with heap := h', toks := tk }) :
    wpAny (model prog w) A (pyNext (.ref z)) Q E s := by
  have ty : s.TypeIs (.ref z) "zip" := ⟨_, hz, rfl⟩
  unfold pyNext
  exact wpAny_bind (wpAny_attempt (wpAny_callSpecial?_slot (name := Str.ofString "__next__") ty F.slot_zip_next (wpAny_call_entry F.slot_zip_next ty F.entry_zip_next (zipH_item S D1 D2 hz hT hTI st1 st2 hlt1 hlt2 fun x1 x2 h' tk a1 a2 a3 a4 a5 a6 a7 a8 => wpAny_pure (hQ x1 x2 h' tk a1 a2 a3 a4 a5 a6 a7 a8)) (F.args_zip_next_1 _))))
theorem nextH_end {Q : Option Value → Shared → Prop} (S : ZipSep2 z TI TO i1 i2 fp1 fp2) (D1 : Draws prog w A.in1 i1 fp1 n1 P1 St1) (D2 : Draws prog w A.in1 i2 fp2 n2 P2 St2)
    (hz : IsZipHeld s.heap z TI TO T f) (hT : s.heap.get? T = some oT) (hTI : IsTupOf2 s.heap TI (.ref i1) (.ref i2)) (st1 : St1 n1 s.heap)
    (hQ : ∀ h', (∀ c o, c ≠ z → c ≠ i1 → c ≠ i2 → s.heap.get? c = some o → h'.get? c = some o) → Q none { s with heap := h' }) : wpAny (model prog w) A (pyNext (.ref z)) Q E s := by
  have ty : s.TypeIs (.ref z) "zip" := ⟨_, hz, rfl⟩
  unfold pyNext
  refine wpAny_bind (wpAny_attempt (wpAny_callSpecial?_slot (name := Str.ofString "__next__") ty F.slot_zip_next (wpAny_call_entry F.slot_zip_next ty F.entry_zip_next (zipH_end S D1 D2 hz hT hTI st1 fun h' e hk he => ?_) (F.args_zip_next_1 _))))
  obtain ⟨o, ho, hc⟩ := he
  refine (wpAny_bind (wpAny_isInstance (T := "StopIteration") (b := true) ⟨o, ho, hc⟩ isSubtype_stop ?_))
  exact wpAny_pure (hQ _ hk)
end
def ZS (k1 k2 : Bool) (z TI TO i1 i2 a b : Addr) (i : Nat) (H : Hp) (h : Heap) : Prop :=
  IsTupOf2 h TI (.ref i1) (.ref i2) ∧ ItrK k1 h i1 a i ∧ ItrK k2 h i2 b i ∧ (∃ o, h.get? TO = some o) ∧ ((IsZip h z TI TO .none ∧ ∃ x y, IsTupOf2 h TO x y) ∨ ∃ T f u v, IsZipHeld h z TI TO T f ∧ H T = some (.tup [u, v]))
section
variable {X : Cx} {pins : List (Addr × Obj)} {σ : L2.St} {H : Hp} {s : Shared} {A : Around} {E : Value → Shared → Prop} {z TI TO i1 i2 a b : Addr} {k1 k2 : Bool} {xs ys : List V} {i : Nat}
theorem ZS.keep {h h' : Heap} (st : ZS k1 k2 z TI TO i1 i2 a b i H h) (k : ∀ c ∈ [z, TI, TO, i1, i2], ∀ o, h.get? c = some o → h'.get? c = some o) : ZS k1 k2 z TI TO i1 i2 a b i H h' := by
  obtain ⟨t, h1, h2, ⟨oO, eO⟩, q⟩ := st
  refine ⟨k TI (by simp) _ t, h1.at fun o q => k i1 (by simp) o q, h2.at fun o q => k i2 (by simp) o q, ⟨oO, k TO (by simp) _ eO⟩, ?_⟩
  rcases q with ⟨hz, x, y, hTO⟩ | ⟨T, f, u, v, hz, hT⟩
  · exact .inl ⟨k z (by simp) _ hz, x, y, k TO (by simp) _ hTO⟩
  · exact .inr ⟨T, f, u, v, k z (by simp) _ hz, hT⟩
theorem zip_turn {x y : V} (hA : A.in1.handled = none) (D : Sep2Z z TI TO i1 i2 a b) (I : Inv X pins σ H s) (hf : ∀ c ∈ [z, TI, TO, i1, i2], FpOk X pins H c) (st : ZS k1 k2 z TI TO i1 i2 a b i H s.heap)
    (q1 : SqK X.K k1 H a xs) (q2 : SqK X.K k2 H b ys) (hx : xs[i]? = some x) (hy : ys[i]? = some y) {Q : Option Value → Shared → Prop}
    (hQ : ∀ h' tk, Inv X pins σ (upd H s.heap.objs.size (.tup [x, y])) { s with heap := h', toks := tk } → ZS k1 k2 z TI TO i1 i2 a b (i + 1) (upd H s.heap.objs.size (.tup [x, y])) h' → (∀ c o, c ∉ [z, TI, TO, i1, i2] → s.heap.get? c = some o → h'.get? c = some o) → Q (some (.ref s.heap.objs.size)) { s with heap := h', toks := tk }) :
    wpAny (model X.prog X.w) A (pyNext (.ref z)) Q E s := by
  obtain ⟨hTI, h1, h2, ⟨oO, eO⟩, hz⟩ := st
  obtain ⟨t1, r1, p1, _⟩ := seqK I q1
  obtain ⟨t2, r2, p2, _⟩ := seqK I q2
  obtain ⟨v1, e1, w1⟩ := r1.get hx
  obtain ⟨v2, e2, w2⟩ := r2.get hy
  have S := D.sep
  have d1 := drawsK (prog := X.prog) (w := X.w) k1 hA i1 a D.n1 t1.toArray
  have d2 := drawsK (prog := X.prog) (w := X.w) k2 hA i2 b D.n2 t2.toArray
  have l1 : i < t1.toArray.size := by have := (List.getElem?_eq_some_iff.mp e1).1; simpa using this
  have l2 : i < t2.toArray.size := by have := (List.getElem?_eq_some_iff.mp e2).1; simpa using this
  have fin : ∀ y1 y2 h' tk, t1.toArray[i]? = some y1 → t2.toArray[i]? = some y2 → IsTupOf2 h' s.heap.objs.size y1 y2 → (∀ c o, c ∉ [z, TI, TO, i1, i2] → s.heap.get? c = some o → h'.get? c = some o) →
      Inv X pins σ (upd H s.heap.objs.size (.tup [x, y])) { s with heap := h', toks := tk } := fun y1 y2 h' tk g1 g2 hT hk => by
    have f1 : y1 = v1 := by
      have : t1[i]? = some y1 := by simpa using g1
      rw [e1] at this; exact (Option.some.inj this).symm
    have f2 : y2 = v2 := by
      have : t2[i]? = some y2 := by simpa using g2
      rw [e2] at this; exact (Option.some.inj this).symm
    subst f1 f2
    exact I.turnedNew (t' := tk) (ch := [z, TI, TO, i1, i2]) hk hf (Nat.le_refl _) ⟨by show 2 ≤ sizeLine; decide, [y1, y2], .cons w1 (.cons w2 .nil), ⟨_, hT, rfl, _, rfl⟩⟩
  have nof : ∀ {c : Addr} {o : Obj}, s.heap.get? c = some o → c ≠ s.heap.objs.size := fun e => Nat.ne_of_lt (Heap.lt_size e)
  rcases hz with ⟨hz, x0, y0, hTO⟩ | ⟨T, f, u, v, hz, hT⟩
  · refine wpAny_pyNext_zipD2_item S d1 d2 hz hTI hTO ⟨h1, p1⟩ ⟨h2, p2⟩ l1 l2 fun y1 y2 h' tk g1 g2 hz' hTO' s1 s2 hT hsz hk => ?_
    have hk2 : ∀ c o, c ∉ [z, TI, TO, i1, i2] → s.heap.get? c = some o → h'.get? c = some o := fun c o hb q => hk c o (fun q' => hb (by simp [q'])) (fun q' => hb (by simp [q'])) (fun q' => hb (by simp [q'])) (fun q' => hb (by simp [q'])) q
    exact hQ h' tk (fin y1 y2 h' tk g1 g2 hT hk2) ⟨hk _ _ S.TIz S.TITO S.TIi1 S.TIi2 hTI, s1.1, s2.1, ⟨_, hTO'⟩, .inr ⟨_, false, x, y, hz', upd_same⟩⟩ hk2
  · obtain ⟨tt, rT, pT, _⟩ := I.tuple (SqT.of hT)
    obtain ⟨oT, eT, _⟩ := pT
    refine nextH_item S d1 d2 hz eT hTI ⟨h1, p1⟩ ⟨h2, p2⟩ l1 l2 fun y1 y2 h' tk g1 g2 hz' s1 s2 hT2 hsz hk => ?_
    have hk2 : ∀ c o, c ∉ [z, TI, TO, i1, i2] → s.heap.get? c = some o → h'.get? c = some o := fun c o hb q => hk c o (fun q' => hb (by simp [q'])) (fun q' => hb (by simp [q'])) (fun q' => hb (by simp [q'])) q
    refine hQ h' tk (fin y1 y2 h' tk g1 g2 hT2 hk2) ⟨hk _ _ S.TIz S.TIi1 S.TIi2 hTI, s1.1, s2.1, ⟨oO, hk _ _ S.TOz S.Ti1 S.Ti2 eO⟩, .inr ⟨T, true, u, v, hz', ?_⟩⟩ hk2
    rw [upd_ne (nof eT)]
    exact hT
theorem zip_over (hA : A.in1.handled = none) (D : Sep2Z z TI TO i1 i2 a b) (I : Inv X pins σ H s) (hf : ∀ c ∈ [z, TI, TO, i1, i2], FpOk X pins H c) (st : ZS k1 k2 z TI TO i1 i2 a b i H s.heap)
    (q1 : SqK X.K k1 H a xs) (q2 : SqK X.K k2 H b ys) (hx : i = xs.length) (hl : xs.length = ys.length) {Q : Option Value → Shared → Prop}
    (hQ : ∀ h' tk, Inv X pins σ H { s with heap := h', toks := tk } → (∀ c o, c ∉ [z, TI, TO, i1, i2] → s.heap.get? c = some o → h'.get? c = some o) → Q none { s with heap := h', toks := tk }) :
    wpAny (model X.prog X.w) A (pyNext (.ref z)) Q E s := by
  obtain ⟨hTI, h1, h2, ⟨oO, eO⟩, hz⟩ := st
  obtain ⟨t1, r1, p1, _⟩ := seqK I q1
  obtain ⟨t2, r2, p2, _⟩ := seqK I q2
  have S := D.sep
  have d1 := drawsK (prog := X.prog) (w := X.w) k1 hA i1 a D.n1 t1.toArray
  have d2 := drawsK (prog := X.prog) (w := X.w) k2 hA i2 b D.n2 t2.toArray
  have m1 := r1.length
  have m2 := r2.length
  have z1 : t1.toArray.size = t1.length := List.size_toArray
  have z2 : t2.toArray.size = t2.length := List.size_toArray
  rcases hz with ⟨hz, x0, y0, hTO⟩ | ⟨T, f, u, v, hz, hT⟩
  · refine wpAny_pyNext_zipD2_end S d1 d2 hz hTI hTO ⟨h1, p1⟩ ⟨h2, p2⟩ (by omega) (by omega) (by omega) fun h' tk hk => ?_
    have hk2 : ∀ c o, c ∉ [z, TI, TO, i1, i2] → s.heap.get? c = some o → h'.get? c = some o := fun c o hb q => hk c o (fun q' => hb (by simp [q'])) (fun q' => hb (by simp [q'])) (fun q' => hb (by simp [q'])) (fun q' => hb (by simp [q'])) q
    exact hQ h' tk (I.turnedL (t' := tk) (ch := [z, TI, TO, i1, i2]) hk2 hf) hk2
  · obtain ⟨tt, rT, pT, _⟩ := I.tuple (SqT.of hT)
    obtain ⟨oT, eT, _⟩ := pT
    have e : i = t1.toArray.size := by omega
    refine nextH_end S d1 d2 hz eT hTI (by rw [← e]; exact ⟨h1, p1⟩) fun h' hk => ?_
    have hk2 : ∀ c o, c ∉ [z, TI, TO, i1, i2] → s.heap.get? c = some o → h'.get? c = some o := fun c o hb q => hk c o (fun q' => hb (by simp [q'])) (fun q' => hb (by simp [q'])) (fun q' => hb (by simp [q'])) q
    exact hQ h' s.toks (I.turnedL (t' := s.toks) (ch := [z, TI, TO, i1, i2]) hk2 hf) hk2
end
end Mv


namespace Mv
open PySem PySem.Spec PyProof.Rows L2 Evl
theorem zip_no_len : typeLookup (.type "zip") "__len__" = pure none := by rw [typeLookup_type, builtinLookup_eq_fast]; kernel_rfl
theorem zip_no_hint : typeLookup (.type "zip") "__length_hint__" = pure none := by rw [typeLookup_type, builtinLookup_eq_fast]; kernel_rfl
theorem SqK.old {K : PySem.W.Frag} {k : Bool} {H H' : Hp} {a : Addr} {xs : List V} (h : SqK K k H a xs) (e : Ex H H') : SqK K k H' a xs := by
  cases k with
  | true => exact (show SqL K H a xs from h).elim (fun h => .inl (h.elim (fun h => .inl (e _ _ h)) fun ⟨o, h⟩ => .inr ⟨o, e _ _ h⟩)) fun h => .inr h
  | false => exact (show SqT K H a xs from h).elim (fun h => .inl (h.elim (fun h => .inl (e _ _ h)) fun ⟨o, h⟩ => .inr ⟨o, e _ _ h⟩)) fun h => .inr h
/-- the pairs so far -/
def ZPr (xs ys : List V) (H0 H : Hp) (vs : List V) (i : Nat) : Prop := vs.length = i ∧ ∀ (j : Nat) (v : V), vs[j]? = some v → ∃ t x y, v = V.ref t ∧ H0 t = none ∧ H t = some (.tup [x, y]) ∧ xs[j]? = some x ∧ ys[j]? = some y
theorem vals_snoc {vs : List V} {us : List Value} {v : V} {u : Value} (h : Vals vs us) (q : RelV v u) : Vals (vs ++ [v]) (us ++ [u]) := by
  induction h with
  | nil => exact .cons q .nil
  | cons h1 _ ih => exact .cons h1 ih
section
variable {X : Cx} {pins : List (Addr × Obj)} {σ : L2.St} {A : Around} {z TI TO i1 i2 a b : Addr} {k1 k2 : Bool} {xs ys : List V}
theorem zip_loop {R : Result → Shared → Prop} {H0 : Hp} (hA : A.in1.in1.handled = none) (D : Sep2Z z TI TO i1 i2 a b) (hl : xs.length = ys.length) (hn : xs.length ≤ 1000000) (S : Addr) (hSf : S ∉ [z, TI, TO, i1, i2]) (res : Value) :
    ∀ (k i : Nat) (s : Shared) (H : Hp) (acc : Array Value) (c : Nat) (vs : List V), xs.length - i = k → i ≤ xs.length → Inv X pins σ H s → Ex H0 H → (∀ c ∈ [z, TI, TO, i1, i2], FpOk X pins H c) → FpOk X pins H S → ZS k1 k2 z TI TO i1 i2 a b i H s.heap →
      SqK X.K k1 H a xs → SqK X.K k2 H b ys → s.heap.get? S = some { cls := .type "list", dict := none, data := .seq acc c, slots := #[] } → Vals vs acc.toList → ZPr xs ys H0 H vs i →
      (∀ s' H' acc' c' vs', Inv X pins σ H' s' → s'.heap.get? S = some { cls := .type "list", dict := none, data := .seq acc' c', slots := #[] } → Vals vs' acc'.toList → ZPr xs ys H0 H' vs' xs.length → Ex H H' → R (.ok (.ret res)) s') →
      codeAny (model X.prog X.w) A (.builtin "list.extend.loop" ⟨[.ref S, .ref z, res], []⟩) R s := by
  intro k
  induction k with
  | zero =>
    intro i s H acc c vs hk hi I e0 hf hS0 st q1 q2 hS hv hp hR
    have hin : (i = xs.length) := by omega
    refine codeAny_builtin F.entry_extend_loop ?_
    (rw [Around.under_plainId F.plain_extend_loop _])
    show wpAny _ A.in1 (pyNext (.ref z) >>= _) _ _ s
    refine wpAny_bind (zip_over hA D I hf st q1 q2 hin hl fun h' tk I2 hk2 => ?_)
    exact wpAny_pure (hR _ H acc c vs I2 (hk2 S _ hSf hS) hv (hin ▸ hp) fun _ _ e => e)
  | succ k ih =>
    intro i s H acc c vs hk hi I e0 hf hS0 st q1 q2 hS hv hp hR
    have hlt : (i < xs.length) := by omega
    have hx : xs[i]? = some xs[i] := List.getElem?_eq_getElem hlt
    have hy : ys[i]? = some (ys[i]'(by omega)) := List.getElem?_eq_getElem _
    refine codeAny_builtin F.entry_extend_loop ?_
    (rw [Around.under_plainId F.plain_extend_loop _])
    show wpAny _ A.in1 (pyNext (.ref z) >>= _) _ _ s
    refine wpAny_bind (zip_turn hA D I hf st q1 q2 hx hy fun h' tk I2 st2 hk2 => ?_)
    obtain ⟨t, et⟩ : ∃ t, t = s.heap.objs.size := ⟨_, rfl⟩
    rw [← et] at I2 st2 ⊢
    have hS' : h'.get? S = some { cls := .type "list", dict := none, data := .seq acc c, slots := #[] } := hk2 S _ hSf hS
    have tn : H t = none := I.hok.fresh (by rw [et]; exact Nat.le_refl _)
    have ex : Ex H (upd H t (.tup [xs[i], ys[i]'(by omega)])) := .new tn
    have up : ∀ {b : Addr} {u : Obj}, s.heap.get? b = some u → FpOk X pins H b → FpOk X pins (upd H t (.tup [xs[i], ys[i]'(by omega)])) b := fun e q => ⟨by rw [upd_ne (by rw [et]; exact Nat.ne_of_lt (Heap.lt_size e))]; exact q.1, q.2⟩
    have alen : acc.size = i := by rw [← Array.length_toList, ← hv.length]; exact hp.1
    have live : ∀ c ∈ [z, TI, TO, i1, i2], ∃ o, s.heap.get? c = some o := fun c hc => by
      obtain ⟨e1, e2, e3, e5, e4⟩ := st
      have e' : c = z ∨ c = TI ∨ c = TO ∨ c = i1 ∨ c = i2 := by simpa using hc
      rcases e' with e | e | e | e | e
      · rw [e]; rcases e4 with ⟨hz, _⟩ | ⟨_, _, _, _, hz, _⟩ <;> exact ⟨_, hz⟩
      · rw [e]; exact ⟨_, e1⟩
      · rw [e]; exact e5
      · rw [e]; obtain ⟨o, q, _⟩ := e2.ob; exact ⟨o, q⟩
      · rw [e]; obtain ⟨o, q, _⟩ := e3.ob; exact ⟨o, q⟩
    show wpAny _ A.in1 (updateSeq S (·.push (.ref t)) >>= _) _ _ _
    refine wpAny_bind ?_
    have f2 : ∀ c ∈ [z, TI, TO, i1, i2], FpOk X pins (upd H t (.tup [xs[i], ys[i]'(by omega)])) c := fun c hc => by obtain ⟨o, e⟩ := live c hc; exact up e (hf c hc)
    have fS := up hS hS0
    have oth : ∀ c o, c ∉ [S] → h'.get? c = some o → (h'.update S (Obj.mapSeq (·.push (.ref t)))).get? c = some o := fun c o hc e => (Heap.get?_update_other _ _ (fun q : S = c => hc (by simp [q]))).trans e
    refine wpAny_updateSeq hS' rfl (wpAny_pure ⟨plainId_quiet F.plain_extend_loop _, ih (i + 1) _ (upd H t (.tup [xs[i], ys[i]'(by omega)])) (acc.push (.ref t)) _ (vs ++ [.ref t]) (by omega) hlt (I2.turnedL (t' := tk) (ch := [S]) oth fun c hc => by rw [List.mem_singleton.mp hc]; exact fS) (e0.trans ex) f2 fS
      (st2.keep fun c hc o e => oth c o (fun q => hSf (by rw [List.mem_singleton.mp q] at hc; exact hc)) e) (q1.old ex) (q2.old ex) (Heap.get?_update_self _ hS' rfl) (by rw [Array.toList_push]; exact vals_snoc hv rfl) ⟨by rw [List.length_append, hp.1]; rfl, fun j v hj => ?_⟩ fun s' H' acc' c' vs' a1 a2 a3 a4 a5 => hR s' H' acc' c' vs' a1 a2 a3 a4 (ex.trans a5)⟩)
      (by rw [alen, sizeLine_eq]; omega) (by show (acc.push (.ref t)).size ≤ sizeLine + 1; rw [Array.size_push, alen, sizeLine_eq]; omega)
    rw [List.getElem?_append] at hj
    split at hj
    · obtain ⟨t', x, y, rfl, h0, h1, h2, h3⟩ := hp.2 j v hj
      exact ⟨t', x, y, rfl, h0, ex _ _ h1, h2, h3⟩
    · rename_i hge
      have : j - vs.length = 0 := by
        have := (List.getElem?_eq_some_iff.mp hj).1
        simp at this
        omega
      rw [this] at hj
      cases Option.some.inj hj
      have ej : j = i := by have := hp.1; omega
      exact ⟨t, _, _, rfl, fresh_back e0 tn, upd_same, by rw [ej]; exact hx, by rw [ej]; exact hy⟩
end
end Mv


namespace Mv
open PySem PySem.Spec PyProof.Rows L2 Evl
section
variable {X : Cx} {pins : List (Addr × Obj)} {σ : L2.St} {A : Around} {E : Value → Shared → Prop} {H : Hp} {s : Shared} {z TI TO i1 i2 a b : Addr} {k1 k2 : Bool} {xs ys : List V}
/-- all that a zip gives -/
theorem collect_zip {Q : List Value → Shared → Prop} (hA : A.in1.in1.handled = none) (D : Sep2Z z TI TO i1 i2 a b) (hl : xs.length = ys.length) (hn : xs.length ≤ 1000000) (I : Inv X pins σ H s) (hf : ∀ c ∈ [z, TI, TO, i1, i2], FpOk X pins H c)
    (hz : IsZip s.heap z TI TO .none) (st : ZS k1 k2 z TI TO i1 i2 a b 0 H s.heap) (q1 : SqK X.K k1 H a xs) (q2 : SqK X.K k2 H b ys)
    (hQ : ∀ s' H' vs us, Inv X pins σ H' s' → Vals vs us → ZPr xs ys H H' vs xs.length → Ex H H' → Q us s') : wpAny (model X.prog X.w) A (collect (.ref z)) Q E s := by
  have live : ∀ c ∈ [z, TI, TO, i1, i2], ∃ o, s.heap.get? c = some o := fun c hc => by
    obtain ⟨e1, e2, e3, e5, e4⟩ := st
    have e' : c = z ∨ c = TI ∨ c = TO ∨ c = i1 ∨ c = i2 := by simpa using hc
    rcases e' with e | e | e | e | e
    · rw [e]; exact ⟨_, hz⟩
    · rw [e]; exact ⟨_, e1⟩
    · rw [e]; exact e5
    · rw [e]; obtain ⟨o, q, _⟩ := e2.ob; exact ⟨o, q⟩
    · rw [e]; obtain ⟨o, q, _⟩ := e3.ob; exact ⟨o, q⟩
  have hSf : s.heap.objs.size ∉ [z, TI, TO, i1, i2] := fun hm => by
    obtain ⟨o, e⟩ := live _ hm
    exact absurd (Heap.lt_size e) (Nat.lt_irrefl _)
  have hSz : s.heap.objs.size ≠ z := fun e => hSf (by rw [e]; simp)
  have fS : FpOk X pins H s.heap.objs.size := I.fpOk (Nat.le_refl _) (I.hok.fresh (Nat.le_refl _))
  unfold collect
  refine (wpAny_bind (wpAny_runValue (codeAny_builtin F.entry_proto_collect ?_)))
  (rw [Around.under_plainId F.plain_proto_collect _])
  show wpAny _ A.in1 (newList [] >>= fun l => again (.builtin "list.__iadd__" ⟨[l, .ref z], []⟩)) _ _ s
  refine (wpAny_bind (wpAny_newObj_type ?_))
  refine (wpAny_pure ⟨plainId_quiet F.plain_list_iadd _, codeAny_builtin F.entry_list_iadd ?_⟩)
  (rw [Around.under_plainId F.plain_list_iadd _])
  have up : ∀ (b : Addr) (u : Obj), s.heap.get? b = some u → (s.heap.push { cls := .type "list", data := .seq ([] : List Value).toArray }).get? b = some u := fun b u e => Heap.get?_push_of_some _ e
  have hz1 : IsZip (s.heap.push { cls := .type "list", data := .seq ([] : List Value).toArray }) z TI TO .none := up _ _ hz
  have I1 : Inv X pins σ H { s with heap := s.heap.push { cls := .type "list", data := .seq ([] : List Value).toArray } } := I.kept (t' := s.toks) up
  have hT : ({ s with heap := s.heap.push { cls := .type "list", data := .seq ([] : List Value).toArray } } : Shared).TypeIs (.ref z) "zip" := ⟨_, hz1, rfl⟩
  show wpAny _ A.in1 (Builtin.List.listExtendWith (.ref s.heap.objs.size) (.ref z) (.ref s.heap.objs.size)) _ _ _
  unfold Builtin.List.listExtendWith
  refine (wpAny_bind (wpAny_typeOf hT ?_))
  have h1 : Builtin.List.listSameRef (.ref s.heap.objs.size) (.ref z) = false := by simp [Builtin.List.listSameRef, hSz]
  have h2 : (Value.type "zip" == Value.type "list") = false := by decide
  have h3 : (Value.type "zip" == Value.type "tuple") = false := by decide
  (simp only [h1, h2, h3, Bool.or_false, Bool.false_eq_true, if_false])
  refine wpAny_bind (wpAny_pyIter_zip hz1 ?_)
  refine (wpAny_bind (wpAny_holding ?_))
  unfold Builtin.List.listLengthHint
  refine wpAny_bind (wpAny_specialOf hT zip_no_len ?_)
  show wpAny _ A.in1 (specialOf (Value.ref z) (Str.ofString "__length_hint__") >>= _) _ _ _
  refine wpAny_bind (wpAny_specialOf hT zip_no_hint ?_)
  refine wpAny_pure ?_
  show wpAny _ A.in1 (rule "list.extend.makes-room" >>= fun _ => Builtin.List.listTouch (.ref s.heap.objs.size) >>= fun _ =>
    again (.builtin "list.extend.loop" ⟨[.ref s.heap.objs.size, .ref z, .ref s.heap.objs.size], []⟩)) _ _ _
  refine (wpAny_bind (wpAny_rule ?_))
  have hS1 : (s.heap.push { cls := .type "list", data := .seq ([] : List Value).toArray }).get? s.heap.objs.size = some { cls := .type "list", data := .seq ([] : List Value).toArray } := Heap.get?_push_size _ rfl
  refine wpAny_bind ?_
  show (wpAny _ A.in1 (updateSeq s.heap.objs.size (·.push .none) >>= fun _ => updateSeq s.heap.objs.size (·.pop)) _ _ _)
  refine wpAny_bind (wpAny_updateSeq hS1 rfl ?_)
  have hS2 := Heap.get?_update_self (Obj.mapSeq (·.push Value.none)) hS1 rfl
  refine wpAny_updateSeq hS2 rfl ?_
  have hS3 := Heap.get?_update_self (Obj.mapSeq (·.pop)) hS2 rfl
  have oth : ∀ b o, b ∉ [s.heap.objs.size] → (s.heap.push { cls := .type "list", data := .seq ([] : List Value).toArray }).get? b = some o →
      (((s.heap.push { cls := .type "list", data := .seq ([] : List Value).toArray }).update s.heap.objs.size (Obj.mapSeq (·.push Value.none))).update s.heap.objs.size (Obj.mapSeq (·.pop))).get? b = some o :=
    fun b o hb e => (Heap.get?_update_other _ _ (fun q => hb (by simp [q]))).trans ((Heap.get?_update_other _ _ (fun q => hb (by simp [q]))).trans e)
  have I2 := I1.turnedL (t' := s.toks) (ch := [s.heap.objs.size]) oth fun c hc => by rw [List.mem_singleton.mp hc]; exact fS
  refine wpAny_pure ⟨plainId_quiet F.plain_extend_loop _, zip_loop (X := X) (pins := pins) (σ := σ) hA D hl hn _ hSf _ xs.length 0 _ H #[] _ [] rfl (Nat.zero_le _) I2 (fun _ _ e => e) hf fS
    (st.keep fun c hc o e => oth c o (fun q => hSf (by rw [List.mem_singleton.mp q] at hc; exact hc)) (up c o e)) q1 q2 hS3 .nil ⟨rfl, fun j v hj => by simp at hj⟩ fun s' H' acc' c' vs' a1 a2 a3 a4 a5 => ?_⟩
  show (wpAny _ A (load s.heap.objs.size >>= _) _ _ s')
  refine wpAny_bind (wpAny_load a2 ?_)
  exact wpAny_pure (hQ s' H' vs' acc'.toList a1 a3 a4 a5)
end
end Mv


namespace Mv
open PySem PySem.Spec PyProof.Rows L2 Evl
/-- sorted(zip(a, b)) -/
def tSortZ (K : PySem.W.Frag) (k1 k2 : Bool) (ta : TA) : TE := fun σ H Q => ta σ H fun us H1 => ∃ a b xs ys, us = [.ref a, .ref b] ∧ SqK K k1 H1 a xs ∧ SqK K k2 H1 b ys ∧ xs.length = ys.length ∧ xs.length ≤ 1000000 ∧
  ∀ (vs : List V) (H2 : Hp), ZPr xs ys H1 H2 vs xs.length → Ex H1 H2 → ∃ bs : List (V × D), bs.map (·.1) = vs ∧ (∀ b ∈ bs, Dp K H2 b.1 b.2) ∧ PySem.W.AllAlike (bs.map (·.2)) ∧ PySem.W.Sortable (bs.map (·.2)) ∧ (∀ b ∈ bs, b.2.depth ≤ 60) ∧
    ∀ p, H2 p = none → Q (.ref p) (upd H2 p (.lst ((bs.mergeSort (PySem.W.dataLe false (·.2))).map (·.1))))
theorem pe_sortZ (k1 k2 : Bool) {X : Cx} {e e2 : Expr} {ta : TA} {p p2 q pos : Pos} (hu : X.A.units + 64 < cLine) (hg : Gl X "sorted") (hm : X.mg "sorted" = none) (hbt : bootBuiltins "sorted" = some (.builtin "sorted")) (hg2 : Gl X "zip") (hm2 : X.mg "zip" = none) (ha : PA X [e, e2] ta) (hc : X.calm = true := by rfl)
    (hs : starEach [e, e2] X.env = (false, eval e X.env) :: starEach [e2] X.env := by rfl) (hpl : (backTo q (starEach [e2] X.env)).any (·.1) = false := by rfl) :
    PE X (.Call (.Name "sorted" p) [.Call (.Name "zip" p2) [e, e2] [] q] [] pos) (tSortZ X.K k1 k2 ta) := by
  refine (⟨fun pins s σ H Q I h => ?_⟩)
  refine Call_ (ld_blt I hg hm hbt ?_)
  refine (PyProof.Rows.callWith_builtin1 (PyProof.Rows.args_cons ?_ rfl) rfl rfl)
  refine Call_ (ld_blt I hg2 hm2 PyProof.Rows.boot_zip (PyProof.Rows.callWith_type1 (thn (ha.run q pins s σ H _ I h) fun us s1 ⟨vs, H1, I1, r1, q1⟩ => ?_) hs hpl))
  obtain ⟨a, b, xs, ys, ex, hqx, hqy, hlen, hn, qq⟩ := q1
  subst ex
  cases r1 with
  | cons r rr =>
    cases rr with
    | cons r' rr =>
      cases rr
      cases r
      cases r'
      have fpz : ∀ c, c ∈ [s1.heap.objs.size + 4, s1.heap.objs.size + 2, s1.heap.objs.size + 3, s1.heap.objs.size, s1.heap.objs.size + 1] → FpOk X pins H1 c := fun c hcm => by
        have hle : (s1.heap.objs.size ≤ c) := by
          have e' : c = s1.heap.objs.size + 4 ∨ c = s1.heap.objs.size + 2 ∨ c = s1.heap.objs.size + 3 ∨ c = s1.heap.objs.size ∨ c = s1.heap.objs.size + 1 := by simpa using hcm
          omega
        exact (I1.fpOk hle (I1.hok.fresh hle))
      obtain ⟨t1, r1, p1, _⟩ := seqK I1 hqx
      obtain ⟨t2, r2, p2, _⟩ := seqK I1 hqy
      have n1 := p1.lt
      have n2 := p2.lt
      refine zip_begins2 (beginsK k1 a t1.toArray) (beginsK k2 b t2.toArray) p1 p2 fun h' hz hTI hTO e1 e2 hsz hk => ?_
      have I2 := I1.kept (t' := s1.toks) (h' := h') hk
      have DS : Sep2Z (s1.heap.objs.size + 4) (s1.heap.objs.size + 2) (s1.heap.objs.size + 3) s1.heap.objs.size (s1.heap.objs.size + 1) a b :=
        ⟨zip_sep2 (by simpa using n1) (by simpa using n2), Nat.ne_of_lt n1, Nat.ne_of_lt (Nat.lt_add_right 1 n2)⟩
      refine PyProof.Rows.args_nil ?_
      refine PySem.Calls.call_function_entry kind_sorted plain_sorted entry_sorted (args_sorted1 _) ?_
      unfold Builtin.«sorted»
      refine (wpAny_bind (m := checkCount "sorted" 1 1 _) (wpAny_pure ?_))
      refine wpAny_bind (collect_zip (X := X) (pins := pins) (σ := σ) (k1 := k1) (k2 := k2) (show X.A.in1.in1.in1.handled = none from I1.ok.hd hc) DS hlen hn I2 fpz hz ⟨hTI, itrK_new e1, itrK_new e2, ⟨_, hTO⟩, .inl ⟨hz, _, _, hTO⟩⟩ hqx hqy fun s2 H2 vs its I3 rv hp ex => ?_)
      obtain ⟨bs, rfl, hd, hal, hk2, hdp, fin⟩ := qq vs H2 hp ex
      have bl : bs.length ≤ 1000000 := by have := hp.1; rw [List.length_map] at this; omega
      have hL : its.length ≤ sizeLine := by rw [← rv.length, List.length_map, sizeLine_eq]; omega
      have ev := each_vals rv
      have er : ∀ {s' : Shared}, (∀ b u, s2.heap.get? b = some u → s'.heap.get? b = some u) → PySem.W.EachIs (fun v b => ∃ as, Reads s'.heap v b.2 as) its bs := fun {s'} keep => by
        have key : ∀ {its : List Value} {cs : List (V × D)}, PySem.W.EachIs (fun v b => RelV b.1 v) its cs → (∀ b ∈ cs, b ∈ bs) → PySem.W.EachIs (fun v b => ∃ as, Reads s'.heap v b.2 as) its cs := fun {its cs} h => by
          induction h with
          | nil => intro _; exact .nil
          | @cons v b vs cs h1 _ ih =>
            intro m
            obtain ⟨as, r⟩ := Dp.reads I3 b.2 b.1 v (hd b (m b (.head _))) h1
            exact .cons ⟨as, Reads.keeps keep r⟩ (ih fun x hx => m x (.tail _ hx))
        exact key ev fun _ h => h
      refine wpAny_bind (wpAny_newList ?_ (by simpa using hL))
      refine wpAny_bind (wpAny_holding (PySem.wpAny_call_entry slot_list_sort ⟨_, Heap.get?_push_size _ rfl, rfl⟩ entry_list_sort ?body (args_list_sort _)))
      case body =>
        have up : ∀ b u, s2.heap.get? b = some u → (s2.heap.push (seqObj "list" its.toArray 0)).get? b = some u := fun b u q => Heap.get?_push_of_some _ q
        have ne : ∀ b u, s2.heap.get? b = some u → b ≠ s2.heap.objs.size := fun b u q => Nat.ne_of_lt (Heap.lt_size q)
        have er2 := er (s' := { s2 with heap := PySem.W.sortingHeap (s2.heap.push (seqObj "list" its.toArray 0)) s2.heap.objs.size its }) fun b u q => PySem.W.sortingHeap_old (ne b u q) (up b u q)
        have none2 : H2 s2.heap.objs.size = none := I3.hok.fresh (Nat.le_refl _)
        have none1 : s2.heap.get? s2.heap.objs.size = none := by
          cases q : s2.heap.get? s2.heap.objs.size with
          | none => rfl
          | some u => exact absurd rfl (ne _ u q)
        refine wpAny_mono (PySem.W.list_sort_vals (P := fun f z => f = .done (.ret .none) ∧ ∃ x H3, Inv X pins σ H3 z ∧ RelV x (.ref s2.heap.objs.size) ∧ Q x H3) (s := { s2 with heap := s2.heap.push (seqObj "list" its.toArray 0) }) (Heap.get?_push_size _ rfl) (PySem.W.SortsAt.data (s := { s2 with heap := PySem.W.sortingHeap (s2.heap.push (seqObj "list" its.toArray 0)) s2.heap.objs.size its }) (PySem.W.each_map (R := fun v d => ∃ as, Reads (PySem.W.sortingHeap (s2.heap.push (seqObj "list" its.toArray 0)) s2.heap.objs.size its) v d as) (fun b : V × D => b.2) er2) hal hk2 (fun d m => ?_)) hL ⟨rfl, ?_⟩) (fun f z ⟨e, q⟩ => ?_) fun _ _ e => e
        · obtain ⟨b, hb, rfl⟩ := List.mem_map.mp m
          have := hdp b hb
          show X.A.units + 2 + _ < _
          omega
        · have ev2 := PySem.W.sortVals_data (R := fun v (b : V × D) => RelV b.1 v) (enc := fun b : V × D => b.2) false ev er2 hal
          obtain ⟨ep, at2⟩ := sortedHeap_at (out := (PySem.W.sortVals (PySem.W.dataKind (PySem.W.sortingHeap (s2.heap.push (seqObj "list" its.toArray 0)) s2.heap.objs.size its) (bs.map (·.2))) false its its).toArray) (Heap.get?_push_size _ rfl : (s2.heap.push (seqObj "list" its.toArray 0)).get? s2.heap.objs.size = some (seqObj "list" its.toArray 0))
          have vl := vals_each ev2
          refine ⟨.ref _, upd H2 s2.heap.objs.size (.lst ((bs.mergeSort (PySem.W.dataLe false (·.2))).map (·.1))), I3.laidN (t' := s2.toks) (fun b u q => ?_) none1 none2 ⟨?_, _, ep, vl, at2⟩, rfl, fin _ none2⟩
          · rw [sortedHeap_old (ne b u q) (Heap.lt_size (up b u q))]
            exact up b u q
          · rw [List.length_map, List.length_mergeSort, sizeLine_eq]
            omega
        · subst e
          exact ⟨_, rfl, wpAny_pure ⟨_, rfl, q⟩⟩
section
variable {K : PySem.W.Frag} {σ : L2.St} {G : Hp} {ta : TA} {k1 k2 : Bool} {as bs : List D}
theorem dq_pairs {G G3 H1 H2 : Hp} {xs ys vs : List V} (e : Ex G G3) (hn : ∀ t o, H1 t = none → H2 t = some o → G3 t = some o) (ha : DqA G xs as) (hb : DqA G ys bs) (hl : as.length = bs.length) (hp : ZPr xs ys H1 H2 vs xs.length) : DqA G3 vs ((as.zip bs).map fun q => .tuple [q.1, q.2]) := by
  have key : ∀ (n : Nat) (vs : List V) (xs ys : List V) (as bs : List D), as.length = bs.length → DqA G xs as → DqA G ys bs → ZPr xs ys H1 H2 vs xs.length → vs.length = n → DqA G3 vs ((as.zip bs).map fun q => .tuple [q.1, q.2]) := by
    intro n
    induction n with
    | zero =>
      intro vs xs ys as bs hl ha hb hp hv
      have h1 := hp.1
      have h2 := ha.len
      have v0 : vs = [] := List.eq_nil_of_length_eq_zero hv
      have a0 : as = [] := List.eq_nil_of_length_eq_zero (by omega)
      subst v0 a0
      exact .nil
    | succ n ih =>
      intro vs xs ys as bs hl ha hb hp hv
      have h1 := hp.1
      cases ha with
      | nil => rw [h1] at hv; simp at hv
      | @cons x xs a as hx hxs =>
        cases hb with
        | nil => simp at hl
        | @cons y ys b bs hy hys =>
          cases vs with
          | nil => simp at hv
          | cons v vs =>
            obtain ⟨t, x', y', rfl, f0, f1, f2, f3⟩ := hp.2 0 v rfl
            cases Option.some.inj f2
            cases Option.some.inj f3
            refine .cons (.tup (hn t _ f0 f1) (.cons (hx.mono e) (.cons (hy.mono e) .nil))) ?_
            exact ih vs xs ys as bs (by simpa using hl) hxs hys ⟨by simpa using h1, fun j u hj => hp.2 (j + 1) u hj⟩ (by simpa using hv)
  exact key _ vs xs ys as bs hl ha hb hp rfl
theorem d_sortZ (h : EvS ta σ G [sq k1 as, sq k2 bs]) (hl : as.length = bs.length) (hn : as.length ≤ 1000000) (o : SortOk ((as.zip bs).map fun q => .tuple [q.1, q.2])) : EvD (tSortZ K k1 k2 ta) σ G (.list (sortD ((as.zip bs).map fun q => .tuple [q.1, q.2]))) := fun G1 H1 x w Q q => h G1 H1 x w _ fun us G2 H2 s hv => by
  cases hv with
  | cons hv hn' =>
    cases hn' with
    | cons hv2 hn' =>
      cases hn'
      obtain ⟨a, xs, rfl, hxs, qa⟩ := sq_at (K := K) hv
      obtain ⟨b, ys, rfl, hys, qb⟩ := sq_at (K := K) hv2
      have l1 := hxs.len
      have l2 := hys.len
      refine ⟨a, b, xs, ys, rfl, qa _ s.w, qb _ s.w, by omega, by omega, fun vs H3 hp ex => ?_⟩
      obtain ⟨G3, eG⟩ : ∃ G3 : Hp, G3 = fun c => if (H2 c).isNone then H3 c else G2 c := ⟨_, rfl⟩
      have hn3 : ∀ t o, H2 t = none → H3 t = some o → G3 t = some o := fun t o e1 e2 => by rw [eG]; simp [e1, e2]
      have g3 : Ex G2 G3 := fun t o e => by rw [eG]; simp [s.w _ _ e, e]
      have w3 : Ex G3 H3 := fun t o e => by
        rw [eG] at e
        simp only at e
        split at e
        · exact e
        · exact ex _ _ (s.w _ _ e)
      have s3 : Stp G2 H2 G3 H3 := ⟨g3, ex, w3, fun t e1 e2 _ => by
        rw [eG]
        cases q : H2 t with
        | none => exact (e2 q).elim
        | some o => simpa [q] using e1⟩
      have pr := dq_pairs (H1 := H2) (H2 := H3) g3 hn3 hxs hys hl hp
      obtain ⟨e1, e2, e3⟩ := zip_dq pr
      refine ⟨vs.zip ((as.zip bs).map fun q => .tuple [q.1, q.2]), e1, fun b hb => ?_, by rw [e2]; exact o.al, by rw [e2]; exact o.so, fun b hb => ?_, fun p hp2 => ?_⟩
      · exact dp_of w3 (e3 b hb) (flat_mem o.f _ (by rw [← e2]; exact List.mem_map.mpr ⟨b, hb, rfl⟩))
      · exact o.dp _ (by rw [← e2]; exact List.mem_map.mpr ⟨b, hb, rfl⟩)
      · have s4 := Stp.new (o := .lst (((vs.zip ((as.zip bs).map fun q => PyData.tuple [q.1, q.2])).mergeSort (PySem.W.dataLe false (·.2))).map (·.1))) w3 hp2
        refine q _ _ _ ((s.trans s3).trans s4) (.lst upd_same ?_)
        have := dqa_pairs (G := G3) (bs := (vs.zip ((as.zip bs).map fun q => PyData.tuple [q.1, q.2])).mergeSort (PySem.W.dataLe false (·.2))) fun b hb => e3 b (List.mem_mergeSort.mp hb)
        rw [sort_pairs, e2] at this
        exact this.mono s4.g
end
end Mv


namespace Mv
open PySem PySem.Spec PyProof.Rows L2 Evl
/-! ### enumerate of a list or a tuple -/
theorem meets_enum1 {v : Value} {o : Obj} {Hp0 : Heap → Prop} (B : Begins v o Hp0) : Meets (Builtin.«enumerate.__new__» ⟨[.type "enumerate", v], []⟩)
    (fun _ R s => Hp0 s.heap ∧ R (.ok (.ret (.ref (s.heap.push o).objs.size))) { s with heap := (s.heap.push o).push { cls := .type "enumerate", data := .fields #[.none, .bool false, .ref s.heap.objs.size, rawInt 0, .none, .none] } }) :=
  .of_wp fun prog w A R s ⟨first, rest⟩ => by
    obtain ⟨hp, gens, drawn, tok, osw⟩ := s
    have isSub := sub_enumerate
    have walk1 : ∀ {A' : Around} {E : Value → Shared → Prop} {Q : Value → Shared → Prop}, Q (.ref hp.objs.size) ⟨hp.push o, gens, drawn, tok, osw⟩ → wpAny (model prog w) A' (pyIter v) Q E ⟨hp, gens, drawn, tok, osw⟩ := fun q => B.iter prog w _ _ ⟨hp, gens, drawn, tok, osw⟩ _ first q
    wp_walk using walk1
    refine wpAny_stack_any fun under => wpAny_pure ?_
    split
    · rename_i c _ _ _ _ _
      cases (c == Value.type "enumerate") <;> (wp_walk using walk1; exact ⟨_, rfl, rest⟩)
    · wp_walk using walk1
      exact ⟨_, rfl, rest⟩
theorem enum_begins1 {prog : Program} {w : World} {A : Around} {E : Value → Shared → Prop} {s : Shared} {v : Value} {o : Obj} {Hp0 : Heap → Prop} {Q : Value → Shared → Prop} (B : Begins v o Hp0) (h1 : Hp0 s.heap)
    (h : ∀ g, IsEnum g (s.heap.objs.size + 1) s.heap.objs.size 0 .none → g.get? s.heap.objs.size = some o → (∀ b u, s.heap.get? b = some u → g.get? b = some u) → Q (.ref (s.heap.objs.size + 1)) { s with heap := g }) :
    wpAny (model prog w) A (call (.type "enumerate") [v]) Q E s := by
  refine callType_new F.called_enumerate (by decide) (F.typeCall_enumerate_1 _) (F.newCall_enumerate_1 _) (fun obj => F.args_object_init_2 obj _) F.entry_enumerate_new (meets_enum1 B) ⟨h1, ?_⟩
  have grow : (s.heap.push o).objs.size = s.heap.objs.size + 1 := Heap.size_push ..
  have made_ : IsEnum ((s.heap.push o).push { cls := .type "enumerate", data := .fields #[.none, .bool false, .ref s.heap.objs.size, rawInt 0, .none, .none] }) (s.heap.objs.size + 1) s.heap.objs.size 0 .none := by
    have z := Heap.get?_push_size (s.heap.push o) (o := { cls := .type "enumerate", data := .fields #[.none, .bool false, .ref s.heap.objs.size, rawInt 0, .none, .none] }) rfl
    rw [grow] at z
    exact z
  show _ ∧ _
  rw [grow]
  exact ⟨⟨_, made_, rfl⟩, h _ made_ (Heap.get?_push_of_some _ (Heap.get?_push_size _ B.free)) fun b u x => Heap.get?_push_of_some _ (Heap.get?_push_of_some _ x)⟩
def ItE (K : PySem.W.Frag) (k : Bool) (a : Addr) : It :=
  ⟨fun i H => ∃ (xs : List V) (x : V), SqK K k H a xs ∧ xs[i]? = some x,
    fun i H v H' => ∃ T x, v = .ref T ∧ H T = none ∧ H' = upd H T (.tup [.int (i : Nat), x]) ∧ ∀ xs, SqK K k H a xs → xs[i]? = some x,
    fun i H => ∃ xs : List V, SqK K k H a xs ∧ i = xs.length⟩
theorem turn_enumk {P : Program} {w : World} {K : PySem.W.Frag} {elts : List Expr} {kk : Nat} {tpos : Pos} {k : Bool} {a e it : Addr} (ne1 : a ≠ it) (ne2 : e ≠ it) (ne3 : e ≠ a) :
    Turn P w K (.Tuple elts kk tpos) (ItE K k a) [e, it] e (fun i h => (∃ old, IsEnum h e it ((i : Nat) : Int) old) ∧ ItrK k h it a i) where
  mem := by simp
  obj := fun i h st b hb => by
    obtain ⟨⟨old, atE⟩, atIt⟩ := st
    rcases (by simpa using hb : b = e ∨ b = it) with z | z
    · rw [z]; exact ⟨_, atE, fun v q => nomatch q⟩
    · rw [z]; exact atIt.ob
  keep := fun i h h' ⟨⟨old, atE⟩, atIt⟩ k => ⟨⟨old, k e (by simp) _ atE⟩, atIt.at fun o q => k it (by simp) o q⟩
  item := by
    intro X e1 e2 e3 hc i pq s σ H E I hf stz hg
    subst e1 e2 e3
    obtain ⟨⟨old, atE⟩, atIt⟩ := stz
    obtain ⟨xs, x, sx, hx⟩ := hg
    obtain ⟨its, rv, p, _⟩ := seqK I sx
    obtain ⟨u, hu, ru⟩ := (rv.get hx)
    have quiet : X.A.in1.handled = none := I.ok.hd hc
    have ltE : e < s.heap.objs.size := Heap.lt_size atE
    have ltI : it < s.heap.objs.size := by obtain ⟨_, q, _⟩ := atIt.ob; exact Heap.lt_size q
    refine wpAny_pyNext_enum_itemD (drawsK k quiet it a ne1 its.toArray) atE ⟨atIt, p⟩ (by have := (List.getElem?_eq_some_iff.mp hu).1; simpa using this) ne2 (by simp [ne2, ne3]) fun y g tk hy out st1 hT sz keep => ?_
    have ey : y = u := by
      have z : its[i]? = some y := by simpa using hy
      rw [hu] at z
      exact (Option.some.inj z).symm
    subst ey
    refine ⟨_, rfl, wpAny_letOwnedTupleGo_enum (s := { s with heap := g, toks := tk + 1 }) out fun g2 atE2 sb => ?_⟩
    have hT2 : g2.get? s.heap.objs.size = some { cls := .type "tuple", data := .seq #[.int i tk, y] } := (sb.2 _ (Nat.ne_of_gt ltE)).trans hT
    have pair : ObjOk X.prog X.w (upd H s.heap.objs.size (.tup [.int (i : Nat), x])) g2 s.heap.objs.size (.tup [.int (i : Nat), x]) := ⟨by show 2 ≤ sizeLine; decide, [.int i tk, y], .cons ⟨_, rfl⟩ (.cons ru .nil), ⟨_, hT2, rfl, _, rfl⟩⟩
    have J : Inv X pq σ (upd H s.heap.objs.size (.tup [.int (i : Nat), x])) { s with heap := g2, toks := tk + 1 } :=
      I.turnedNew (t' := tk + 1) (ch := [e, it]) (fun b ob hb q => (sb.2 b (fun z => hb (by simp [z]))).trans (keep b ob (fun z => hb (by simp [z])) (fun z => hb (by simp [z])) q)) hf (Nat.le_refl _) pair
    refine ⟨.ref s.heap.objs.size, _, J, rfl, ⟨_, x, rfl, I.hok.fresh (Nat.le_refl _), rfl, fun ys hy => by rw [seqK_inj I hy sx]; exact hx⟩, ⟨⟨y, ?_⟩, st1.1.at fun o q => (sb.2 it (Ne.symm ne2)).trans q⟩, fun b hb => ?_⟩
    · have z : ((i + 1 : Nat) : Int) = (i : Int) + 1 := by omega
      rw [z]
      exact atE2
    · have lt : b < s.heap.objs.size := by
        rcases (by simpa using hb : b = e ∨ b = it) with z | z
        · rw [z]; exact ltE
        · rw [z]; exact ltI
      rw [upd_ne (Nat.ne_of_lt lt)]
      exact (hf b hb).1
  done := by
    intro X e1 e2 e3 hc i pq s σ H E I hf stz hg
    subst e1 e2 e3
    obtain ⟨⟨old, atE⟩, atIt⟩ := stz
    obtain ⟨xs, sx, rfl⟩ := hg
    obtain ⟨its, rv, p, _⟩ := seqK I sx
    have quiet : X.A.in1.handled = none := I.ok.hd hc
    obtain ⟨f0, f1, f2, f3, f4, f5⟩ := (hf it (by simp))
    have size_ : its.toArray.size = xs.length := by rw [List.size_toArray]; exact rv.length.symm
    exact wpAny_pyNext_enum_endD (drawsK k quiet it a ne1 its.toArray) atE (by rw [size_]; exact ⟨atIt, p⟩) fun g eb => ⟨rfl, I.turned (t' := s.toks) (fun b o hb q => eb b o hb q) f0 f1 f3 f4 f5⟩
  self := fun A i s Q E st h => let ⟨⟨_, atE⟩, _⟩ := st; wpAny_pyIter_enum atE h
def iEnumK (K : PySem.W.Frag) (k : Bool) (ta : TA) : TI := fun σ H Rq => ta σ H fun vs H1 => ∃ a xs, vs = [.ref a] ∧ SqK K k H1 a xs ∧ Rq (ItE K k a) H1
theorem pi_enumk (k : Bool) {X : Cx} {e : Expr} {ta : TA} {p pos tpos : Pos} {elts : List Expr} {kk : Nat} (hg : Gl X "enumerate") (hm : X.mg "enumerate" = none) (ha : PA X [e] ta) (one : starEach [e] X.env = [(false, eval e X.env)] := by rfl) :
    PI X (.Tuple elts kk tpos) (.Call (.Name "enumerate" p) [e] [] pos) (iEnumK X.K k ta) := by
  refine ⟨fun pq s σ H Rq I h => Call_ (ld_blt I hg hm boot_enumerate (PyProof.Rows.callWith_type1 (thn (ha.run pos pq s σ H _ I h) fun us sA ⟨vs, H1, IA, r1, a, xs, ex, sx, q⟩ => ?_) one rfl))⟩
  subst ex
  cases r1 with
  | cons r rr =>
    cases rr
    cases r
    obtain ⟨its, rv, p', _⟩ := seqK IA sx
    have la := p'.lt
    refine enum_begins1 (beginsK k a its.toArray) p' fun g made_ new_ keep => wpAny_pyIter_enum made_ ?_
    have IB : Inv X pq σ H1 { sA with heap := g } := IA.kept (t' := sA.toks) keep
    refine ⟨sA.heap.objs.size + 1, [sA.heap.objs.size + 1, sA.heap.objs.size], _, _, H1, rfl, IB, turn_enumk (Nat.ne_of_lt la) (Nat.succ_ne_self _) (Nat.ne_of_gt (Nat.lt_succ_of_lt la)), ⟨⟨.none, made_⟩, itrK_new new_⟩, fun b hb => ?_, q⟩
    have above : sA.heap.objs.size ≤ b := by
      rcases (by simpa using hb : b = sA.heap.objs.size + 1 ∨ b = sA.heap.objs.size) with z | z
      · rw [z]; exact (Nat.le_add_right _ _)
      · rw [z]; exact Nat.le_refl _
    exact IA.fpOk above (IA.hok.fresh above)
section
variable {K : PySem.W.Frag} {σ : L2.St} {G G' H H' : Hp} {ta tb te tx : TE} {t u : TT} {d e z : D} {ds es : List D} {D' : Ends} {tu tz : TS}
/-- [.. for i, x in enumerate(..)] -/
theorem d_lcE {ta : TA} {i j : Nat} {vs : List Nat} {k1 : Bool} {as : List D} (p : Nat × D → Bool) (f : Nat × D → D) (h : EvS ta σ G [sq k1 as]) (hz : as.length ≤ 1000000)
    (hw : ∀ x y, wipe (((wipe σ vs).set i (some x)).set j (some y)) vs = wipe σ vs)
    (ht : ∀ y (n : Nat) b G1, Ex G G1 → as[n]? = some b → Dq G1 y b → EvB t (((wipe σ vs).set i (some (.int (n : Int)))).set j (some y)) G1 (p (n, b)))
    (he : ∀ y (n : Nat) b G1, Ex G G1 → as[n]? = some b → Dq G1 y b → p (n, b) = true → EvD te (((wipe σ vs).set i (some (.int (n : Int)))).set j (some y)) G1 (f (n, b))) :
    EvD (tLc (iEnumK K k1 ta) (gT2 K i j) t te vs) σ G (.list (made p f ((List.range as.length).zip as))) := fun G1 H1 x w Q q => h G1 H1 x w _ fun us G2 H2 s hv => by
  cases hv with
  | cons hv hn =>
    cases hn
    obtain ⟨a, xs, rfl, hxs, qa⟩ := sq_at (K := K) hv
    refine ⟨a, xs, rfl, qa _ s.w, fun Dl hD => ?_⟩
    have lz : ((List.range as.length).zip as).length = as.length := by rw [List.length_zip, List.length_range]; omega
    have l1 := hxs.len
    refine ⟨fun n m H => m = as.length - n ∧ n ≤ as.length ∧ Mk2 G2 H2 Dl (made p f (((List.range as.length).zip as).take n)) H, ⟨as.length, rfl, Nat.zero_le _, Mk2.start s.w hD⟩, ?_⟩
    rintro n m H ⟨rfl, hn, mk⟩
    obtain ⟨G3, vs3, s3, g3, hvs3, hH3⟩ := id mk
    have qa' := qa H (s3.g.trans s3.w)
    by_cases hlt : n < as.length
    · have ex : xs[n]? = some (xs[n]'(by omega)) := List.getElem?_eq_getElem _
      refine .inr ⟨⟨xs, _, qa', ex⟩, fun H' => Mk2 G2 H2 Dl (made p f (((List.range as.length).zip as).take (n + 1))) H', fun H' m' => ⟨as.length - (n + 1), by omega, rfl, hlt, m'⟩, ?_⟩
      rintro v H' ⟨T, y', rfl, hT, rfl, f2⟩
      obtain ⟨dy, hdy, qy⟩ := hxs.get (f2 xs qa')
      have hz3 : ((List.range as.length).zip as)[n]? = some (n, dy) := List.getElem?_zip_eq_some.mpr ⟨List.getElem?_range hlt, hdy⟩
      refine ⟨T, [.int (n : Nat), y'], rfl, SqT.of upd_same, rfl, .int (n : Nat), _, rfl, y', _, rfl, rfl, hw _ _, ?_⟩
      have hTD : T ≠ Dl := fun e => by rw [e, hH3] at hT; cases hT
      have mk' : Mk2 G2 H2 Dl (made p f (((List.range as.length).zip as).take n)) (upd H T (.tup [.int (n : Nat), y'])) := ⟨G3, vs3, s3.trans (.old s3.w (.new hT)), g3, hvs3, by rw [upd_ne hTD.symm]; exact hH3⟩
      refine Mk2.turn (b := p (n, dy)) (d := f (n, dy)) hD mk' ?_ (fun G4 e1 _ => ht _ n _ G4 ((x.trans s.g).trans e1) hdy (qy.mono e1)) (fun G4 e1 _ hp => he _ n _ G4 ((x.trans s.g).trans e1) hdy (qy.mono e1) hp) fun H3 m3 => ?_
      · have h1 := made_len p f (((List.range as.length).zip as).take n)
        rw [List.length_take] at h1
        rw [sizeLine_eq]; omega
      · rw [take_more hz3, made_snoc]; exact m3
    · have e : n = as.length := by omega
      subst e
      refine .inl ⟨⟨xs, qa', by omega⟩, ?_⟩
      have whole_ : ((List.range as.length).zip as).take as.length = (List.range as.length).zip as := List.take_of_length_le (by omega)
      rw [whole_] at mk
      obtain ⟨G4, s4, h4⟩ := mk.done hD
      exact q _ G4 H (s.trans s4) h4
end
end Mv

/-! dicts with tuples of data as keys: made by a comprehension, an entry thrown away, sorted, kept as they are -/
namespace Mv
open PySem L2 PyProof.Rows PySem.Spec

section
variable {X : Cx} {pins : List (Addr × Obj)} {σ : L2.St} {H : Hp} {s : Shared}
/-- D[k] = v in a comprehension, k a tuple -/
theorem setT {E : Value → Shared → Prop} {D b : Addr} {kvs : List (List L2.Key × V)} {k : List L2.Key} {v : V} {r : Value} {Q : Unit → Shared → Prop} (hu : X.A.units + 1 < cLine) (J : Inv X pins σ H s) (at_ : H D = some (.dT kvs)) (room : kvs.length < sizeLine) (key : H b = some (.tup (k.map kV))) (val : RelV v r)
    (go : ∀ t, Inv X pins σ (upd H D (.dT (putK kvs k v))) t → Q () t) : wpAny (model X.prog X.w) X.A (dictSet D (.ref b) r) Q E s := by
  obtain ⟨size, mods, xs, rel, raw⟩ := dt_of J.hok at_
  have same := Paired.length rel
  have more := length_putK kvs k v
  refine wpAny_dictSet_heap (hsz := by omega) (show X.A.units < cLine by omega) (key_of J.hok key) raw fun g now but => go _ ?_
  obtain ⟨ob, es, ep, q1, q2, q3, q4, _, q6⟩ := now
  refine d_write J (by rw [at_]; exact True.intro) but ⟨ob, q1⟩ ⟨by omega, mods, _, (rel.put k key val).keeps fun c ys ec => ?_, ob, es, ep, q1, q2, q3, q4, q6⟩
  rw [upd_ne (ne_of ec at_ (fun z => nomatch z))]
  exact ec
end

section
variable {X : Cx}
/-- {key: value for target in iter if ..}, the keys tuples of ints and texts -/
def tDcT (wi : TI) (g : TG) (tt : TT) (tk tv : TE) (vs : List Nat) : TE := fun σ H Q => wi σ H fun J H1 => ∀ D, H1 D = none → ∃ W : Nat → Nat → Hp → Prop, (∃ m, W 0 m (upd H1 D (.dT []))) ∧ ∀ i m H, W i m H →
  (J.stop i H ∧ Q (.ref D) H) ∨ (J.go i H ∧ ∃ Nx : Hp → Prop, (∀ H', Nx H' → ∃ m', m' < m ∧ W (i + 1) m' H') ∧ ∀ x H', J.yld i H x H' → g x (wipe σ vs) H' fun σ2 H2 => wipe σ2 vs = wipe σ vs ∧ tt σ2 H2 fun b H3 =>
    if b = true then tk σ2 H3 fun y H4 => tv σ2 H4 fun z H5 => ∃ kvs k a, y = .ref a ∧ H5 a = some (.tup (k.map kV)) ∧ H5 D = some (.dT kvs) ∧ kvs.length < sizeLine ∧ Nx (upd H5 D (.dT (putK kvs k z))) else Nx H3)
theorem dcT_core {pins : List (Addr × Obj)} {s : Shared} {σ : L2.St} {H : Hp} {Q : VK} {use : Option (Value → Sem Unit)} {Qf : Value → Shared → Prop} {pos' : Pos} {kx vx tg iter : Expr} {ifs : List Expr} {scope : Scope} {own : List (Str × Nat)} {pos : Pos} {wi : TI} {g : TG} {tt : TT} {tk tv : TE} (hu : X.A.units + 1 < cLine) (hc : X.calm = true) (hN : X.N.Nodup) (I : Inv X pins σ H s) (hi : PI X tg iter wi) (ok : BlkOk X.N X.env.scope scope own)
    (hg : ∀ (s : Shared) (H : Hp) (C : Addr) (cl : List (Str × Addr)) (fp : List Addr), PG (X.blk s H scope (compEnvC scope cl C X.env) fp) tg g) (ht : ∀ (s : Shared) (H : Hp) (C : Addr) (cl : List (Str × Addr)) (fp : List Addr), PTs (X.blk s H scope (compEnvC scope cl C X.env) fp) ifs tt)
    (hk : ∀ (s : Shared) (H : Hp) (C : Addr) (cl : List (Str × Addr)) (fp : List Addr), PE (X.blk s H scope (compEnvC scope cl C X.env) fp) kx tk)
    (he : ∀ (s : Shared) (H : Hp) (C : Addr) (cl : List (Str × Addr)) (fp : List Addr), PE (X.blk s H scope (compEnvC scope cl C X.env) fp) vx tv) (hs : ∀ x, foldedSetIterable iter X.env x = pure x)
    (start : tDcT wi g tt tk tv (own.map (·.2)) σ H Q) (fin' : ∀ D C t m H', Inv X pins σ H' t → Q (.ref D) H' → t.heap.Ns C m → FpOk X pins H' C → compPost (model X.prog X.w) X.A X.xe use Qf (.ref D) C (.ok .next) t) :
    wpAny (model X.prog X.w) X.A (comprehension (.DictComp kx vx [⟨tg, iter, ifs, 0⟩] scope pos) scope X.env pos' newDict false (eval iter X.env) use) Qf X.xe s := by
  have cells : ∀ y ∈ scope.names, y.2 = .free → ∃ c, X.env.cells.lookup y.1 = some c := fun y m f => (ok.free y m f).elim (fun z => I.ok.has _ (.inl z)) fun z => I.ok.has _ (.inr z)
  refine wpAny_comprehension_free (use := use) rfl hs (closure_ok cells) ok.kind (fun y m f => by rw [ok.uniq y m, f]) (thn (hi.run pins s σ H _ I start) fun xv s1 w1 => thn w1 fun itv s2 w2 => ?_)
  obtain ⟨it, fp, turn, J, Hi, rfl, Ii, T, at0, far, loopOf⟩ := w2
  refine (wpAny_newObj_type (newEnv_comp ?_))
  generalize hD : s2.heap.objs.size = D
  have newD : Hi D = none := Ii.hok.fresh (Nat.le_of_eq hD)
  obtain ⟨W, ⟨m0, W0⟩, step⟩ := loopOf D newD
  generalize e3 : ({ s2 with heap := s2.heap.push { cls := .type "dict", data := .dict #[] } } : Shared) = s3
  have heap3 : s3.heap = s2.heap.push { cls := .type "dict", data := .dict #[] } := by rw [← e3]
  have Id : Inv X pins σ (upd Hi D (.dT [])) s3 := by
    rw [← e3]
    refine Ii.laid (t' := s2.toks) (fun b o z => Heap.get?_push_of_some _ z) (Nat.le_of_eq hD) ?_
    rw [← hD]
    exact dt_empty s2.heap Ii.big
  have below : ∀ b ∈ fp, b < s2.heap.objs.size := fun b m => (T.obj _ _ at0 b m).elim fun _ z => Heap.lt_size z.1
  have far3 : ∀ b ∈ fp, FpOk X pins (upd Hi D (.dT [])) b ∧ b < s3.heap.objs.size := fun b m => by
    have lt := below b m
    refine ⟨⟨?_, (far b m).2⟩, by rw [heap3, Heap.size_push]; exact Nat.lt_succ_of_lt lt⟩
    rw [upd_ne (Nat.ne_of_lt (hD ▸ lt))]
    exact (far b m).1
  have at3 : turn 0 s3.heap := T.keep _ _ _ at0 fun b _ o z => by rw [heap3]; exact Heap.get?_push_of_some _ z
  have Ib := block_start Id ok hN far3
  obtain ⟨cs, ecs⟩ : ∃ cs, cellsFrom (s3.heap.objs.size + 1) scope.names (cloFrom X.env.cells scope.names []) = cs := ⟨_, rfl⟩
  rw [ecs] at Ib
  show (codeAny _ _ (.compStart (.DictComp kx vx [⟨tg, iter, ifs, 0⟩] scope pos) 0 (.ref it) (.ref D) (compEnvC scope (cellsFrom (s3.heap.objs.size + 1) scope.names (cloFrom X.env.cells scope.names [])) s3.heap.objs.size X.env)) (compPost (model X.prog X.w) X.A X.xe use Qf (.ref D) s3.heap.objs.size) { s3 with heap := pushCells (s3.heap.push { cls := .type "dict", data := .dict #[] }) scope.names })
  rw [ecs]
  have pg := hg s3 (upd Hi D (.dT [])) s3.heap.objs.size cs fp
  have pt := ht s3 (upd Hi D (.dT [])) s3.heap.objs.size cs fp
  have pk := hk s3 (upd Hi D (.dT [])) s3.heap.objs.size cs fp
  have pv := he s3 (upd Hi D (.dT [])) s3.heap.objs.size cs fp
  have nofp : ∀ b ∈ fp, upd Hi D (.dT []) b = none := fun b m => (far3 b m).1.1
  obtain ⟨ce, ece⟩ : ∃ ce, compEnvC scope cs s3.heap.objs.size X.env = ce := ⟨_, rfl⟩
  have loc : ce.locals = s3.heap.objs.size := by rw [← ece]; rfl
  rw [ece] at Ib pg pt pk pv
  rw [ece]
  obtain ⟨Hd, eHd⟩ : ∃ Hd, upd Hi D (.dT []) = Hd := ⟨_, rfl⟩
  rw [eHd] at Id Ib pg pt pk pv W0 nofp far3
  obtain ⟨s4, e4⟩ : ∃ t : Shared, ({ s3 with heap := pushCells (s3.heap.push { cls := .type "dict", data := .dict #[] }) scope.names } : Shared) = t := ⟨_, rfl⟩
  rw [e4] at Ib
  rw [e4]
  have at4 : turn 0 s4.heap := T.keep _ _ _ at3 fun b _ o z => by rw [← e4]; exact pushCells_keeps _ _ _ _ (Heap.get?_push_of_some _ z)
  have apart : ∀ {σ' : L2.St} {H' : Hp} {t : Shared}, Inv (X.blk s3 Hd scope ce fp) [] σ' H' t → (∀ b ∈ fp, H' b = none) → ∀ b ∈ fp, FpOk (X.blk s3 Hd scope ce fp) [] H' b := fun {σ' H' t} z n b m =>
    ⟨n b m, (z.ok.exf b m).1, z.ok.exfs b m, .inl m, fun x c q => (z.ok.exf b m).2 x c q, fun p hp => absurd (show p ∈ ([] : List (Addr × Obj)) ++ [] from hp) (by simp)⟩
  refine codeAny_compStart_dict ?run (T.self X.A 0 _ _ _ at4 ?run)
  refine compLoop_anyD (fun n t => ∃ i H', Inv (X.blk s3 Hd scope ce fp) [] (wipe σ (own.map (·.2))) H' t ∧ turn i t.heap ∧ (∀ b ∈ fp, H' b = none) ∧ W i n H') ?_ m0 ⟨0, Hd, Ib, at4, nofp, W0⟩
  rintro n t ⟨i, Ht, It_, att, nt, Wt⟩
  rcases step i n Ht Wt with ⟨halt, fin⟩ | ⟨goes, Nx, dec, body⟩
  · refine thnF (T.done (X.blk s3 Hd scope ce fp) rfl rfl rfl hc i [] t _ Ht (fun _ _ => False) It_ (apart It_ nt) att halt) fun r u z => ?_
    obtain ⟨rfl, Iu⟩ := z
    have Iz : Inv X pins σ Ht u := Id.call' (ch := fp) Iu.os Iu.base Iu.hok Iu.bare fun b m => let ⟨_, z2, z3, z4, z5, z6⟩ := (far3 b m).1; ⟨z4, z2, z5, z6⟩
    have none3 : Ht s3.heap.objs.size = none := by rw [← loc]; exact Iu.free
    obtain ⟨mm, names, _⟩ := Iu.loc
    have names : u.heap.Ns ce.locals mm := names
    rw [loc] at names
    exact fin' D s3.heap.objs.size u mm Ht Iz fin names (Id.fpOk (Nat.le_refl _) none3)
  · refine thnF (T.item (X.blk s3 Hd scope ce fp) rfl rfl rfl hc i [] t _ Ht (fun _ _ => False) It_ (apart It_ nt) att goes) fun r u z => ?_
    obtain ⟨vu, rfl, z⟩ := z
    refine thnF z fun _ s7 ⟨x, H7, I7, r7, y7, at7, n7⟩ => ?_
    refine thnF (pg.run _ s7 _ H7 x vu _ (I7.pinned (apart I7 n7) (T.obj _ _ at7)) r7 (body x H7 y7)) fun _ s8 ⟨σ8, H8, I8, same8, q8⟩ => ?_
    refine thnF (pt.run _ s8 σ8 H8 _ I8 q8) fun b s9 ⟨H9, I9, q9⟩ => ?_
    have back : ∀ {t' : Shared} {H' : Hp}, Inv (X.blk s3 Hd scope ce fp) ([] ++ pinsAt fp s7.heap) σ8 H' t' → Nx H' → ∃ m, m < n ∧ ∃ i H', Inv (X.blk s3 Hd scope ce fp) [] (wipe σ (own.map (·.2))) H' t' ∧ turn i t'.heap ∧ (∀ b ∈ fp, H' b = none) ∧ W i m H' := fun {t' H'} I' nx => by
      obtain ⟨m', lt, w'⟩ := dec H' nx
      have stays : ∀ b ∈ fp, ∀ o, s7.heap.get? b = some o → t'.heap.get? b = some o ∧ H' b = none := fun b m o q => (I'.pin (b, o) (List.mem_append_right _ (List.mem_append_right _ (mem_pinsAt m q)))).imp id fun z => z.1
      refine ⟨m', lt, i + 1, H', (I'.unpinned (pins := [])).weak (by rw [← same8, wipe_length]) (fun j v q => ?_), T.keep _ _ _ at7 fun b m o q => (stays b m o q).1, fun b m => ?_, w'⟩
      · rw [← same8] at q
        exact (wipe_some q).1
      · obtain ⟨o, q, _⟩ := T.obj _ _ at7 b m
        exact (stays b m o q).2
    cases b with
    | false => exact back I9 q9
    | true =>
      refine thnF (pk.run _ s9 σ8 H9 _ I9 q9) fun z s10 ⟨yk, H10, I10, r10, q10⟩ => thnF (pv.run _ s10 σ8 H10 _ I10 q10) fun z2 s11 ⟨yv, H11, I11, r11, kvs, k, a, ek, key, atD, room, nx⟩ => ?_
      subst ek
      obtain rfl : z = Value.ref a := r10
      exact setT (X := X.blk s3 Hd scope ce fp) hu I11 atD room key r11 fun s12 I12 => back I12 nx

theorem pe_dcT {kx vx tg iter : Expr} {ifs : List Expr} {scope : Scope} {own : List (Str × Nat)} {pos : Pos} {wi : TI} {g : TG} {tt : TT} {tk tv : TE} (hu : X.A.units + 1 < cLine) (hc : X.calm = true) (hN : X.N.Nodup) (hi : PI X tg iter wi) (ok : BlkOk X.N X.env.scope scope own)
    (hg : ∀ (s : Shared) (H : Hp) (C : Addr) (cl : List (Str × Addr)) (fp : List Addr), PG (X.blk s H scope (compEnvC scope cl C X.env) fp) tg g) (ht : ∀ (s : Shared) (H : Hp) (C : Addr) (cl : List (Str × Addr)) (fp : List Addr), PTs (X.blk s H scope (compEnvC scope cl C X.env) fp) ifs tt)
    (hk : ∀ (s : Shared) (H : Hp) (C : Addr) (cl : List (Str × Addr)) (fp : List Addr), PE (X.blk s H scope (compEnvC scope cl C X.env) fp) kx tk)
    (he : ∀ (s : Shared) (H : Hp) (C : Addr) (cl : List (Str × Addr)) (fp : List Addr), PE (X.blk s H scope (compEnvC scope cl C X.env) fp) vx tv) (hs : ∀ x, foldedSetIterable iter X.env x = pure x := by intro _; rfl) :
    PE X (.DictComp kx vx [⟨tg, iter, ifs, 0⟩] scope pos) (tDcT wi g tt tk tv (own.map (·.2))) := ⟨fun pins s σ H Q I start => by
  rw [arm_eval_DictComp]
  refine dcT_core hu hc hN I hi ok hg ht hk he hs start fun D C t m H' J q names far => ⟨m, names, fun h'' sb => ?_⟩
  obtain ⟨f0, f1, f2, f3, f4, f5⟩ := far
  exact ⟨.ref D, H', J.turned (t' := t.toks) (fun b o hb z => (sb.2 b hb).trans z) f0 f1 f3 f4 f5, rfl, q⟩⟩
/-- name = {..} on one line, the name a local -/
theorem ps_setDcT {i : Nat} {y : Str} {py spos : Pos} {kx vx tg iter : Expr} {ifs : List Expr} {scope : Scope} {own : List (Str × Nat)} {pos : Pos} {wi : TI} {g : TG} {tt : TT} {tk tv : TE} (hu : X.A.units + 1 < cLine) (hc : X.calm = true) (hN : X.N.Nodup) (hy : X.N[i]? = some y) (hyl : X.env.scope.names.lookup y = some .local) (hsw : swapsWith (.DictComp kx vx [⟨tg, iter, ifs, 0⟩] scope pos) (some (.Name y py)) spos.line X.env = pure true) (hi : PI X tg iter wi) (ok : BlkOk X.N X.env.scope scope own)
    (hg : ∀ (s : Shared) (H : Hp) (C : Addr) (cl : List (Str × Addr)) (fp : List Addr), PG (X.blk s H scope (compEnvC scope cl C X.env) fp) tg g) (ht : ∀ (s : Shared) (H : Hp) (C : Addr) (cl : List (Str × Addr)) (fp : List Addr), PTs (X.blk s H scope (compEnvC scope cl C X.env) fp) ifs tt)
    (hk : ∀ (s : Shared) (H : Hp) (C : Addr) (cl : List (Str × Addr)) (fp : List Addr), PE (X.blk s H scope (compEnvC scope cl C X.env) fp) kx tk)
    (he : ∀ (s : Shared) (H : Hp) (C : Addr) (cl : List (Str × Addr)) (fp : List Addr), PE (X.blk s H scope (compEnvC scope cl C X.env) fp) vx tv) (hs : ∀ x, foldedSetIterable iter X.env x = pure x := by intro _; rfl) :
    PS X (.Assign [.Name y py] (.DictComp kx vx [⟨tg, iter, ifs, 0⟩] scope pos) spos) (tAsg (tDcT wi g tt tk tv (own.map (·.2))) (gName i)) := ⟨fun pins s σ H D I start => by
  have start' : tDcT wi g tt tk tv (own.map (·.2)) σ H (fun x H1 => gName i x σ H1 D.nx) := start
  (rw [exec_Assign_Name_used _ _ _ _ hsw])
  refine (wpAny_bind (wpAny_standAt (wpAny_bind ?_)))
  show wpAny _ X.A (do let _ ← comprehension (.DictComp kx vx [⟨tg, iter, ifs, 0⟩] scope pos) scope X.env (firstIterPos [⟨tg, iter, ifs, 0⟩] pos) newDict false (eval iter X.env) (some (assign (.Name y py) X.env))) _ _ s
  refine wpAny_bind (thn (dcT_core (Qf := fun _ t => SP X pins D .next t) hu hc hN I hi ok hg ht hk he hs start' fun L C t m H' J q names far => ?_) fun _ t hq => wpAny_pure (wpAny_pure hq))
  show (wpAny _ _ (assign (.Name y py) X.env (.ref L)) _ _ _)
  obtain ⟨f0, f1, f2, f3, f4, f5⟩ := far
  refine wpAny_assign_Name (store_ok2 (v := V.ref L) J hN hy (.inl hyl) rfl (fun t2 J2 ⟨a, sb, ha⟩ => ?_) (.inr hyl))
  have apart : C ≠ a := fun e => ha.elim (fun z => f1 (e.trans z)) fun z => f4 y a z e.symm
  exact ⟨m, names.sameBut sb apart, fun h3 sb3 => ⟨_, H', J2.turned (t' := t2.toks) (fun b o hb z => (sb3.2 b hb).trans z) f0 f1 f3 f4 f5, q⟩⟩⟩
theorem swT {kx vx : Expr} {gs : List Comprehension} {scope : Scope} {pos py : Pos} {y : Str} {l : Nat} {env : Env} (kind : env.scope.kind = .function) (lc : env.scope.names.lookup y = some .local) (line : (py.line == pos.line) = true)
    (own : (scope.names.any fun (n, k) => n == y && (k == .local || k == .cell)) = false) : swapsWith (.DictComp kx vx gs scope pos) (some (.Name y py)) l env = pure true := by
  have k1 : env.kindOf y = some .local := lc
  have k2 : env.blockKind = .function := by unfold Env.blockKind; rw [kind]; rfl
  unfold swapsWith
  simp only [k1, k2, own, Expr.pos, line]
  rfl

/-- a value that is a dict is kept as it is from now on -/
def tFix (te : TE) : TE := fun σ H Q => te σ H fun v H1 => ∃ d u, v = .ref d ∧ H1 d = some u ∧ Mut (some u) ∧ ∀ o, Q v (upd H1 d (.frz o u))
theorem pe_fix {e : Expr} {te : TE} (h : PE X e te) : PE X e (tFix te) := ⟨fun pins s σ H Q I q => thn (h.run pins s σ H _ I q) fun u s1 ⟨v, H1, I1, r, d, x, ev, hd, mu, q1⟩ => by
  subst ev
  obtain ⟨o, I2⟩ := I1.lock hd mu
  exact ⟨.ref d, _, I2, r, q1 o⟩⟩
/-- del d[k], k a tuple -/
def sDelT (td ty : TE) : TS := fun D σ H => td σ H fun x H1 => ty σ H1 fun y H2 => ∃ a kvs k b, x = .ref a ∧ H2 a = some (.dT kvs) ∧ y = .ref b ∧ H2 b = some (.tup (k.map kV)) ∧ (valV kvs k).isSome = true ∧ D.nx σ (upd H2 a (.dT (dropK kvs k)))
theorem KT.dropT {H : Hp} {kvs : List (List L2.Key × V)} {xs : List (List L2.Key × Addr × Value)} (r : KT H kvs xs) (k : List L2.Key) : KT H (dropK kvs k) (withoutH xs k) := by
  unfold dropK withoutH
  induction r with
  | nil => exact .nil
  | @cons p q ps qs h t ih =>
    have e : p.1 = q.1 := h.1
    by_cases z : p.1 = k
    · rw [List.filter_cons_of_neg (by simp [z]), List.filter_cons_of_neg (by simp [← e, z])]
      exact ih
    · rw [List.filter_cons_of_pos (by simp [z]), List.filter_cons_of_pos (by simp [← e, z])]
      exact .cons h ih
theorem ps_delT {o i : Expr} {td ty : TE} {tpos pos : Pos} (hu : X.A.units + 1 < cLine) (hd : PE X o td) (hi : PE X i ty) : PS X (.Delete [.Subscript o i tpos] pos) (sDelT td ty) := by
  refine ⟨fun pins s σ H D I h => wpAny_Delete (wpAny_deleteEach_cons (wpAny_delete_Subscript (thn (hd.run pins s σ H _ I h) fun u s1 ⟨x, H1, I1, rx, q1⟩ => thn (hi.run pins s1 σ H1 _ I1 q1) fun iv s2 ⟨y, H2, I2, ry, a, kvs, k, b, ex, at_, ey, key, there, q2⟩ => ?_)))⟩
  subst ex ey
  obtain rfl : u = Value.ref a := (rx)
  obtain rfl : iv = Value.ref b := ry
  obtain ⟨size, mods, xs, rel, raw⟩ := dt_of I2.hok at_
  have isThere : (atKey xs k).isSome = true := by
    have z := (KT.val rel k).isSome_eq
    rw [Option.isSome_map] at z
    rw [← z]
    exact there
  have same := Paired.length rel
  refine wpAny_delItem_slot raw.typeIs (by decide) PySem.F.slot_dict_delitem (call_meetsIn PySem.F.slot_dict_delitem raw.typeIs PySem.F.entry_dict_delitem (PySem.F.args_dict_delitem_2 _ _) (meetsH_dict_delitem (tupleKind (mixKind X.prog X.w)) a b mods)
    ⟨hu, k, xs, key_of I2.hok key, raw, by omega, fun p _ g now but => ?_, fun z => by rw [z] at isThere; cases isThere⟩)
  obtain ⟨ob, es, ep, q3, q4, q5, q6, _, q8⟩ := now
  refine wpAny_deleteEach_nil ⟨σ, _, d_write (ob := .dT (dropK kvs k)) I2 (by rw [at_]; exact True.intro) but ⟨ob, q3⟩ ⟨Nat.le_trans (dropK_le kvs k) size, mods, _, (KT.dropT rel k).keeps fun c ys ec => ?_, ob, es, ep, q3, q4, q5, q6, q8⟩, q2⟩
  rw [upd_ne (ne_of ec at_ (fun z => nomatch z))]
  exact ec
end

/-! sorted(d), d a dict -/
section
variable {prog : Program} {w : World} {A : Around} {E : Value → Shared → Prop} {s : Shared}
/-- what stands in a dict, as a list -/
theorem collectD {R : List Value → Shared → Prop} {d : Addr} {o : Obj} {es : Array DictEntry} {ep : Nat} (hh : A.handled = none) (mods : (d == sysModules) = false) (hx : o.ExactDict) (hdat : o.data = .dict es ep) (at_ : s.heap.get? d = some o) (hn : es.size ≤ sizeLine)
    (go : ∀ (h' : Heap) (tk : Nat) (vs : List Value), (∀ b u, s.heap.get? b = some u → h'.get? b = some u) → vs = es.toList.map (·.key) → R vs { s with heap := h', toks := tk }) : wpAny (model prog w) A (collect (.ref d)) R E s := by
  have src := kdl_raw (prog := prog) (w := w) mods hx hdat
  unfold collect
  refine (wpAny_bind (wpAny_runValue (codeAny_builtin entry_proto_collect' ?_)))
  (rw [Around.under_plainId PySem.F.plain_proto_collect _])
  show wpAny _ A.in1 (newList [] >>= fun l => again (.builtin "list.__iadd__" ⟨[l, .ref d], []⟩)) _ _ s
  refine wpAny_bind (wpAny_newObj_type (wpAny_pure ⟨plainId_quiet PySem.F.plain_list_iadd _, codeAny_builtin entry_list_iadd' ?_⟩))
  (rw [Around.under_plainId PySem.F.plain_list_iadd _])
  show wpAny _ A.in1 (Builtin.List.listExtendWith (.ref s.heap.objs.size) (.ref d) (.ref s.heap.objs.size)) _ _ _
  have lt := Heap.lt_size at_
  have tell : ∀ (acc : Array Value), PySem.ItemsOf (fun i v => ∃ en : DictEntry, es[i]? = some en ∧ v = en.key) acc es.size → acc.toList = es.toList.map (·.key) := fun acc it => by
    apply List.ext_getElem?
    intro j
    rw [List.getElem?_map, Array.getElem?_toList, Array.getElem?_toList]
    cases q : acc[j]? with
    | none =>
      have z := Array.getElem?_eq_none_iff.mp q
      rw [Array.getElem?_eq_none (by rw [← it.1]; exact z)]
      rfl
    | some v =>
      obtain ⟨en, q1, q2⟩ := it.2 j v q
      rw [q1, q2]
      rfl
  have key := PySem.W.kdl_extend (A := A) (s := { s with heap := s.heap.push { cls := .type "list", data := .seq ([] : List Value).toArray } }) (R := fun (q : Result) (t : Shared) => ∃ (h' : Heap) (tk : Nat) (acc : Array Value) (c : Nat), q = .ok (.ret (.ref s.heap.objs.size)) ∧ t = { s with heap := h', toks := tk } ∧
      (∀ b u, s.heap.get? b = some u → h'.get? b = some u) ∧ h'.get? s.heap.objs.size = some { cls := .type "list", dict := none, data := .seq acc c, slots := #[] } ∧ acc.toList = es.toList.map (·.key))
    src hh (Heap.get?_push_of_some _ at_) s.heap.objs.size (Nat.ne_of_gt lt) (Nat.ne_of_gt lt) (.ref s.heap.objs.size) 0 (Heap.get?_push_size _ rfl)
    (fun h' tk acc c keep at2 it => ⟨h', tk, acc, c, rfl, rfl, fun b u z => keep b u (Nat.ne_of_lt (Heap.lt_size z)) (Heap.get?_push_of_some _ z), at2, tell acc it⟩) hn
  refine wpAny_mono key (fun fin t x => ?_) fun e t x => ?_
  · cases fin with
    | done f =>
      obtain ⟨h', tk, acc, c, q, rfl, keep, at2, tl⟩ := x
      cases q
      exact wpAny_bind (wpAny_load at2 (wpAny_pure (go h' tk _ keep tl)))
    | again c1 =>
      refine ⟨x.1, codeAny_mono x.2 fun q t2 y => ?_⟩
      obtain ⟨h', tk, acc, c, rfl, rfl, keep, at2, tl⟩ := y
      exact wpAny_bind (wpAny_load at2 (wpAny_pure (go h' tk _ keep tl)))
  · obtain ⟨_, _, _, _, q, _⟩ := x
    cases q
theorem sorted_dict {d : Addr} {o : Obj} {es : Array DictEntry} {ep : Nat} {Q : Value → Shared → Prop} (hh : A.handled = none) (mods : (d == sysModules) = false) (hx : o.ExactDict) (hdat : o.data = .dict es ep) (at_ : s.heap.get? d = some o) (hn : es.size ≤ sizeLine)
    (go : ∀ (hp : Heap) (tk : Nat), (∀ b u, s.heap.get? b = some u → hp.get? b = some u) → ∀ E' : Value → Shared → Prop,
      wpAny (model prog w) A.in1.in1 (Builtin.«list.sort» ⟨[.ref hp.objs.size], []⟩) (fun f z => f = .done (.ret .none) ∧ Q (.ref hp.objs.size) z) E' { s with heap := hp.push (seqObj "list" (es.toList.map (·.key)).toArray 0), toks := tk }) :
    wpAny (model prog w) A (call (.builtin "sorted") [.ref d]) Q E s := by
  refine PySem.Calls.call_function_entry kind_sorted plain_sorted entry_sorted (args_sorted1 _) ?_
  unfold Builtin.«sorted»
  refine (wpAny_bind (m := checkCount "sorted" 1 1 _) (wpAny_pure ?_))
  refine wpAny_bind (collectD (A := A.in1) hh mods hx hdat at_ hn fun hp tk vs keep evs => ?_)
  subst evs
  refine wpAny_bind (wpAny_newList ?_ (by simpa using hn))
  refine wpAny_bind (wpAny_holding (PySem.wpAny_call_entry slot_list_sort ⟨_, Heap.get?_push_size _ rfl, rfl⟩ entry_list_sort ?body (args_list_sort _)))
  case body =>
    refine wpAny_mono (go hp tk keep _) (fun f z ⟨e, q⟩ => ?_) fun _ _ e => e
    subst e
    exact ⟨_, rfl, wpAny_pure ⟨_, rfl, q⟩⟩
end
end Mv


/-! isinstance of data that may be a dict with tuples as keys -/
namespace Mv
open PySem L2 PyProof.Rows PySem.Spec
inductive TyY (K : PySem.W.Frag) (H : Hp) : V → Value → Prop where
  | x {v : V} {t : Value} (h : TyX K H v t) : TyY K H v t
  | d {a : Addr} {o : Obj} {kvs : List (List L2.Key × V)} (e : H a = some (.frz o (.dT kvs))) : TyY K H (.ref a) (.type "dict")
def rIsiY (K : PySem.W.Frag) : List V → Hp → VK → Prop := fun xs H Q => ∃ (v c : V) (t u : Value) (b : Bool), xs = [v, c] ∧ ClsV c u ∧ TyY K H v t ∧ PySem.W.kitOne K t u = some b ∧ Q (.bl b) H
def rIsiTY (K : PySem.W.Frag) : List V → Hp → VK → Prop := fun xs H Q => ∃ (v : V) (p : Addr) (cs : List V) (t : Value) (us : List Value) (b : Bool), xs = [v, .ref p] ∧ H p = some (.tup cs) ∧ Paired ClsV cs us ∧ TyY K H v t ∧ PySem.W.kitAny K t us = some b ∧ Q (.bl b) H
section
variable {X : Cx}
theorem kitY {pins : List (Addr × Obj)} {σ : L2.St} {H : Hp} {s : Shared} {v : V} {u t : Value} (I : Inv X pins σ H s) (r : RelV v u) (ty : TyY X.K H v t) : ∃ S : Heap → Prop, PySem.W.KitX X.K u t S ∧ S s.heap ∧ u ≠ .builtin "__main__.__loader__#opaque" := by
  rcases ty with h | e
  · exact kit_of I r h
  · rename_i a o kvs
    obtain ⟨_, at_, exact_, _⟩ := I.frzT e
    obtain rfl : u = Value.ref a := r
    exact ⟨_, PySem.W.kitx_dict, ⟨o, at_, exact_.1⟩, fun z => nomatch z⟩
theorem call_isiY : CallR X (.builtin "isinstance") (rIsiY X.K) := fun pins s σ H xs us Q I r ⟨v, c, t, u, b, ex, k, ty, e, q⟩ => by
  subst ex
  obtain ⟨w1, w2, rfl, r1, r2⟩ := vals2 r
  obtain rfl := k.eq r2
  obtain ⟨S, Z, p, hx⟩ := kitY I r1 ty
  exact (PySem.W.kia_one Z I.kIn p e hx fun tk => ⟨.bl b, H, I.tok tk, rfl, q⟩)
theorem call_isiTY : CallR X (.builtin "isinstance") (rIsiTY X.K) := fun pins s σ H xs us Q I r ⟨v, p, cs, t, ws, b, ex, hp, k, ty, e, q⟩ => by
  subst ex
  obtain ⟨w1, w2, rfl, r1, r2⟩ := vals2 r
  obtain rfl : w2 = Value.ref p := r2
  obtain ⟨S, Z, at_, hx⟩ := kitY I r1 ty
  obtain ⟨_, its, rv, ob, h1, h2, n, h3⟩ := (show ObjOk X.prog X.w H s.heap p (.tup cs) from I.hok p _ hp)
  obtain rfl := ClsV.all k rv
  obtain ⟨oc, od, dt, sl⟩ := ob
  dsimp only at h2 h3
  subst h2 h3
  exact PySem.W.kia_tup Z I.kIn at_ h1 e hx fun tk => ⟨.bl b, H, I.tok tk, rfl, q⟩
end
end Mv


/-! dicts with tuples as keys, as data -/
namespace Mv
open PySem L2 Evl

abbrev KK := List L2.Key
/-! ### pairs -/
def lkD (es : List (KK × D)) (k : KK) : Option D := (es.find? fun e => decide (e.1 = k)).map (·.2)
def putD (es : List (KK × D)) (k : KK) (d : D) : List (KK × D) := if (es.any fun e => decide (e.1 = k)) = true then es.map (fun e => if e.1 = k then (e.1, d) else e) else es ++ [(k, d)]
def dropD (es : List (KK × D)) (k : KK) : List (KK × D) := es.filter fun e => decide (e.1 ≠ k)
theorem putD_len (es : List (KK × D)) (k : KK) (d : D) : (putD es k d).length ≤ es.length + 1 := by
  unfold putD
  split
  · rw [List.length_map]; omega
  · rw [List.length_append]; exact Nat.le_refl _
section
variable {G G' H : Hp} {kvs : List (KK × V)} {es : List (KK × D)} {k : KK} {d : D} {v : V}
theorem DqP.len (h : DqP G kvs es) : kvs.length = es.length := by
  induction kvs generalizing es with
  | nil => cases h; rfl
  | cons x xs ih => cases h with | cons _ t => rw [List.length_cons, List.length_cons, ih t]
theorem DqP.keys (h : DqP G kvs es) : kvs.map (·.1) = es.map (·.1) := by
  induction kvs generalizing es with
  | nil => cases h; rfl
  | cons x xs ih => cases h with | cons _ t => rw [List.map_cons, List.map_cons, ih t]
theorem DqP.val (h : DqP G kvs es) (l : lkD es k = some d) : ∃ v, valV kvs k = some v ∧ Dq G v d := by
  induction kvs generalizing es with
  | nil => cases h; cases l
  | cons x xs ih =>
    cases h with
    | @cons k' v' d' _ es' q t =>
      unfold lkD at l
      rw [List.find?_cons] at l
      by_cases e : k' = k
      · rw [decide_eq_true e] at l
        cases l
        exact ⟨v', valV_pos e, q⟩
      · rw [decide_eq_false e] at l
        obtain ⟨u, h1, h2⟩ := ih t l
        exact ⟨u, (valV_neg e).trans h1, h2⟩
theorem DqP.noval (h : DqP G kvs es) (l : lkD es k = none) : valV kvs k = none := by
  induction kvs generalizing es with
  | nil => cases h; rfl
  | cons x xs ih =>
    cases h with
    | @cons k' v' d' _ es' q t =>
      unfold lkD at l
      rw [List.find?_cons] at l
      by_cases e : k' = k
      · rw [decide_eq_true e] at l; cases l
      · rw [decide_eq_false e] at l
        exact (valV_neg e).trans (ih t l)
theorem DqP.isv (h : DqP G kvs es) (k : KK) : (valV kvs k).isSome = (lkD es k).isSome := by
  cases e : lkD es k with
  | none => rw [h.noval e]; rfl
  | some d => obtain ⟨u, q, _⟩ := h.val e; rw [q]; rfl
theorem any_key {α : Type} : ∀ {xs : List (KK × α)} {ys : List (KK × D)}, xs.map (·.1) = ys.map (·.1) → (xs.any fun e => decide (e.1 = k)) = ys.any fun e => decide (e.1 = k)
  | [], [], _ => rfl
  | [], _ :: _, h => by simp at h
  | _ :: _, [], h => by simp at h
  | x :: xs, y :: ys, h => by
    rw [List.map_cons, List.map_cons] at h
    injection h with h1 h2
    rw [List.any_cons, List.any_cons, any_key h2, h1]
theorem DqP.snoc (h : DqP G kvs es) (q : Dq G v d) : DqP G (kvs ++ [(k, v)]) (es ++ [(k, d)]) := by
  induction kvs generalizing es with
  | nil => cases h; exact .cons q .nil
  | cons x xs ih => cases h with | cons a t => exact .cons a (ih t)
theorem DqP.repl (h : DqP G kvs es) (q : Dq G v d) : DqP G (kvs.map fun kv => if kv.1 = k then (kv.1, v) else kv) (es.map fun e => if e.1 = k then (e.1, d) else e) := by
  induction kvs generalizing es with
  | nil => cases h; exact .nil
  | cons x xs ih =>
    cases h with
    | @cons k' v' d' _ es' a t =>
      (rw [List.map_cons, List.map_cons])
      by_cases e : k' = k
      · simp only [e, if_true]; exact .cons q (ih t)
      · simp only [e, if_false]; exact .cons a (ih t)
theorem DqP.put (h : DqP G kvs es) (q : Dq G v d) : DqP G (putK kvs k v) (putD es k d) := by
  unfold putK putD
  rw [any_key h.keys]
  split
  · exact h.repl q
  · exact h.snoc q
theorem DqP.drop (h : DqP G kvs es) : DqP G (dropK kvs k) (dropD es k) := by
  unfold dropK dropD
  induction kvs generalizing es with
  | nil => cases h; exact .nil
  | cons x xs ih =>
    cases h with
    | @cons k' v' d' _ es' a t =>
      by_cases e : k' = k
      · rw [List.filter_cons_of_neg (by simp [e]), List.filter_cons_of_neg (by simp [e])]; exact ih t
      · rw [List.filter_cons_of_pos (by simp [e]), List.filter_cons_of_pos (by simp [e])]; exact .cons a (ih t)
theorem DqP.get {i : Nat} (h : DqP G kvs es) (e : kvs[i]? = some (k, v)) : ∃ d, es[i]? = some (k, d) ∧ Dq G v d := by
  induction kvs generalizing es i with
  | nil => simp at e
  | cons x xs ih =>
    cases h with
    | @cons k' v' d' _ es' a t =>
      cases i with
      | zero => simp at e; obtain ⟨rfl, rfl⟩ := e; exact ⟨d', rfl, a⟩
      | succ i => obtain ⟨d, h1, h2⟩ := ih t (by simpa using e); exact ⟨d, by simpa using h1, h2⟩
theorem keyD_inj : ∀ {a b : L2.Key}, keyD a = keyD b → a = b
  | .inl i, .inl j, h => by have h' : PyData.int i = .int j := h; injection h' with h'; rw [h']
  | .inr x, .inr y, h => by have h' : PyData.str x = .str y := h; injection h' with h'; rw [h']
  | .inl i, .inr y, h => nomatch (show PyData.int i = .str y from h)
  | .inr x, .inl j, h => nomatch (show PyData.str x = .int j from h)
theorem keyDs_inj : ∀ {a b : KK}, a.map keyD = b.map keyD → a = b
  | [], [], _ => rfl
  | [], _ :: _, h => by simp at h
  | _ :: _, [], h => by simp at h
  | x :: xs, y :: ys, h => by
    rw [List.map_cons, List.map_cons] at h
    injection h with h1 h2
    rw [keyD_inj h1, keyDs_inj h2]
theorem pairs_inj : ∀ {a b : List (KK × D)}, (a.map fun e => (kD e.1, e.2)) = (b.map fun e => (kD e.1, e.2)) → a = b
  | [], [], _ => rfl
  | [], _ :: _, h => by simp at h
  | _ :: _, [], h => by simp at h
  | (k1, d1) :: xs, (k2, d2) :: ys, h => by
    rw [List.map_cons, List.map_cons] at h
    injection h with h1 h2
    injection h1 with h3 h4
    have h3' : PyData.tuple (k1.map keyD) = .tuple (k2.map keyD) := h3
    injection h3' with h3'
    rw [keyDs_inj h3', pairs_inj h2, show d1 = d2 from h4]
/-- a known dict -/
theorem Dq.dict (h : Dq G v (dctD es)) : ∃ a o kvs, v = .ref a ∧ G a = some (.frz o (.dT kvs)) ∧ DqP G kvs es := by
  generalize e : dctD es = z at h
  cases h with
  | emp hp q =>
    exfalso
    injection e with e
    subst e
    cases es with
    | nil => cases q
    | cons x xs => cases q
  | dct hp k q =>
    injection e with e
    subst q
    have := pairs_inj e
    subst this
    exact ⟨_, _, _, rfl, hp, k⟩
  | _ => cases e
theorem keys_at : ∀ {k : KK} {vs : List V}, DqA G vs (k.map keyD) → vs = k.map kV
  | [], _, h => by cases h; rfl
  | .inl i :: k, _, h => by
    cases h with
    | cons a t => cases a; rw [List.map_cons, ← keys_at t]; rfl
  | .inr x :: k, _, h => by
    cases h with
    | cons a t => cases a; rw [List.map_cons, ← keys_at t]; rfl
theorem at_keys : ∀ (k : KK), DqA G (k.map kV) (k.map keyD)
  | [] => .nil
  | .inl i :: k => .cons (.int i) (at_keys k)
  | .inr x :: k => .cons (.str x) (at_keys k)
/-- a known key -/
theorem Dq.key (h : Dq G v (kD k)) : ∃ b, v = .ref b ∧ G b = some (.tup (k.map kV)) := by
  generalize e : kD k = z at h
  cases h with
  | @tup a xs ds hp hx =>
    have e' : PyData.tuple (k.map keyD) = .tuple ds := e
    injection e' with e'
    subst e'
    rw [keys_at hx] at hp
    exact ⟨_, rfl, hp⟩
  | _ => cases e
theorem key_dq {b : Addr} (h : G b = some (.tup (k.map kV))) : Dq G (.ref b) (kD k) := .tup h (at_keys k)

/-! ### knowing a tuple that stands -/
def kn (G : Hp) (q : Addr) (xs : List V) : Hp := fun b => if b = q then some (.tup xs) else G b
theorem kn_at {q : Addr} {xs : List V} : kn G q xs q = some (.tup xs) := by unfold kn; rw [if_pos rfl]
theorem kn_ex {q : Addr} {xs : List V} (w : Ex G H) (h : H q = some (.tup xs)) : Ex G (kn G q xs) ∧ Ex (kn G q xs) H := by
  refine (⟨fun b o e => ?_, fun b o e => ?_⟩)
  · unfold kn
    by_cases z : b = q
    · have := w _ _ e
      rw [z, h] at this
      rw [if_pos z]; exact this
    · rw [if_neg z]; exact e
  · unfold kn at e
    by_cases z : b = q
    · rw [if_pos z] at e; rw [z]; cases e; exact h
    · rw [if_neg z] at e; exact w _ _ e
theorem Stp.know {G0 H0 : Hp} {q : Addr} {xs : List V} (s : Stp G0 H0 G H) (h : H q = some (.tup xs)) : Stp G0 H0 (kn G q xs) H := by
  obtain ⟨e1, e2⟩ := kn_ex s.w h
  refine ⟨s.g.trans e1, s.h, e2, fun b h1 h2 h3 => ?_⟩
  unfold kn
  by_cases z : b = q
  · exfalso
    cases e : H0 b with
    | none => exact h2 e
    | some o =>
      have := s.h _ _ e
      rw [z, h] at this
      cases this
      exact h3 xs e
  · rw [if_neg z]; exact s.n b h1 h2 h3

/-- one turn of a comprehension, what is known told -/
theorem Mk2.turnK {G0 H0 H1 : Hp} {p : Addr} {acc : List D} {vs : List V} {σ2 : L2.St} {b : Bool} {t : TT} {te : TE} (h0 : H0 p = none) (s : Stp G0 H0 G H1) (gp : G p = none) (hvs : DqA G vs acc) (hH : H1 p = some (.lst vs)) (hz : acc.length < sizeLine)
    (ht : EvB t σ2 G b) (he : b = true → EvD te σ2 G d) {N : Hp → Prop} (k : ∀ H2, Mk2 G0 H0 p (if b then acc ++ [d] else acc) H2 → N H2) :
    t σ2 H1 fun b' H3 => if b' = true then te σ2 H3 fun y H4 => ∃ ac, H4 p = some (.lst ac) ∧ ac.length < sizeLine ∧ N (upd H4 p (.lst (ac ++ [y]))) else N H3 := by
  refine ht G H1 (.refl G) s.w _ fun G2 H2 s2 => ?_
  have g2 : G2 p = none := s2.n p gp (by rw [hH]; intro z; cases z) (by rw [hH]; intro _ z; cases z)
  cases b with
  | false => exact iteF (k _ ⟨G2, vs, s.trans s2, g2, hvs.mono s2.g, s2.h _ _ hH⟩)
  | true =>
    refine iteT (he rfl G2 H2 s2.g s2.w _ fun v G3 H3 s3 hv => ?_)
    have h3 : H3 p = some (.lst vs) := s3.h _ _ (s2.h _ _ hH)
    have g3 : G3 p = none := s3.n p g2 (by rw [s2.h _ _ hH]; intro z; cases z) (by rw [s2.h _ _ hH]; intro _ z; cases z)
    refine ⟨vs, h3, by rw [hvs.len]; exact hz, k _ ⟨G3, vs ++ [v], ?_, g3, (hvs.mono (s2.g.trans s3.g)).snoc hv, upd_same⟩⟩
    have s4 := (s.trans s2).trans s3
    refine ⟨s4.g, s4.h.mut h0, fun a o q => ?_, s4.n⟩
    rw [upd_ne (fun z => by rw [z, g3] at q; cases q)]
    exact s3.w a o q

/-! ### what is asked of a known dict -/
section
variable {K : PySem.W.Frag} {σ : L2.St} {te td ty : TE} {t : TT}
theorem d_dnew : EvD (tFix tDNewT) σ G (dctD []) := fun G1 H1 x w Q q p hp => ⟨p, .dT [], rfl, upd_same, True.intro, fun o => by
  have e : upd (upd H1 p (.dT [])) p (.frz o (.dT [])) = upd H1 p (.frz o (.dT [])) := by
    funext b
    unfold upd
    by_cases h : b = p <;> simp [h]
  rw [e]
  have s := Stp.new (o := .frz o (.dT [])) w hp
  exact q _ _ _ s (.dct upd_same .nil rfl)⟩
theorem d_dget (h : EvD td σ G (dctD es)) (hk : EvD ty σ G (kD k)) (l : lkD es k = some d) : EvD (tDGet td ty) σ G d := fun G1 H1 x w Q q => h G1 H1 x w _ fun v G2 H2 s hv => hk G2 H2 (x.trans s.g) s.w _ fun u G3 H3 s3 hu => by
  obtain ⟨a, o, kvs, rfl, ha, hp⟩ := hv.dict
  obtain ⟨b, rfl, hb⟩ := hu.key
  obtain ⟨z, hz, hq⟩ := hp.val l
  exact ⟨a, z, rfl, .inr ⟨kvs, k, b, .inr ⟨o, s3.h _ _ (s.w _ _ ha)⟩, rfl, s3.w _ _ hb, hz.symm⟩, q z G3 H3 (s.trans s3) (hq.mono s3.g)⟩
theorem d_din (h : EvD td σ G (dctD es)) (hk : EvD ty σ G (kD k)) : EvD (tDIn ty td) σ G (.bool (lkD es k).isSome) := fun G1 H1 x w Q q => hk G1 H1 x w _ fun u G2 H2 s hu => h G2 H2 (x.trans s.g) s.w _ fun v G3 H3 s3 hv => by
  obtain ⟨a, o, kvs, rfl, ha, hp⟩ := hv.dict
  obtain ⟨b, rfl, hb⟩ := hu.key
  refine ⟨a, valV kvs k, rfl, .inr ⟨kvs, k, b, .inr ⟨o, s3.w _ _ ha⟩, rfl, s3.h _ _ (s.w _ _ hb), rfl⟩, ?_⟩
  rw [hp.isv k]
  exact q _ G3 H3 (s.trans s3) (.bl _)
theorem d_dnotin (h : EvD td σ G (dctD es)) (hk : EvD ty σ G (kD k)) : EvD (tDNotIn ty td) σ G (.bool (!(lkD es k).isSome)) := fun G1 H1 x w Q q => hk G1 H1 x w _ fun u G2 H2 s hu => h G2 H2 (x.trans s.g) s.w _ fun v G3 H3 s3 hv => by
  obtain ⟨a, o, kvs, rfl, ha, hp⟩ := hv.dict
  obtain ⟨b, rfl, hb⟩ := hu.key
  refine ⟨a, valV kvs k, rfl, .inr ⟨kvs, k, b, .inr ⟨o, s3.w _ _ ha⟩, rfl, s3.h _ _ (s.w _ _ hb), rfl⟩, ?_⟩
  rw [hp.isv k]
  exact q _ G3 H3 (s.trans s3) (.bl _)
/-- a list comprehension over the keys of a known dict -/
theorem d_lcK {j : Nat} {vs : List Nat} (p : KK × D → Bool) (f : KK × D → D) (h : EvD td σ G (dctD es)) (hz : es.length ≤ 1000000) (hw : ∀ x, wipe ((wipe σ vs).set j (some x)) vs = wipe σ vs)
    (ht : ∀ v e G1, Ex G G1 → e ∈ es → Dq G1 v (kD e.1) → EvB t ((wipe σ vs).set j (some v)) G1 (p e)) (he : ∀ v e G1, Ex G G1 → e ∈ es → Dq G1 v (kD e.1) → p e = true → EvD te ((wipe σ vs).set j (some v)) G1 (f e)) :
    EvD (tLc (iKeys td) (gName j) t te vs) σ G (.list (made p f es)) := fun G1 H1 x w Q q => h G1 H1 x w _ fun v G2 H2 s hv => by
  obtain ⟨a, o, kvs, rfl, ha, hp⟩ := hv.dict
  have n0 := hp.len
  refine ⟨a, o, rfl, .inr ⟨kvs, s.w _ _ ha, fun Dl hD => ?_⟩⟩
  refine lc_it walk_keysT (fun i H => Mk2 G2 H2 Dl (made p f (es.take i)) H) (Mk2.start s.w hD) (fun i H _ m => ?_) (fun i v H H' hi m y => ⟨hw v, ?_⟩) (fun H m => ?_)
  · obtain ⟨G3, _, s3, _⟩ := m
    exact s3.w _ _ (s3.g _ _ ha)
  · obtain ⟨rfl, k, u, b, hk, rfl, hb⟩ := y
    obtain ⟨dv, hdv, _⟩ := hp.get hk
    obtain ⟨G3, ws, s3, g3, hws, hH3⟩ := m
    have ne : Dl ≠ b := fun z => by rw [← z, hH3] at hb; cases hb
    have kk := kn_ex s3.w hb
    refine Mk2.turnK (b := p (k, dv)) (d := f (k, dv)) hD (s3.know hb) (by unfold kn; rw [if_neg ne]; exact g3) (hws.mono kk.1) hH3 ?_
      (ht _ (k, dv) _ (((x.trans s.g).trans s3.g).trans kk.1) (List.mem_of_getElem? hdv) (key_dq kn_at)) (fun hp' => he _ (k, dv) _ (((x.trans s.g).trans s3.g).trans kk.1) (List.mem_of_getElem? hdv) (key_dq kn_at) hp') fun H3 m3 => ?_
    · have h1 := made_len p f (es.take i)
      rw [List.length_take] at h1
      rw [sizeLine_eq]; omega
    · rw [take_more hdv, made_snoc]; exact m3
  · rw [n0, List.take_length] at m
    obtain ⟨G3, s3, h3⟩ := m.done hD
    exact q _ G3 H (s.trans s3) h3
end
end
end Mv


/-! dicts with tuples as keys that are being made or changed -/
namespace Mv
open PySem L2 Evl

section
variable {G G' H H' : Hp} {kvs : List (KK × V)} {es : List (KK × D)} {k : KK} {d : D} {v : V} {a : Addr}
/-- a dict that may be changed -/
structure MD (G H : Hp) (a : Addr) (es : List (KK × D)) : Prop where
  g : G a = none
  at_ : ∃ kvs, H a = some (.dT kvs) ∧ DqP G kvs es
theorem MD.stp (m : MD G H a es) (s : Stp G H G' H') : MD G' H' a es := by
  obtain ⟨kvs, e, q⟩ := m.at_
  exact ⟨s.n a m.g (by rw [e]; intro z; cases z) (by rw [e]; intro _ z; cases z), kvs, s.h _ _ e, q.mono s.g⟩
theorem ex_mut {o : HO} (w : Ex G H) (g : G a = none) : Ex G (upd H a o) := fun b u q => by
  rw [upd_ne (fun z => by rw [z, g] at q; cases q)]
  exact w b u q
theorem MD.other {b : Addr} {o : HO} (m : MD G H a es) (ne : a ≠ b) : MD G (upd H b o) a es := by
  obtain ⟨kvs, e, q⟩ := m.at_
  exact ⟨m.g, kvs, by rw [upd_ne ne]; exact e, q⟩
/-! data without dicts stand without a dict -/
def less (G : Hp) (a : Addr) : Hp := fun b => if b = a then none else G b
mutual
theorem Dq.less {G : Hp} {a : Addr} {o : Obj} {u : HO} (f : G a = some (.frz o u)) : ∀ {v : V} {d : D}, Dq G v d → flatD d = true → Dq (less G a) v d
  | _, _, .non, _ => .non
  | _, _, .bl b, _ => .bl b
  | _, _, .int i, _ => .int i
  | _, _, .str x, _ => .str x
  | _, _, .lst (a := c) h k, fl => .lst (by unfold Mv.less; rw [if_neg (fun z => by rw [z, f] at h; cases h)]; exact h) (DqA.less f k (by simpa [flatD] using fl))
  | _, _, .tup (a := c) h k, fl => .tup (by unfold Mv.less; rw [if_neg (fun z => by rw [z, f] at h; cases h)]; exact h) (DqA.less f k (by simpa [flatD] using fl))
  | _, _, .emp _ _, fl => by simp [flatD] at fl
  | _, _, .dct _ _ _, fl => by simp [flatD] at fl
theorem DqA.less {G : Hp} {a : Addr} {o : Obj} {u : HO} (f : G a = some (.frz o u)) : ∀ {vs : List V} {ds : List D}, DqA G vs ds → flatDs ds = true → DqA (less G a) vs ds
  | _, _, .nil, _ => .nil
  | _, _, .cons h k, fl => by
    simp only [flatDs, Bool.and_eq_true] at fl
    exact .cons (Dq.less f h fl.1) (DqA.less f k fl.2)
end
theorem DqP.less {o : Obj} {u : HO} (f : G a = some (.frz o u)) (fl : ∀ e ∈ es, flatD e.2 = true) (h : DqP G kvs es) : DqP (less G a) kvs es := by
  induction kvs generalizing es with
  | nil => cases h; exact .nil
  | cons x xs ih => cases h with | cons q t => exact .cons (q.less f (fl _ (List.mem_cons_self ..))) (ih (fun e he => fl e (List.mem_cons_of_mem _ he)) t)

/-! ### a dict being made -/
structure MkD (G0 H0 : Hp) (p : Addr) (es : List (KK × D)) (H : Hp) : Prop where
  at_ : ∃ G kvs, Stp G0 H0 G H ∧ G p = none ∧ DqP G kvs es ∧ H p = some (.dT kvs)
theorem MkD.start {G0 H0 : Hp} {p : Addr} (x : Ex G0 H0) (hp : H0 p = none) : MkD G0 H0 p [] (upd H0 p (.dT [])) :=
  ⟨G0, [], ⟨.refl _, .new hp, x.trans (.new hp), fun _ h _ _ => h⟩, fresh_back x hp, .nil, upd_same⟩
theorem MkD.turn {G0 H0 H1 : Hp} {p : Addr} {σ2 : L2.St} {b : Bool} {t : TT} {tk tv : TE} (h0 : H0 p = none) (s : Stp G0 H0 G H1) (gp : G p = none) (hvs : DqP G kvs es) (hH : H1 p = some (.dT kvs)) (hz : es.length < sizeLine)
    (ht : EvB t σ2 G b) (hk : b = true → EvD tk σ2 G (kD k)) (hv : b = true → EvD tv σ2 G d) {N : Hp → Prop} (go : ∀ H2, MkD G0 H0 p (if b then putD es k d else es) H2 → N H2) :
    t σ2 H1 fun b' H3 => if b' = true then tk σ2 H3 fun y H4 => tv σ2 H4 fun z H5 => ∃ kvs k a, y = .ref a ∧ H5 a = some (.tup (k.map kV)) ∧ H5 p = some (.dT kvs) ∧ kvs.length < sizeLine ∧ N (upd H5 p (.dT (putK kvs k z))) else N H3 := by
  have nt : ∀ {G1 H1 G2 H2 : Hp}, Stp G1 H1 G2 H2 → G1 p = none → H1 p = some (.dT kvs) → G2 p = none := fun s g e => s.n p g (by rw [e]; intro z; cases z) (by rw [e]; intro _ z; cases z)
  refine ht G H1 (.refl G) s.w _ fun G2 H2 s2 => ?_
  have h2 := s2.h _ _ hH
  have g2 := nt s2 gp hH
  cases b with
  | false => exact iteF (go _ ⟨G2, kvs, s.trans s2, g2, hvs.mono s2.g, h2⟩)
  | true =>
    refine iteT (hk rfl G2 H2 s2.g s2.w _ fun y G3 H3 s3 hy => hv rfl G3 H3 (s2.g.trans s3.g) s3.w _ fun z G4 H4 s4 hz4 => ?_)
    have h3 := s3.h _ _ h2
    have g4 := nt s4 (nt s3 g2 h2) h3
    obtain ⟨c, rfl, hc⟩ := hy.key
    refine ⟨kvs, k, c, rfl, s4.h _ _ (s3.w _ _ hc), s4.h _ _ h3, by rw [hvs.len]; exact hz, go _ ⟨G4, putK kvs k z, ?_, g4, (hvs.mono ((s2.g.trans s3.g).trans s4.g)).put hz4, upd_same⟩⟩
    have s5 := ((s.trans s2).trans s3).trans s4
    exact ⟨s5.g, s5.h.mut h0, ex_mut s5.w g4, s5.n⟩
def madeD {α : Type} (p : α → Bool) (f : α → KK) (g : α → D) (l : List α) : List (KK × D) := (l.filter p).foldl (fun es x => putD es (f x) (g x)) []
theorem madeD_snoc {α : Type} (p : α → Bool) (f : α → KK) (g : α → D) (l : List α) (x : α) : madeD p f g (l ++ [x]) = if p x then putD (madeD p f g l) (f x) (g x) else madeD p f g l := by
  unfold madeD
  rw [List.filter_append, List.foldl_append]
  cases h : p x with
  | true => rw [List.filter_cons, if_pos h]; rfl
  | false => rw [List.filter_cons, if_neg (by rw [h]; decide)]; rfl
theorem madeD_len {α : Type} (p : α → Bool) (f : α → KK) (g : α → D) (l : List α) : (madeD p f g l).length ≤ l.length := by
  unfold madeD
  have : ∀ (xs : List α) (es : List (KK × D)), (xs.foldl (fun es x => putD es (f x) (g x)) es).length ≤ es.length + xs.length := by
    intro xs
    induction xs with
    | nil => intro es; exact Nat.le_refl _
    | cons x xs ih =>
      intro es
      have h1 := ih (putD es (f x) (g x))
      have h2 := putD_len es (f x) (g x)
      show (xs.foldl (fun es x => putD es (f x) (g x)) (putD es (f x) (g x))).length ≤ es.length + (xs.length + 1)
      omega
  have h1 := this (l.filter p) []
  have h2 := List.length_filter_le p l
  simp at h1
  omega
end

/-- a new dict that may be changed -/
def EvM (te : TE) (σ : L2.St) (G : Hp) (es : List (KK × D)) : Prop := ∀ G1 H1, Ex G G1 → Ex G1 H1 → ∀ Q : VK, (∀ p kvs G2 H2, Stp G1 H1 G2 H2 → H1 p = none → G2 p = none → H2 p = some (.dT kvs) → DqP G2 kvs es → Q (.ref p) H2) → te σ H1 Q
section
variable {K : PySem.W.Frag} {σ : L2.St} {G H : Hp} {te td tk tv tl : TE} {t : TT} {ta : TA} {es es2 : List (KK × D)} {a : Addr}
theorem EvM.mono {G' : Hp} (x : Ex G G') (h : EvM te σ G es) : EvM te σ G' es := fun G1 H1 a b Q q => h G1 H1 (x.trans a) b Q q
theorem EvM.is (h : EvM te σ G es) (e : es = es2) : EvM te σ G es2 := e ▸ h
theorem d_fix (h : EvM te σ G es) : EvD (tFix te) σ G (dctD es) := fun G1 H1 x w Q q => h G1 H1 x w _ fun p kvs G2 H2 s h0 g2 h2 hp => ⟨p, .dT kvs, rfl, h2, True.intro, fun o => by
  refine q _ (upd G2 p (.frz o (.dT kvs))) _ ⟨s.g.trans (.new g2), fun b u e => ?_, fun b u e => ?_, fun b h1 h3 h4 => ?_⟩ (.dct upd_same (hp.mono (.new g2)) rfl)
  · rw [upd_ne (fun z => by rw [z, h0] at e; cases e)]
    exact s.h _ _ e
  · by_cases z : b = p
    · rw [z, upd_same] at e ⊢; exact e
    · rw [upd_ne z] at e ⊢; exact s.w _ _ e
  · rw [upd_ne (fun z => h3 (by rw [z]; exact h0))]
    exact s.n b h1 h3 h4⟩
theorem m_new : EvM tDNewT σ G [] := fun G1 H1 x w Q q p hp => by
  refine q p [] G1 _ (Stp.old w (.new hp)) hp (fresh_back w hp) upd_same .nil
/-- over the keys of a known dict -/
theorem m_dcK {j : Nat} {vs : List Nat} (p : KK × D → Bool) (f : KK × D → KK) (g : KK × D → D) (h : EvD td σ G (dctD es)) (hz : es.length ≤ 1000000) (hw : ∀ x, wipe ((wipe σ vs).set j (some x)) vs = wipe σ vs)
    (ht : ∀ v e G1, Ex G G1 → e ∈ es → Dq G1 v (kD e.1) → EvB t ((wipe σ vs).set j (some v)) G1 (p e)) (hk : ∀ v e G1, Ex G G1 → e ∈ es → Dq G1 v (kD e.1) → p e = true → EvD tk ((wipe σ vs).set j (some v)) G1 (kD (f e)))
    (hv : ∀ v e G1, Ex G G1 → e ∈ es → Dq G1 v (kD e.1) → p e = true → EvD tv ((wipe σ vs).set j (some v)) G1 (g e)) : EvM (tDcT (iKeys td) (gName j) t tk tv vs) σ G (madeD p f g es) := fun G1 H1 x w Q q => h G1 H1 x w _ fun v G2 H2 s hv' => by
  obtain ⟨a, o, kvs, rfl, ha, hp⟩ := hv'.dict
  have n0 := hp.len
  refine ⟨a, o, rfl, .inr ⟨kvs, s.w _ _ ha, fun Dl hD => ?_⟩⟩
  refine ⟨fun i m H => m = es.length - i ∧ i ≤ es.length ∧ MkD G2 H2 Dl (madeD p f g (es.take i)) H, ⟨es.length, rfl, Nat.zero_le _, MkD.start s.w hD⟩, ?_⟩
  rintro i m H ⟨rfl, hi, mk⟩
  obtain ⟨G3, ws, s3, g3, hws, hH3⟩ := id mk
  have haH := s3.w _ _ (s3.g _ _ ha)
  by_cases hlt : i < es.length
  · refine .inr ⟨⟨haH, by rw [n0]; exact hlt⟩, fun H' => MkD G2 H2 Dl (madeD p f g (es.take (i + 1))) H', fun H' m' => ⟨es.length - (i + 1), by omega, rfl, hlt, m'⟩, ?_⟩
    rintro v H' ⟨rfl, k, u, b, hkv, rfl, hb⟩
    obtain ⟨dv, hdv, _⟩ := hp.get hkv
    refine ⟨hw _, ?_⟩
    have ne : Dl ≠ b := fun z => by rw [← z, hH3] at hb; cases hb
    have kk := kn_ex s3.w hb
    have xx := ((x.trans s.g).trans s3.g).trans kk.1
    have mem := List.mem_of_getElem? hdv
    refine MkD.turn (b := p (k, dv)) (k := f (k, dv)) (d := g (k, dv)) hD (s3.know hb) (by unfold kn; rw [if_neg ne]; exact g3) (hws.mono kk.1) hH3 ?_
      (ht _ (k, dv) _ xx mem (key_dq kn_at)) (fun z => hk _ (k, dv) _ xx mem (key_dq kn_at) z) (fun z => hv _ (k, dv) _ xx mem (key_dq kn_at) z) fun H3 m3 => ?_
    · have h1 := madeD_len p f g (es.take i)
      rw [List.length_take] at h1
      rw [sizeLine_eq]; omega
    · rw [take_more hdv, madeD_snoc]; exact m3
  · have e : i = es.length := by omega
    subst e
    rw [List.take_length] at mk
    obtain ⟨G4, ws4, s4, g4, hws4, hH4⟩ := mk
    exact .inl ⟨⟨haH, by rw [n0]; exact Nat.le_refl _⟩, q Dl ws4 G4 H (s.trans s4) (by
      cases e : H1 Dl with
      | none => rfl
      | some o => rw [s.h _ _ e] at hD; cases hD) g4 hH4 hws4⟩
/-- over a list of data -/
theorem m_dcL {j : Nat} {vs : List Nat} {as : List D} (p : D → Bool) (f : D → KK) (g : D → D) (h : EvD tl σ G (.list as)) (hz : as.length ≤ 1000000) (hw : ∀ x, wipe ((wipe σ vs).set j (some x)) vs = wipe σ vs)
    (ht : ∀ v e G1, Ex G G1 → e ∈ as → Dq G1 v e → EvB t ((wipe σ vs).set j (some v)) G1 (p e)) (hk : ∀ v e G1, Ex G G1 → e ∈ as → Dq G1 v e → p e = true → EvD tk ((wipe σ vs).set j (some v)) G1 (kD (f e)))
    (hv : ∀ v e G1, Ex G G1 → e ∈ as → Dq G1 v e → p e = true → EvD tv ((wipe σ vs).set j (some v)) G1 (g e)) : EvM (tDcT (iList K tl) (gName j) t tk tv vs) σ G (madeD p f g as) := fun G1 H1 x w Q q => h G1 H1 x w _ fun v G2 H2 s hv' => by
  cases hv' with
  | @lst a xs _ ha hxs =>
    have n0 := hxs.len
    refine ⟨a, rfl, ⟨xs, SqL.of (s.w _ _ ha)⟩, fun Dl hD => ?_⟩
    refine ⟨fun i m H => m = as.length - i ∧ i ≤ as.length ∧ MkD G2 H2 Dl (madeD p f g (as.take i)) H, ⟨as.length, rfl, Nat.zero_le _, MkD.start s.w hD⟩, ?_⟩
    rintro i m H ⟨rfl, hi, mk⟩
    obtain ⟨G3, ws, s3, g3, hws, hH3⟩ := id mk
    have haH : SqL K H a xs := SqL.of (s3.w _ _ (s3.g _ _ ha))
    by_cases hlt : i < as.length
    · refine .inr ⟨⟨xs, xs[i]'(by omega), haH, List.getElem?_eq_getElem _⟩, fun H' => MkD G2 H2 Dl (madeD p f g (as.take (i + 1))) H', fun H' m' => ⟨as.length - (i + 1), by omega, rfl, hlt, m'⟩, ?_⟩
      rintro v H' ⟨rfl, hv0⟩
      obtain ⟨dv, hdv, hq⟩ := hxs.get (hv0 xs haH)
      refine ⟨hw _, ?_⟩
      have xx := (x.trans s.g).trans s3.g
      have mem := List.mem_of_getElem? hdv
      refine MkD.turn (b := p dv) (k := f dv) (d := g dv) hD s3 g3 hws hH3 ?_ (ht _ dv _ xx mem (hq.mono s3.g)) (fun z => hk _ dv _ xx mem (hq.mono s3.g) z) (fun z => hv _ dv _ xx mem (hq.mono s3.g) z) fun H3 m3 => ?_
      · have h1 := madeD_len p f g (as.take i)
        rw [List.length_take] at h1
        rw [sizeLine_eq]; omega
      · rw [take_more hdv, madeD_snoc]; exact m3
    · have e : i = as.length := by omega
      subst e
      rw [List.take_length] at mk
      obtain ⟨G4, ws4, s4, g4, hws4, hH4⟩ := mk
      exact .inl ⟨⟨xs, haH, by rw [n0]; exact Nat.le_refl _⟩, q Dl ws4 G4 H (s.trans s4) (by
        cases e : H1 Dl with
        | none => rfl
        | some o => rw [s.h _ _ e] at hD; cases hD) g4 hH4 hws4⟩
/-- a changeable dict is read as one that is known, while an expression runs -/
theorem lock_M (m : MD G H a es) (w : Ex G H) (hev : ∀ G', Ex G G' → Dq G' (.ref a) (dctD es) → EvM te σ G' es2) (fl : ∀ e ∈ es2, flatD e.2 = true) {Q : VK}
    (q : ∀ p kvs G2 H2, Stp G H G2 H2 → H p = none → G2 p = none → H2 p = some (.dT kvs) → DqP G2 kvs es2 → MD G2 H2 a es → Q (.ref p) H2) : tLockE te σ H Q := by
  obtain ⟨kvs, at_, hp⟩ := m.at_
  refine ⟨a, .dT kvs, at_, True.intro, fun o => ?_⟩
  have e1 : Ex G (upd G a (.frz o (.dT kvs))) := .new m.g
  have w1 : Ex (upd G a (.frz o (.dT kvs))) (upd H a (.frz o (.dT kvs))) := fun b u e => by
    by_cases z : b = a
    · rw [z, upd_same] at e ⊢; exact e
    · rw [upd_ne z] at e ⊢; exact w _ _ e
  refine hev _ e1 (.dct upd_same (hp.mono e1) rfl) _ _ (.refl _) w1 _ fun p kvs2 G2 H2 s h0 g2 h2 hp2 => ?_
  have ga : G2 a = some (.frz o (.dT kvs)) := s.g _ _ upd_same
  have pa : p ≠ a := fun z => by rw [z, upd_same] at h0; cases h0
  refine ⟨s.w _ _ ga, ?_⟩
  have lg : Ex G (less G2 a) := fun b u e => by
    unfold less
    have z : b ≠ a := fun z => by rw [z, m.g] at e; cases e
    rw [if_neg z]
    exact s.g _ _ (e1 _ _ e)
  have st : Stp G H (less G2 a) (upd H2 a (.dT kvs)) := by
    refine ⟨lg, fun b u e => ?_, fun b u e => ?_, fun b h1 h3 h4 => ?_⟩
    · by_cases z : b = a
      · rw [z, at_] at e; rw [z, upd_same]; exact e
      · rw [upd_ne z]; exact s.h _ _ (by rw [upd_ne z]; exact e)
    · unfold less at e
      by_cases z : b = a
      · rw [if_pos z] at e; cases e
      · rw [if_neg z] at e; rw [upd_ne z]; exact s.w _ _ e
    · unfold less
      by_cases z : b = a
      · rw [if_pos z]
      · rw [if_neg z]
        exact s.n b (by rw [upd_ne z]; exact h1) (by rw [upd_ne z]; exact h3) (by rw [upd_ne z]; exact h4)
  refine q p kvs2 _ _ st (by rw [upd_ne pa] at h0; exact h0) (by unfold less; rw [if_neg pa]; exact g2) (by rw [upd_ne pa]; exact h2) (hp2.less ga fl) ⟨by unfold less; rw [if_pos rfl], kvs, upd_same, hp.mono lg⟩

/-! ### a dict changed -/
variable {ty : TE} {k : KK} {d : D} {i : Nat} {tz : TS} {D' : Ends}
theorem m_get {Q : VK} (hσ : σ[i]? = some (some (.ref a))) (m : MD G H a es) (w : Ex G H) (hk : EvD ty σ G (kD k)) (l : lkD es k = some d) (q : ∀ v G2 H2, Stp G H G2 H2 → Dq G2 v d → Q v H2) : tDGet (tVar i) ty σ H Q := by
  refine ⟨.ref a, hσ, hk G H (.refl G) w _ fun u G3 H3 s hu => ?_⟩
  obtain ⟨kvs, e, hp⟩ := m.at_
  obtain ⟨b, rfl, hb⟩ := hu.key
  obtain ⟨z, hz, hq⟩ := hp.val l
  exact ⟨a, z, rfl, .inr ⟨kvs, k, b, .inl (s.h _ _ e), rfl, s.w _ _ hb, hz.symm⟩, q z G3 H3 s (hq.mono s.g)⟩
/-- d.get(k) -/
theorem m_get1 {Q : VK} (hσ : σ[i]? = some (some (.ref a))) (m : MD G H a es) (w : Ex G H) (hk : EvD ty σ G (kD k)) (q : ∀ v G2 H2, Stp G H G2 H2 → Dq G2 v ((lkD es k).getD .none) → Q v H2) : tDGet1 (tVar i) ty σ H Q := by
  obtain ⟨kvs, e, hp⟩ := m.at_
  refine ⟨.ref a, hσ, a, rfl, .inr ⟨kvs, .inl e⟩, hk G H (.refl G) w _ fun u G3 H3 s hu => ?_⟩
  obtain ⟨b, rfl, hb⟩ := hu.key
  refine ⟨valV kvs k, .inr ⟨kvs, k, b, .inl (s.h _ _ e), rfl, s.w _ _ hb, rfl⟩, ?_⟩
  cases l : lkD es k with
  | none =>
    rw [hp.noval l]
    rw [l] at q
    exact q _ G3 H3 s .non
  | some d =>
    obtain ⟨z, hz, hq⟩ := hp.val l
    rw [hz]
    rw [l] at q
    exact q _ G3 H3 s (hq.mono s.g)
/-- d[k] = v -/
theorem q_put (hσ : σ[i]? = some (some (.ref a))) (m : MD G H a es) (w : Ex G H) (hl : es.length < sizeLine) (hv : EvD tv σ G d) (hk : EvD ty σ G (kD k))
    (q : ∀ G2 H2 o, Stp G H G2 H2 → Ex G2 (upd H2 a o) → MD G2 (upd H2 a o) a (putD es k d) → tz D' σ (upd H2 a o)) : tSeq (sDPut (tVar i) ty tv) tz D' σ H := by
  refine hv G H (.refl G) w _ fun x G2 H2 s hx => ⟨.ref a, hσ, hk G2 H2 s.g s.w _ fun u G3 H3 s3 hu => ?_⟩
  have st := s.trans s3
  have m3 := m.stp st
  obtain ⟨kvs, e, hp⟩ := m3.at_
  obtain ⟨b, rfl, hb⟩ := hu.key
  refine ⟨a, _, rfl, DPut.t e (s3.w _ _ hb) (by rw [hp.len]; exact hl), q G3 H3 _ st (ex_mut st.w m3.g) ⟨m3.g, _, upd_same, hp.put (hx.mono s3.g)⟩⟩
/-- del d[k] -/
theorem q_del (hσ : σ[i]? = some (some (.ref a))) (m : MD G H a es) (w : Ex G H) (there : (lkD es k).isSome = true) (hk : EvD ty σ G (kD k))
    (q : ∀ G2 H2 o, Stp G H G2 H2 → Ex G2 (upd H2 a o) → MD G2 (upd H2 a o) a (dropD es k) → tz D' σ (upd H2 a o)) : tSeq (sDelT (tVar i) ty) tz D' σ H := by
  refine ⟨.ref a, hσ, hk G H (.refl G) w _ fun u G3 H3 s3 hu => ?_⟩
  have m3 := m.stp s3
  obtain ⟨kvs, e, hp⟩ := m3.at_
  obtain ⟨b, rfl, hb⟩ := hu.key
  exact ⟨a, kvs, k, b, rfl, e, rfl, s3.w _ _ hb, by rw [hp.isv]; exact there, q G3 H3 _ s3 (ex_mut s3.w m3.g) ⟨m3.g, _, upd_same, hp.drop⟩⟩
end
end Mv


/-! sorted(d), d a dict with tuples as keys -/
namespace Mv
open PySem PySem.Spec PyProof.Rows L2 Evl
def rSortK : List V → Hp → VK → Prop := fun vs H Q => ∃ (a : Addr) (kvs : List (KK × V)), vs = [.ref a] ∧ Rd H a (.dT kvs) ∧ SortOk (kvs.map fun e => kD e.1) ∧
  ∀ bs : List (V × D), bs.map (·.2) = kvs.map (fun e => kD e.1) → (∀ b ∈ bs, ∃ q k, b = (V.ref q, kD k) ∧ H q = some (.tup (k.map kV))) → ∀ p, H p = none → Q (.ref p) (upd H p (.lst ((bs.mergeSort (PySem.W.dataLe false (·.2))).map (·.1))))
theorem keys_dp {K : PySem.W.Frag} {H : Hp} : ∀ k : KK, DpAll K H (k.map kV) (k.map keyD)
  | [] => .nil
  | .inl i :: k => .cons (.int i) (keys_dp k)
  | .inr x :: k => .cons (.str x) (keys_dp k)
theorem flat_keys : ∀ k : KK, flatDs (k.map keyD) = true
  | [] => rfl
  | .inl i :: k => by rw [List.map_cons, flatDs, flat_keys k]; rfl
  | .inr x :: k => by rw [List.map_cons, flatDs, flat_keys k]; rfl
theorem flat_kD (k : KK) : flatD (kD k) = true := flat_keys k
theorem keys_rel {H : Hp} {ks : List (KK × V)} {ys : List (KK × Addr × Value)} (t : KT H ks ys) : ys.map (fun x => kD x.1) = ks.map fun e => kD e.1 := by
  induction t with
  | nil => rfl
  | cons h t ih => rw [List.map_cons, List.map_cons, ih, h.1]
theorem call_sortK {X : Cx} (hc : X.calm = true) (hu : X.A.units + 64 < cLine) : CallR X (.builtin "sorted") rSortK := fun pins s σ H vs us Q I r ⟨a, kvs, ev, hrd, so, q⟩ => by
  subst ev
  rw [Vals.ref1 r]
  obtain ⟨size, mods, xs, rel, o, es, ep, ho, hx, hdat, hes, his, hn⟩ := dt_rd I.hok hrd
  have l1 : es.size = xs.length := size_of_entries hes
  have l2 : kvs.length = xs.length := Paired.length rel
  have its : es.toList.map (·.key) = xs.map fun x => Value.ref x.2.1 := by
    apply List.ext_getElem?
    intro j
    rw [List.getElem?_map, List.getElem?_map, Array.getElem?_toList, entry_at hes j]
    cases xs[j]? <;> rfl
  obtain ⟨bs, ebs⟩ : ∃ bs : List (V × D), bs = xs.map fun x => (V.ref x.2.1, kD x.1) := ⟨_, rfl⟩
  have b2 : bs.map (·.2) = kvs.map (fun e => kD e.1) := by
    rw [ebs, List.map_map]
    exact keys_rel rel
  have at_ : ∀ b ∈ bs, ∃ q k, b = (V.ref q, kD k) ∧ H q = some (.tup (k.map kV)) := by
    have key : ∀ {ks : List (KK × V)} {ys : List (KK × Addr × Value)}, KT H ks ys → ∀ y ∈ ys, H y.2.1 = some (.tup (y.1.map kV)) := fun {ks ys} t => by
      induction t with
      | nil => intro y hy; cases hy
      | cons h t ih =>
        intro y hy
        rcases (List.mem_cons.mp hy) with e | e
        · rw [e]; have := h.2.1; rw [h.1] at this; exact this
        · exact ih y e
    intro b hb
    rw [ebs] at hb
    obtain ⟨x, hx, rfl⟩ := List.mem_map.mp hb
    exact ⟨x.2.1, x.1, rfl, key rel x hx⟩
  have rv : Vals (bs.map (·.1)) (es.toList.map (·.key)) := by
    rw [its, ebs, List.map_map]
    clear q so its b2 at_ rel hes his hn l1 l2 ebs
    induction xs with
    | nil => exact .nil
    | cons x xs ih => exact .cons rfl ih
  have hl : bs.length = xs.length := by rw [ebs, List.length_map]
  have hdp : ∀ b ∈ bs, Dp X.K H b.1 b.2 := fun b hb => by
    obtain ⟨q, k, rfl, hq⟩ := at_ b hb
    exact .tup (SqT.of hq) (keys_dp k)
  have ev := each_vals rv
  have er : ∀ {s' : Shared}, (∀ b u, s.heap.get? b = some u → s'.heap.get? b = some u) → PySem.W.EachIs (fun v b => ∃ as, Reads s'.heap v b.2 as) (es.toList.map (·.key)) bs := fun {s'} keep => by
    have go : ∀ {vs : List Value} {cs : List (V × D)}, PySem.W.EachIs (fun v b => RelV b.1 v) vs cs → (∀ b ∈ cs, b ∈ bs) → PySem.W.EachIs (fun v b => ∃ as, Reads s'.heap v b.2 as) vs cs := fun {vs cs} h => by
      induction h with
      | nil => intro _; exact .nil
      | @cons v b vs cs h1 _ ih =>
        intro m
        obtain ⟨as, r⟩ := Dp.reads I b.2 b.1 v (hdp b (m b (.head _))) h1
        exact .cons ⟨as, Reads.keeps keep r⟩ (ih fun x hx => m x (.tail _ hx))
    exact go ev fun _ h => h
  refine sorted_dict (I.ok.hd hc) mods hx hdat ho (by omega) fun hp tk keep E' => ?_
  have up : ∀ b u, s.heap.get? b = some u → (hp.push (seqObj "list" (es.toList.map (·.key)).toArray 0)).get? b = some u := fun b u z => Heap.get?_push_of_some _ (keep b u z)
  have ne : ∀ b u, s.heap.get? b = some u → b ≠ hp.objs.size := fun b u z => Nat.ne_of_lt (Heap.lt_size (keep b u z))
  have er2 := er (s' := { s with heap := PySem.W.sortingHeap (hp.push (seqObj "list" (es.toList.map (·.key)).toArray 0)) hp.objs.size (es.toList.map (·.key)), toks := tk }) fun b u z => PySem.W.sortingHeap_old (ne b u z) (up b u z)
  have lz : (es.toList.map (·.key)).length ≤ sizeLine := by rw [List.length_map, Array.length_toList]; omega
  have al : PySem.W.AllAlike (bs.map (·.2)) := by rw [b2]; exact so.al
  refine PySem.W.list_sort_vals (s := { s with heap := hp.push (seqObj "list" (es.toList.map (·.key)).toArray 0), toks := tk }) (Heap.get?_push_size _ rfl) (PySem.W.SortsAt.data (s := { s with heap := PySem.W.sortingHeap (hp.push (seqObj "list" (es.toList.map (·.key)).toArray 0)) hp.objs.size (es.toList.map (·.key)), toks := tk })
    (PySem.W.each_map (R := fun v d => ∃ as, Reads (PySem.W.sortingHeap (hp.push (seqObj "list" (es.toList.map (·.key)).toArray 0)) hp.objs.size (es.toList.map (·.key))) v d as) (fun b : V × D => b.2) er2) al (by rw [b2]; exact so.so) (fun d m => ?_)) lz ⟨rfl, ?_⟩
  · have := so.dp d (by rw [← b2]; exact m)
    show X.A.units + 2 + _ < _
    omega
  · have ev2 := PySem.W.sortVals_data (R := fun v (b : V × D) => RelV b.1 v) (enc := fun b : V × D => b.2) false ev er2 al
    have none1 : s.heap.get? hp.objs.size = none := by
      cases z : s.heap.get? hp.objs.size with
      | none => rfl
      | some u => exact absurd rfl (ne _ u z)
    have none2 : H hp.objs.size = none := I.hok.gone none1
    obtain ⟨ep2, at2⟩ := sortedHeap_at (out := (PySem.W.sortVals (PySem.W.dataKind (PySem.W.sortingHeap (hp.push (seqObj "list" (es.toList.map (·.key)).toArray 0)) hp.objs.size (es.toList.map (·.key))) (bs.map (·.2))) false (es.toList.map (·.key)) (es.toList.map (·.key))).toArray) (Heap.get?_push_size _ rfl : (hp.push (seqObj "list" (es.toList.map (·.key)).toArray 0)).get? hp.objs.size = some (seqObj "list" (es.toList.map (·.key)).toArray 0))
    refine ⟨.ref _, upd H hp.objs.size (.lst ((bs.mergeSort (PySem.W.dataLe false (·.2))).map (·.1))), I.laidN (t' := tk) (fun b u z => ?_) none1 none2 ⟨?_, _, ep2, vals_each ev2, at2⟩, rfl, q bs b2 at_ _ none2⟩
    · rw [sortedHeap_old (ne b u z) (Heap.lt_size (up b u z))]
      exact up b u z
    · rw [List.length_map, List.length_mergeSort, hl]
      omega
section
variable {σ : L2.St} {G : Hp} {td : TE} {es : List (KK × D)}
theorem d_sortK (h : EvD td σ G (dctD es)) (so : SortOk (es.map fun e => kD e.1)) : EvD (tCB rSortK (tCons td tNil)) σ G (.list (sortD (es.map fun e => kD e.1))) := fun G1 H1 x w Q q => h G1 H1 x w _ fun v G2 H2 s hv => by
  obtain ⟨a, o, kvs, rfl, ha, hp⟩ := hv.dict
  have ek : (kvs.map fun e => kD e.1) = es.map fun e => kD e.1 := by
    have := congrArg (List.map kD) hp.keys
    rw [List.map_map, List.map_map] at this
    exact this
  refine ⟨a, kvs, rfl, .inr ⟨o, s.w _ _ ha⟩, by rw [ek]; exact so, fun bs b2 at_ p hp2 => ?_⟩
  -- the keys are known from now on
  have know : ∀ (cs : List (V × D)), (∀ b ∈ cs, b ∈ bs) → ∃ G3, Stp G2 H2 G3 H2 ∧ ∀ b ∈ cs, Dq G3 b.1 b.2 := by
    intro cs
    induction cs with
    | nil => intro _; exact ⟨G2, .refl s.w, fun b hb => by cases hb⟩
    | cons c cs ih =>
      intro m
      obtain ⟨G3, s3, k3⟩ := ih fun b hb => m b (List.mem_cons_of_mem _ hb)
      obtain ⟨qa, k, rfl, hq⟩ := at_ c (m c (List.mem_cons_self ..))
      refine ⟨kn G3 qa (k.map kV), s3.know hq, fun b hb => ?_⟩
      rcases (List.mem_cons.mp hb) with e | e
      · rw [e]; exact key_dq kn_at
      · exact (k3 b e).mono (kn_ex s3.w hq).1
  obtain ⟨G3, s3, k3⟩ := know bs fun _ h => h
  have s4 := Stp.new (o := .lst ((bs.mergeSort (PySem.W.dataLe false (·.2))).map (·.1))) s3.w hp2
  refine q _ _ _ ((s.trans s3).trans s4) (.lst upd_same ?_)
  have := dqa_pairs (G := G3) (bs := bs.mergeSort (PySem.W.dataLe false (·.2))) fun b hb => k3 b (List.mem_mergeSort.mp hb)
  rw [sort_pairs, b2, ek] at this
  exact this.mono s4.g
end
end Mv


/-! statements over lists and dicts that are changed -/
namespace Mv
open PySem L2 Evl

section
variable {K : PySem.W.Frag} {G G' H H' : Hp} {a b : Addr} {ds : List D} {d z : D} {es es2 : List (KK × D)} {k : KK} {σ : L2.St} {te tv ty : TE} {tz : TS} {D' : Ends} {i j : Nat}
/-- a list that may be changed -/
structure ML (G H : Hp) (a : Addr) (ds : List D) : Prop where
  g : G a = none
  at_ : ∃ us, H a = some (.lst us) ∧ DqA G us ds
theorem ML.stp (m : ML G H a ds) (s : Stp G H G' H') : ML G' H' a ds := by
  obtain ⟨us, e, q⟩ := m.at_
  exact ⟨s.n a m.g (by rw [e]; intro z; cases z) (by rw [e]; intro _ z; cases z), us, s.h _ _ e, q.mono s.g⟩
theorem ML.other {o : HO} (m : ML G H a ds) (ne : a ≠ b) : ML G (upd H b o) a ds := by
  obtain ⟨us, e, q⟩ := m.at_
  exact ⟨m.g, us, by rw [upd_ne ne]; exact e, q⟩
theorem ML.ne (m : ML G H a ds) (h : MD G H b es) : a ≠ b := fun z => by
  obtain ⟨us, e, _⟩ := m.at_
  obtain ⟨kvs, e2, _⟩ := h.at_
  rw [z, e2] at e; cases e
theorem Stp.mutd {G0 H0 : Hp} {o : HO} (s : Stp G0 H0 G H) (h0 : H0 a = none) (g : G a = none) : Stp G0 H0 G (upd H a o) := ⟨s.g, s.h.mut h0, ex_mut s.w g, s.n⟩
/-- a list is known from now on -/
theorem ML.know {G0 H0 : Hp} (m : ML G H a ds) (s : Stp G0 H0 G H) (h0 : H0 a = none) : ∃ us, Stp G0 H0 (upd G a (.lst us)) H ∧ Ex G (upd G a (.lst us)) ∧ Dq (upd G a (.lst us)) (.ref a) (.list ds) ∧ Ex (upd G a (.lst us)) H ∧ ∀ {b es}, b ≠ a → MD G H b es → MD (upd G a (.lst us)) H b es := by
  obtain ⟨us, e, q⟩ := m.at_
  have e1 : Ex G (upd G a (.lst us)) := .new m.g
  have w1 : Ex (upd G a (.lst us)) H := fun b u z => by
    by_cases hb : b = a
    · rw [hb, upd_same] at z; rw [hb, ← z]; exact e
    · rw [upd_ne hb] at z; exact s.w _ _ z
  refine ⟨us, ⟨s.g.trans e1, s.h, w1, fun b h1 h2 h3 => ?_⟩, e1, .lst upd_same (q.mono e1), w1, fun ne m => ?_⟩
  · rw [upd_ne (fun z => h2 (by rw [z]; exact h0))]
    exact s.n b h1 h2 h3
  · obtain ⟨kvs, z, r⟩ := m.at_
    exact ⟨by rw [upd_ne ne]; exact m.g, kvs, z, r.mono e1⟩
theorem q_asgM (h : EvM te σ G es) (w : Ex G H) (k : ∀ p G1 H1, Stp G H G1 H1 → H p = none → MD G1 H1 p es → tz D' (σ.set i (some (.ref p))) H1) : tSeq (tAsg te (gName i)) tz D' σ H :=
  h G H (.refl G) w (fun v H1 => tz D' (σ.set i (some v)) H1) fun p kvs G2 H2 s h0 g2 h2 hp => k p G2 H2 s h0 ⟨g2, kvs, h2, hp⟩
theorem q_lockM (m : MD G H a es) (w : Ex G H) (hev : ∀ G', Ex G G' → Dq G' (.ref a) (dctD es) → EvM te σ G' es2) (fl : ∀ e ∈ es2, flatD e.2 = true)
    (k : ∀ p G1 H1, Stp G H G1 H1 → H p = none → MD G1 H1 p es2 → MD G1 H1 a es → tz D' (σ.set j (some (.ref p))) H1) : tSeq (tLock (tAsg te (gName j))) tz D' σ H :=
  lock_M (Q := fun v H1 => tz D' (σ.set j (some v)) H1) m w hev fl fun p kvs G2 H2 s h0 g2 h2 hp m2 => k p G2 H2 s h0 ⟨g2, kvs, h2, hp⟩ m2
/-- a dict that is made of a changeable one, and kept as it is -/
theorem lock_fix (m : MD G H a es) (w : Ex G H) (hev : ∀ G', Ex G G' → Dq G' (.ref a) (dctD es) → EvM te σ G' es2) (fl : ∀ e ∈ es2, flatD e.2 = true) {Q : VK}
    (q : ∀ v G2 H2, Stp G H G2 H2 → Dq G2 v (dctD es2) → Q v H2) : tFix (tLockE te) σ H Q := by
  refine lock_M m w hev fl fun p kvs G2 H2 s h0 g2 h2 hp _ => ⟨p, .dT kvs, rfl, h2, True.intro, fun o => ?_⟩
  refine q _ (upd G2 p (.frz o (.dT kvs))) _ ⟨s.g.trans (.new g2), fun b u e => ?_, fun b u e => ?_, fun b h1 h3 h4 => ?_⟩ (.dct upd_same (hp.mono (.new g2)) rfl)
  · rw [upd_ne (fun z => by rw [z, h0] at e; cases e)]
    exact s.h _ _ e
  · by_cases z : b = p
    · rw [z, upd_same] at e ⊢; exact e
    · rw [upd_ne z] at e ⊢; exact s.w _ _ e
  · rw [upd_ne (fun z => h3 (by rw [z]; exact h0))]
    exact s.n b h1 h3 h4
theorem q_newL (w : Ex G H) (k : ∀ p o, H p = none → Stp G H G (upd H p o) → ML G (upd H p o) p [] → tz D' (σ.set i (some (.ref p))) (upd H p o)) : tSeq (tAsg (tLst tNil) (gName i)) tz D' σ H :=
  ⟨Nat.zero_le _, fun p hp => k p _ hp (Stp.old w (.new hp)) ⟨fresh_back w hp, [], upd_same, .nil⟩⟩
theorem q_app (hσ : σ[i]? = some (some (.ref a))) (m : ML G H a ds) (w : Ex G H) (hl : ds.length < sizeLine) (hv : EvD te σ G d)
    (q : ∀ G2 H2 o, Stp G H G2 H2 → Ex G2 (upd H2 a o) → ML G2 (upd H2 a o) a (ds ++ [d]) → tz D' σ (upd H2 a o)) : tSeq (tDrop (tBM K "list" rAppend (tVar i) (tCons te tNil))) tz D' σ H := by
  obtain ⟨us, e, _⟩ := m.at_
  refine ⟨.ref a, hσ, .inl ⟨rfl, us, SqL.of e⟩, hv G H (.refl G) w _ fun v G2 H2 s hd => ?_⟩
  have m2 := m.stp s
  obtain ⟨us2, e2, q2⟩ := m2.at_
  exact ⟨a, us2, v, rfl, rfl, e2, by rw [q2.len]; exact hl, q G2 H2 _ s (ex_mut s.w m2.g) ⟨m2.g, _, upd_same, q2.snoc hd⟩⟩
theorem s_app (hσ : σ[i]? = some (some (.ref a))) (m : ML G H a ds) (w : Ex G H) (hl : ds.length < sizeLine) (hv : EvD te σ G d)
    (q : ∀ G2 H2 o, Stp G H G2 H2 → Ex G2 (upd H2 a o) → ML G2 (upd H2 a o) a (ds ++ [d]) → D'.nx σ (upd H2 a o)) : tDrop (tBM K "list" rAppend (tVar i) (tCons te tNil)) D' σ H :=
  q_app (tz := fun D => D'.nx) (D' := D') hσ m w hl hv q
theorem q_get1 (hσ : σ[i]? = some (some (.ref a))) (m : MD G H a es) (w : Ex G H) (hk : EvD ty σ G (kD k)) (q : ∀ v G2 H2, Stp G H G2 H2 → Dq G2 v ((lkD es k).getD .none) → tz D' (σ.set j (some v)) H2) : tSeq (tAsg (tDGet1 (tVar i) ty) (gName j)) tz D' σ H :=
  m_get1 (Q := fun v H2 => tz D' (σ.set j (some v)) H2) hσ m w hk q
theorem q_get (hσ : σ[i]? = some (some (.ref a))) (m : MD G H a es) (w : Ex G H) (hk : EvD ty σ G (kD k)) (l : lkD es k = some d) (q : ∀ v G2 H2, Stp G H G2 H2 → Dq G2 v d → tz D' (σ.set j (some v)) H2) : tSeq (tAsg (tDGet (tVar i) ty) (gName j)) tz D' σ H :=
  m_get (Q := fun v H2 => tz D' (σ.set j (some v)) H2) hσ m w hk l q
def isNoneD : D → Bool
  | .none => true
  | _ => false
theorem opd_isN : OpD (fun x y H Q => y = .non ∧ Q (.bl (decide (x = .non))) H) G d .none (.bool (isNoneD d)) := fun x y G1 H1 a b hx hy Q q => by
  cases hy
  refine ⟨rfl, ?_⟩
  have : decide (x = V.non) = isNoneD d := by cases hx <;> rfl
  rw [this]
  exact q _ G1 H1 (.refl b) (.bl _)
theorem opd_notN : OpD (fun x y H Q => y = .non ∧ Q (.bl (!decide (x = .non))) H) G d .none (.bool (!isNoneD d)) := fun x y G1 H1 a b hx hy Q q => by
  cases hy
  refine ⟨rfl, ?_⟩
  have : decide (x = V.non) = isNoneD d := by cases hx <;> rfl
  rw [this]
  exact q _ G1 H1 (.refl b) (.bl _)
theorem lk_mem (hk : (es.map (·.1)).Nodup) {e : KK × D} (he : e ∈ es) : lkD es e.1 = some e.2 := by
  induction es with
  | nil => cases he
  | cons x xs ih =>
    unfold lkD at ih ⊢
    rw [List.map_cons, List.nodup_cons] at hk
    rw [List.find?_cons]
    rcases List.mem_cons.mp he with h | h
    · rw [← h, decide_eq_true rfl]; rfl
    · rw [decide_eq_false (fun z => hk.1 (List.mem_map.mpr ⟨e, h, z.symm⟩))]
      exact ih hk.2 h
end
section
variable {K : PySem.W.Frag} {σ : L2.St} {G H : Hp} {te : TE} {D' : Ends} {tu tz : TS}
/-- for x in a list that is known, with any invariant of the heap that knows it -/
theorem q_forLW {j : Nat} {as : List D} (h : EvD te σ G (.list as)) (w : Ex G H) (Iv : Hp → Nat → L2.St → Hp → Prop) (h0 : ∀ G1 H1, Stp G H G1 H1 → Iv G1 0 σ H1) (hx : ∀ G1 i σ' H', Iv G1 i σ' H' → Ex G1 H')
    (hs : ∀ G1 H1, Stp G H G1 H1 → ∀ (i : Nat) v d σ' H2, as[i]? = some d → Dq G1 v d → Iv G1 i σ' H2 → tu { D' with nx := Iv G1 (i + 1), ct := Iv G1 (i + 1), bk := tz D' } (σ'.set j (some v)) H2)
    (hd : ∀ G1 H1, Stp G H G1 H1 → ∀ σ' H2, Iv G1 as.length σ' H2 → tz D' σ' H2) : tSeq (tFor (iList K te) (gName j) tu) tz D' σ H := h G H (.refl G) w _ fun v G1 H1 s hv => by
  cases hv with
  | @lst a xs _ ha hxs =>
    refine ⟨a, rfl, ⟨xs, SqL.of (s.w _ _ ha)⟩, ?_⟩
    refine for_list (D := { D' with nx := tz D' }) (xs := xs) (fun i σ' H' => Iv G1 i σ' H') (h0 G1 H1 s) (fun i σ' H' _ iv => SqL.of (hx _ _ _ _ iv _ _ ha)) (fun i x σ' H' hi iv => ?_) fun σ' H' iv => ?_
    · obtain ⟨d, hd', hq⟩ := hxs.get hi
      exact hs G1 H1 s i x d σ' H' hd' hq iv
    · rw [hxs.len] at iv
      exact hd G1 H1 s σ' H' iv
end
end Mv


/-! list(d) and list(d.values()) of a dict that is known -/
namespace Mv
open PySem PySem.Spec PyProof.Rows L2 Evl
/-- d.values(): the view -/
def tVals (te : TE) : TE := fun σ H Q => te σ H fun x H1 => ∃ (a : Addr) (kvs : List (KK × V)), x = .ref a ∧ Rd H1 a (.dT kvs) ∧ ∀ p, H1 p = none → Q (.ref p) (upd H1 p (viewO "dict_values" p a))
/-- list(..) of such a view -/
def rListV : List V → Hp → VK → Prop := fun xs H Q => ∃ (p a : Addr) (kvs : List (KK × V)), xs = [.ref p] ∧ H p = some (viewO "dict_values" p a) ∧ Rd H a (.dT kvs) ∧ ∀ l, H l = none → Q (.ref l) (upd H l (.lst (kvs.map (·.2))))
/-- list(..) of a dict -/
def rListK : List V → Hp → VK → Prop := fun xs H Q => ∃ d kvs, xs = [V.ref d] ∧ Rd H d (.dT kvs) ∧ ∀ p bs, H p = none → IsKeys H kvs bs → Q (.ref p) (upd H p (.lst (bs.map V.ref)))
section
variable {X : Cx}
theorem call_listK (hc : X.calm = true) : CallR X (.type "list") rListK := call_list_dT hc
theorem pe_vals {o : Expr} {to : TE} {apos cpos : Pos} (ho : PE X o to) (hbase : attributeBase o "values" X.env (eval o X.env) = eval o X.env := by rfl) (hline : (apos.endLine == cpos.line) = true := by rfl) :
    PE X (.Call (.Attribute o "values" apos) [] [] cpos) (tVals to) := by
  refine (⟨fun pins s σ H Q I h => ?_⟩)
  refine wpAny_Call_method0_late hbase hline (thn (ho.run pins s σ H _ I h) fun v s1 ⟨x, H1, I1, r1, a, kvs, ex, hd, q1⟩ => ?_)
  subst ex
  obtain rfl : v = Value.ref a := (r1)
  obtain ⟨size, mods, xs, rel, ob, es, ep, h1, h2, h3, h4, h5, h6⟩ := dt_rd I1.hok hd
  refine ⟨"dict", "dict.values", PySem.F.plainAttrs_dict, PySem.F.slot_dict_values, PySem.F.type_dict_values, ⟨ob, h1, h2.1⟩, fun b e => ?_, Calls.callWith_builtin rfl (PySem.evalArgs_none ?_)⟩
  · cases e
    exact ⟨ob, h1, h2.2.1⟩
  · refine call_meetsIn PySem.F.slot_dict_values ⟨ob, h1, h2.1⟩ PySem.F.entry_dict_values (PySem.F.args_dict_values_1 _) (PySem.meets_dict_values_raw a mods) ⟨⟨es, ep, ob, h1, h2, h3⟩, ?_⟩
    exact ⟨.ref s1.heap.objs.size, _, I1.laid (t' := s1.toks) (fun b o q => Heap.get?_push_of_some _ q) (Nat.le_refl _) (viewO_ok (Heap.get?_push_size _ rfl)), rfl, q1 _ (I1.hok.fresh (Nat.le_refl _))⟩
theorem KT.valsV {H : Hp} {kvs : List (KK × V)} {xs : List (KK × Addr × Value)} (r : KT H kvs xs) : Vals (kvs.map (·.2)) (xs.map fun x => x.2.2) := by
  induction r with
  | nil => exact .nil
  | cons h t ih => exact .cons h.2.2 ih
theorem call_listV (hc : X.calm = true) : CallR X (.type "list") rListV := by
  intro pins; intro s σ H xs us Q I r h
  obtain ⟨p, d, kvs, rfl, hp, hd, q⟩ := h
  obtain ⟨u, rfl, rx⟩ := r.one
  cases rx
  obtain ⟨z, hs, ks, pr, o, es, ep, ho, hx, hdt, he, hn⟩ := ((show ObjOk X.prog X.w H s.heap d (.dT kvs) from hd.ok I.hok))
  have hv : s.heap.get? p = some (DSub.viewOb "dict_values" d) := (show ObjOk X.prog X.w H s.heap p (viewO "dict_values" p d) from I.hok p _ hp).1
  have l1 : (es.size = ks.length) := size_of_entries he
  have l2 : (kvs.length = ks.length) := Paired.length pr
  refine PySem.W.kdl_call (PySem.KdlSrc.rawValues (es := es) (ep := ep)) (I.ok.hd hc) ⟨⟨_, hv, rfl, rfl⟩, o, ho, hx, hdt⟩ (by omega) fun h' tk acc' c' kp e it => ?_
  have ea : acc'.toList = ks.map fun x => x.2.2 := by
    have hl : (acc'.toList.length = ks.length) := by rw [Array.length_toList, it.1]; exact l1
    apply List.ext_getElem?
    intro j
    rw [List.getElem?_map]
    cases hj : (acc'.toList[j]?) with
    | none =>
      have h1 := List.getElem?_eq_none_iff.mp hj
      (rw [List.getElem?_eq_none (by omega)])
      rfl
    | some v =>
      obtain ⟨hi, hv2⟩ := it.2 j v (by rw [← Array.getElem?_toList]; exact hj)
      have qe := entry_at he j
      rw [Array.getElem?_eq_getElem hi] at qe
      cases hb : ks[j]? with
      | none =>
        rw [hb] at qe
        cases qe
      | some b =>
        rw [hb] at qe
        have e2 := Option.some.inj qe
        rw [hv2, e2]
        rfl
  have rv : Vals (kvs.map (·.2)) acc'.toList := by rw [ea]; exact KT.valsV pr
  have hz : (kvs.map (·.2)).length ≤ sizeLine := by rw [List.length_map]; omega
  refine ⟨.ref s.heap.objs.size, _, I.laid (t' := tk) (o := .lst (kvs.map (·.2))) kp (Nat.le_refl _) ?_, rfl, q _ (I.hok.fresh (Nat.le_refl _))⟩
  exact (⟨hz, acc'.toList, c', rv, by rw [Array.toArray_toList]; exact e⟩)
end
section
variable {K : PySem.W.Frag} {G : Hp} {σ : L2.St} {td : TE} {es : List (KK × D)}
theorem DqP.valsD {kvs : List (KK × V)} (h : DqP G kvs es) : DqA G (kvs.map (·.2)) (es.map (·.2)) := by
  induction es generalizing kvs with
  | nil => cases h; exact .nil
  | cons e es ih =>
    cases h with
    | cons h1 h2 => exact .cons h1 (ih h2)
/-- list(d.values()) -/
theorem d_listV (h : EvD td σ G (dctD es)) : EvD (tCB rListV (tCons (tVals td) tNil)) σ G (.list (es.map (·.2))) := fun G1 H1 x w Q q => h G1 H1 x w _ fun v G2 H2 s hv => by
  obtain ⟨a, o, kvs, rfl, ha, hp⟩ := hv.dict
  refine ⟨a, kvs, rfl, .inr ⟨o, s.w _ _ ha⟩, fun p hp2 => ?_⟩
  have s3 := Stp.old s.w (.new (o := viewO "dict_values" p a) hp2)
  refine ⟨p, a, kvs, rfl, upd_same, .inr ⟨o, s3.w _ _ ha⟩, fun l hl => ?_⟩
  have s4 := Stp.new (o := .lst (kvs.map (·.2))) s3.w hl
  exact q _ _ _ ((s.trans s3).trans s4) (.lst upd_same (hp.valsD.mono s4.g))
/-- list(d) -/
theorem d_listK (h : EvD td σ G (dctD es)) : EvD (tCB rListK (tCons td tNil)) σ G (.list (es.map fun e => kD e.1)) := fun G1 H1 x w Q q => h G1 H1 x w _ fun v G2 H2 s hv => by
  obtain ⟨a, o, kvs, rfl, ha, hp⟩ := hv.dict
  refine ⟨a, kvs, rfl, .inr ⟨o, s.w _ _ ha⟩, fun p bs hp2 ik => ?_⟩
  have know : ∀ {kvs : List (KK × V)} {bs : List Addr}, IsKeys H2 kvs bs → ∃ G3, Stp G2 H2 G3 H2 ∧ DqA G3 (bs.map V.ref) (kvs.map fun e => kD e.1) := fun {kvs bs} r => by
    induction r with
    | nil => exact ⟨G2, .refl s.w, .nil⟩
    | @cons e b es bs h t ih =>
      obtain ⟨G3, s3, k3⟩ := ih
      exact ⟨kn G3 b (e.1.map kV), s3.know h, .cons (key_dq kn_at) (k3.mono (kn_ex s3.w h).1)⟩
  obtain ⟨G3, s3, k3⟩ := know ik
  have s4 := Stp.new (o := .lst (bs.map V.ref)) s3.w hp2
  have ek : (kvs.map fun e => kD e.1) = es.map fun e => kD e.1 := by
    have := congrArg (List.map kD) hp.keys
    rw [List.map_map, List.map_map] at this
    exact this
  rw [ek] at k3
  exact q _ _ _ ((s.trans s3).trans s4) (.lst upd_same (k3.mono s4.g))
end
end Mv


namespace Mv
open PySem L2 Evl

/-! ### the program's mathematics -/
def dI (ns : List Int) : D := .tuple (ns.map .int)
def dL (pl : List (List Int)) : D := .list (pl.map dI)
def prod (ns : List Int) : Int := ns.foldl (· * ·) 1
def grow (found : List (List Int)) (size : Int) : List (List Int) := found.flatMap fun b => (List.range size.toNat).map fun (i : Nat) => b ++ [(i : Int)]
def placesOf (n : List Int) : List (List Int) := n.foldl grow [[]]
def zeros (n : List Int) : List Int := List.replicate n.length 0
def addP : List Int → List Int → List Int → List Int
  | s :: n, x :: a, y :: b => ((x + y) % s) :: addP n a b
  | _, _, _ => []
def addUp (n : List Int) (several : List (List Int)) : List Int := several.foldl (fun a b => addP n a b) (zeros n)
def halvesOf (n : List Int) : List (List Int) := (placesOf n).filter fun p => decide (p ≠ zeros n) && decide (addP n p p = zeros n)
structure OkD (n : List Int) : Prop where
  lo : 1 ≤ n.length
  hi : n.length ≤ 4
  sz : ∀ s ∈ n, 2 ≤ s ∧ s ≤ 24
  pr : prod n ≤ 24
theorem addP_len : ∀ {n a b : List Int}, a.length = n.length → b.length = n.length → (addP n a b).length = n.length
  | [], [], [], _, _ => rfl
  | s :: n, x :: a, y :: b, h1, h2 => by
    show (addP n a b).length + 1 = n.length + 1
    rw [addP_len (by simpa using h1) (by simpa using h2)]
  | s :: n, [], _, h, _ => by simp at h
  | s :: n, x :: a, [], _, h => by simp at h
  | [], x :: a, _, h, _ => by simp at h
  | [], [], y :: b, _, h => by simp at h
theorem zeros_len (n : List Int) : (zeros n).length = n.length := by unfold zeros; rw [List.length_replicate]
theorem addUp_len {n : List Int} : ∀ {l : List (List Int)}, (∀ p ∈ l, p.length = n.length) → (addUp n l).length = n.length := by
  have : ∀ (l : List (List Int)) (a : List Int), a.length = n.length → (∀ p ∈ l, p.length = n.length) → (l.foldl (fun a b => addP n a b) a).length = n.length := by
    intro l
    induction l with
    | nil => intro a h _; exact h
    | cons p l ih => intro a h hp; exact ih _ (addP_len h (hp p (List.mem_cons_self ..))) fun q hq => hp q (List.mem_cons_of_mem _ hq)
  intro l h
  exact this l _ (zeros_len n) h
theorem grow_len (found : List (List Int)) (size : Int) : (grow found size).length = found.length * size.toNat := by
  unfold grow
  induction found with
  | nil => simp
  | cons b l ih => rw [List.flatMap_cons, List.length_append, ih, List.length_map, List.length_range, List.length_cons, Nat.succ_mul, Nat.add_comm]
theorem places_len_take {n : List Int} (h : ∀ s ∈ n, 2 ≤ s) : ∀ i : Nat, ((placesOf (n.take i)).length : Int) = prod (n.take i) := by
  have key : ∀ (l : List Int), (∀ s ∈ l, 2 ≤ s) → ∀ (f : List (List Int)) (k : Int), (f.length : Int) = k → ((l.foldl grow f).length : Int) = l.foldl (· * ·) k := by
    intro l
    induction l with
    | nil => intro _ f k e; exact e
    | cons s l ih =>
      intro hs f k e
      refine ih (fun q hq => hs q (List.mem_cons_of_mem _ hq)) _ _ ?_
      rw [grow_len, Int.natCast_mul, e, Int.toNat_of_nonneg (by have := hs s (List.mem_cons_self ..); omega)]
  intro i
  exact key (n.take i) (fun s hs => h s (List.mem_of_mem_take hs)) [[]] 1 rfl
theorem prod_mono : ∀ {l : List Int}, (∀ s ∈ l, 2 ≤ s) → ∀ k : Int, 0 ≤ k → k ≤ l.foldl (· * ·) k
  | [], _, k, _ => Int.le_refl k
  | s :: l, h, k, hk => by
    have h2 := h s (List.mem_cons_self ..)
    have e : k ≤ k * s := by
      have := Int.mul_le_mul_of_nonneg_left (show (1 : Int) ≤ s by omega) hk
      omega
    exact Int.le_trans e (prod_mono (fun q hq => h q (List.mem_cons_of_mem _ hq)) _ (Int.le_trans hk e))
theorem prod_take {n : List Int} (h : ∀ s ∈ n, 2 ≤ s) (i : Nat) : prod (n.take i) ≤ prod n ∧ 1 ≤ prod (n.take i) := by
  have e : prod n = (n.drop i).foldl (· * ·) (prod (n.take i)) := by
    unfold prod
    rw [← List.foldl_append, List.take_append_drop]
  have p1 : 1 ≤ prod (n.take i) := prod_mono (fun s hs => h s (List.mem_of_mem_take hs)) 1 (by decide)
  refine ⟨?_, p1⟩
  rw [e]
  exact prod_mono (fun s hs => h s (List.mem_of_mem_drop hs)) _ (by omega)
theorem OkD.pl {n : List Int} (h : OkD n) (i : Nat) : (placesOf (n.take i)).length ≤ 24 := by
  have h1 := places_len_take (fun s hs => (h.sz s hs).1) i
  have h2 := (prod_take (fun s hs => (h.sz s hs).1) i).1
  have h3 := h.pr
  omega
theorem foldl_take {α β : Type} (f : β → α → β) (b : β) {l : List α} {i : Nat} {x : α} (h : l[i]? = some x) : (l.take (i + 1)).foldl f b = f ((l.take i).foldl f b) x := by
  rw [take_more h, List.foldl_append]; rfl
theorem grow_D (found : List (List Int)) (size : Int) : dL (grow found size) = .list ((found.map dI).flatMap fun a => (List.range size.toNat).map fun (i : Nat) => match a with | .tuple xs => .tuple (xs ++ [.int (i : Int)]) | _ => a) := by
  unfold dL grow
  congr 1
  induction found with
  | nil => rfl
  | cons b l ih =>
    rw [List.flatMap_cons, List.map_append, List.map_cons, List.flatMap_cons, ih, List.map_map]
    congr 1
    refine List.map_congr_left fun i _ => ?_
    show dI (b ++ [(i : Int)]) = .tuple (b.map PyData.int ++ [PyData.int (i : Int)])
    unfold dI
    rw [List.map_append]; rfl
theorem places_in {n : List Int} : ∀ p ∈ placesOf n, p.length = n.length := by
  have key : ∀ (l : List Int) (f : List (List Int)) (k : Nat), (∀ p ∈ f, p.length = k) → ∀ p ∈ l.foldl grow f, p.length = k + l.length := by
    intro l
    induction l with
    | nil => intro f k h p hp; exact h p hp
    | cons s l ih =>
      intro f k h p hp
      have := ih (grow f s) (k + 1) (fun q hq => by
        unfold grow at hq
        obtain ⟨b, hb, hq⟩ := List.mem_flatMap.mp hq
        obtain ⟨i, _, rfl⟩ := List.mem_map.mp hq
        rw [List.length_append, h b hb]; rfl) p hp
      rw [this, List.length_cons]; omega
  intro p hp
  have := key n [[]] 0 (fun q hq => by simp at hq; subst hq; rfl) p hp
  omega
theorem addP_D : ∀ (n a b : List Int), a.length = n.length → b.length = n.length →
    made (fun _ => true) (fun (x : D × D × D) => match x with | (.int x, .int y, .int s) => .int ((x + y) % s) | _ => .none) (zip3 (a.map PyData.int) (b.map PyData.int) (n.map PyData.int)) = (addP n a b).map PyData.int
  | [], [], [], _, _ => rfl
  | s :: n, x :: a, y :: b, h1, h2 => by
    have ih := addP_D n a b (by simpa using h1) (by simpa using h2)
    unfold made at ih ⊢
    rw [List.filter_eq_self.mpr (fun _ _ => rfl)] at ih ⊢
    show PyData.int ((x + y) % s) :: _ = PyData.int ((x + y) % s) :: (addP n a b).map PyData.int
    rw [← ih]
  | s :: n, [], _, h, _ => by simp at h
  | s :: n, x :: a, [], _, h => by simp at h
  | [], x :: a, _, h, _ => by simp at h
  | [], [], y :: b, _, h => by simp at h

theorem zip3_ints : ∀ (n a b : List Int) {da db dc : D}, (∀ s ∈ n, 0 < s) → (da, db, dc) ∈ zip3 (a.map PyData.int) (b.map PyData.int) (n.map PyData.int) → ∃ (i j s : Int), da = .int i ∧ db = .int j ∧ dc = .int s ∧ 0 < s
  | [], a, b, _, _, _, _, h => by cases a <;> cases b <;> simp [zip3] at h
  | s :: n, [], b, _, _, _, _, h => by simp [zip3] at h
  | s :: n, x :: a, [], _, _, _, _, h => by simp [zip3] at h
  | s :: n, x :: a, y :: b, da, db, dc, h4, hm => by
    have hm : (da, db, dc) ∈ (PyData.int x, PyData.int y, PyData.int s) :: zip3 (a.map PyData.int) (b.map PyData.int) (n.map PyData.int) := hm
    rcases (List.mem_cons.mp hm) with e | e
    · cases e; exact ⟨x, y, s, rfl, rfl, rfl, h4 s (List.mem_cons_self ..)⟩
    · exact zip3_ints n a b (fun q hq => h4 q (List.mem_cons_of_mem _ hq)) e

/-! ### what the defs promise -/
def R_place_count (ds : List D) (z : D) : Prop := ∃ n : List Int, ds = [dI n] ∧ (∀ s ∈ n, -(2 ^ 64) < s ∧ s < 2 ^ 64) ∧ z = .int (prod n)
def R_all_places (ds : List D) (z : D) : Prop := ∃ n : List Int, ds = [dI n] ∧ OkD n ∧ z = dL (placesOf n)
def R_nothing_of (ds : List D) (z : D) : Prop := ∃ n : List Int, ds = [dI n] ∧ 1 ≤ n.length ∧ n.length ≤ 1000 ∧ z = dI (zeros n)
def R_add (ds : List D) (z : D) : Prop := ∃ n a b : List Int, ds = [dI n, dI a, dI b] ∧ a.length = n.length ∧ b.length = n.length ∧ n.length ≤ 1000 ∧ (∀ s ∈ n, 0 < s) ∧ z = dI (addP n a b)
def R_add_up (ds : List D) (z : D) : Prop := ∃ (n : List Int) (l : List (List Int)), ds = [dI n, dL l] ∧ 1 ≤ n.length ∧ n.length ≤ 1000 ∧ (∀ s ∈ n, 0 < s) ∧ (∀ p ∈ l, p.length = n.length) ∧ z = dI (addUp n l)
def R_all_halves (ds : List D) (z : D) : Prop := ∃ n : List Int, ds = [dI n] ∧ OkD n ∧ z = dL (halvesOf n)
def top (i : Nat) : Stmt := PySem.Challenge.pw_movedround_k19_whole_the_last_person_is.main.body.getD i (.Pass ⟨0, 0, 0, 0⟩)
abbrev s_place_count : Stmt := top 1
abbrev s_all_places : Stmt := top 2
abbrev s_nothing_of : Stmt := top 3
abbrev s_add : Stmt := top 4
abbrev s_add_up : Stmt := top 6
theorem sqF (as : List D) : sq false as = .tuple as := rfl
theorem sqT (as : List D) : sq true as = .list as := rfl
section
variable {P : Program} {w : World} {mg : Str → Option Value} {base : Heap} {K : PySem.W.Frag}
theorem ok_place_count {f : Addr} {fd : FuncData} (F : Fun K "place_count" "place_count" s_place_count f fd) : FnOk P w K mg base CX0 1 f fd ["dials"] (SpR R_place_count) := by
  have sc : FnScope ["dials", "many", "size"] ["dials"] (defScope s_place_count) := ⟨rfl, rfl, rfl, by decide +kernel, rfl, by decide +kernel, by decide +kernel⟩
  refine F.ok sc (fun vs H Q E h => ?_) (fun cdv A outer s H vs Q E hr h => ?_)
  · obtain ⟨G, ds, z, _, hv, ⟨n, rfl, _⟩, _⟩ := h
    exact hv.len
  · obtain ⟨G, ds, z, wf, hv, ⟨n, rfl, hb, rfl⟩, k⟩ := h
    refine ⟨_, (pss_cons (ps_set (i := 1) sc.nd rfl (Or.inl rfl) pe_int) (pss_cons (ps_for PassesOwn.never rfl (pi_tup (pv 0)) (pg_name (i := 2) sc.nd rfl (Or.inl rfl)) (pss_one (ps_set (i := 1) sc.nd rfl (Or.inl rfl) (pe_op op_mul (pv 1) (pv 2))))) (pss_one (ps_ret (pv 1))))), ?_⟩
    cases hv with
    | @cons v0 vs d ds hv0 hn =>
      cases hn
      refine q_asg (G := G) (d_c (.int 1)) wf fun v1 G1 H1 s1 h1 => ?_
      cases h1
      refine s_forT (as := n.map PyData.int) (d_var rfl (hv0.mono s1.g)) s1.w (fun i σ G' => ∃ o, σ = [some v0, some (.int (prod (n.take i))), o]) (fun G2 H2 s2 => ⟨none, rfl⟩) ?_ ?_
      · rintro G2 H2 s2 i v a σ G3 H3 hi s3 ⟨o, rfl⟩ hq
        rw [List.getElem?_map] at hi
        obtain ⟨x, hx, rfl⟩ := Option.map_eq_some_iff.mp hi
        cases hq
        refine s_asg (G := G3) (i := 1) (d_op (d_var rfl (.int _)) (d_var rfl (.int x)) (opd_I (z := .int (prod (n.take i) * x)) (.inr (hb x (List.mem_of_getElem? hx))) fun _ => .int _)) s3.w fun v G4 H4 s4 hv => ?_
        cases hv
        exact ⟨G4, s3.trans s4, _, by unfold prod; rw [foldl_take _ _ hx]; rfl⟩
      · rintro σ G2 H2 s2 ⟨o, rfl⟩
        (rw [List.length_map, List.take_length])
        exact s_ret (G := G2) (d := .int (prod n)) (d_var rfl (.int _)) s2.w fun v G3 H3 s3 hv => k v G3 H3 ((s1.trans s2).trans s3) hv
theorem ok_nothing_of {f : Addr} {fd : FuncData} (Z : Zs mg) (F : Fun K "nothing_of" "nothing_of" s_nothing_of f fd) : FnOk P w K mg base CX0 1 f fd ["dials"] (SpR R_nothing_of) := by
  have sc : FnScope ["dials"] ["dials"] (defScope s_nothing_of) := ⟨rfl, rfl, rfl, by decide +kernel, rfl, by decide +kernel, by decide +kernel⟩
  refine F.ok sc (fun vs H Q E h => ?_) (fun cdv A outer s H vs Q E hr h => ?_)
  · obtain ⟨G, ds, z, _, hv, ⟨n, rfl, _⟩, _⟩ := h
    exact hv.len
  · obtain ⟨G, ds, z, wf, hv, ⟨n, rfl, h1, h2, rfl⟩, k⟩ := h
    refine ⟨_, (pss_one (ps_ret (pe_op (r := rRepA K) op_repA (pe_tup (pa_cons pe_int pa_nil)) (pe_callB (r := rLenA K) call_len_seq (by rfl) Z.len PySem.boot_len (pa_cons (pv 0) pa_nil))))), ?_⟩
    cases hv with
    | @cons v0 vs d ds hv0 hn =>
      cases hn
      refine s_ret (G := G) (d := dI (zeros n)) ?_ wf fun v G3 H3 s3 hv => k v G3 H3 s3 hv
      have e : dI (zeros n) = .tuple (List.replicate (n.map PyData.int).length [PyData.int 0]).flatten := by
        unfold dI zeros
        rw [List.length_map]
        congr 1
        induction n.length with
        | zero => rfl
        | succ m ih => rw [List.replicate_succ, List.replicate_succ, List.flatten_cons, List.map_cons, ih]; rfl
      rw [e]
      exact d_op (d_tup (a_cons (d_c (.int 0)) a_nil) (by decide)) (d_cb (a_cons (d_var rfl hv0) a_nil) cad_lenT) (opd_rep (by simp) (by rw [List.length_map]; exact h1) (by rw [List.length_map]; exact h2) (by decide))
theorem ok_add {f : Addr} {fd : FuncData} (Z : Zs mg) (F : Fun K "add" "add" s_add f fd) : FnOk P w K mg base CX0 1 f fd ["dials", "one", "other"] (SpR R_add) := by
  have sc : FnScope ["dials", "one", "other", "here", "there", "size"] ["dials", "one", "other"] (defScope s_add) := ⟨rfl, rfl, rfl, by decide +kernel, rfl, by decide +kernel, by decide +kernel⟩
  refine F.ok sc (fun vs H Q E h => ?_) (fun cdv A outer s H vs Q E hr h => ?_)
  · obtain ⟨G, ds, z, _, hv, ⟨n, a, b, rfl, _⟩, _⟩ := h
    exact hv.len
  · obtain ⟨G, ds, z, wf, hv, ⟨n, a, b, rfl, h1, h2, h3, h4, rfl⟩, k⟩ := h
    refine ⟨_, (pss_one (ps_ret (pe_callTy (r := rTupOf K) call_tuple_of (by rfl) Z.tuple (by decide +kernel) (pa_cons (pe_lc (own := [("here", 3), ("there", 4), ("size", 5)]) (g := gTup K 3 (gCons (gName 3) (gCons (gName 4) (gCons (gName 5) gNil)))) (tt := tYes) (by rfl) sc.nd (pi_zip3 false false false (by rfl) Z.zip (pa_cons (pv 1) (pa_cons (pv 2) (pa_cons (pv 0) pa_nil)))) (blkOk_by (N := ["dials", "one", "other", "here", "there", "size"]) (sc := defScope s_add) (by decide +kernel)) (fun _ _ _ _ _ => (pg_tup rfl (pgs_cons (pg_name (i := 3) sc.nd rfl (Or.inl rfl)) (pgs_cons (pg_name (i := 4) sc.nd rfl (Or.inl rfl)) (pgs_cons (pg_name (i := 5) sc.nd rfl (Or.inl rfl)) pgs_nil))))) (fun _ _ _ _ _ => pts_nil) (fun _ _ _ _ _ => (pe_op op_mod (pe_op op_add (pv 3) (pv 4)) (pv 5)))) pa_nil)))), ?_⟩
    cases hv with
    | @cons v0 vs d ds hv0 hn =>
      cases hn with
      | @cons v1 vs d ds hv1 hn =>
        cases hn with
        | @cons v2 vs d ds hv2 hn =>
          cases hn
          refine s_ret (G := G) (d := dI (addP n a b)) ?_ wf fun v G3 H3 s3 hv => k v G3 H3 s3 hv
          refine d_cb (a_cons ?_ a_nil) cad_tuple
          rw [← addP_D n a b h1 h2]
          refine d_lcZ3 (k1 := false) (k2 := false) (k3 := false) (as := a.map PyData.int) (bs := b.map PyData.int) (cs := n.map PyData.int) (fun _ => true) _ (a_cons (d_var rfl hv1) (a_cons (d_var rfl hv2) (a_cons (d_var rfl hv0) a_nil))) (by rw [List.length_map]; omega) (by simp only [List.length_map]; omega) (fun _ _ _ => rfl)
            (fun _ _ _ _ _ _ _ _ _ _ _ _ => b_yes) ?_
          rintro x y z da db dc G1 e1 hm hx hy hz _
          obtain ⟨i, j, s, rfl, rfl, rfl, hs⟩ := zip3_ints n a b h4 hm
          exact d_op (d_op (d_var rfl hx) (d_var rfl hy) (opd_I0 fun _ => .int (i + j))) (d_var rfl hz) (opd_I hs fun _ => .int _)
end
end Mv


namespace Mv
open PySem L2 Evl

/-! ### isinstance over data -/
def tyD : D → String
  | .none => "NoneType"
  | .bool _ => "bool"
  | .int _ => "int"
  | .str _ => "str"
  | .list _ => "list"
  | .tuple _ => "tuple"
  | .dict _ => "dict"
theorem tyX_of {K : PySem.W.Frag} {G H : Hp} (e : Ex G H) {v : V} {d : D} (h : Dq G v d) : TyY K H v (.type (tyD d)) := by
  cases h with
  | non => exact .x (.base .non)
  | bl b => exact .x (.base (.bl b))
  | int i => exact .x (.base (.int i))
  | str x => exact .x (.base (.str x))
  | lst h _ => exact .x (.base (.lst (e _ _ h)))
  | tup h _ => exact .x (.base (.tup (e _ _ h)))
  | emp h _ => exact .x (.base (.dK (e _ _ h)))
  | dct h _ _ => exact .d (e _ _ h)
theorem kit_tab : (["NoneType", "bool", "int", "str", "list", "tuple", "dict"].all fun a => ["bool", "int", "list", "tuple", "dict"].all fun b => kitB a b == some (a == b || (a == "bool" && b == "int"))) = true := by decide +kernel
theorem kit_of_D (d : D) {c : String} (hc : c ∈ ["bool", "int", "list", "tuple", "dict"]) : kitB (tyD d) c = some (tyD d == c || (tyD d == "bool" && c == "int")) := by
  have h := List.all_eq_true.mp kit_tab (tyD d) (by cases d <;> simp [tyD])
  have h2 := List.all_eq_true.mp h c hc
  exact eq_of_beq h2
def isD (d : D) (c : String) : Bool := tyD d == c || (tyD d == "bool" && c == "int")
section
variable {K : PySem.W.Frag} {σ : L2.St} {G G' H H' : Hp} {ta tb te tx : TE} {t u : TT} {d e z : D} {ds es : List D}
theorem d_isi {c : String} (hc : c ∈ ["bool", "int", "list", "tuple", "dict"]) (h : EvD ta σ G d) : EvD (tCB (rIsiY K) (tCons ta (tCons (tC (.ty c)) tNil))) σ G (.bool (isD d c)) := fun G1 H1 x w Q q =>
  h G1 H1 x w _ fun v G2 H2 s hv => ⟨v, .ty c, .type (tyD d), .type c, isD d c, rfl, .ty c, tyX_of s.w hv, kit_ty (kit_of_D d hc), q _ G2 H2 s (.bl _)⟩
theorem b_val {b : Bool} (h : EvD te σ G (.bool b)) : EvB (tB te) σ G b := b_B h

/-! ### what the judges say -/
def isNum : D → Bool
  | .int _ => true
  | _ => false
def btw (lo hi : Int) : D → Bool
  | .int i => decide (lo ≤ i) && decide (i ≤ hi)
  | _ => false
def intsD (xs : List D) : List Int := xs.map fun d => match d with | .int i => i | _ => 0
def isDials : D → Bool
  | .tuple xs => (decide (1 ≤ (xs.length : Int)) && decide ((xs.length : Int) ≤ 4)) && (xs.all (btw 2 24) && decide (prod (intsD xs) ≤ 24))
  | _ => false
theorem intsD_of {xs : List D} (h : xs.all (btw 2 24) = true) : xs = (intsD xs).map PyData.int := by
  induction xs with
  | nil => rfl
  | cons d xs ih =>
    rw [List.all_cons, Bool.and_eq_true] at h
    cases d with
    | int i =>
      show _ :: _ = PyData.int i :: (intsD xs).map PyData.int
      rw [← ih h.2]
    | _ => simp [btw] at h
theorem isDials_ok {d : D} (h : isDials d = true) : ∃ n, d = dI n ∧ OkD n := by
  cases d with
  | tuple xs =>
    simp only [isDials, Bool.and_eq_true, decide_eq_true_eq] at h
    obtain ⟨⟨h1, h2⟩, h3, h4⟩ := h
    have e := intsD_of h3
    have el : (intsD xs).length = xs.length := by unfold intsD; rw [List.length_map]
    refine ⟨intsD xs, ?_, ⟨by omega, by omega, fun s hs => ?_, h4⟩⟩
    · show PyData.tuple xs = .tuple ((intsD xs).map PyData.int)
      rw [← e]
    · have hm : PyData.int s ∈ xs := by rw [e]; exact List.mem_map.mpr ⟨s, hs, rfl⟩
      have := List.all_eq_true.mp h3 _ hm
      simpa [btw] using this
  | _ => simp [isDials] at h
theorem isDials_of {n : List Int} (h : OkD n) : isDials (dI n) = true := by
  have e : intsD (n.map PyData.int) = n := by
    unfold intsD; rw [List.map_map]
    exact (List.map_congr_left fun _ _ => rfl).trans (List.map_id n)
  simp only [isDials, dI, Bool.and_eq_true, decide_eq_true_eq, List.length_map, e]
  have h1 := h.lo
  have h2 := h.hi
  refine ⟨⟨by omega, by omega⟩, ?_, h.pr⟩
  rw [List.all_eq_true]
  intro x hx
  obtain ⟨s, hs, rfl⟩ := List.mem_map.mp hx
  have := h.sz s hs
  simp [btw, this.1, this.2]
def R_is_number (ds : List D) (z : D) : Prop := ∃ d, ds = [d] ∧ z = .bool (isNum d)
def R_is_between (ds : List D) (z : D) : Prop := ∃ d lo hi, ds = [d, .int lo, .int hi] ∧ z = .bool (btw lo hi d)
def R_is_dials (ds : List D) (z : D) : Prop := ∃ d, ds = [d] ∧ z = .bool (isDials d)
def R_check_dials (C : Addr) (ds : List D) (r : Except Addr D) : Prop := ∃ d, ds = [d] ∧ r = if isDials d then .ok .none else .error C
def R_halves (C : Addr) (ds : List D) (r : Except Addr D) : Prop := ∃ d, ds = [d] ∧ ((∃ n, d = dI n ∧ OkD n ∧ r = .ok (dL (halvesOf n))) ∨ (isDials d = false ∧ r = .error C))
def R_whole (C : Addr) (ds : List D) (r : Except Addr D) : Prop := ∃ d, ds = [d] ∧ ((∃ n, d = dI n ∧ OkD n ∧ r = .ok (dI (addUp n (placesOf n)))) ∨ (isDials d = false ∧ r = .error C))
end
/-! ### equality of places -/
theorem eqvI : ∀ (a b : List Int), PyData.eqvAll (a.map PyData.int) (b.map PyData.int) = decide (a = b)
  | [], [] => rfl
  | [], y :: b => by simp [PyData.eqvAll]
  | x :: a, [] => by simp [PyData.eqvAll]
  | x :: a, y :: b => by
    rw [List.map_cons, List.map_cons, PyData.eqvAll, PyData.eqv, eqvI a b]
    by_cases h : x = y <;> simp [h]
theorem flat_dI (a : List Int) : flatD (dI a) = true := by
  show flatDs (a.map PyData.int) = true
  induction a with
  | nil => rfl
  | cons x a ih => rw [List.map_cons, flatDs, ih]; rfl
theorem canLay_ints : ∀ a : List Int, PyData.canLayAll0 (a.map PyData.int) = true
  | [] => by simp [PyData.canLayAll0]
  | x :: a => by simp [PyData.canLayAll0, PyData.canLay0, canLay_ints a]
theorem depth_ints : ∀ a : List Int, PyData.depthAll (a.map PyData.int) ≤ 1
  | [] => by simp [PyData.depthAll]
  | x :: a => by
    have := depth_ints a
    (simp only [List.map_cons, PyData.depthAll, PyData.depth])
    omega
theorem shaped_dI (a : List Int) : SeqAt.shaped (dI a) = true := by
  unfold SeqAt.shaped dI
  rw [PyData.canLay0, canLay_ints, PyData.depth]
  have := depth_ints a
  simp
  omega
theorem eqv_dI (a b : List Int) : PyData.eqv (dI a) (dI b) = decide (a = b) := by
  unfold dI
  rw [PyData.eqv]
  exact eqvI a b
section
variable {K : PySem.W.Frag} {σ : L2.St} {G G' H H' : Hp} {ta tb te tx : TE} {t u : TT} {d e z : D} {ds es : List D} {D' : Ends} {tu tz : TS}
theorem opd_eqI (a b : List Int) : OpD (rEqD K) G (dI a) (dI b) (.bool (PyData.eqv (dI a) (dI b))) := opd_eq (flat_dI a) (flat_dI b) (shaped_dI a) (shaped_dI b)
theorem opd_neI (a b : List Int) : OpD (rNeD K) G (dI a) (dI b) (.bool (!PyData.eqv (dI a) (dI b))) := opd_ne (flat_dI a) (flat_dI b) (shaped_dI a) (shaped_dI b)
/-- check_dials(dials), then the rest -/
theorem q_chk {C : Addr} {E : XK} (h : EvD ta σ G d) (w : Ex G H) (h1 : isDials d = false → ∀ G1 H1, Stp G H G1 H1 → E (.ref C) none H1) (h2 : isDials d = true → ∀ G1 H1, Stp G H G1 H1 → tz D' σ H1) :
    tSeq (tDrop (tCall (SpE (R_check_dials C)) [] E (tCons ta tNil))) tz D' σ H := h G H (.refl G) w _ fun v G1 H1 s hv => by
  show SpE (R_check_dials C) ([v] ++ []) H1 (fun _ H1 => tz D' σ H1) E
  refine ⟨G1, [d], _, s.w, .cons hv .nil, ⟨d, rfl, rfl⟩, fun z hz v G2 H2 s2 _ => ?_, fun C' hC G2 H2 s2 => ?_⟩
  · cases hd : isDials d with
    | true => exact h2 hd G2 H2 (s.trans s2)
    | false => rw [hd] at hz; cases hz
  · cases hd : isDials d with
    | true => rw [hd] at hC; cases hC
    | false => rw [hd] at hC; cases hC; exact h1 hd G2 H2 (s.trans s2)
end
def addD (n : List Int) : D → D
  | .tuple xs => dI (addP n (intsD xs) (intsD xs))
  | d => d
theorem intsD_map (a : List Int) : intsD (a.map PyData.int) = a := by
  unfold intsD; rw [List.map_map]
  exact (List.map_congr_left fun _ _ => rfl).trans (List.map_id a)
theorem addD_dI (n p : List Int) (_ : p.length = n.length) : addD n (dI p) = dI (addP n p p) := by
  show dI (addP n (intsD (p.map PyData.int)) (intsD (p.map PyData.int))) = _
  rw [intsD_map]
theorem halves_D (n : List Int) : dL (halvesOf n) = .list (made (fun d => !PyData.eqv d (dI (zeros n)) && PyData.eqv (addD n d) (dI (zeros n))) id ((placesOf n).map dI)) := by
  unfold dL halvesOf made
  rw [List.map_id, List.filter_map]
  congr 2
  refine List.filter_congr fun p hp => ?_
  rw [Function.comp, addD_dI n p (places_in p hp), eqv_dI, eqv_dI]
  by_cases h1 : p = zeros n <;> simp [h1]
/-- a class of the program's own, over ValueError -/
structure ExcC (K : PySem.W.Frag) (mg : Str → Option Value) (x : Str) (C : Addr) : Prop where
  ex : PySem.W.excIn K C [.type "ValueError", .type "Exception", .type "BaseException", .type "object"] "ValueError.__new__" = true
  g : mg x = some (.ref C)
  k : PySem.W.keepIn K (.ref C) = true
  b : PySem.W.subIn K (.ref C) (.type "BaseException") = some true
  t : PySem.W.typeIn K (.ref C) = some (.type "type")
abbrev s_is_number : Stmt := top 18
abbrev s_is_between : Stmt := top 19
abbrev s_is_dials : Stmt := top 25
abbrev s_check_dials : Stmt := top 32
section
variable {P : Program} {w : World} {mg : Str → Option Value} {base : Heap} {K : PySem.W.Frag}
theorem ok_all_places {f : Addr} {fd : FuncData} (Z : Zs mg) (F : Fun K "all_places" "all_places" s_all_places f fd) : FnOk P w K mg base CX0 1 f fd ["dials"] (SpR R_all_places) := by
  have sc : FnScope ["dials", "found", "size", "begin", "at"] ["dials"] (defScope s_all_places) := ⟨rfl, rfl, rfl, by decide +kernel, rfl, by decide +kernel, by decide +kernel⟩
  refine F.ok sc (fun vs H Q E h => ?_) (fun cdv A outer s H vs Q E hr h => ?_)
  · obtain ⟨G, ds, z, _, hv, ⟨n, rfl, _⟩, _⟩ := h
    exact hv.len
  · obtain ⟨G, ds, z, wf, hv, ⟨n, rfl, hn, rfl⟩, k⟩ := h
    refine ⟨_, (pss_cons (ps_set (i := 1) sc.nd rfl (Or.inl rfl) (pe_lst (pa_cons (pe_tup pa_nil) pa_nil))) (pss_cons (ps_for PassesOwn.never rfl (pi_tup (pv 0)) (pg_name (i := 2) sc.nd rfl (Or.inr rfl)) (pss_one (ps_setLc2 (i := 1) (own := [("begin", 3), ("at", 4)]) (vs1 := [4])  (g := gName 3) (g1 := gName 4) (by rfl) sc.nd rfl rfl (sw_true rfl rfl rfl (by decide +kernel)) (pi_list (pv 1)) (blkOk_by (N := ["dials", "found", "size", "begin", "at"]) (sc := defScope s_all_places) (by decide +kernel)) (by decide) (fun _ _ _ _ _ => (pg_name (i := 3) sc.nd rfl (Or.inl rfl))) (fun _ _ _ _ _ => pts_nil) (fun _ _ _ _ _ => (pi_range1 (by rfl) Z.range (pa_cons (pv 2) pa_nil))) (fun _ _ _ _ _ => (pg_name (i := 4) sc.nd rfl (Or.inl rfl))) (fun _ _ _ _ _ => pts_nil) (fun _ _ _ _ _ => (pe_op (r := rCatA K) op_catA (pv 3) (pe_tup (pa_cons (pv 4) pa_nil))))))) (pss_one (ps_ret (pv 1))))), ?_⟩
    cases hv with
    | @cons v0 vs d ds hv0 hnil =>
      cases hnil
      refine q_asg (G := G) (d := dL [[]]) (d_lst (a_cons (d_tup a_nil (by decide)) a_nil) (by decide)) wf fun v1 G1 H1 s1 h1 => ?_
      refine s_forT (as := n.map PyData.int) (d_var rfl (hv0.mono s1.g)) s1.w (fun i σ G' => ∃ v o, σ = [some v0, some v, o, none, none] ∧ Dq G' v (dL (placesOf (n.take i)))) (fun G2 H2 s2 => ⟨v1, none, rfl, h1.mono s2.g⟩) ?_ ?_
      · rintro G2 H2 s2 i v a σ G3 H3 hi s3 ⟨vf, o, rfl, hf⟩ hq
        rw [List.getElem?_map] at hi
        obtain ⟨x, hx, rfl⟩ := Option.map_eq_some_iff.mp hi
        cases hq
        have hx2 := hn.sz x (List.mem_of_getElem? hx)
        have ex : ((x.toNat : Nat) : Int) = x := Int.toNat_of_nonneg (by omega)
        have hl := hn.pl i
        refine s_asg (G := G3) (d := dL (placesOf (n.take (i + 1)))) (i := 1) ?_ s3.w fun v G4 H4 s4 hv => ⟨G4, s3.trans s4, v, _, rfl, hv⟩
        have e2 : placesOf (n.take (i + 1)) = grow (placesOf (n.take i)) x := by unfold placesOf; rw [foldl_take _ _ hx]
        rw [e2, grow_D]
        refine d_lc2LR (as := (placesOf (n.take i)).map dI) (n := x.toNat) _ (d_var rfl hf) (by omega) (by rw [List.length_map]; omega) (fun v a G5 _ _ _ => a_cons (d_var rfl (by rw [ex]; exact .int x)) a_nil) (fun _ => rfl) (fun _ _ => rfl) ?_
        intro v a j G5 e5 ha hq hj
        obtain ⟨b, hb, rfl⟩ := List.mem_map.mp ha
        refine d_op (d_var rfl hq) (d_tup (a_cons (d_var rfl (.int (j : Int))) a_nil) (by show 1 ≤ sizeLine; decide)) (opd_catT ?_)
        have hbl := places_in b hb
        rw [List.length_map, hbl, List.length_take, sizeLine_eq]
        have := hn.hi
        show _ + 1 ≤ _
        omega
      · rintro σ G2 H2 s2 ⟨vf, o, rfl, hf⟩
        rw [List.length_map, List.take_length] at hf
        exact s_ret (G := G2) (d_var rfl hf) s2.w fun v G3 H3 s3 hv => k v G3 H3 ((s1.trans s2).trans s3) hv
theorem ok_add_up {f : Addr} {fd : FuncData} (C_nothing_of : Cal P w K mg base CX0 1 "nothing_of" ["dials"] (SpR R_nothing_of)) (C_add : Cal P w K mg base CX0 1 "add" ["dials", "one", "other"] (SpR R_add)) (F : Fun K "add_up" "add_up" s_add_up f fd) : FnOk P w K mg base CX0 2 f fd ["dials", "several"] (SpR R_add_up) := by
  have sc : FnScope ["dials", "several", "sum_so_far", "place"] ["dials", "several"] (defScope s_add_up) := ⟨rfl, rfl, rfl, by decide +kernel, rfl, by decide +kernel, by decide +kernel⟩
  refine F.ok sc (fun vs H Q E h => ?_) (fun cdv A outer s H vs Q E hr h => ?_)
  · obtain ⟨G, ds, z, _, hv, ⟨n, l, rfl, _⟩, _⟩ := h
    exact hv.len
  · obtain ⟨G, ds, z, wf, hv, ⟨n, l, rfl, h1, h2, h3, h4, rfl⟩, k⟩ := h
    refine ⟨_, (pss_cons (ps_set (i := 2) sc.nd rfl (Or.inl rfl) (pe_cal C_nothing_of (hr.mono (by decide)) pass0 (pa_cons (pv 0) pa_nil))) (pss_cons (ps_for PassesOwn.never rfl (pi_list (pv 1)) (pg_name (i := 3) sc.nd rfl (Or.inl rfl)) (pss_one (ps_set (i := 2) sc.nd rfl (Or.inl rfl) (pe_cal C_add (hr.mono (by decide)) pass0 (pa_cons (pv 0) (pa_cons (pv 2) (pa_cons (pv 3) pa_nil))))))) (pss_one (ps_ret (pv 2))))), ?_⟩
    cases hv with
    | @cons v0 vs d ds hv0 hnil =>
      cases hnil with
      | @cons v1 vs d ds hv1 hnil =>
        cases hnil
        refine q_asg (G := G) (d := dI (zeros n)) (d_cal (a_cons (d_var rfl hv0) a_nil) ⟨n, rfl, h1, h2, rfl⟩) wf fun v2 G1 H1 s1 hz => ?_
        refine s_forL (as := l.map dI) (d_var rfl (hv1.mono s1.g)) s1.w (fun i σ G' => ∃ v o, σ = [some v0, some v1, some v, o] ∧ Dq G' v0 (dI n) ∧ Dq G' v (dI (addUp n (l.take i)))) (fun G2 H2 s2 => ⟨v2, none, rfl, hv0.mono (s1.g.trans s2.g), hz.mono s2.g⟩) ?_ ?_
        · rintro G2 H2 s2 i v a σ G3 H3 hi s3 ⟨vf, o, rfl, hv0', hf⟩ hq
          rw [List.getElem?_map] at hi
          obtain ⟨x, hx, rfl⟩ := Option.map_eq_some_iff.mp hi
          have hx2 := h4 x (List.mem_of_getElem? hx)
          refine s_asg (G := G3) (d := dI (addUp n (l.take (i + 1)))) (i := 2) ?_ s3.w fun v G4 H4 s4 hv => ⟨G4, s3.trans s4, v, _, rfl, hv0'.mono s4.g, hv⟩
          refine d_cal (a_cons (d_var rfl hv0') (a_cons (d_var rfl hf) (a_cons (d_var rfl hq) a_nil))) ⟨n, addUp n (l.take i), x, rfl, addUp_len fun p hp => h4 p (List.mem_of_mem_take hp), hx2, h2, h3, ?_⟩
          unfold addUp
          rw [foldl_take _ _ hx]
        · rintro σ G2 H2 s2 ⟨vf, o, rfl, _, hf⟩
          rw [List.length_map, List.take_length] at hf
          exact s_ret (G := G2) (d_var rfl hf) s2.w fun v G3 H3 s3 hv => k v G3 H3 ((s1.trans s2).trans s3) hv
theorem ok_is_number {f : Addr} {fd : FuncData} (Z : Zs mg) (F : Fun K "is_number" "is_number" s_is_number f fd) : FnOk P w K mg base CX0 1 f fd ["thing"] (SpR R_is_number) := by
  have sc : FnScope ["thing"] ["thing"] (defScope s_is_number) := ⟨rfl, rfl, rfl, by decide +kernel, rfl, by decide +kernel, by decide +kernel⟩
  refine F.ok sc (fun vs H Q E h => ?_) (fun cdv A outer s H vs Q E hr h => ?_)
  · obtain ⟨G, ds, z, _, hv, ⟨n, rfl, _⟩, _⟩ := h
    exact hv.len
  · obtain ⟨G, ds, z, wf, hv, ⟨d, rfl, rfl⟩, k⟩ := h
    refine ⟨_, (pss_one (ps_ret (pe_and (pe_callB (r := rIsiY K) call_isiY (by rfl) Z.isinstance (by decide +kernel) (pa_cons (pv 0) (pa_cons (pe_bltn (v := .ty "int") (u := .type "int") (by rfl) Z.int (by decide +kernel) rfl) pa_nil))) (pe_one (pe_not (pe_callB (r := rIsiY K) call_isiY (by rfl) Z.isinstance (by decide +kernel) (pa_cons (pv 0) (pa_cons (pe_bltn (v := .ty "bool") (u := .type "bool") (by rfl) Z.bool (by decide +kernel) rfl) pa_nil)))))))), ?_⟩
    cases hv with
    | @cons v0 vs d ds hv0 hnil =>
      cases hnil
      refine s_ret (G := G) (d := .bool (isNum d)) ?_ wf fun v G3 H3 s3 hv => k v G3 H3 s3 hv
      refine (d_and (d_isi (by decide) (d_var rfl hv0)) fun _ => d_not (d_isi (by decide) (d_var rfl hv0))).is ?_
      cases d <;> rfl
theorem ok_is_between {f : Addr} {fd : FuncData} (C_is_number : Cal P w K mg base CX0 1 "is_number" ["thing"] (SpR R_is_number)) (F : Fun K "is_between" "is_between" s_is_between f fd) : FnOk P w K mg base CX0 2 f fd ["thing", "low", "high"] (SpR R_is_between) := by
  have sc : FnScope ["thing", "low", "high"] ["thing", "low", "high"] (defScope s_is_between) := ⟨rfl, rfl, rfl, by decide +kernel, rfl, by decide +kernel, by decide +kernel⟩
  refine F.ok sc (fun vs H Q E h => ?_) (fun cdv A outer s H vs Q E hr h => ?_)
  · obtain ⟨G, ds, z, _, hv, ⟨d, lo, hi, rfl, _⟩, _⟩ := h
    exact hv.len
  · obtain ⟨G, ds, z, wf, hv, ⟨d, lo, hi, rfl, rfl⟩, k⟩ := h
    refine ⟨_, (pss_one (ps_ret (pe_and (pe_cal C_is_number (hr.mono (by decide)) pass0 (pa_cons (pv 0) pa_nil)) (pe_one (pe_chain op_le op_le (pv 1) (pv 0) (pv 2)))))), ?_⟩
    cases hv with
    | @cons v0 vs d ds hv0 hnil =>
      cases hnil with
      | @cons v1 vs d1 ds hv1 hnil =>
        cases hnil with
        | @cons v2 vs d2 ds hv2 hnil =>
          cases hnil
          refine s_ret (G := G) (d := .bool (btw lo hi d)) ?_ wf fun v G3 H3 s3 hv => k v G3 H3 s3 hv
          cases hd : isNum d with
          | true =>
            cases d with
            | int i =>
              refine (d_and (a := true) (d_cal (a_cons (d_var rfl hv0) a_nil) ⟨_, rfl, rfl⟩) fun _ => d_chainI (d_var rfl hv1) (d_var rfl hv0) (d_var rfl hv2)).is rfl
            | _ => simp [isNum] at hd
          | false =>
            refine (d_and (a := false) (b := true) (d_cal (a_cons (d_var rfl hv0) a_nil) ⟨_, rfl, by rw [hd]⟩) fun z => nomatch z).is ?_
            cases d <;> first | rfl | simp [isNum] at hd
theorem ok_is_dials {f : Addr} {fd : FuncData} (Z : Zs mg) (C_is_between : Cal P w K mg base CX0 2 "is_between" ["thing", "low", "high"] (SpR R_is_between)) (C_place_count : Cal P w K mg base CX0 1 "place_count" ["dials"] (SpR R_place_count)) (F : Fun K "is_dials" "is_dials" s_is_dials f fd) : FnOk P w K mg base CX0 3 f fd ["thing"] (SpR R_is_dials) := by
  have sc : FnScope ["thing", "size"] ["thing"] (defScope s_is_dials) := ⟨rfl, rfl, rfl, by decide +kernel, rfl, by decide +kernel, by decide +kernel⟩
  refine F.ok sc (fun vs H Q E h => ?_) (fun cdv A outer s H vs Q E hr h => ?_)
  · obtain ⟨G, ds, z, _, hv, ⟨d, rfl, _⟩, _⟩ := h
    exact hv.len
  · obtain ⟨G, ds, z, wf, hv, ⟨d, rfl, rfl⟩, k⟩ := h
    refine ⟨_, (pss_cons (ps_if (PW.pt (pw_or (pt_not (pt_val (pe_callB (r := rIsiY K) call_isiY (by rfl) Z.isinstance (by decide +kernel) (pa_cons (pv 0) (pa_cons (pe_bltn (v := .ty "tuple") (u := .type "tuple") (by rfl) Z.tuple (by decide +kernel) rfl) pa_nil))))) (pw_or1 (pt_not (pt_chain op_le op_le pe_int (pe_callB (r := rLenA K) call_len_seq (by rfl) Z.len PySem.boot_len (pa_cons (pv 0) pa_nil)) pe_int))))) (pss_one (ps_ret pe_bl)) pss_nil) (pss_one (ps_ret (pe_and (pe_callB (r := rAll K) (cr_all (by rfl)) (by rfl) Z.all (by decide +kernel) (pa_cons (pe_lc (own := [("size", 1)]) (g := gName 1) (tt := tYes) (by rfl) sc.nd (pi_tup (pv 0)) (blkOk_by (N := ["thing", "size"]) (sc := defScope s_is_dials) (by decide +kernel)) (fun _ _ _ _ _ => (pg_name (i := 1) sc.nd rfl (Or.inl rfl))) (fun _ _ _ _ _ => pts_nil) (fun _ _ _ _ _ => (pe_cal C_is_between (hr.mono (by decide)) pass0 (pa_cons (pv 1) (pa_cons pe_int (pa_cons pe_int pa_nil)))))) pa_nil)) (pe_one (pe_cmpR op_le (pe_cal C_place_count (hr.mono (by decide)) pass0 (pa_cons (pv 0) pa_nil)) pe_int (nomark _))))))), ?_⟩
    cases hv with
    | @cons v0 vs d ds hv0 hnil =>
      cases hnil
      cases d with
      | tuple xs =>
        refine q_when (G := G) (b := !(decide (1 ≤ (xs.length : Int)) && decide ((xs.length : Int) ≤ 4))) ?_ wf (fun hb G1 H1 s1 => ?_) fun hb G1 H1 s1 => ?_
        · exact b_or (a := false) (b_not (b_B (d_isi (c := "tuple") (by decide) (d_var rfl hv0)))) fun _ => b_not (b_test (d_chainI (d_c (.int 1)) (d_cb (a_cons (d_var rfl hv0) a_nil) cad_lenT) (d_c (.int 4))))
        · refine s_ret (G := G1) (D' := { nx := _, rt := Q }) (d := .bool (isDials (.tuple xs))) (d_c ?_) s1.w fun v G3 H3 s3 hv => k v G3 H3 (s1.trans s3) hv
          have : isDials (.tuple xs) = false := by
            simp only [isDials]
            rw [Bool.not_eq_true'] at hb
            rw [hb]; rfl
          rw [this]; exact .bl false
        · refine s_ret (G := G1) (d := .bool (isDials (.tuple xs))) ?_ s1.w fun v G3 H3 s3 hv => k v G3 H3 (s1.trans s3) hv
          have hb' : (decide (1 ≤ (xs.length : Int)) && decide ((xs.length : Int) ≤ 4)) = true := by simpa using hb
          have hlen : xs.length ≤ 4 := by
            simp only [Bool.and_eq_true, decide_eq_true_eq] at hb'
            omega
          have hv1 := hv0.mono s1.g
          refine (d_and (a := xs.all (btw 2 24)) (b := decide (prod (intsD xs) ≤ 24)) ?_ fun ha => ?_).is ?_
          · have e : xs.all (btw 2 24) = ((xs.map (btw 2 24)).all id) := by rw [List.all_map]; rfl
            rw [e]
            refine d_cb (a_cons ?_ a_nil) cad_all
            refine (d_lcT (as := xs) (fun _ => true) (fun d => .bool (btw 2 24 d)) (d_var rfl hv1) (by omega) (fun _ => rfl) (fun _ _ _ _ _ _ => b_yes) ?_).is ?_
            · intro v a G2 e2 _ hq _
              exact d_cal (a_cons (d_var rfl hq) (a_cons (d_c (.int 2)) (a_cons (d_c (.int 24)) a_nil))) ⟨a, 2, 24, rfl, rfl⟩
            · unfold made
              rw [List.filter_eq_self.mpr (fun _ _ => rfl), List.map_map]; rfl
          · have e := intsD_of ha
            refine d_op (d := .int (prod (intsD xs))) (e := .int 24) (d_cal (ds := [.tuple xs]) (a_cons (d_var rfl hv1) a_nil) ⟨intsD xs, by rw [← show dI (intsD xs) = .tuple xs from by unfold dI; rw [← e]], fun s hs => ?_, rfl⟩) (d_c (.int 24)) (opd_I0 fun _ => .bl _)
            have hm : PyData.int s ∈ xs := by rw [e]; exact List.mem_map.mpr ⟨s, hs, rfl⟩
            have := List.all_eq_true.mp ha _ hm
            simp only [btw, Bool.and_eq_true, decide_eq_true_eq] at this
            exact ⟨by omega, by omega⟩
          · simp only [isDials]
            rw [hb', Bool.true_and]
      | _ =>
        refine q_when (G := G) (D' := { nx := fun _ H' => Q .non H', rt := Q }) (b := true) (b_or (a := true) (b := true) (b_not (b_B (d_isi (c := "tuple") (by decide) (d_var rfl hv0)))) fun z => nomatch z) wf (fun _ G1 H1 s1 => ?_) fun z => nomatch z
        refine s_ret (G := G1) (D' := { nx := _, rt := Q }) (d := .bool false) (d_c (.bl false)) s1.w fun v G3 H3 s3 hv => ?_
        exact k v G3 H3 (s1.trans s3) hv
theorem ok_check_dials {f C : Addr} {fd : FuncData} (B : ExcC K mg "BadDials" C) (C_is_dials : Cal P w K mg base CX0 3 "is_dials" ["thing"] (SpR R_is_dials)) (F : Fun K "check_dials" "check_dials" s_check_dials f fd) : FnOk P w K mg base (L2.CX P w) 4 f fd ["dials"] (SpE (R_check_dials C)) := by
  have sc : FnScope ["dials"] ["dials"] (defScope s_check_dials) := ⟨rfl, rfl, rfl, by decide +kernel, rfl, by decide +kernel, by decide +kernel⟩
  refine F.okX sc (fun vs H Q E h => ?_) (fun cdv A outer s H vs Q E hr h => ?_)
  · obtain ⟨G, ds, z, _, hv, ⟨d, rfl, _⟩, _⟩ := h
    exact hv.len
  · obtain ⟨G, ds, r, wf, hv, ⟨d, rfl, rfl⟩, k, ke⟩ := h
    refine ⟨_, (pss_one (ps_if (pt_not (pt_val (pe_cal C_is_dials (hr.mono (by decide)) pass0 (pa_cons (pv 0) pa_nil)))) (pss_one (ps_raise rfl (takes_of rfl rfl rfl rfl) (pmk_own PySem.F.excBase_ValueError B.ex B.g B.k (raises_own B.b B.t) rfl))) pss_nil)), ?_⟩
    cases hv with
    | @cons v0 vs d ds hv0 hnil =>
      cases hnil
      refine s_if (G := G) (b := !isDials d) (b_not (b_B (d_cal (a_cons (d_var rfl hv0) a_nil) ⟨d, rfl, rfl⟩))) wf (fun hb G1 H1 s1 => ?_) fun hb G1 H1 s1 => ?_
      · exact ke C (by rw [if_neg (by simpa using hb)]) G1 H1 s1
      · exact k .none (by rw [if_pos (by simpa using hb)]) .non G1 H1 s1 .non
end
end Mv


namespace Mv
open PySem L2 Evl

/-! ### the state that draws: a dict at s, its two lists at l and c -/
def stK (l c : Addr) (left turn : Int) : List (Key × V) := [(Sum.inr ("large" : Str), .ref l), (Sum.inr ("cells" : Str), .ref c), (Sum.inr ("left" : Str), .int left), (Sum.inr ("turn" : Str), .int turn)]
theorem ne1 : ¬ ((Sum.inr ("large" : Str) : Key) = Sum.inr ("cells" : Str)) := fun h => absurd (Sum.inr.inj h) (by decide +kernel)
theorem ne2 : ¬ ((Sum.inr ("large" : Str) : Key) = Sum.inr ("left" : Str)) := fun h => absurd (Sum.inr.inj h) (by decide +kernel)
theorem ne3 : ¬ ((Sum.inr ("large" : Str) : Key) = Sum.inr ("turn" : Str)) := fun h => absurd (Sum.inr.inj h) (by decide +kernel)
theorem ne4 : ¬ ((Sum.inr ("cells" : Str) : Key) = Sum.inr ("left" : Str)) := fun h => absurd (Sum.inr.inj h) (by decide +kernel)
theorem ne5 : ¬ ((Sum.inr ("cells" : Str) : Key) = Sum.inr ("turn" : Str)) := fun h => absurd (Sum.inr.inj h) (by decide +kernel)
theorem ne6 : ¬ ((Sum.inr ("left" : Str) : Key) = Sum.inr ("turn" : Str)) := fun h => absurd (Sum.inr.inj h) (by decide +kernel)
section
variable (l c : Addr) (left turn x : Int)
theorem v_large : valV (stK l c left turn) (Sum.inr ("large" : Str)) = some (.ref l) := valV_pos rfl
theorem v_cells : valV (stK l c left turn) (Sum.inr ("cells" : Str)) = some (.ref c) := by unfold stK; rw [valV_neg ne1, valV_pos rfl]
theorem v_left : valV (stK l c left turn) (Sum.inr ("left" : Str)) = some (.int left) := by unfold stK; rw [valV_neg ne2, valV_neg ne4, valV_pos rfl]
theorem v_turn : valV (stK l c left turn) (Sum.inr ("turn" : Str)) = some (.int turn) := by unfold stK; rw [valV_neg ne3, valV_neg ne5, valV_neg ne6, valV_pos rfl]
theorem p_left : putK (stK l c left turn) (Sum.inr ("left" : Str)) (.int x) = stK l c x turn := by
  have e : ((stK l c left turn).any fun kv => decide (kv.1 = Sum.inr ("left" : Str))) = true := by rw [valV_any, v_left]; rfl
  unfold putK
  rw [if_pos e]
  unfold stK
  simp only [List.map_cons, List.map_nil]
  rw [if_neg ne2, if_neg ne4, if_true, if_neg (fun h => ne6 h.symm)]
theorem p_turn : putK (stK l c left turn) (Sum.inr ("turn" : Str)) (.int x) = stK l c left x := by
  have e : ((stK l c left turn).any fun kv => decide (kv.1 = Sum.inr ("turn" : Str))) = true := by rw [valV_any, v_turn]; rfl
  unfold putK
  rw [if_pos e]
  unfold stK
  simp only [List.map_cons, List.map_nil]
  rw [if_neg ne3, if_neg ne5, if_neg ne6, if_true]
end
structure StAt (H : Hp) (s l c : Addr) (T : Int) : Prop where
  ex : ∃ (lg cs : List Int) (left turn : Int), H s = some (.dK (stK l c left turn)) ∧ H l = some (.lst (lg.map V.int)) ∧ H c = some (.lst (cs.map V.int)) ∧ (∀ x ∈ lg, 0 ≤ x) ∧ (∀ x ∈ cs, 0 ≤ x) ∧ 0 ≤ left ∧ 0 ≤ turn ∧ turn ≤ T
  lc : l ≠ c
/-- what is known, what stands, the state beside -/
structure Wd (G H : Hp) (s l c : Addr) (T : Int) : Prop where
  w : Ex G H
  st : StAt H s l c T
  gs : G s = none
  gl : G l = none
  gc : G c = none
theorem StAt.mono {H H' : Hp} {s l c : Addr} {T : Int} (x : StAt H s l c T) (e : Ex H H') : StAt H' s l c T := by
  obtain ⟨⟨lg, cs, left, turn, h1, h2, h3, h⟩, q⟩ := x
  exact ⟨⟨lg, cs, left, turn, e _ _ h1, e _ _ h2, e _ _ h3, h⟩, q⟩
theorem StAt.ge {H : Hp} {s l c : Addr} {T T' : Int} (x : StAt H s l c T) (e : T ≤ T') : StAt H s l c T' := by
  obtain ⟨⟨lg, cs, left, turn, h1, h2, h3, h4, h5, h6, h7, h8⟩, q⟩ := x
  exact ⟨⟨lg, cs, left, turn, h1, h2, h3, h4, h5, h6, h7, by omega⟩, q⟩
theorem StAt.at {H : Hp} {s l c : Addr} {T : Int} (x : StAt H s l c T) : (∃ o, H s = some o ∧ ∀ xs, o ≠ .tup xs) ∧ (∃ o, H l = some o ∧ ∀ xs, o ≠ .tup xs) ∧ ∃ o, H c = some o ∧ ∀ xs, o ≠ .tup xs := by
  obtain ⟨⟨lg, cs, left, turn, h1, h2, h3, h⟩, q⟩ := x
  exact ⟨⟨_, h1, fun _ z => nomatch z⟩, ⟨_, h2, fun _ z => nomatch z⟩, ⟨_, h3, fun _ z => nomatch z⟩⟩
theorem StAt.apart {H : Hp} {s l c : Addr} {T : Int} (x : StAt H s l c T) : s ≠ l ∧ s ≠ c := by
  obtain ⟨⟨lg, cs, left, turn, h1, h2, h3, h⟩, q⟩ := x
  exact ⟨ne_of h1 h2 (by intro z; cases z), ne_of h1 h3 (by intro z; cases z)⟩
/-- a step beside the state -/
theorem Wd.stp {G H G' H' : Hp} {s l c : Addr} {T : Int} (x : Wd G H s l c T) (p : Stp G H G' H') : Wd G' H' s l c T := by
  obtain ⟨⟨o1, e1, m1⟩, ⟨o2, e2, m2⟩, o3, e3, m3⟩ := x.st.at
  have gone : ∀ {b : Addr} {o : HO}, G b = none → H b = some o → (∀ xs, o ≠ .tup xs) → G' b = none := fun {b o} q e m => p.n b q (by rw [e]; intro z; cases z) fun xs z => m xs (Option.some.inj (e.symm.trans z))
  exact ⟨p.w, x.st.mono p.h, gone x.gs e1 m1, gone x.gl e2 m2, gone x.gc e3 m3⟩
/-- a step that may change the state -/
structure StS (S : List Addr) (G H G' H' : Hp) : Prop where
  g : Ex G G'
  h : ∀ b o, b ∉ S → H b = some o → H' b = some o
  k : ∀ b, b ∈ S → H b ≠ none → H' b ≠ none ∧ ((∀ xs, H b ≠ some (.tup xs)) → ∀ xs, H' b ≠ some (.tup xs))
  w : Ex G' H'
  n : ∀ b, G b = none → H b ≠ none → (∀ xs, H b ≠ some (.tup xs)) → G' b = none
theorem kept_some {H H' : Hp} (h : Ex H H') {b : Addr} (q : H b ≠ none) : H' b ≠ none := by
  cases e : H b with
  | none => exact (q e).elim
  | some o => rw [h b o e]; exact fun z => nomatch z
theorem kept_mut {H H' : Hp} (h : Ex H H') {b : Addr} (q : H b ≠ none) (m : ∀ xs, H b ≠ some (.tup xs)) : H' b ≠ none ∧ ∀ xs, H' b ≠ some (.tup xs) := by
  cases e : H b with
  | none => exact (q e).elim
  | some o => rw [h b o e]; exact ⟨(fun z => nomatch z), fun xs z => m xs (e.trans z)⟩
theorem Stp.toS {S : List Addr} {G H G' H' : Hp} (p : Stp G H G' H') : StS S G H G' H' := ⟨p.g, fun b o _ q => p.h b o q, fun b _ q => ⟨kept_some p.h q, fun m => (kept_mut p.h q m).2⟩, p.w, p.n⟩
theorem StS.keep {S : List Addr} {G H G' H' : Hp} (a : StS S G H G' H') {c : Addr} (q : H c ≠ none) (m : ∀ xs, H c ≠ some (.tup xs)) : H' c ≠ none ∧ ∀ xs, H' c ≠ some (.tup xs) := by
  by_cases hc : c ∈ S
  · exact ⟨(a.k c hc q).1, (a.k c hc q).2 m⟩
  · cases e : H c with
    | none => exact (q e).elim
    | some o => rw [a.h c o hc e]; exact ⟨(fun z => nomatch z), fun xs z => m xs (e.trans z)⟩
theorem StS.trans {S : List Addr} {G H G1 H1 G2 H2 : Hp} (a : StS S G H G1 H1) (b : StS S G1 H1 G2 H2) : StS S G H G2 H2 :=
  ⟨a.g.trans b.g, fun c o hc q => b.h c o hc (a.h c o hc q), fun c hc q => ⟨(b.k c hc (a.k c hc q).1).1, fun m => (b.k c hc (a.k c hc q).1).2 ((a.k c hc q).2 m)⟩, b.w, fun c h1 h2 m => b.n c (a.n c h1 h2 m) (a.keep h2 m).1 (a.keep h2 m).2⟩
theorem StS.refl {S : List Addr} {G H : Hp} (e : Ex G H) : StS S G H G H := (Stp.refl e).toS
theorem q_whileW {c : TT} {tb tz : TS} {D' : Ends} {σ : L2.St} {H : Hp} (W : Nat → L2.St → Hp → Prop) (Nd : L2.St → Hp → Prop) (h0 : ∃ m, W m σ H)
    (hs : ∀ R : L2.St → Hp → Prop, (∀ σ' H', Nd σ' H' → R σ' H') → ∀ m σ H, W m σ H → c σ H fun b H1 => if b = true then ∃ N : L2.St → Hp → Prop, (∀ σ' H', N σ' H' → ∃ m', m' < m ∧ W m' σ' H') ∧ tb { D' with nx := N, ct := N, bk := R } σ H1 else R σ H1)
    (hd : ∀ σ' H', Nd σ' H' → tz D' σ' H') : tSeq (tWhile c tb) tz D' σ H := ⟨W, h0, fun m σ H hw => hs (tz D') hd m σ H hw⟩
theorem q_asgW {te : TE} {tz : TS} {D' : Ends} {i : Nat} {σ : L2.St} {H : Hp} (Pv : V → Hp → Prop) (h : ∀ Q : VK, (∀ v H', Pv v H' → Q v H') → te σ H Q) (k : ∀ v H', Pv v H' → tz D' (σ.set i (some v)) H') : tSeq (tAsg te (gName i)) tz D' σ H := h _ k
/-- draw(state, n): a number from 0 to n - 1 -/
def SpDraw : Sp := fun vs H Q _ => ∃ (G : Hp) (s l c : Addr) (T n : Int), vs = [.ref s, .int n] ∧ Wd G H s l c T ∧ 0 < n ∧ n < 1073741824 ∧ T < 1000000000000 ∧
  ∀ r H', 0 ≤ r → r < n → Wd G H' s l c (T + 1) → StS [s, l, c] G H G H' → Q (.int r) H'
theorem st_get {i : Nat} {key : Str} {σ : L2.St} {H : Hp} {s : Addr} {kvs : List (Key × V)} {v : V} {Q : VK} (hσ : σ[i]? = some (some (.ref s))) (hd : H s = some (.dK kvs)) (hv : valV kvs (Sum.inr key) = some v) (q : Q v H) :
    tDGet (tVar i) (tC (.str key)) σ H Q := ⟨.ref s, hσ, s, v, rfl, by have := DGet.k (k := Sum.inr key) hd; rw [hv] at this; exact this, q⟩
theorem dp_ints {K : PySem.W.Frag} {H : Hp} {a : Addr} {ns : List Int} (h : H a = some (.lst (ns.map V.int))) : Dp K H (.ref a) (.list (ns.map PyData.int)) := by
  refine .lst (SqL.of h) ?_
  clear h
  induction ns with
  | nil => exact .nil
  | cons x ns ih => exact .cons (.int x) ih
theorem shaped_lI (a : List Int) : SeqAt.shaped (.list (a.map PyData.int)) = true := by
  unfold SeqAt.shaped
  rw [PyData.canLay0, canLay_ints, PyData.depth]
  have := depth_ints a
  simp
  omega
theorem eqv_nil (a : List Int) : PyData.eqv (.list (a.map PyData.int)) (.list []) = a.isEmpty := by
  rw [PyData.eqv]
  cases a <;> simp [PyData.eqvAll]
/-- xs != [] over a list of ints -/
theorem ne_nil {K : PySem.W.Frag} {H : Hp} {a : Addr} {ns : List Int} {σ : L2.St} {Q : VK} (h : H a = some (.lst (ns.map V.int))) (q : ∀ p, H p = none → Q (.bl (!ns.isEmpty)) (upd H p (.lst []))) :
    tLst tNil σ H fun y H2 => rNeD K (.ref a) y H2 Q := ⟨Nat.zero_le _, fun p hp => ⟨.list (ns.map PyData.int), .list [], dp_ints (by rw [upd_ne (ne_of_none h hp)]; exact h), .lst (SqL.of upd_same) .nil, shaped_lI ns, by decide +kernel, by
  rw [eqv_nil]; exact q p hp⟩⟩
abbrev s__law_draw : Stmt := top 51
abbrev s__law_begun : Stmt := top 50
abbrev s__law_pick : Stmt := top 52
section
variable {P : Program} {w : World} {mg : Str → Option Value} {base : Heap} {K : PySem.W.Frag}
/-- the state changed at s alone, or at s and l; all else as it was -/
theorem wd_upd {G H H' : Hp} {s l c : Addr} {T T' : Int} (x : Wd G H s l c T) (k : ∀ b o, b ≠ s → b ≠ l → H b = some o → H' b = some o) (st : StAt H' s l c T') : Wd G H' s l c T' ∧ StS [s, l, c] G H G H' := by
  have w' : Ex G H' := fun b o q => k b o (fun z => by rw [z, x.gs] at q; cases q) (fun z => by rw [z, x.gl] at q; cases q) (x.w b o q)
  refine ⟨⟨w', st, x.gs, x.gl, x.gc⟩, ⟨.refl G, fun b o hb q => k b o (fun z => hb (by simp [z])) (fun z => hb (by simp [z])) q, fun b hb q => ?_, w', fun b h _ _ => h⟩⟩
  obtain ⟨⟨o1, e1, m1⟩, ⟨o2, e2, m2⟩, o3, e3, m3⟩ := st.at
  simp only [List.mem_cons, List.not_mem_nil, or_false] at hb
  rcases hb with z | z | z
  · rw [z, e1]; exact ⟨(fun y => nomatch y), fun _ xs y => m1 xs (Option.some.inj y)⟩
  · rw [z, e2]; exact ⟨(fun y => nomatch y), fun _ xs y => m2 xs (Option.some.inj y)⟩
  · rw [z, e3]; exact ⟨(fun y => nomatch y), fun _ xs y => m3 xs (Option.some.inj y)⟩
theorem ok__law_draw {f : Addr} {fd : FuncData} (Z : Zs mg) (F : Fun K "_law_draw" "_law_draw" s__law_draw f fd) : FnOk P w K mg base CX0 1 f fd ["state", "size_here"] SpDraw := by
  have sc : FnScope ["state", "size_here", "found", "turn", "cell", "mixed"] ["state", "size_here"] (defScope s__law_draw) := ⟨rfl, rfl, rfl, by decide +kernel, rfl, by decide +kernel, by decide +kernel⟩
  refine F.ok sc (fun vs H Q E h => ?_) (fun cdv A outer s H vs Q E hr h => ?_)
  · obtain ⟨G, s, l, c, T, n, rfl, _⟩ := h
    rfl
  · obtain ⟨G, s, l, c, T, n, rfl, wd, n1, n2, hT, k⟩ := h
    have hu := hu_of hr
    refine ⟨_, (pss_cons (ps_while PassesOwn.never (PW.pt (pw_and (pt_cmpR op_eq (pe_dget hu (pv 0) pe_str (fun _ _ => rfl)) pe_int (nomark _)) (pw_and1 (pt_cmpR (r := rNeD K) (op_neD hr.units) (pe_dget hu (pv 0) pe_str (fun _ _ => rfl)) (pe_lst pa_nil) (nomark _))))) (pss_one (ps_dput hu (pv 0) pe_str (pe_bm PySem.F.plainAttrs_list PySem.F.slot_list_pop PySem.F.type_list_pop mt_popAt (pe_dget hu (pv 0) pe_str (fun _ _ => rfl)) (pa_cons pe_int pa_nil)) rfl))) (pss_cons (ps_if (pt_cmpR op_gt (pe_dget hu (pv 0) pe_str (fun _ _ => rfl)) pe_int (nomark _)) (pss_cons (ps_set (i := 2) sc.nd rfl (Or.inl rfl) (pe_op op_mod (pe_callTy call_int1 (by rfl) Z.int (by decide +kernel) (pa_cons (pe_dget hu (pv 0) pe_str (fun _ _ => rfl)) pa_nil)) (pv 1))) (pss_cons (ps_dput hu (pv 0) pe_str (pe_op op_fdiv (pe_dget hu (pv 0) pe_str (fun _ _ => rfl)) (pv 1)) rfl) (pss_one (ps_ret (pv 2))))) pss_nil) (pss_cons (ps_set (i := 3) sc.nd rfl (Or.inl rfl) (pe_op op_add (pe_dget hu (pv 0) pe_str (fun _ _ => rfl)) pe_int)) (pss_cons (ps_dput hu (pv 0) pe_str (pv 3) rfl) (pss_cons (ps_set (i := 4) sc.nd rfl (Or.inl rfl) (pe_ifExp (pt_cmpR (r := rNeD K) (op_neD hr.units) (pe_dget hu (pv 0) pe_str (fun _ _ => rfl)) (pe_lst pa_nil) (nomark _)) (pe_ix (r := rIxL K) ix_list (pe_dget hu (pv 0) pe_str (fun _ _ => rfl)) (pe_op op_mod (pe_callTy call_int1 (by rfl) Z.int (by decide +kernel) (pa_cons (pv 3) pa_nil)) (pe_callB (r := rLenA K) call_len_seq (by rfl) Z.len PySem.boot_len (pa_cons (pe_dget hu (pv 0) pe_str (fun _ _ => rfl)) pa_nil))) (fun _ _ => rfl)) pe_int)) (pss_cons (ps_set (i := 5) sc.nd rfl (Or.inl rfl) (pe_op op_mod (pe_callTy call_int1 (by rfl) Z.int (by decide +kernel) (pa_cons (pe_op op_pow (pe_op op_add (pe_op op_add (pe_op op_mod (pe_callTy call_int1 (by rfl) Z.int (by decide +kernel) (pa_cons (pv 4) pa_nil)) pe_int) (pe_op op_mul pe_int (pv 3))) pe_int) pe_int) pa_nil)) pe_int)) (pss_one (ps_ret (pe_op op_mod (pe_callTy call_int1 (by rfl) Z.int (by decide +kernel) (pa_cons (pe_op op_fdiv (pe_op op_mod (pe_callTy call_int1 (by rfl) Z.int (by decide +kernel) (pa_cons (pe_op op_pow (pe_op op_add (pv 5) (pe_op op_mul pe_int (pv 3))) pe_int) pa_nil)) pe_int) pe_int) pa_nil)) (pv 1)))))))))), ?_⟩
    -- while left == 0 and large != []: left = large.pop(0)
    refine q_whileW (fun m σ H' => σ = [some (.ref s), some (.int n), none, none, none, none] ∧ Wd G H' s l c T ∧ StS [s, l, c] G H G H' ∧ ∃ (lg cs : List Int) (left turn : Int), lg.length = m ∧ H' s = some (.dK (stK l c left turn)) ∧ H' l = some (.lst (lg.map V.int)) ∧ H' c = some (.lst (cs.map V.int)) ∧ (∀ x ∈ lg, 0 ≤ x) ∧ (∀ x ∈ cs, 0 ≤ x) ∧ 0 ≤ left ∧ 0 ≤ turn ∧ turn ≤ T)
      (fun σ H' => σ = [some (.ref s), some (.int n), none, none, none, none] ∧ Wd G H' s l c T ∧ StS [s, l, c] G H G H') ?_ ?_ ?_
    · obtain ⟨lg, cs, left, turn, h⟩ := wd.st.ex
      exact ⟨lg.length, rfl, wd, .refl wd.w, lg, cs, left, turn, rfl, h⟩
    · rintro R hR m σ H1 ⟨rfl, wd1, ss1, lg, cs, left, turn, rfl, hs, hl, hc, plg, pcs, pl, pt, ptT⟩
      refine st_get rfl hs (v_left l c left turn) ?_
      refine ⟨rfl, _, rfl, ?_⟩
      refine ite2 (fun h0 => ?_) (fun h0 => ?_)
      · refine st_get rfl hs (v_large l c left turn) ?_
        refine ne_nil hl fun p hp => ⟨_, rfl, ?_⟩
        have e2 : Ex H1 (upd H1 p (.lst [])) := .new hp
        cases lg with
        | nil => exact iteF (hR _ _ ⟨rfl, wd1.stp (.old wd1.w e2), ss1.trans (Stp.old wd1.w e2).toS⟩)
        | cons x lg =>
          refine iteT ⟨fun σ H' => σ = [some (.ref s), some (.int n), none, none, none, none] ∧ Wd G H' s l c T ∧ StS [s, l, c] G H G H' ∧ ∃ (lg' cs : List Int) (left turn : Int), lg'.length = lg.length ∧ H' s = some (.dK (stK l c left turn)) ∧ H' l = some (.lst (lg'.map V.int)) ∧ H' c = some (.lst (cs.map V.int)) ∧ (∀ x ∈ lg', 0 ≤ x) ∧ (∀ x ∈ cs, 0 ≤ x) ∧ 0 ≤ left ∧ 0 ≤ turn ∧ turn ≤ T, ?_, ?_⟩
          · rintro σ' H' ⟨rfl, w1, w2, lg', cs, left, turn, e, h⟩
            exact ⟨lg.length, Nat.lt_succ_self _, rfl, w1, w2, lg', cs, left, turn, e, h⟩
          · refine st_get rfl (e2 _ _ hs) (v_large l c left turn) ?_
            have hl2 := e2 _ _ hl
            refine ⟨.inl ⟨rfl, _, SqL.of hl2⟩, l, (x :: lg).map V.int, 0, 0, .int x, rfl, rfl, hl2, by decide, by decide, (ixN_seq (by unfold ixN; rw [if_pos (by decide), if_pos (by simp)]; rfl)).1, rfl, ?_⟩
            obtain ⟨sl, sc'⟩ := wd1.st.apart
            have hs2 : upd (upd H1 p (.lst [])) l (.lst (((x :: lg).map V.int).eraseIdx 0)) s = some (.dK (stK l c left turn)) := by rw [upd_ne sl]; exact e2 _ _ hs
            refine ⟨.ref s, rfl, s, _, rfl, DPut.k (k := Sum.inr ("left" : Str)) hs2 (by show 4 < sizeLine; decide), ?_⟩
            rw [p_left]
            have px := plg x (List.mem_cons_self ..)
            have plg' : ∀ y ∈ lg, 0 ≤ y := fun y hy => plg y (List.mem_cons_of_mem _ hy)
            have f1 : upd (upd (upd H1 p (.lst [])) l (.lst (((x :: lg).map V.int).eraseIdx 0))) s (.dK (stK l c x turn)) s = some (.dK (stK l c x turn)) := upd_same
            have f2 : upd (upd (upd H1 p (.lst [])) l (.lst (((x :: lg).map V.int).eraseIdx 0))) s (.dK (stK l c x turn)) l = some (.lst (lg.map V.int)) := by rw [upd_ne sl.symm, upd_same]; rfl
            have f3 : upd (upd (upd H1 p (.lst [])) l (.lst (((x :: lg).map V.int).eraseIdx 0))) s (.dK (stK l c x turn)) c = some (.lst (cs.map V.int)) := by rw [upd_ne sc'.symm, upd_ne wd1.st.lc.symm]; exact e2 _ _ hc
            have st' : StAt (upd (upd (upd H1 p (.lst [])) l (.lst (((x :: lg).map V.int).eraseIdx 0))) s (.dK (stK l c x turn))) s l c T := ⟨⟨lg, cs, x, turn, f1, f2, f3, plg', pcs, px, pt, ptT⟩, wd1.st.lc⟩
            obtain ⟨wd3, ss3⟩ := wd_upd (wd1.stp (.old wd1.w e2)) (fun b o h1 h2 q => by rw [upd_ne h1, upd_ne h2]; exact q) st'
            exact ⟨rfl, wd3, (ss1.trans (Stp.old wd1.w e2).toS).trans ss3, lg, cs, x, turn, rfl, f1, f2, f3, plg', pcs, px, pt, ptT⟩
      · exact iteF (hR _ _ ⟨rfl, wd1, ss1⟩)
    rintro σ H2 ⟨rfl, wd2, ss2⟩
    obtain ⟨lg, cs, left, turn, hs, hl, hc, plg, pcs, pl, pt, ptT⟩ := wd2.st.ex
    refine st_get rfl hs (v_left l c left turn) ?_
    refine ⟨left, 0, rfl, rfl, _, rfl, ?_⟩
    obtain ⟨sl, sc'⟩ := wd2.st.apart
    refine ite2 (fun hpos => ?_) (fun hnp => ?_)
    · -- found = left % n; left = left // n; return found
      have hpos : 0 < left := of_decide_eq_true hpos
      refine st_get rfl hs (v_left l c left turn) ?_
      refine .inl ⟨left, rfl, .int n, rfl, left, n, rfl, rfl, n1, ?_⟩
      refine st_get rfl hs (v_left l c left turn) ?_
      refine ⟨.int n, rfl, left, n, rfl, rfl, ⟨n1, n2⟩, .ref s, rfl, s, _, rfl, DPut.k (k := Sum.inr ("left" : Str)) hs (by show 4 < sizeLine; decide), .int (left % n), rfl, ?_⟩
      rw [p_left]
      have st' : StAt (upd H2 s (.dK (stK l c (left / n) turn))) s l c (T + 1) :=
        ⟨⟨lg, cs, left / n, turn, upd_same, by rw [upd_ne sl.symm]; exact hl, by rw [upd_ne sc'.symm]; exact hc, plg, pcs, Int.ediv_nonneg pl (by omega), pt, by omega⟩, wd2.st.lc⟩
      obtain ⟨wd3, ss3⟩ := wd_upd wd2 (fun b o h1 _ q => by rw [upd_ne h1]; exact q) st'
      exact k _ _ (Int.emod_nonneg _ (by omega)) (Int.emod_lt_of_pos _ n1) wd3 (ss2.trans ss3)
    · -- turn = turn + 1; ..
      refine st_get rfl hs (v_turn l c left turn) ?_
      refine ⟨turn, 1, rfl, rfl, .int (turn + 1), rfl, .ref s, rfl, s, _, rfl, DPut.k (k := Sum.inr ("turn" : Str)) hs (by show 4 < sizeLine; decide), ?_⟩
      rw [p_turn]
      have hs3 : upd H2 s (.dK (stK l c left (turn + 1))) s = some (.dK (stK l c left (turn + 1))) := upd_same
      have hc3 : upd H2 s (.dK (stK l c left (turn + 1))) c = some (.lst (cs.map V.int)) := by rw [upd_ne sc'.symm]; exact hc
      have st' : StAt (upd H2 s (.dK (stK l c left (turn + 1)))) s l c (T + 1) :=
        ⟨⟨lg, cs, left, turn + 1, hs3, by rw [upd_ne sl.symm]; exact hl, hc3, plg, pcs, pl, by omega, by omega⟩, wd2.st.lc⟩
      obtain ⟨wd3, ss3⟩ := wd_upd wd2 (fun b o h1 _ q => by rw [upd_ne h1]; exact q) st'
      dsimp only
      refine q_asgW (fun v H4 => ∃ cell, v = .int cell ∧ 0 ≤ cell ∧ Wd G H4 s l c (T + 1) ∧ StS [s, l, c] G H G H4) (fun Q hQ => ?_) ?_
      · refine st_get rfl hs3 (v_cells l c left (turn + 1)) ?_
        refine ne_nil hc3 fun p hp => ⟨_, rfl, ?_⟩
        have e4 : Ex (upd H2 s (.dK (stK l c left (turn + 1)))) (upd (upd H2 s (.dK (stK l c left (turn + 1)))) p (.lst [])) := .new hp
        have wd4 := wd3.stp (.old wd3.w e4)
        have ss4 := (ss2.trans ss3).trans (Stp.old wd3.w e4).toS
        cases hcs : cs with
        | nil => exact iteF (hQ _ _ ⟨0, rfl, Int.le_refl _, wd4, ss4⟩)
        | cons x0 xs0 =>
          refine iteT ?_
          refine st_get rfl (e4 _ _ hs3) (v_cells l c left (turn + 1)) ?_
          refine ⟨.int (turn + 1), rfl, .inl ⟨turn + 1, rfl, ?_⟩⟩
          refine st_get rfl (e4 _ _ hs3) (v_cells l c left (turn + 1)) ?_
          refine ⟨c, cs.map V.int, rfl, .inl (SqL.of (e4 _ _ hc3)), ?_⟩
          have hn : (0 : Int) < ((cs.map V.int).length : Nat) := by rw [hcs]; simp
          refine ⟨turn + 1, _, rfl, rfl, hn, ?_⟩
          have a1 := Int.emod_nonneg (turn + 1) (show (((cs.map V.int).length : Nat) : Int) ≠ 0 by omega)
          have a2 := Int.emod_lt_of_pos (turn + 1) hn
          obtain ⟨j, hj⟩ := Int.eq_ofNat_of_zero_le a1
          rw [hj] at a2
          show rIxL K (V.ref c) (V.int ((turn + 1) % (((cs.map V.int).length : Nat) : Int))) _ Q
          rw [hj]
          have hjl : j < cs.length := by rw [List.length_map] at a2; omega
          have hg : (cs.map V.int)[j]? = some (V.int cs[j]) := by rw [List.getElem?_map, List.getElem?_eq_getElem hjl]; rfl
          exact ⟨c, cs.map V.int, _, _, rfl, rfl, SqL.of (e4 _ _ hc3), atI_nat hg, hQ _ _ ⟨_, rfl, pcs _ (List.getElem_mem hjl), wd4, ss4⟩⟩
      · rintro v H4 ⟨cell, rfl, hcell, wd4, ss4⟩
        have m1 := Int.emod_nonneg cell (show (2147483563 : Int) ≠ 0 by decide)
        have m2 := Int.emod_lt_of_pos cell (show (0 : Int) < 2147483563 by decide)
        refine ⟨.int cell, rfl, .inl ⟨cell, rfl, cell, 2147483563, rfl, rfl, (by show (0 : Int) < 2147483563; decide), .int (turn + 1), rfl, 40692, turn + 1, rfl, rfl, .inl ⟨by decide, by decide⟩, _, _, rfl, rfl, _, 24681, rfl, rfl, _, 3, rfl, rfl, ⟨by decide, by decide, by omega⟩, .inl ⟨_, rfl, _, 2147483629, rfl, rfl, (by show (0 : Int) < 2147483629; decide), ?_⟩⟩⟩
        have m3 := Int.emod_nonneg ((cell % 2147483563 + 40692 * (turn + 1) + 24681) ^ (3 : Int).toNat) (show (2147483629 : Int) ≠ 0 by decide)
        have m4 := Int.emod_lt_of_pos ((cell % 2147483563 + 40692 * (turn + 1) + 24681) ^ (3 : Int).toNat) (show (0 : Int) < 2147483629 by decide)
        obtain ⟨mixed, hm⟩ : ∃ m, m = (cell % 2147483563 + 40692 * (turn + 1) + 24681) ^ (3 : Int).toNat % 2147483629 := ⟨_, rfl⟩
        rw [← hm] at m3 m4
        refine ⟨.int mixed, (by rw [hm]; rfl), .int (turn + 1), rfl, 104917, turn + 1, rfl, rfl, .inl ⟨by decide, by decide⟩, _, _, rfl, rfl, _, 5, rfl, rfl, ⟨by decide, by decide, by omega⟩, .inl ⟨_, rfl, _, 2147483579, rfl, rfl, (by show (0 : Int) < 2147483579; decide), _, 29, rfl, rfl, ⟨by decide, by decide⟩, .inl ⟨_, rfl, .int n, rfl, _, n, rfl, rfl, n1, ?_⟩⟩⟩
        exact k _ _ (Int.emod_nonneg _ (by omega)) (Int.emod_lt_of_pos _ n1) wd4 ss4
/-- pick(state, several): one of several -/
def SpPick : Sp := fun vs H Q _ => ∃ (G : Hp) (s l c : Addr) (T : Int) (v1 : V) (ds : List D), vs = [.ref s, v1] ∧ Dq G v1 (.list ds) ∧ ds ≠ [] ∧ ds.length < 1000000 ∧ Wd G H s l c T ∧ T < 1000000000000 ∧
  ∀ v d H', d ∈ ds → Dq G v d → Wd G H' s l c (T + 1) → StS [s, l, c] G H G H' → Q v H'
theorem ok__law_pick {f : Addr} {fd : FuncData} (Z : Zs mg) (C__law_draw : Cal P w K mg base CX0 1 "_law_draw" ["state", "size_here"] SpDraw) (F : Fun K "_law_pick" "_law_pick" s__law_pick f fd) : FnOk P w K mg base CX0 2 f fd ["state", "several"] SpPick := by
  have sc : FnScope ["state", "several"] ["state", "several"] (defScope s__law_pick) := ⟨rfl, rfl, rfl, by decide +kernel, rfl, by decide +kernel, by decide +kernel⟩
  refine F.ok sc (fun vs H Q E h => ?_) (fun cdv A outer s H vs Q E hr h => ?_)
  · obtain ⟨G, s, l, c, T, v1, ds, rfl, _⟩ := h
    rfl
  · obtain ⟨G, s, l, c, T, v1, ds, rfl, hv1, hne, hlen, wd, hT, k⟩ := h
    refine ⟨_, (pss_one (ps_ret (pe_ix (r := rIxL K) ix_list (pv 1) (pe_cal C__law_draw (hr.mono (by decide)) pass0 (pa_cons (pv 0) (pa_cons (pe_callB (r := rLenA K) call_len_seq (by rfl) Z.len PySem.boot_len (pa_cons (pv 1) pa_nil)) pa_nil))) (fun _ _ => rfl)))), ?_⟩
    cases hv1 with
    | @lst a xs _ ha hxs =>
      have hl := hxs.len
      refine ⟨_, rfl, _, rfl, _, rfl, a, xs, rfl, .inl (SqL.of (wd.w _ _ ha)), G, s, l, c, T, (xs.length : Nat), rfl, wd, ?_, by omega, hT, fun r H' r1 r2 wd' ss => ?_⟩
      · have : ds.length ≠ 0 := fun e => hne (List.eq_nil_of_length_eq_zero e)
        omega
      · obtain ⟨j, rfl⟩ := Int.eq_ofNat_of_zero_le r1
        have hj : j < xs.length := by omega
        have hx : xs[j]? = some xs[j] := List.getElem?_eq_getElem hj
        obtain ⟨d, hd, hq⟩ := hxs.get hx
        exact ⟨a, xs, _, _, rfl, rfl, SqL.of (wd'.w _ _ ha), atI_nat hx, k _ d H' (List.mem_of_getElem? hd) hq wd' ss⟩
end
end Mv


namespace Mv
open PySem L2 Evl
theorem given_ints (n : Nat) (f : Nat → Bool) (g : Nat → Int) : given n f (fun i => .int (g i)) = (((List.range n).filter f).map g).map V.int := by
  unfold given
  rw [List.map_map]; rfl
theorem merge_st (l c : Addr) (x y : Int) : mergeK [] (stK l c x y) = stK l c x y := by
  unfold mergeK stK
  simp only [List.foldl]
  rw [putK_new _ valV_nil, List.nil_append, putK_new _ (show valV [(Sum.inr ("large" : Str), V.ref l)] (Sum.inr ("cells" : Str)) = none by rw [valV_neg ne1]; exact valV_nil)]
  simp only [List.cons_append, List.nil_append]
  rw [putK_new _ (show valV [(Sum.inr ("large" : Str), V.ref l), (Sum.inr ("cells" : Str), V.ref c)] (Sum.inr ("left" : Str)) = none by rw [valV_neg ne2, valV_neg ne4]; exact valV_nil)]
  simp only [List.cons_append, List.nil_append]
  rw [putK_new _ (show valV [(Sum.inr ("large" : Str), V.ref l), (Sum.inr ("cells" : Str), V.ref c), (Sum.inr ("left" : Str), V.int x)] (Sum.inr ("turn" : Str)) = none by rw [valV_neg ne3, valV_neg ne5, valV_neg ne6]; exact valV_nil)]
  rfl
/-- begun(script): the state, new -/
def SpBegun (K : PySem.W.Frag) : Sp := fun vs H Q _ => ∃ (G : Hp) (a : Addr) (ns : List Int), vs = [.ref a] ∧ Ex G H ∧ SqL K H a (ns.map V.int) ∧ ns.length ≤ 1000 ∧ ∀ s l c H', Wd G H' s l c 0 → Ex H H' → Q (.ref s) H'
section
variable {P : Program} {w : World} {mg : Str → Option Value} {base : Heap} {K : PySem.W.Frag}
theorem ok__law_begun {f : Addr} {fd : FuncData} (Z : Zs mg) (F : Fun K "_law_begun" "_law_begun" s__law_begun f fd) : FnOk P w K mg base CX0 1 f fd ["script"] (SpBegun K) := by
  have sc : FnScope ["script", "cells_here", "cell", "large"] ["script"] (defScope s__law_begun) := ⟨rfl, rfl, rfl, by decide +kernel, rfl, by decide +kernel, by decide +kernel⟩
  refine F.ok sc (fun vs H Q E h => ?_) (fun cdv A outer s H vs Q E hr h => ?_)
  · obtain ⟨G, a, ns, rfl, _⟩ := h
    rfl
  · obtain ⟨G, a, ns, rfl, wf, hS, hlen, k⟩ := h
    refine ⟨_, (pss_cons (ps_setLc (i := 1) (own := [("cell", 2)]) (g := gName 2) (tt := tYes) (by rfl) sc.nd rfl rfl (sw_true rfl rfl rfl (by decide +kernel)) (pi_list (pv 0)) (blkOk_by (N := ["script", "cells_here", "cell", "large"]) (sc := defScope s__law_begun) (by decide +kernel)) (fun _ _ _ _ _ => (pg_name (i := 2) sc.nd rfl (Or.inl rfl))) (fun _ _ _ _ _ => pts_nil) (fun _ _ _ _ _ => (pe_callB call_abs (by rfl) Z.abs (by decide +kernel) (pa_cons (pv 2) pa_nil)))) (pss_cons (ps_setLc (i := 3) (own := [("cell", 2)]) (g := gName 2) (tt := _) (by rfl) sc.nd rfl rfl (sw_true rfl rfl rfl (by decide +kernel)) (pi_list (pv 1)) (blkOk_by (N := ["script", "cells_here", "cell", "large"]) (sc := defScope s__law_begun) (by decide +kernel)) (fun _ _ _ _ _ => (pg_name (i := 2) sc.nd rfl (Or.inl rfl))) (fun _ _ _ _ _ => (pts_one (pt_cmpR op_ge (pv 2) (pe_op op_pow pe_int pe_int) (nomark _)))) (fun _ _ _ _ _ => (pe_op op_sub (pv 2) (pe_op op_pow pe_int pe_int)))) (pss_one (ps_ret (pe_disp (pps_cons pe_str (pv 3) (pps_cons pe_str (pv 1) (pps_cons pe_str pe_int (pps_cons pe_str pe_int pps_nil)))) (by rfl) (by rfl) (fun z => by cases z) (by decide)))))), ?_⟩
    have gi : ∀ {i : Nat} {x : V}, (ns.map V.int)[i]? = some x → x = .int (ns.getD i 0) := by
      intro i x hx
      rw [List.getElem?_map] at hx
      obtain ⟨y, hy, rfl⟩ := Option.map_eq_some_iff.mp hx
      (rw [List.getD_eq_getElem?_getD, hy]); rfl
    refine Evl.q_asgL (Evl.el_lcL (xs := ns.map V.int) (fun _ => true) (fun i => .int (if ns.getD i 0 < 0 then -(ns.getD i 0) else ns.getD i 0)) (Evl.ev_var rfl) hS (by rw [List.length_map]; omega) (fun _ => rfl) (fun i x H1 _ _ => fun H2 e Q q => q H2 (.refl H2)) (fun i x H1 _ hx _ => ?_)) fun c H1 hc0 e1 hc => ?_
    · rw [gi hx]
      exact fun H2 e Q q => ⟨_, rfl, _, rfl, q H2 (.refl H2)⟩
    rw [given_ints] at hc
    have hcs : ∀ x ∈ ((List.range (ns.map V.int).length).filter (fun _ => true)).map (fun i => if ns.getD i 0 < 0 then -(ns.getD i 0) else ns.getD i 0), 0 ≤ x := by
      intro x hx
      obtain ⟨i, _, rfl⟩ := List.mem_map.mp hx
      split <;> omega
    have hcl : (((List.range (ns.map V.int).length).filter (fun _ => true)).map (fun i => if ns.getD i 0 < 0 then -(ns.getD i 0) else ns.getD i 0)).length ≤ 1000 := by
      rw [List.length_map]
      refine Nat.le_trans (List.length_filter_le _ _) ?_
      rw [List.length_range, List.length_map]; exact hlen
    generalize ((List.range (ns.map V.int).length).filter (fun _ => true)).map (fun i => if ns.getD i 0 < 0 then -(ns.getD i 0) else ns.getD i 0) = cs at hc hcs hcl
    have gc : ∀ {i : Nat} {x : V}, (cs.map V.int)[i]? = some x → x = .int (cs.getD i 0) := by
      intro i x hx
      rw [List.getElem?_map] at hx
      obtain ⟨y, hy, rfl⟩ := Option.map_eq_some_iff.mp hx
      (rw [List.getD_eq_getElem?_getD, hy]); rfl
    refine Evl.q_asgL (Evl.el_lcL (xs := cs.map V.int) (fun i => decide (10 ^ 18 ≤ cs.getD i 0)) (fun i => .int (cs.getD i 0 - 10 ^ 18)) (Evl.ev_var rfl) (SqL.of hc) (by rw [List.length_map]; omega) (fun _ => rfl) (fun i x H2 _ hx => ?_) (fun i x H2 _ hx _ => ?_)) fun l H2 hl0 e2 hl => ?_
    · rw [gc hx]
      exact fun H3 e Q q => ⟨_, rfl, 10, 18, rfl, rfl, ⟨by decide, by decide, by decide⟩, cs.getD i 0, 10 ^ 18, rfl, rfl, _, rfl, q H3 (.refl H3)⟩
    · rw [gc hx]
      exact fun H3 e Q q => ⟨_, rfl, 10, 18, rfl, rfl, ⟨by decide, by decide, by decide⟩, cs.getD i 0, 10 ^ 18, rfl, rfl, q H3 (.refl H3)⟩
    rw [given_ints] at hl
    have hls : ∀ x ∈ ((List.range (cs.map V.int).length).filter (fun i => decide (10 ^ 18 ≤ cs.getD i 0))).map (fun i => cs.getD i 0 - 10 ^ 18), 0 ≤ x := by
      intro x hx
      obtain ⟨i, hi, rfl⟩ := List.mem_map.mp hx
      have := of_decide_eq_true (List.mem_filter.mp hi).2
      omega
    generalize ((List.range (cs.map V.int).length).filter (fun i => decide (10 ^ 18 ≤ cs.getD i 0))).map (fun i => cs.getD i 0 - 10 ^ 18) = lg at hl hls
    intro p hp
    have e3 : Ex H2 (upd H2 p (.dK [])) := .new hp
    refine ⟨.ref l, rfl, .ref c, rfl, upd_same, stK l c 0 0, rfl, by show 4 ≤ 15; decide, ?_⟩
    rw [merge_st]
    have hl3 : upd (upd H2 p (.dK [])) p (.dK (stK l c 0 0)) l = some (.lst (lg.map V.int)) := by
      rw [upd_ne (ne_of_none hl hp), upd_ne (ne_of_none hl hp)]; exact hl
    have hc2 : H2 c = some (.lst (cs.map V.int)) := e2 _ _ hc
    have hc3 : upd (upd H2 p (.dK [])) p (.dK (stK l c 0 0)) c = some (.lst (cs.map V.int)) := by
      rw [upd_ne (ne_of_none hc2 hp), upd_ne (ne_of_none hc2 hp)]; exact hc2
    have lc : l ≠ c := fun z => by rw [z] at hl0; rw [hc] at hl0; cases hl0
    have e4 : Ex H (upd (upd H2 p (.dK [])) p (.dK (stK l c 0 0))) := fun b o q => by
      have q2 := e2 _ _ (e1 _ _ q)
      rw [upd_ne (ne_of_none q2 hp), upd_ne (ne_of_none q2 hp)]; exact q2
    exact k p l c _ ⟨wf.trans e4, ⟨⟨lg, cs, 0, 0, upd_same, hl3, hc3, hls, hcs, Int.le_refl _, Int.le_refl _, Int.le_refl _⟩, lc⟩, fresh_back (wf.trans (e1.trans e2)) hp, fresh_back (wf.trans e1) hl0, fresh_back wf hc0⟩ e4
end
end Mv


namespace Mv
open PySem L2 Evl
section
variable {K : PySem.W.Frag} {σ : L2.St} {G G' H H' : Hp} {ta tb te tx : TE} {t u : TT} {d e z : D} {ds es : List D} {D' : Ends} {tu tz : TS}
/-- over range(lo, hi) -/
theorem d_lcR2 {ta : TA} {j : Nat} {vs : List Nat} {lo hi : Int} (n : Nat) (hn : (hi - lo).toNat = n) (p : Nat → Bool) (f : Nat → D) (h : EvS ta σ G [.int lo, .int hi]) (hb : -1000 ≤ lo ∧ lo ≤ 1000 ∧ -1000 ≤ hi ∧ hi ≤ 1000) (hw : ∀ x, wipe ((wipe σ vs).set j (some x)) vs = wipe σ vs)
    (ht : ∀ (i : Nat) G1, Ex G G1 → i < n → EvB t ((wipe σ vs).set j (some (.int (lo + (i : Int))))) G1 (p i)) (he : ∀ (i : Nat) G1, Ex G G1 → i < n → p i = true → EvD te ((wipe σ vs).set j (some (.int (lo + (i : Int))))) G1 (f i)) :
    EvD (tLc (iRng2 ta) (gName j) t te vs) σ G (.list (made p f (List.range n))) := fun G1 H1 x w Q q => h G1 H1 x w _ fun us G2 H2 s hv => by
  cases hv with
  | cons hv hn1 =>
    cases hn1 with
    | cons hv2 hn1 =>
      cases hn1
      cases hv
      cases hv2
      refine ⟨lo, hi, rfl, ⟨by omega, by omega, by omega, by omega⟩, fun Dl hD => ?_⟩
      rw [hn]
      refine lc_range (lo := lo) (n := n) (fun i H => Mk2 G2 H2 Dl (made p f ((List.range n).take i)) H) (Mk2.start s.w hD) (fun i H hi m => ?_) (fun H m => ?_)
      · refine ⟨hw _, ?_⟩
        have hdv : (List.range n)[i]? = some i := by rw [List.getElem?_range hi]
        refine Mk2.turn (b := p i) (d := f i) hD m ?_ (fun G3 e1 _ => (ht i G3 ((x.trans s.g).trans e1) hi)) (fun G3 e1 _ hp => (he i G3 ((x.trans s.g).trans e1) hi hp)) fun H3 m3 => ?_
        · have h1 := made_len p f ((List.range n).take i)
          rw [List.length_take, List.length_range] at h1
          rw [sizeLine_eq]; omega
        · rw [take_more hdv, made_snoc]; exact m3
      · have e : (List.range n).take n = List.range n := List.take_of_length_le (by rw [List.length_range]; exact Nat.le_refl _)
        rw [e] at m
        obtain ⟨G3, s3, h3⟩ := m.done hD
        exact q _ G3 H (s.trans s3) h3
theorem d_emp : EvD tDNewK σ G (.dict [(.none, .none)]) := fun G1 H1 x w Q q p hp => by
  have s := Stp.new (o := .dK []) w hp
  exact q _ _ _ s (.emp upd_same rfl)
/-- a, b = e1, e2 -/
theorem q_par {i j : Nat} (h : EvD ta σ G d) (h2 : EvD tb σ G e) (w : Ex G H) (k : ∀ v u G1 H1, Stp G H G1 H1 → Dq G1 v d → Dq G1 u e → tz D' ((σ.set i (some v)).set j (some u)) H1) : tSeq (tPar i j (tCons ta (tCons tb tNil))) tz D' σ H :=
  h G H (.refl G) w _ fun v G1 H1 s hv => h2 G1 H1 s.g s.w _ fun u G2 H2 s2 hu => ⟨v, u, rfl, k v u G2 H2 (s.trans s2) (hv.mono s2.g) hu⟩
theorem s_par {i j : Nat} (h : EvD ta σ G d) (h2 : EvD tb σ G e) (w : Ex G H) (k : ∀ v u G1 H1, Stp G H G1 H1 → Dq G1 v d → Dq G1 u e → D'.nx ((σ.set i (some v)).set j (some u)) H1) : tPar i j (tCons ta (tCons tb tNil)) D' σ H :=
  q_par (tz := fun D => D.nx) h h2 w k
theorem q_forT {g : TG} {tl : TE} {as : List D} (h : EvD tl σ G (.tuple as)) (w : Ex G H) (Pv : Nat → L2.St → Hp → Prop) (h0 : ∀ G1 H1, Stp G H G1 H1 → Pv 0 σ G1)
    (hs : ∀ G1 H1, Stp G H G1 H1 → ∀ (i : Nat) v a σ' G2 H2, as[i]? = some a → Stp G1 H1 G2 H2 → Pv i σ' G2 → Dq G2 v a → g v σ' H2 fun σ2 H3 => tu { D' with nx := Nw G1 H1 Pv (i + 1), ct := Nw G1 H1 Pv (i + 1), bk := tz D' } σ2 H3)
    (hd : ∀ σ' G2 H2, Stp G H G2 H2 → Pv as.length σ' G2 → tz D' σ' H2) : tSeq (tFor (iTup K tl) g tu) tz D' σ H := s_forT (D' := { D' with nx := tz D' }) h w Pv h0 hs hd
theorem q_forL {g : TG} {tl : TE} {as : List D} (h : EvD tl σ G (.list as)) (w : Ex G H) (Pv : Nat → L2.St → Hp → Prop) (h0 : ∀ G1 H1, Stp G H G1 H1 → Pv 0 σ G1)
    (hs : ∀ G1 H1, Stp G H G1 H1 → ∀ (i : Nat) v a σ' G2 H2, as[i]? = some a → Stp G1 H1 G2 H2 → Pv i σ' G2 → Dq G2 v a → g v σ' H2 fun σ2 H3 => tu { D' with nx := Nw G1 H1 Pv (i + 1), ct := Nw G1 H1 Pv (i + 1), bk := tz D' } σ2 H3)
    (hd : ∀ σ' G2 H2, Stp G H G2 H2 → Pv as.length σ' G2 → tz D' σ' H2) : tSeq (tFor (iList K tl) g tu) tz D' σ H := s_forL (D' := { D' with nx := tz D' }) h w Pv h0 hs hd
theorem q_forR {ta : TA} {j : Nat} {n : Nat} (h : EvS ta σ G [.int (n : Int)]) (hz : n ≤ 1000000) (w : Ex G H) (Pv : Nat → L2.St → Hp → Prop) (h0 : ∀ G1 H1, Stp G H G1 H1 → Pv 0 σ G1)
    (hs : ∀ G1 H1, Stp G H G1 H1 → ∀ (i : Nat) σ' G2 H2, i < n → Stp G1 H1 G2 H2 → Pv i σ' G2 → tu { D' with nx := Nw G1 H1 Pv (i + 1), ct := Nw G1 H1 Pv (i + 1), bk := tz D' } (σ'.set j (some (.int (i : Int)))) H2)
    (hd : ∀ σ' G2 H2, Stp G H G2 H2 → Pv n σ' G2 → tz D' σ' H2) : tSeq (tFor (iRng1 ta) (gName j) tu) tz D' σ H := s_forR (D' := { D' with nx := tz D' }) h hz w Pv h0 hs hd
end

/-! ### the law's own defs -/
def stepF (line : List (List Int)) : List (List Int) := line.flatMap fun t => ((List.range 23).filter fun (i : Nat) => decide (prod t * (2 + (i : Int)) < 25)).map fun (i : Nat) => t ++ [2 + (i : Int)]
def linF : Nat → List (List Int)
  | 0 => [[]]
  | n + 1 => stepF (linF n)
def fndF : Nat → List (List Int)
  | 0 => []
  | n + 1 => fndF n ++ linF (n + 1)
def fewD : List (List Int) := fndF 4
def okB (n : List Int) : Bool := decide (1 ≤ n.length) && decide (n.length ≤ 4) && n.all (fun s => decide (2 ≤ s) && decide (s ≤ 24)) && decide (prod n ≤ 24)
theorem okB_ok {n : List Int} (h : okB n = true) : OkD n := by
  simp only [okB, Bool.and_eq_true, decide_eq_true_eq, List.all_eq_true] at h
  exact ⟨h.1.1.1, h.1.1.2, h.1.2, h.2⟩
theorem few_ok : fewD.all okB = true := by decide +kernel
theorem few_len : fewD.length ≤ 1000 := by decide +kernel
theorem lin_len : ((List.range 5).all fun i => decide ((linF i).length ≤ 200) && decide ((fndF i).length ≤ 800) && (linF i).all fun t => decide (t.length ≤ 4) && t.all fun s => decide (0 ≤ s) && decide (s ≤ 24)) = true := by decide +kernel
def R_law_few (ds : List D) (z : D) : Prop := ds = [] ∧ z = dL fewD
abbrev s__law_count : Stmt := top 54
abbrev s__law_places : Stmt := top 56
abbrev s__law_plus : Stmt := top 57
abbrev s__law_nothing : Stmt := top 59
abbrev s__law_total : Stmt := top 60
section
variable {P : Program} {w : World} {mg : Str → Option Value} {base : Heap} {K : PySem.W.Frag}
theorem ok__law_count {f : Addr} {fd : FuncData} (F : Fun K "_law_count" "_law_count" s__law_count f fd) : FnOk P w K mg base CX0 1 f fd ["dials_here"] (SpR R_place_count) := by
  have sc : FnScope ["dials_here", "found", "size_here"] ["dials_here"] (defScope s__law_count) := ⟨rfl, rfl, rfl, by decide +kernel, rfl, by decide +kernel, by decide +kernel⟩
  refine F.ok sc (fun vs H Q E h => ?_) (fun cdv A outer s H vs Q E hr h => ?_)
  · obtain ⟨G, ds, z, _, hv, ⟨n, rfl, _⟩, _⟩ := h
    exact hv.len
  · obtain ⟨G, ds, z, wf, hv, ⟨n, rfl, hb, rfl⟩, k⟩ := h
    refine ⟨_, (pss_cons (ps_set (i := 1) sc.nd rfl (Or.inl rfl) pe_int) (pss_cons (ps_for PassesOwn.never rfl (pi_tup (pv 0)) (pg_name (i := 2) sc.nd rfl (Or.inl rfl)) (pss_one (ps_set (i := 1) sc.nd rfl (Or.inl rfl) (pe_op op_mul (pv 1) (pv 2))))) (pss_one (ps_ret (pv 1))))), ?_⟩
    cases hv with
    | @cons v0 vs d ds hv0 hn =>
      cases hn
      refine q_asg (G := G) (d_c (.int 1)) wf fun v1 G1 H1 s1 h1 => ?_
      cases h1
      refine s_forT (as := n.map PyData.int) (d_var rfl (hv0.mono s1.g)) s1.w (fun i σ G' => ∃ o, σ = [some v0, some (.int (prod (n.take i))), o]) (fun G2 H2 s2 => ⟨none, rfl⟩) ?_ ?_
      · rintro G2 H2 s2 i v a σ G3 H3 hi s3 ⟨o, rfl⟩ hq
        rw [List.getElem?_map] at hi
        obtain ⟨x, hx, rfl⟩ := Option.map_eq_some_iff.mp hi
        cases hq
        refine s_asg (G := G3) (i := 1) (d_op (d_var rfl (.int _)) (d_var rfl (.int x)) (opd_I (z := .int (prod (n.take i) * x)) (.inr (hb x (List.mem_of_getElem? hx))) fun _ => .int _)) s3.w fun v G4 H4 s4 hv => ?_
        cases hv
        exact ⟨G4, s3.trans s4, _, by unfold prod; rw [foldl_take _ _ hx]; rfl⟩
      · rintro σ G2 H2 s2 ⟨o, rfl⟩
        (rw [List.length_map, List.take_length])
        exact s_ret (G := G2) (d := .int (prod n)) (d_var rfl (.int _)) s2.w fun v G3 H3 s3 hv => k v G3 H3 ((s1.trans s2).trans s3) hv
theorem ok__law_nothing {f : Addr} {fd : FuncData} (Z : Zs mg) (F : Fun K "_law_nothing" "_law_nothing" s__law_nothing f fd) : FnOk P w K mg base CX0 1 f fd ["dials_here"] (SpR R_nothing_of) := by
  have sc : FnScope ["dials_here"] ["dials_here"] (defScope s__law_nothing) := ⟨rfl, rfl, rfl, by decide +kernel, rfl, by decide +kernel, by decide +kernel⟩
  refine F.ok sc (fun vs H Q E h => ?_) (fun cdv A outer s H vs Q E hr h => ?_)
  · obtain ⟨G, ds, z, _, hv, ⟨n, rfl, _⟩, _⟩ := h
    exact hv.len
  · obtain ⟨G, ds, z, wf, hv, ⟨n, rfl, h1, h2, rfl⟩, k⟩ := h
    refine ⟨_, (pss_one (ps_ret (pe_op (r := rRepA K) op_repA (pe_tup (pa_cons pe_int pa_nil)) (pe_callB (r := rLenA K) call_len_seq (by rfl) Z.len PySem.boot_len (pa_cons (pv 0) pa_nil))))), ?_⟩
    cases hv with
    | @cons v0 vs d ds hv0 hn =>
      cases hn
      refine s_ret (G := G) (d := dI (zeros n)) ?_ wf fun v G3 H3 s3 hv => k v G3 H3 s3 hv
      have e : dI (zeros n) = .tuple (List.replicate (n.map PyData.int).length [PyData.int 0]).flatten := by
        unfold dI zeros
        rw [List.length_map]
        congr 1
        induction n.length with
        | zero => rfl
        | succ m ih => rw [List.replicate_succ, List.replicate_succ, List.flatten_cons, List.map_cons, ih]; rfl
      rw [e]
      exact d_op (d_tup (a_cons (d_c (.int 0)) a_nil) (by decide)) (d_cb (a_cons (d_var rfl hv0) a_nil) cad_lenT) (opd_rep (by simp) (by rw [List.length_map]; exact h1) (by rw [List.length_map]; exact h2) (by decide))
theorem ok__law_plus {f : Addr} {fd : FuncData} (Z : Zs mg) (F : Fun K "_law_plus" "_law_plus" s__law_plus f fd) : FnOk P w K mg base CX0 1 f fd ["dials_here", "one", "other"] (SpR R_add) := by
  have sc : FnScope ["dials_here", "one", "other", "here", "there", "size_here"] ["dials_here", "one", "other"] (defScope s__law_plus) := ⟨rfl, rfl, rfl, by decide +kernel, rfl, by decide +kernel, by decide +kernel⟩
  refine F.ok sc (fun vs H Q E h => ?_) (fun cdv A outer s H vs Q E hr h => ?_)
  · obtain ⟨G, ds, z, _, hv, ⟨n, a, b, rfl, _⟩, _⟩ := h
    exact hv.len
  · obtain ⟨G, ds, z, wf, hv, ⟨n, a, b, rfl, h1, h2, h3, h4, rfl⟩, k⟩ := h
    refine ⟨_, (pss_one (ps_ret (pe_callTy (r := rTupOf K) call_tuple_of (by rfl) Z.tuple (by decide +kernel) (pa_cons (pe_lc (own := [("here", 3), ("there", 4), ("size_here", 5)]) (g := gTup K 3 (gCons (gName 3) (gCons (gName 4) (gCons (gName 5) gNil)))) (tt := tYes) (by rfl) sc.nd (pi_zip3 false false false (by rfl) Z.zip (pa_cons (pv 1) (pa_cons (pv 2) (pa_cons (pv 0) pa_nil)))) (blkOk_by (N := ["dials_here", "one", "other", "here", "there", "size_here"]) (sc := defScope s__law_plus) (by decide +kernel)) (fun _ _ _ _ _ => (pg_tup rfl (pgs_cons (pg_name (i := 3) sc.nd rfl (Or.inl rfl)) (pgs_cons (pg_name (i := 4) sc.nd rfl (Or.inl rfl)) (pgs_cons (pg_name (i := 5) sc.nd rfl (Or.inl rfl)) pgs_nil))))) (fun _ _ _ _ _ => pts_nil) (fun _ _ _ _ _ => (pe_op op_mod (pe_callTy call_int1 (by rfl) Z.int (by decide +kernel) (pa_cons (pe_op op_add (pv 3) (pv 4)) pa_nil)) (pv 5)))) pa_nil)))), ?_⟩
    cases hv with
    | @cons v0 vs d ds hv0 hn =>
      cases hn with
      | @cons v1 vs d ds hv1 hn =>
        cases hn with
        | @cons v2 vs d ds hv2 hn =>
          cases hn
          refine s_ret (G := G) (d := dI (addP n a b)) ?_ wf fun v G3 H3 s3 hv => k v G3 H3 s3 hv
          refine d_cb (a_cons ?_ a_nil) cad_tuple
          rw [← addP_D n a b h1 h2]
          refine d_lcZ3 (k1 := false) (k2 := false) (k3 := false) (as := a.map PyData.int) (bs := b.map PyData.int) (cs := n.map PyData.int) (fun _ => true) _ (a_cons (d_var rfl hv1) (a_cons (d_var rfl hv2) (a_cons (d_var rfl hv0) a_nil))) (by rw [List.length_map]; omega) (by simp only [List.length_map]; omega) (fun _ _ _ => rfl)
            (fun _ _ _ _ _ _ _ _ _ _ _ _ => b_yes) ?_
          rintro x y z da db dc G1 e1 hm hx hy hz _
          obtain ⟨i, j, s, rfl, rfl, rfl, hs⟩ := zip3_ints n a b h4 hm
          exact d_op (d_cb (a_cons (d_op (d_var rfl hx) (d_var rfl hy) (opd_I0 fun _ => .int (i + j))) a_nil) cad_int1) (d_var rfl hz) (opd_I hs fun _ => .int _)
def R_add_upE (ds : List D) (z : D) : Prop := ∃ (n : List Int) (l : List (List Int)) (e : D), ds = [dI n, e] ∧ (e = dL l ∨ e = .tuple (l.map dI)) ∧ 1 ≤ n.length ∧ n.length ≤ 1000 ∧ (∀ s ∈ n, 0 < s) ∧ (∀ p ∈ l, p.length = n.length) ∧ z = dI (addUp n l)
theorem ok__law_total {f : Addr} {fd : FuncData} (C__law_nothing : Cal P w K mg base CX0 1 "_law_nothing" ["dials_here"] (SpR R_nothing_of)) (C__law_plus : Cal P w K mg base CX0 1 "_law_plus" ["dials_here", "one", "other"] (SpR R_add)) (F : Fun K "_law_total" "_law_total" s__law_total f fd) : FnOk P w K mg base CX0 2 f fd ["dials_here", "several"] (SpR R_add_upE) := by
  have sc : FnScope ["dials_here", "several", "found", "place_here"] ["dials_here", "several"] (defScope s__law_total) := ⟨rfl, rfl, rfl, by decide +kernel, rfl, by decide +kernel, by decide +kernel⟩
  refine F.ok sc (fun vs H Q E h => ?_) (fun cdv A outer s H vs Q E hr h => ?_)
  · obtain ⟨G, ds, z, _, hv, ⟨n, l, e, rfl, _⟩, _⟩ := h
    exact hv.len
  · obtain ⟨G, ds, z, wf, hv, ⟨n, l, e, rfl, he, h1, h2, h3, h4, rfl⟩, k⟩ := h
    rcases he with rfl | rfl
    · refine ⟨_, (pss_cons (ps_set (i := 2) sc.nd rfl (Or.inl rfl) (pe_cal C__law_nothing (hr.mono (by decide)) pass0 (pa_cons (pv 0) pa_nil))) (pss_cons (ps_for PassesOwn.never rfl (pi_list (pv 1)) (pg_name (i := 3) sc.nd rfl (Or.inl rfl)) (pss_one (ps_set (i := 2) sc.nd rfl (Or.inl rfl) (pe_cal C__law_plus (hr.mono (by decide)) pass0 (pa_cons (pv 0) (pa_cons (pv 2) (pa_cons (pv 3) pa_nil))))))) (pss_one (ps_ret (pv 2))))), ?_⟩
      cases hv with
      | @cons v0 vs d ds hv0 hnil =>
        cases hnil with
        | @cons v1 vs d ds hv1 hnil =>
          cases hnil
          refine q_asg (G := G) (d := dI (zeros n)) (d_cal (a_cons (d_var rfl hv0) a_nil) ⟨n, rfl, h1, h2, rfl⟩) wf fun v2 G1 H1 s1 hz => ?_
          refine s_forL (as := l.map dI) (d_var rfl (hv1.mono s1.g)) s1.w (fun i σ G' => ∃ v o, σ = [some v0, some v1, some v, o] ∧ Dq G' v0 (dI n) ∧ Dq G' v (dI (addUp n (l.take i)))) (fun G2 H2 s2 => ⟨v2, none, rfl, hv0.mono (s1.g.trans s2.g), hz.mono s2.g⟩) ?_ ?_
          · rintro G2 H2 s2 i v a σ G3 H3 hi s3 ⟨vf, o, rfl, hv0', hf⟩ hq
            rw [List.getElem?_map] at hi
            obtain ⟨x, hx, rfl⟩ := Option.map_eq_some_iff.mp hi
            have hx2 := h4 x (List.mem_of_getElem? hx)
            refine s_asg (G := G3) (d := dI (addUp n (l.take (i + 1)))) (i := 2) ?_ s3.w fun v G4 H4 s4 hv => ⟨G4, s3.trans s4, v, _, rfl, hv0'.mono s4.g, hv⟩
            refine d_cal (a_cons (d_var rfl hv0') (a_cons (d_var rfl hf) (a_cons (d_var rfl hq) a_nil))) ⟨n, addUp n (l.take i), x, rfl, addUp_len fun p hp => h4 p (List.mem_of_mem_take hp), hx2, h2, h3, ?_⟩
            unfold addUp
            rw [foldl_take _ _ hx]
          · rintro σ G2 H2 s2 ⟨vf, o, rfl, _, hf⟩
            rw [List.length_map, List.take_length] at hf
            exact s_ret (G := G2) (d_var rfl hf) s2.w fun v G3 H3 s3 hv => k v G3 H3 ((s1.trans s2).trans s3) hv
    · refine ⟨_, (pss_cons (ps_set (i := 2) sc.nd rfl (Or.inl rfl) (pe_cal C__law_nothing (hr.mono (by decide)) pass0 (pa_cons (pv 0) pa_nil))) (pss_cons (ps_for PassesOwn.never rfl (pi_tup (pv 1)) (pg_name (i := 3) sc.nd rfl (Or.inl rfl)) (pss_one (ps_set (i := 2) sc.nd rfl (Or.inl rfl) (pe_cal C__law_plus (hr.mono (by decide)) pass0 (pa_cons (pv 0) (pa_cons (pv 2) (pa_cons (pv 3) pa_nil))))))) (pss_one (ps_ret (pv 2))))), ?_⟩
      cases hv with
      | @cons v0 vs d ds hv0 hnil =>
        cases hnil with
        | @cons v1 vs d ds hv1 hnil =>
          cases hnil
          refine q_asg (G := G) (d := dI (zeros n)) (d_cal (a_cons (d_var rfl hv0) a_nil) ⟨n, rfl, h1, h2, rfl⟩) wf fun v2 G1 H1 s1 hz => ?_
          refine s_forT (as := l.map dI) (d_var rfl (hv1.mono s1.g)) s1.w (fun i σ G' => ∃ v o, σ = [some v0, some v1, some v, o] ∧ Dq G' v0 (dI n) ∧ Dq G' v (dI (addUp n (l.take i)))) (fun G2 H2 s2 => ⟨v2, none, rfl, hv0.mono (s1.g.trans s2.g), hz.mono s2.g⟩) ?_ ?_
          · rintro G2 H2 s2 i v a σ G3 H3 hi s3 ⟨vf, o, rfl, hv0', hf⟩ hq
            rw [List.getElem?_map] at hi
            obtain ⟨x, hx, rfl⟩ := Option.map_eq_some_iff.mp hi
            have hx2 := h4 x (List.mem_of_getElem? hx)
            refine s_asg (G := G3) (d := dI (addUp n (l.take (i + 1)))) (i := 2) ?_ s3.w fun v G4 H4 s4 hv => ⟨G4, s3.trans s4, v, _, rfl, hv0'.mono s4.g, hv⟩
            refine d_cal (a_cons (d_var rfl hv0') (a_cons (d_var rfl hf) (a_cons (d_var rfl hq) a_nil))) ⟨n, addUp n (l.take i), x, rfl, addUp_len fun p hp => h4 p (List.mem_of_mem_take hp), hx2, h2, h3, ?_⟩
            unfold addUp
            rw [foldl_take _ _ hx]
          · rintro σ G2 H2 s2 ⟨vf, o, rfl, _, hf⟩
            rw [List.length_map, List.take_length] at hf
            exact s_ret (G := G2) (d_var rfl hf) s2.w fun v G3 H3 s3 hv => k v G3 H3 ((s1.trans s2).trans s3) hv
theorem ok__law_places {f : Addr} {fd : FuncData} (Z : Zs mg) (F : Fun K "_law_places" "_law_places" s__law_places f fd) : FnOk P w K mg base CX0 1 f fd ["dials_here"] (SpR R_all_places) := by
  have sc : FnScope ["dials_here", "found", "size_here", "more", "row", "item"] ["dials_here"] (defScope s__law_places) := ⟨rfl, rfl, rfl, by decide +kernel, rfl, by decide +kernel, by decide +kernel⟩
  refine F.ok sc (fun vs H Q E h => ?_) (fun cdv A outer s H vs Q E hr h => ?_)
  · obtain ⟨G, ds, z, _, hv, ⟨n, rfl, _⟩, _⟩ := h
    exact hv.len
  · obtain ⟨G, ds, z, wf, hv, ⟨n, rfl, hn, rfl⟩, k⟩ := h
    refine ⟨_, (pss_cons (ps_set (i := 1) sc.nd rfl (Or.inl rfl) (pe_lst (pa_cons (pe_tup pa_nil) pa_nil))) (pss_cons (ps_for PassesOwn.never rfl (pi_tup (pv 0)) (pg_name (i := 2) sc.nd rfl (Or.inl rfl)) (pss_cons (ps_set (i := 3) sc.nd rfl (Or.inl rfl) (pe_lst pa_nil)) (pss_cons (ps_for PassesOwn.never rfl (pi_list (pv 1)) (pg_name (i := 4) sc.nd rfl (Or.inr rfl)) (pss_one (ps_set (i := 3) sc.nd rfl (Or.inl rfl) (pe_op op_cat (pv 3) (pe_lc (own := [("item", 5)]) (g := gName 5) (tt := tYes) (by rfl) sc.nd (pi_range1 (by rfl) Z.range (pa_cons (pv 2) pa_nil)) (blkOk_by (N := ["dials_here", "found", "size_here", "more", "row", "item"]) (sc := defScope s__law_places) (by decide +kernel)) (fun _ _ _ _ _ => (pg_name (i := 5) sc.nd rfl (Or.inl rfl))) (fun _ _ _ _ _ => pts_nil) (fun _ _ _ _ _ => (pe_op (r := rCatA K) op_catA (pv 4) (pe_tup (pa_cons (pv 5) pa_nil))))))))) (pss_one (ps_set (i := 1) sc.nd rfl (Or.inl rfl) (pv 3)))))) (pss_one (ps_ret (pv 1))))), ?_⟩
    cases hv with
    | @cons v0 vs d ds hv0 hnil =>
      cases hnil
      refine q_asg (G := G) (d := dL [[]]) (d_lst (a_cons (d_tup a_nil (by decide)) a_nil) (by decide)) wf fun v1 G1 H1 s1 h1 => ?_
      refine s_forT (as := n.map PyData.int) (d_var rfl (hv0.mono s1.g)) s1.w (fun i σ G' => ∃ v o1 o2 o3, σ = [some v0, some v, o1, o2, o3, none] ∧ Dq G' v (dL (placesOf (n.take i)))) (fun G2 H2 s2 => ⟨v1, none, none, none, rfl, h1.mono s2.g⟩) ?_ ?_
      · rintro G2 H2 s2 i v a σ G3 H3 hi s3 ⟨vf, o1, o2, o3, rfl, hf⟩ hq
        rw [List.getElem?_map] at hi
        obtain ⟨x, hx, rfl⟩ := Option.map_eq_some_iff.mp hi
        cases hq
        have hx2 := hn.sz x (List.mem_of_getElem? hx)
        have ex : ((x.toNat : Nat) : Int) = x := Int.toNat_of_nonneg (by omega)
        have hl := hn.pl i
        have e2 : placesOf (n.take (i + 1)) = grow (placesOf (n.take i)) x := by unfold placesOf; rw [foldl_take _ _ hx]
        refine q_asg (G := G3) (d := dL []) (i := 3) (d_lst a_nil (by decide)) s3.w fun vm G4 H4 s4 hm => ?_
        refine q_forL (as := (placesOf (n.take i)).map dI) (d_var rfl (hf.mono s4.g)) s4.w (fun j σ G' => ∃ vm o3, σ = [some v0, some vf, some (.int x), some vm, o3, none] ∧ Dq G' vm (dL (grow ((placesOf (n.take i)).take j) x))) (fun G5 H5 s5 => ⟨vm, o3, rfl, hm.mono s5.g⟩) ?_ ?_
        · rintro G5 H5 s5 j v a σ G6 H6 hj s6 ⟨vm, o3, rfl, hm'⟩ hq
          rw [List.getElem?_map] at hj
          obtain ⟨b, hb, rfl⟩ := Option.map_eq_some_iff.mp hj
          have hbl := places_in b (List.mem_of_getElem? hb)
          refine s_asg (G := G6) (d := dL (grow ((placesOf (n.take i)).take (j + 1)) x)) (i := 3) ?_ s6.w fun v G7 H7 s7 hv => ⟨G7, s6.trans s7, v, _, rfl, hv⟩
          have eg : dL (grow ((placesOf (n.take i)).take (j + 1)) x) = .list ((grow ((placesOf (n.take i)).take j) x).map dI ++ made (fun _ => true) (fun (q : Nat) => PyData.tuple (b.map PyData.int ++ [PyData.int (q : Int)])) (List.range x.toNat)) := by
            unfold dL grow made
            rw [take_more hb, List.flatMap_append, List.map_append]
            congr 2
            rw [List.filter_eq_self.mpr (fun _ _ => rfl), List.flatMap_cons, List.flatMap_nil, List.append_nil, List.map_map]
            refine List.map_congr_left fun q _ => ?_
            show dI (b ++ [(q : Int)]) = _
            unfold dI
            rw [List.map_append]; rfl
          rw [eg]
          have gl := grow_len ((placesOf (n.take i)).take j) x
          have h24 : ((placesOf (n.take i)).take j).length * x.toNat ≤ 24 * 24 := Nat.mul_le_mul (by rw [List.length_take]; omega) (by omega)
          refine d_op (d_var rfl hm') (d_lcR (n := x.toNat) (fun _ => true) _ (a_cons (d_var rfl (by rw [ex]; exact .int x)) a_nil) (by omega) (fun _ => rfl) (fun _ _ _ _ => b_yes) (fun q G7 e7 hq7 _ => ?_)) (opd_cat ?_)
          · refine d_op (d_var rfl (hq.mono e7)) (d_tup (a_cons (d_var rfl (.int (q : Int))) a_nil) (by show 1 ≤ sizeLine; decide)) (opd_catT ?_)
            rw [List.length_map, hbl, List.length_take, sizeLine_eq]
            have := hn.hi
            show _ + 1 ≤ _
            omega
          · have h1 := made_len (fun (_ : Nat) => true) (fun (q : Nat) => PyData.tuple (b.map PyData.int ++ [PyData.int (q : Int)])) (List.range x.toNat)
            rw [List.length_range] at h1
            rw [List.length_map, gl, sizeLine_eq]
            omega
        · rintro σ G5 H5 s5 ⟨vm, o3, rfl, hm'⟩
          rw [List.length_map, List.take_length, ← e2] at hm'
          exact s_asg (G := G5) (i := 1) (d_var rfl hm') s5.w fun v G6 H6 s6 hv => ⟨G6, ((s3.trans s4).trans s5).trans s6, v, _, _, _, rfl, hv⟩
      · rintro σ G2 H2 s2 ⟨vf, o1, o2, o3, rfl, hf⟩
        rw [List.length_map, List.take_length] at hf
        exact s_ret (G := G2) (d_var rfl hf) s2.w fun v G3 H3 s3 hv => k v G3 H3 ((s1.trans s2).trans s3) hv
end
end Mv


namespace Mv
open PySem L2 Evl
theorem lay_sub {as : List D} (h : PyData.canLayAll0 as = true) : ∀ {bs : List D}, (∀ b ∈ bs, b ∈ as) → PyData.canLayAll0 bs = true
  | [], _ => rfl
  | b :: bs, k => by
    rw [PyData.canLayAll0, PyData.canLay0_of_mem as b h (k b (List.mem_cons_self ..)), lay_sub h fun x hx => k x (List.mem_cons_of_mem _ hx)]; rfl
theorem deep_sub {as : List D} : ∀ {bs : List D}, (∀ b ∈ bs, b ∈ as) → PyData.depthAll bs ≤ PyData.depthAll as
  | [], _ => by rw [PyData.depthAll]; omega
  | b :: bs, k => by
    rw [PyData.depthAll]
    have h1 := PyData.depth_le_depthAll as b (k b (List.mem_cons_self ..))
    have h2 := deep_sub (as := as) (bs := bs) fun x hx => k x (List.mem_cons_of_mem _ hx)
    omega
theorem shaped_sub {as bs : List D} (h : SeqAt.shaped (.list as) = true) (k : ∀ b ∈ bs, b ∈ as) : SeqAt.shaped (.list bs) = true := by
  unfold SeqAt.shaped at h ⊢
  rw [Bool.and_eq_true, decide_eq_true_eq, PyData.canLay0, PyData.depth] at h
  rw [Bool.and_eq_true, decide_eq_true_eq, PyData.canLay0, PyData.depth]
  exact ⟨lay_sub h.1 k, Nat.le_trans (Nat.add_le_add_right (deep_sub k) 1) h.2⟩
theorem flat_sub {as : List D} (h : flatDs as = true) : ∀ {bs : List D}, (∀ b ∈ bs, b ∈ as) → flatDs bs = true := by
  have all : ∀ {as : List D}, flatDs as = true → ∀ x ∈ as, flatD x = true := by
    intro as
    induction as with
    | nil => intro _ x hx; cases hx
    | cons a as ih =>
      intro h x hx
      rw [flatDs, Bool.and_eq_true] at h
      rcases List.mem_cons.mp hx with e | e
      · rw [e]; exact h.1
      · exact ih h.2 x e
  intro bs
  induction bs with
  | nil => intro _; rfl
  | cons b bs ih =>
    intro k
    rw [flatDs, Bool.and_eq_true]
    exact ⟨all h b (k b (List.mem_cons_self ..)), ih fun x hx => k x (List.mem_cons_of_mem _ hx)⟩
theorem eqv_nilD (a : List D) : PyData.eqv (.list a) (.list []) = a.isEmpty := by
  rw [PyData.eqv]
  cases a <;> simp [PyData.eqvAll]
theorem opd_U {G : Hp} (n : Int) : UnD (rU fun i => .int (-i)) G (.int n) (.int (-n)) := fun x G1 H1 a b hx Q q => by
  cases hx
  exact ⟨n, rfl, q _ G1 H1 (.refl b) (.int _)⟩
theorem ne_nilD {K : PySem.W.Frag} {G H : Hp} {a : Addr} {xs : List V} {ds : List D} {σ : L2.St} {Q : VK} (h : H a = some (.lst xs)) (w : Ex G H) (hx : DqA G xs ds) (fl : flatDs ds = true) (sh : SeqAt.shaped (.list ds) = true) (q : ∀ p, H p = none → Q (.bl (!ds.isEmpty)) (upd H p (.lst []))) :
    tLst tNil σ H fun y H2 => rNeD K (.ref a) y H2 Q := ⟨Nat.zero_le _, fun p hp => ⟨.list ds, .list [], .lst (SqL.of (by rw [upd_ne (ne_of_none h hp)]; exact h)) (dpAll_of (w.trans (.new hp)) hx fl), .lst (SqL.of upd_same) .nil, sh, by decide +kernel, by
  rw [eqv_nilD]; exact q p hp⟩⟩
/-- a write to what is new and not known -/
theorem StS.mut {S : List Addr} {G H G' H' : Hp} {p : Addr} {o : HO} (a : StS S G H G' H') (hp : H p = none) (gp : G' p = none) : StS S G H G' (upd H' p o) := by
  have np : ∀ {b : Addr} {u : HO}, H b = some u → b ≠ p := fun e z => by rw [z, hp] at e; cases e
  refine ⟨a.g, fun b u hb q => by rw [upd_ne (np q)]; exact a.h b u hb q, fun b hb q => ?_, fun b u q => ?_, a.n⟩
  · by_cases e : b = p
    · exact (q (e ▸ hp)).elim
    · rw [upd_ne e]; exact a.k b hb q
  · have e : b ≠ p := fun z => by rw [z, gp] at q; cases q
    rw [upd_ne e]; exact a.w b u q
theorem Wd.mut {G H : Hp} {s l c p : Addr} {T : Int} {o : HO} (a : Wd G H s l c T) (gp : G p = none) (e1 : p ≠ s) (e2 : p ≠ l) (e3 : p ≠ c) : Wd G (upd H p o) s l c T := by
  obtain ⟨⟨⟨lg, cs, left, turn, h1, h2, h3, h⟩, q⟩, _⟩ := id (And.intro a.st trivial)
  refine ⟨fun b u q => ?_, ⟨⟨lg, cs, left, turn, by rw [upd_ne e1.symm]; exact h1, by rw [upd_ne e2.symm]; exact h2, by rw [upd_ne e3.symm]; exact h3, h⟩, q⟩, a.gs, a.gl, a.gc⟩
  have e : b ≠ p := fun z => by rw [z, gp] at q; cases q
  rw [upd_ne e]; exact a.w b u q
theorem erase_perm {α : Type} : ∀ {l : List α} {j : Nat} {d : α}, l[j]? = some d → (d :: l.eraseIdx j).Perm l
  | x :: l, 0, d, h => by
    cases Option.some.inj h
    exact .refl _
  | x :: l, j + 1, d, h => (List.Perm.swap x d _).trans ((erase_perm (l := l) (j := j) h).cons x)
  | [], _, _, h => by simp at h
def SpMix : Sp := fun vs H Q _ => ∃ (G : Hp) (s l c : Addr) (T : Int) (v1 : V) (as : List D), vs = [.ref s, v1] ∧ Dq G v1 (.list as) ∧ SeqAt.shaped (.list as) = true ∧ flatDs as = true ∧ as.length < 1000000 ∧ Wd G H s l c T ∧ T + (as.length : Int) < 1000000000000 ∧
  ∀ v bs G' H', (∀ b ∈ bs, b ∈ as) → bs.length = as.length → bs.Perm as → Wd G' H' s l c (T + (as.length : Int)) → StS [s, l, c] G H G' H' → Dq G' v (.list bs) → Q v H'
abbrev s__law_mixed : Stmt := top 53
section
variable {P : Program} {w : World} {mg : Str → Option Value} {base : Heap} {K : PySem.W.Frag}
theorem ok__law_mixed {f : Addr} {fd : FuncData} (Z : Zs mg) (C__law_draw : Cal P w K mg base CX0 1 "_law_draw" ["state", "size_here"] SpDraw) (F : Fun K "_law_mixed" "_law_mixed" s__law_mixed f fd) : FnOk P w K mg base CX0 2 f fd ["state", "several"] SpMix := by
  have sc : FnScope ["state", "several", "left", "found"] ["state", "several"] (defScope s__law_mixed) := ⟨rfl, rfl, rfl, by decide +kernel, rfl, by decide +kernel, by decide +kernel⟩
  refine F.ok sc (fun vs H Q E h => ?_) (fun cdv A outer s0 H vs Q E hr h => ?_)
  · obtain ⟨G, s, l, c, T, v1, as, rfl, _⟩ := h
    rfl
  · obtain ⟨G, s, l, c, T, v1, as, rfl, hv, hsh, hfl, hlen, wd, hT, k⟩ := h
    refine ⟨_, (pss_cons (ps_par (i := 2) (j := 3) (by rfl) sc.nd rfl rfl (by decide) rfl rfl (pa_cons (pe_callTy (r := rListOf K) call_list_of (by rfl) Z.list (by decide +kernel) (pa_cons (pv 1) pa_nil)) (pa_cons (pe_lst pa_nil) pa_nil)) (by rfl)) (pss_cons (ps_while PassesOwn.never (pt_cmpR (r := rNeD K) (op_neD hr.units) (pv 2) (pe_lst pa_nil) (nomark _)) (pss_one (ps_expr (pe_bm PySem.F.plainAttrs_list PySem.F.slot_list_append PySem.F.type_list_append mt_append (pv 3) (pa_cons (pe_bm PySem.F.plainAttrs_list PySem.F.slot_list_pop PySem.F.type_list_pop mt_popAt (pv 2) (pa_cons (pe_cal C__law_draw (hr.mono (by decide)) pass0 (pa_cons (pv 0) (pa_cons (pe_callB (r := rLenA K) call_len_seq (by rfl) Z.len PySem.boot_len (pa_cons (pv 2) pa_nil)) pa_nil))) pa_nil)) pa_nil))))) (pss_one (ps_ret (pv 3))))), ?_⟩
    cases hv with
    | @lst a xs _ ha hxs =>
      have n0 := hxs.len
      refine ⟨.ref a, rfl, a, xs, rfl, .inl (SqL.of (wd.w _ _ ha)), fun p hp => ⟨Nat.zero_le _, fun q hq => ⟨.ref p, .ref q, rfl, ?_⟩⟩⟩
      have hpq : p ≠ q := fun z => by rw [← z, upd_same] at hq; cases hq
      have hq0 : H q = none := by rw [upd_ne hpq.symm] at hq; exact hq
      have gp : G p = none := fresh_back wd.w hp
      have gq : G q = none := fresh_back wd.w hq0
      obtain ⟨⟨o1, e1, _⟩, ⟨o2, e2, _⟩, o3, e3, _⟩ := wd.st.at
      have ps : p ≠ s ∧ p ≠ l ∧ p ≠ c := ⟨(ne_of_none e1 hp).symm, (ne_of_none e2 hp).symm, (ne_of_none e3 hp).symm⟩
      have qs : q ≠ s ∧ q ≠ l ∧ q ≠ c := ⟨(ne_of_none e1 hq0).symm, (ne_of_none e2 hq0).symm, (ne_of_none e3 hq0).symm⟩
      refine q_whileW (fun m σ H' => σ = [some (.ref s), some (.ref a), some (.ref p), some (.ref q)] ∧ StS [s, l, c] G H G H' ∧ ∃ (us ws : List V) (bs cs : List D), H' p = some (.lst us) ∧ H' q = some (.lst ws) ∧ DqA G us bs ∧ DqA G ws cs ∧ (∀ b ∈ bs, b ∈ as) ∧ (∀ b ∈ cs, b ∈ as) ∧ bs.length = m ∧ bs.length + cs.length = as.length ∧ (bs ++ cs).Perm as ∧ Wd G H' s l c (T + (cs.length : Int)))
        (fun σ H' => σ = [some (.ref s), some (.ref a), some (.ref p), some (.ref q)] ∧ StS [s, l, c] G H G H' ∧ ∃ (ws : List V) (cs : List D), H' q = some (.lst ws) ∧ DqA G ws cs ∧ (∀ b ∈ cs, b ∈ as) ∧ cs.length = as.length ∧ cs.Perm as ∧ Wd G H' s l c (T + (cs.length : Int))) ?_ ?_ ?_
      · refine ⟨as.length, rfl, ((StS.refl wd.w).mut hp gp).mut hq0 gq, xs, [], as, [], by rw [upd_ne hpq, upd_same], upd_same, hxs, .nil, fun _ h => h, fun _ h => absurd h (List.not_mem_nil), rfl, rfl, by rw [List.append_nil], ?_⟩
        have := (wd.mut (o := .lst xs) gp ps.1 ps.2.1 ps.2.2).mut (o := .lst []) gq qs.1 qs.2.1 qs.2.2
        simpa using this
      · rintro R hR m σ H1 ⟨rfl, ss, us, ws, bs, cs, hp1, hq1, hu, hw, sb, sc', rfl, hn, hpm, wd1⟩
        refine ⟨.ref p, rfl, ne_nilD hp1 wd1.w hu (flat_sub hfl sb) (shaped_sub hsh sb) fun t ht => ⟨_, rfl, ?_⟩⟩
        have e2 : Ex H1 (upd H1 t (.lst [])) := .new ht
        have wd2 := wd1.stp (Stp.old wd1.w e2)
        have ss2 := ss.trans (Stp.old wd1.w e2).toS
        have hp2 := e2 _ _ hp1
        have hq2 := e2 _ _ hq1
        cases bs with
        | nil => exact iteF (hR _ _ ⟨rfl, ss2, ws, cs, hq2, hw, sc', by simpa using hn, by simpa using hpm, wd2⟩)
        | cons b0 bs =>
          refine iteT ⟨fun σ H' => σ = [some (.ref s), some (.ref a), some (.ref p), some (.ref q)] ∧ StS [s, l, c] G H G H' ∧ ∃ (us ws : List V) (bs' cs : List D), H' p = some (.lst us) ∧ H' q = some (.lst ws) ∧ DqA G us bs' ∧ DqA G ws cs ∧ (∀ b ∈ bs', b ∈ as) ∧ (∀ b ∈ cs, b ∈ as) ∧ bs'.length = bs.length ∧ bs'.length + cs.length = as.length ∧ (bs' ++ cs).Perm as ∧ Wd G H' s l c (T + (cs.length : Int)), ?_, ?_⟩
          · rintro σ' H' ⟨rfl, w1, us', ws', bs', cs', f1, f2, f3, f4, f5, f6, f7, f8, f9⟩
            exact ⟨bs.length, Nat.lt_succ_self _, rfl, w1, us', ws', bs', cs', f1, f2, f3, f4, f5, f6, f7, f8, f9⟩
          · have hul := hu.len
            rw [List.length_cons] at hul hn
            refine ⟨.ref q, rfl, .inl ⟨rfl, _, SqL.of hq2⟩, .ref p, rfl, .inl ⟨rfl, _, SqL.of hp2⟩, .ref s, rfl, .ref p, rfl, p, us, rfl, .inl (SqL.of hp2), G, s, l, c, _, (us.length : Nat), rfl, wd2, by omega, by omega, by omega, fun r H3 r1 r2 wd3 ss3 => ?_⟩
            obtain ⟨j, rfl⟩ := Int.eq_ofNat_of_zero_le r1
            have hj : j < us.length := by omega
            have hx : us[j]? = some us[j] := List.getElem?_eq_getElem hj
            obtain ⟨d, hd, hdq⟩ := hu.get hx
            have hp3 := ss3.h p _ (by simp [ps.1, ps.2.1, ps.2.2]) hp2
            have hq3 := ss3.h q _ (by simp [qs.1, qs.2.1, qs.2.2]) hq2
            have hwl := hw.len
            refine ⟨p, us, (j : Int), j, _, rfl, rfl, hp3, by omega, by omega, (ixN_seq (by unfold ixN; rw [if_pos (by omega), if_pos (by omega)]; rfl)).1, hx, ?_⟩
            refine ⟨q, ws, _, rfl, rfl, by rw [upd_ne hpq.symm]; exact hq3, by rw [sizeLine_eq]; omega, ?_⟩
            have gdel : ∀ {vs : List V} {ds : List D} (j : Nat), DqA G vs ds → DqA G (vs.eraseIdx j) (ds.eraseIdx j) := fun j h => by
              rw [List.eraseIdx_eq_take_drop_succ, List.eraseIdx_eq_take_drop_succ]
              exact (h.take j).app (h.drop (j + 1))
            have jd : j < (b0 :: bs).length := by rw [List.length_cons]; omega
            have dl : ((b0 :: bs).eraseIdx j).length = bs.length := by rw [List.length_eraseIdx_of_lt jd]; rfl
            refine ⟨rfl, ((ss2.trans ss3).mut hp gp).mut hq0 gq, us.eraseIdx j, ws ++ [us[j]], (b0 :: bs).eraseIdx j, cs ++ [d], by rw [upd_ne hpq, upd_same], upd_same, gdel j hu, hw.snoc hdq, fun b hb => sb b (List.mem_of_mem_eraseIdx hb), fun b hb => ?_, dl, by rw [dl, List.length_append]; show _ + (_ + 1) = _; omega, ?pm, ?_⟩
            case pm =>
              have e1 : (b0 :: bs).eraseIdx j ++ (cs ++ [d]) = ((b0 :: bs).eraseIdx j ++ cs) ++ [d] := (List.append_assoc _ _ _).symm
              rw [e1]
              exact (List.perm_append_comm (l₁ := (b0 :: bs).eraseIdx j ++ cs) (l₂ := [d])).trans (((erase_perm hd).append_right cs).trans hpm)
            · rcases List.mem_append.mp hb with h | h
              · exact sc' b h
              · rw [List.mem_singleton.mp h]; exact sb d (List.mem_of_getElem? hd)
            · have := (wd3.mut (o := .lst (us.eraseIdx j)) gp ps.1 ps.2.1 ps.2.2).mut (o := .lst (ws ++ [us[j]])) gq qs.1 qs.2.1 qs.2.2
              have e : T + (((cs ++ [d]).length : Nat) : Int) = T + (cs.length : Int) + 1 := by rw [List.length_append]; show T + ((cs.length + 1 : Nat) : Int) = _; omega
              rw [e]; exact this
      · rintro σ H2 ⟨rfl, ss, ws, cs, hq2, hw, sc', hn, hpm, wd2⟩
        have s3 : StS [s, l, c] G H (upd G q (.lst ws)) H2 := by
          refine ⟨.new gq, ss.h, ss.k, fun b o q' => ?_, fun b h1 h2 _ => ?_⟩
          · by_cases e : b = q
            · rw [e, upd_same] at q'; rw [e, ← q']; exact hq2
            · rw [upd_ne e] at q'; exact wd2.w b o q'
          · rw [upd_ne (fun z => h2 (by rw [z]; exact hq0))]; exact h1
        refine ⟨.ref q, rfl, k _ cs (upd G q (.lst ws)) H2 sc' hn hpm ?_ s3 (.lst upd_same (hw.mono (.new gq)))⟩
        rw [hn] at wd2
        exact ⟨s3.w, wd2.st, by rw [upd_ne qs.1.symm]; exact wd2.gs, by rw [upd_ne qs.2.1.symm]; exact wd2.gl, by rw [upd_ne qs.2.2.symm]; exact wd2.gc⟩
/-- what is picked is no dials -/
def SpBad : Sp := fun vs H Q _ => ∃ (G : Hp) (s l c : Addr) (T : Int), vs = [.ref s] ∧ Wd G H s l c T ∧ T < 1000000000000 ∧
  ∀ v d G' H', isDials d = false → Wd G' H' s l c (T + 1) → StS [s, l, c] G H G' H' → Dq G' v d → Q v H'
def badD : List D := [.none, .tuple [], .list [.int 2, .int 3], .tuple [.int 1, .int 3], .tuple [.int 0], .tuple [.int 25], .tuple [.int 5, .int 5], .tuple [.int 2, .int 2, .int 2, .int 2, .int 2], .tuple [.bool true, .int 3], .str ("23" : Str), .int 6, .tuple [.int (-2)], .dict [(.none, .none)]]
end
end Mv


namespace Mv
open PySem PySem.Spec L2 PyProof.Rows

/-! ### an exception that was caught and is kept -/
/-- at a stands an exception of the class cls, with the dict d -/
def CauO (cls : Value) (d : Option Addr) (a : Addr) : HO := .ext fun h => ∃ (oe : Obj) (vs : Array Value), h.get? a = some oe ∧ Zc cls d oe ∧ oe.data = .fields vs
section
variable {X : Cx} {pins : List (Addr × Obj)} {σ : L2.St} {H : Hp} {s : Shared} {a : Addr} {oe : Obj}
theorem suite_pins (J : Inv (X.suite a ((a, oe) :: (X.pn ++ pins))) [] σ H s) (ok : X.Ok) : Inv X ((a, oe) :: pins) σ H s := by
  refine ⟨ok, J.os, J.bare, J.base, J.loc, J.cell, J.free, J.freeC, fun q hq => J.pin q ?_, J.hok, J.len⟩
  show q ∈ ((a, oe) :: (X.pn ++ pins)) ++ []
  rw [List.append_nil]
  rcases List.mem_append.mp hq with z | z
  · exact List.mem_cons_of_mem _ (List.mem_append_left _ z)
  · rcases (List.mem_cons.mp z) with z | z
    · rw [z]; exact List.mem_cons_self ..
    · exact List.mem_cons_of_mem _ (List.mem_append_right _ z)
/-- from now on it is tracked -/
theorem keep_exc {cls : Value} {d : Option Addr} (J : Inv X ((a, oe) :: pins) σ H s) (z : Zc cls d oe) (hd : ∃ vs, oe.data = .fields vs) (newAt : X.s_0.heap.get? a = none) (np : ∀ q ∈ X.pn ++ pins, q.1 ≠ a) : Inv X pins σ (upd H a (CauO cls d a)) s := by
  obtain ⟨vs, hv⟩ := hd
  obtain ⟨ga, na, nl, nfs, ncell⟩ := J.pin (a, oe) (List.mem_append_right _ (List.mem_cons_self ..))
  have stay : ∀ {b : Addr}, b ≠ a → upd H a (CauO cls d a) b = H b := fun e => upd_ne e
  have old : ∀ {b : Addr} {u : HO}, H b = some u → upd H a (CauO cls d a) b = some u := fun e => (upd_ne (ne_of_none e na)).trans e
  refine ⟨J.ok, J.os, J.bare, ⟨J.base.keep, J.base.slot, fun b o q n x => ?_, J.base.there, fun b xs q => old (J.base.tups b xs q), fun b o u q => old (J.base.frzs b o u q), fun b ps q => ?_⟩, J.loc, J.cell, ?_, fun x c q => ?_, fun q hq => ?_, ?_, J.len⟩
  · rw [stay (fun z => by rw [z, newAt] at q; cases q)]
    exact J.base.free b o q n x
  · obtain ⟨m, r⟩ := J.base.tbls b ps q
    exact ⟨m, old r⟩
  · rw [stay (fun z => nl z.symm)]; exact J.free
  · rw [stay ?_]
    · exact J.freeC x c q
    · intro e
      obtain ⟨w', o, r1, r2⟩ := J.cell x c q
      rw [e, ga] at r1
      cases r1
      exact ncell _ r2
  · obtain ⟨r1, r2, r3⟩ := J.pin q (by
      rcases List.mem_append.mp hq with z | z
      · exact (List.mem_append_left _ z)
      · exact List.mem_append_right _ (List.mem_cons_of_mem _ z))
    exact ⟨r1, by rw [stay (np q hq)]; exact r2, r3⟩
  · exact J.hok.laidN (fun _ _ q => q) na ⟨⟨oe, vs, ga, z, hv⟩, ⟨oe, ga⟩, fun _ _ ⟨o, v, q, r⟩ k => ⟨o, v, k o q, r⟩⟩
end
/-- what 'except x as n' wants of the body's exception, where it stays tracked behind the clause -/
def wKeep (K : PySem.W.Frag) (c : Value) (i : Nat) (ts : Addr → Value → Option Addr → TS) (Wo : WX) (D : Ends) : WX := fun cls d σ H => ∃ b, PySem.W.exmOne K cls c = some b ∧
  (b = true → ∀ a, H a = none → ts a cls d { nx := fun τ H' => D.nx (τ.set i none) (upd H' a (CauO cls d a)), rt := fun v H' => D.rt v (upd H' a (CauO cls d a)), bk := fun τ H' => D.bk (τ.set i none) (upd H' a (CauO cls d a)), ct := fun τ H' => D.ct (τ.set i none) (upd H' a (CauO cls d a)) } (σ.set i (some (.ref a))) H) ∧
  (b = false → Wo cls d σ H)
section
variable {X : Cx} {x n : Str} {c : Value} {i : Nat} {body suite : List Stmt} {b₀ : Stmt} {pa pb pc : Pos} {tb : WX → TS} {ts : Addr → Value → Option Addr → TS} {Wo : WX}
theorem ps_try_keep (hst : X.stack = X.env :: X.outer) (hfr : X.env.frame = some X.env.locals) (hex : X.ex = []) (nd : X.N.Nodup) (ix : X.N[i]? = some n) (own : X.env.kindOf n = some .local) (nm : Names X x c) (tk : Takes X Wo)
    (bodyR : ∀ (W : WX) (pn : List (Addr × Obj)) (xe : Value → Shared → Prop), Takes (X.tr pn xe) W → PassesOwn (model X.prog X.w) X.A X.env xe → PSs (X.tr pn xe) body (tb W))
    (hu : ∀ (a : Addr) (oe : Obj) (cls : Value) (d : Option Addr) (pn : List (Addr × Obj)), Zc cls d oe → (∃ vs, oe.data = .fields vs) → PSs (X.suite a ((a, oe) :: pn)) (b₀ :: suite) (ts a cls d)) :
    PS X (.Try body [.ExceptHandler (some (.Name x pa)) (some n) (b₀ :: suite) pb] [] [] pc) (fun D σ H => tb (wKeep X.K c i ts Wo D) D σ H) := by
  refine ⟨fun pins s σ H D I h => wpAny_Try_except ?_⟩
  have good := I.ok
  have frm : X.A.frames = some (X.env :: X.outer) := by rw [good.frames, hst]
  refine wpAny_mono ((bodyR (wKeep X.K c i ts Wo D) (X.pn ++ pins) _ (fun u s' xx => ?_) PassesOwn.looking).run [] s σ H D (I.toTry _) h) (fun f s1 hsp => ?_) (fun e s1 he => he)
  · obtain ⟨a, B, sI, pins', τ, Hc, cls, d, rfl, Jt, ground, up, sky, na, os, ag, b, hb1, yes, no⟩ := xx
    have J : Inv X pins τ Hc sI := Jt.ofTry good
    have sky2 : Sky B (X.env :: X.outer) a (Zc cls d) X.env.locals s'.heap := by rw [← hst]; exact sky
    show (wpAny (model X.prog X.w) X.A (noteFrame (.ref a) X.env) _ _ _)
    refine Sky.land Zc.steady frm hfr sky2 fun g fl up2 => ?_
    have J2 : Inv X pins τ Hc { s' with heap := g } := J.landed ground fl.1 (up.trans up2) os ag
    obtain ⟨oe, vs, ge, ze, de⟩ := fl.there
    have out : a ∉ frs (X.env :: X.outer) := fun hm => by
      obtain ⟨_, o', e', hnf⟩ := fl.2.2.1.mem hm
      rw [ge] at e'
      cases e'
      exact hnf _ de
    have nL : a ≠ X.env.locals := fun z => out (List.mem_filterMap.mpr ⟨X.env, List.mem_cons_self, by rw [hfr, z]⟩)
    have nFs : a ∉ X.fs := fun hm => by
      obtain ⟨e, he, q⟩ := (List.mem_filterMap.mp hm)
      exact out (List.mem_filterMap.mpr ⟨e, List.mem_cons_of_mem _ he, q⟩)
    -- it is new since the entry, and no pin
    have nI : sI.heap.get? a = none := by
      cases e : sI.heap.get? a with
      | none => rfl
      | some o =>
        have z := ground a o e (by rw [hst]; exact out)
        rw [fl.2.1] at z
        cases z
    have newAt : X.s_0.heap.get? a = none := by
      cases e : (X.s_0.heap.get? a) with
      | none => rfl
      | some o =>
        obtain ⟨o', z⟩ := J.base.there a o e (by rw [hex]; exact List.not_mem_nil)
        rw [nI] at z
        cases z
    have np : ∀ q ∈ X.pn ++ pins, q.1 ≠ a := fun q hq e => by
      have z := (J.pin q hq).1
      rw [e, nI] at z
      cases z
    have U := J2.suite ge de na nL nFs
    refine (wpAny_handleBy_cons (codeAny_handlers_test ?_) (by intro q; cases q))
    have TT : PySem.W.Looks (model X.prog X.w) g (typeOf (.ref a)) cls := fun A Q E s k q => wpAny_typeOf_ref (k _ _ ge) (by rw [ze.1]; exact q)
    have MM := PySem.W.exm_one (M := model X.prog X.w) (J2.kIn) TT hb1
    have named : ∀ {Q : Value → Shared → Prop} {E : Value → Shared → Prop}, Q c { s' with heap := g } → wpAny (model X.prog X.w) (X.A.mark (some (.ref a))) (eval (.Name x pa) X.env) Q E { s' with heap := g } := fun {Q E} q => by
      obtain ⟨hg, hdbg, m | ⟨m, v, nn⟩⟩ := nm
      · exact ld_glob (X := X.suite a ((a, oe) :: (X.pn ++ pins))) U hg m q hdbg
      · exact ld_blt (X := X.suite a ((a, oe) :: (X.pn ++ pins))) U hg m v q nn hdbg
    refine named (MM.here ?_)
    cases b with
    | false =>
      show (wpAny _ X.A (handleBy (.ref a) X.env []) _ _ _)
      refine wpAny_handleBy_nil ?_
      obtain ⟨_, _, _, oo, us, T, oT, tt, ho, hz, hd, h1, _⟩ := id fl
      unfold PySem.passOn
      refine wpAny_bind (wpAny_field ho hd h1 ?_)
      (rw [if_neg (show ¬ ((Value.ref T == Value.none) = true) from by simp)])
      have away : wpAny (model X.prog X.w) X.A (setFlight (.ref a) X.env.frame) (fun _ s4 => wpAny (model X.prog X.w) X.A (throw (.ref a) : Sem Flow) (SP X pins D) X.xe s4) X.xe { s' with heap := g } := by
        rw [hfr]
        refine HandSPX.setFlight_upZ fl fun g4 held up4 => wpAny_throw (tk _ _ ?_)
        exact ⟨a, B, sI, pins, τ, Hc, cls, d, rfl, J, ground, (up.trans up2).trans up4, .inr (.inr (by rw [hst]; exact held)), na, os, ag, no rfl⟩
      first
        | exact wpAny_bind (wpAny_pure (wpAny_bind away))
        | exact wpAny_bind away
    | true =>
      refine codeAny_handlers_suite_as ?_
      refine HandSPX.lands_againZ fl fun g4 fl4 up4 => ?_
      have J4 : Inv X pins τ Hc { s' with heap := g4 } := J.landed ground fl4.1 ((up.trans up2).trans up4) os ag
      obtain ⟨o4, vs4, ge4, ze4, de4⟩ := fl4.there
      refine store_ok (X := X.suite a ((a, o4) :: (X.pn ++ pins))) (v := .ref a) (J4.suite ge4 de4 na nL nFs) nd ix (.inl own) rfl (fun s5 U5 => ?_) (.inr own)
      refine wpAny_mono ((hu a o4 cls d (X.pn ++ pins) ze4 ⟨_, de4⟩).run [] s5 _ Hc _ U5 (yes rfl a na)) (fun f s6 hsp => ?_) (fun _ _ z => False.elim z)
      have last : ∀ {τ6 : L2.St} {H6 : Hp} {Q : Shared → Prop}, Inv (X.suite a ((a, o4) :: (X.pn ++ pins))) [] τ6 H6 s6 → (∀ s7, Inv X pins (τ6.set i none) (upd H6 a (CauO cls d a)) s7 → Q s7) →
          wpAny (model X.prog X.w) X.A (do bindName X.env n .none; unbindBehindTheSuite X.env n pb) (fun _ s7 => Q s7) X.xe s6 := fun U6 hq => gone_ok (pins := (a, o4) :: pins) (suite_pins U6 good) nd ix own fun s7 J7 => hq s7 (keep_exc J7 ze4 ⟨_, de4⟩ newAt np)
      cases f with
      | next =>
        obtain ⟨τ6, H6, U6, q6⟩ := hsp
        exact last U6 fun s7 J7 => ⟨_, _, J7, q6⟩
      | brk =>
        obtain ⟨τ6, H6, U6, q6⟩ := hsp
        exact last U6 fun s7 J7 => ⟨_, _, J7, q6⟩
      | cont =>
        obtain ⟨τ6, H6, U6, q6⟩ := hsp
        exact last U6 fun s7 J7 => ⟨_, _, J7, q6⟩
      | ret u =>
        obtain ⟨v6, τ6, H6, U6, r6, q6⟩ := hsp
        exact last U6 fun s7 J7 => ⟨_, _, _, J7, r6, q6⟩
  cases f with
  | next => exact wpAny_execs_nil (hsp.elim fun τ h => h.elim fun H' h => ⟨τ, H', h.1.ofTry good, h.2⟩)
  | brk => exact hsp.elim fun τ h => h.elim fun H' h => ⟨τ, H', h.1.ofTry good, h.2⟩
  | cont => exact hsp.elim fun τ h => h.elim fun H' h => ⟨τ, H', h.1.ofTry good, h.2⟩
  | ret u => exact hsp.elim fun v h => h.elim fun τ h => h.elim fun H' h => ⟨v, τ, H', h.1.ofTry good, h.2⟩
end
/-- isinstance(e, c) of an exception that is kept -/
def rIsK (K : PySem.W.Frag) (C : Addr) : List V → Hp → VK → Prop := fun xs H Q => ∃ (a : Addr) (cv : Value) (c : V) (b : Bool), xs = [.ref a, c] ∧ H a = some (CauO (.ref C) none a) ∧ ClsV c cv ∧ PySem.W.kitOne K (.ref C) cv = some b ∧ Q (.bl b) H
theorem call_isK {X : Cx} {C : Addr} (B : L2.ExcC X.K C) : CallR X (.builtin "isinstance") (rIsK X.K C) := by
  intro pins; intro s σ H xs us Q I r h
  obtain ⟨a, cv, c, b, rfl, ha, hc, e, q⟩ := h
  obtain ⟨ua, ub, rfl, r1, r2⟩ := vals2 r
  obtain rfl : ua = Value.ref a := r1
  have e2 := hc.eq r2
  subst e2
  obtain ⟨⟨oe, vs, hg, hz, hv⟩, _, _⟩ := I.hok a _ ha
  have J : PySem.W.InstAt s.heap a oe C none := by
    obtain ⟨oc, od, o3, o4⟩ := oe
    obtain ⟨h1, h2⟩ := hz
    dsimp only at h1 h2 hv
    subst h1 h2 hv
    exact ⟨hg, rfl, rfl, trivial⟩
  exact PySem.W.kia_one (PySem.W.handS_kitx_exc B.hg B.hk B.hs B.hd B.ha B.hn B.ht B.hm) I.kIn J e (fun z => nomatch z) fun tk => ⟨.bl b, H, I.kept (t' := tk) fun _ _ z => z, rfl, q⟩
end Mv


namespace Mv
open PySem L2 LamX
theorem takes_len {X : Cx} {W : WX} (t : Takes X W) : Takes X (fun cls d σ H => σ.length = X.N.length → W cls d σ H) := fun u s' ⟨a, B, sI, pins, σ, H, cls, d, e, I, nb, up, sky, na, os, ag, w⟩ =>
  t u s' ⟨a, B, sI, pins, σ, H, cls, d, e, I, nb, up, sky, na, os, ag, w I.len⟩
/-- caught: try: work() / except x as error: caught = error -/
def TTc (K : PySem.W.Frag) (CS : Addr) : (XK → Hp → VK → Prop) → Hp → VK → Prop := fun tl H Q =>
  tl (fun cls d H' => ∃ b, PySem.W.exmOne K cls (.ref CS) = some b ∧ (b = true → ∀ a, H' a = none → Q (.ref a) (upd H' a (CauO cls d a))) ∧ (b = false → False)) H fun _ H' => Q .non H'
end Mv


namespace Mv
open PySem L2 Evl

/-! ### repr of a list or a tuple -/
/-- repr(x), x data without dicts -/
def rReprD (K : PySem.W.Frag) : List V → Hp → VK → Prop := fun xs H Q => ∃ (p : Addr) (d : D), xs = [.ref p] ∧ Dp K H (.ref p) d ∧ d.showable = true ∧ d.hasDict = false ∧ d.depth ≤ 64 ∧ d.shown.length ≤ sizeLine ∧ Q (.str d.shown) H
theorem call_reprD {X : Cx} (hg : X.A.guards = some []) (hu : X.A.units + 66 < cLine) : CallR X (.builtin "repr") (rReprD X.K) := by
  intro pins; intro s σ H xs us Q I r h
  obtain ⟨p, d, rfl, hd, h1, h2, h3, h4, q⟩ := h
  cases r with
  | cons rx rr =>
    cases rr
    obtain rfl := rx
    obtain ⟨as, hr⟩ := Dp.reads I d (.ref p) (.ref p) hd rfl
    exact repr_of_reads' hr h1 (fun z => by rw [h2] at z; cases z) hg (by omega) (fun _ _ e => e) (fun h' u tk hk => ⟨.str d.shown, H, I.kept (t' := tk) hk, ⟨u, rfl⟩, q⟩) h4

/-! ### calls: no arguments, keywords alone -/
theorem passF {P : Program} {w : World} {X : Cx} : Passes (L2.CX P w) X (fun _ _ _ => False) := fun _ _ _ _ _ _ _ ⟨_, _, _, _, _, _, _, _, _, _, _, _, z⟩ => z.elim
theorem pe_cal0 {X : Cx} {CX : CXT} {k : Nat} {x : Str} {sp : Sp} {E : XK} {p pos : Pos} (C : Cal X.prog X.w X.K X.mg X.base CX k x [] sp) (hr : Room k X.A) (hx : Passes CX X E) (hg : Gl X x := by rfl) (hdb : (x == ("__debug__" : Str)) = false := by decide) :
    PE X (.Call (.Name x p) [] [] pos) (tCall sp [] E tNil) := by
  obtain ⟨f, fd, F, hm, hk, hb⟩ := C.ex
  exact pe_call0 F hr hg hm hk hb .nil hx hdb
/-- a def that may be called by keywords, all of them -/
structure CalK (P : Program) (w : World) (K : PySem.W.Frag) (mg : Str → Option Value) (base : Heap) (CX : CXT) (k : Nat) (x : Str) (ps : List Str) (sp : Sp) : Prop where
  ex : ∃ (f : Addr) (fd : FuncData), FnOk P w K mg base CX k f fd ps sp ∧ mg x = some (.ref f) ∧ PySem.W.keepIn K (.ref f) = true ∧ ∀ ws : List Value, ws.length = ps.length → bindArgs fd ⟨[], ps.zip ws⟩ = pure (ps.zip ws)
theorem pe_calk0 {X : Cx} {CX : CXT} {k : Nat} {x : Str} {ps : List Str} {sp : Sp} {E : XK} {p pos : Pos} {kws : List Keyword} {t : TA} (C : CalK X.prog X.w X.K X.mg X.base CX k x ps sp) (hr : Room k X.A) (hx : Passes CX X E) (ha : PK X kws t)
    (hg : Gl X x := by rfl) (hall : (backToKw pos (keywordEach kws X.env)).all (·.1.isSome) = true := by rfl) (hks : (backToKw pos (keywordEach kws X.env)).filterMap (·.1) = ps := by rfl) (hdb : (x == ("__debug__" : Str)) = false := by decide)
    (hpl : ((backTo pos (starEach [] X.env)).any (·.1) || (backToKw pos (keywordEach kws X.env)).any (·.1.isNone)) = false := by rfl) : PE X (.Call (.Name x p) [] kws pos) (tCall sp [] E t) := by
  obtain ⟨f, fd, F, hm, hk, hb⟩ := C.ex
  refine ⟨fun pins s σ H Q I h => wpAny_Call_Name_kw (ld_glob I hg hm ?_ hdb)⟩
  refine PySem.W.callWith_KW0 (h₀ := X.base) I.ok.mod.kin hk hall (thn (ha.run pos pins s σ H _ I h) fun ws s2 ⟨zs, H2, I2, rz, q2⟩ => ⟨I2.kIn, ?_⟩) hpl
  rw [hks]
  have q2 : sp zs H2 Q E := by
    have z : sp (zs ++ []) H2 Q E := q2
    rwa [List.append_nil] at z
  have hl : ws.length = ps.length := by rw [← rz.length]; exact F.len _ _ _ _ q2
  refine wpAny_call (codeAny_mono (F.run X.A X.stack s2 H2 ⟨[], ps.zip ws⟩ ws zs Q E hr I2.env0 (.of_eq (hb ws hl)) rz q2) fun r s' hq => ?_)
  cases r with
  | error e => exact hx pins σ H2 s2 e s' I2 hq
  | ok fl =>
    cases fl with
    | ret u => exact I2.after hq
    | next => exact False.elim hq
    | brk => exact False.elim hq
    | cont => exact False.elim hq
section
variable {K : PySem.W.Frag} {σ : L2.St} {G G' H H' : Hp} {ta tb te tx : TE} {t u : TT} {d e z : D} {ds es : List D} {D' : Ends} {tu tz : TS}
theorem cad_repr (f : flatD d = true) (h1 : d.showable = true) (h2 : d.hasDict = false) (h3 : d.depth ≤ 64) (h4 : d.shown.length ≤ sizeLine) (hr : ∃ xs, d = .list xs) : CaD (rReprD K) G [d] (.str d.shown) := fun vs G1 H1 x w h Q q => by
  cases h with
  | cons h k =>
    cases k
    obtain ⟨xs, rfl⟩ := hr
    cases h with
    | lst hp hx => exact ⟨_, _, rfl, dp_of w (.lst hp hx) f, h1, h2, h3, h4, q _ G1 H1 (.refl w) (.str _)⟩
theorem opd_eqN (i j : Int) : OpD rEq G (.int i) (.int j) (.bool (decide (i = j))) := fun x y G1 H1 a b hx hy Q q => by
  cases hx
  cases hy
  refine ⟨rfl, ?_⟩
  have e : decide (V.int i = V.int j) = decide (i = j) := by rw [dec_int, Bool.eq_iff_iff]; simp
  rw [e]
  exact q _ G1 H1 (.refl b) (.bl _)
theorem opd_neB (i j : Bool) : OpD rNe G (.bool i) (.bool j) (.bool (!(i == j))) := fun x y G1 H1 a b hx hy Q q => by
  cases hx
  cases hy
  refine ⟨rfl, ?_⟩
  rw [dec_bl]
  exact q _ G1 H1 (.refl b) (.bl _)
theorem opd_neS (i : Str) : OpD rNe G (.str i) (.str i) (.bool false) := fun x y G1 H1 a b hx hy Q q => by
  cases hx
  cases hy
  refine ⟨rfl, ?_⟩
  have e : (!decide (V.str i = V.str i)) = false := by simp
  rw [e]
  exact q _ G1 H1 (.refl b) (.bl _)
theorem d_lenS {i : Nat} {a : Addr} {xs : List V} (h : σ[i]? = some (some (.ref a))) (hS : ∀ H, Ex G H → SqL K H a xs) : EvD (tCB (rLenA K) (tCons (tVar i) tNil)) σ G (.int (xs.length : Nat)) := fun G1 H1 x w Q q =>
  ⟨.ref a, h, a, xs, rfl, .inl (hS H1 (x.trans w)), q _ G1 H1 (.refl w) (.int _)⟩
/-- a for over a list that comes of steps of any kind -/
theorem q_forLR {g : TG} {tl : TE} (Pv : V → Hp → Prop) (hl : ∀ Q : VK, (∀ v H1, Pv v H1 → Q v H1) → tl σ H Q) (hk : ∀ v H1, Pv v H1 → tSeq (tFor (iList K (tC v)) g tu) tz D' σ H1) : tSeq (tFor (iList K tl) g tu) tz D' σ H := hl _ hk
/-- what is known, without tables of code -/
def noT (G : Hp) : Hp := fun b => match G b with
  | some (.tbl _) => none
  | x => x
theorem noT_at {G : Hp} {b : Addr} {o : HO} (h : G b = some o) (n : ∀ ps, o ≠ .tbl ps) : noT G b = some o := by
  unfold noT
  rw [h]
  cases o with
  | tbl ps => exact (n ps rfl).elim
  | _ => rfl
theorem of_noT {G : Hp} {b : Addr} {o : HO} (h : noT G b = some o) : G b = some o ∧ ∀ ps, o ≠ .tbl ps := by
  unfold noT at h
  cases e : G b with
  | none => rw [e] at h; cases h
  | some u =>
    rw [e] at h
    cases u with
    | tbl ps => cases h
    | _ => cases h; exact ⟨rfl, fun _ z => by cases z⟩
mutual
theorem Dq.noT {G : Hp} : ∀ {v : V} {d : D}, Dq G v d → Dq (noT G) v d
  | _, _, .non => .non
  | _, _, .bl b => .bl b
  | _, _, .int i => .int i
  | _, _, .str x => .str x
  | _, _, .lst h k => .lst (noT_at h fun _ z => by cases z) (DqA.noT k)
  | _, _, .tup h k => .tup (noT_at h fun _ z => by cases z) (DqA.noT k)
  | _, _, .emp h r => .emp (noT_at h fun _ z => by cases z) r
  | _, _, .dct h k r => .dct (noT_at h fun _ z => by cases z) (DqP.noT k) r
theorem DqA.noT {G : Hp} : ∀ {vs : List V} {ds : List D}, DqA G vs ds → DqA (noT G) vs ds
  | _, _, .nil => .nil
  | _, _, .cons h k => .cons (Dq.noT h) (DqA.noT k)
theorem DqP.noT {G : Hp} : ∀ {kvs : List (List L2.Key × V)} {es : List (List L2.Key × D)}, DqP G kvs es → DqP (noT G) kvs es
  | _, _, .nil => .nil
  | _, _, .cons h k => .cons (Dq.noT h) (DqP.noT k)
end
end

/-! ### the law's mathematics: all rows of one to four sizes with at most 24 places, one by one -/
def wholeF (n : List Int) : List Int := addUp n (placesOf n)
def evens (n : List Int) : Nat := (n.filter fun s => decide (s % 2 = 0)).length
theorem few_shown : (fewD.all fun n => decide ((PyData.shown (.list [dI (wholeF n), dI (wholeF n)])).length ≤ sizeLine) && PyData.showable (.list [dI (wholeF n), dI (wholeF n)])) = true := by decide +kernel
theorem few_math : (fewD.all fun n => (if (halvesOf n).length = 1 then decide ((halvesOf n)[0]? = some (wholeF n)) else decide (wholeF n = zeros n)) && (decide ((halvesOf n).length = 1) == decide (evens n = 1)) && decide ((halvesOf n).length ≤ 24) && decide ((placesOf n).length ≤ 24) && (placesOf n).all fun p => decide (p.length = n.length)) = true := by decide +kernel
end Mv


namespace Mv
open PySem L2 Evl
/-- p is a place of dials with these sizes -/
inductive InP : List Int → List Int → Prop
  | nil : InP [] []
  | cons {x s : Int} {p n : List Int} : 0 ≤ x → x < s → InP p n → InP (x :: p) (s :: n)
theorem InP.snoc {p n : List Int} {x s : Int} (h : InP p n) (h1 : 0 ≤ x) (h2 : x < s) : InP (p ++ [x]) (n ++ [s]) := by
  induction h with
  | nil => exact .cons h1 h2 .nil
  | cons a b _ ih => exact .cons a b ih
theorem InP.len {p n : List Int} (h : InP p n) : p.length = n.length := by
  induction h with
  | nil => rfl
  | cons _ _ _ ih => rw [List.length_cons, List.length_cons, ih]
theorem InP.grown {p n : List Int} (h : InP p n) : ∀ {found : List (List Int)} {b : List Int}, b ∈ found → b ++ p ∈ n.foldl grow found := by
  induction h with
  | nil => intro found b hb; rw [List.append_nil]; exact hb
  | @cons x s p n h1 h2 _ ih =>
    intro found b hb
    have : b ++ [x] ∈ grow found s := by
      unfold grow
      refine List.mem_flatMap.mpr ⟨b, hb, List.mem_map.mpr ⟨x.toNat, List.mem_range.mpr (by omega), ?_⟩⟩
      rw [Int.toNat_of_nonneg h1]
    have := ih this
    rw [List.append_assoc] at this
    exact this
theorem InP.mem {p n : List Int} (h : InP p n) : p ∈ placesOf n := h.grown (List.mem_singleton.mpr rfl)
theorem t_yes {σ : L2.St} {H : Hp} {k : Bool → Hp → Prop} (h : k true H) : tYes σ H k := h
/-- place(state, dials): a drawn place -/
def SpPlace : Sp := fun vs H Q _ => ∃ (G : Hp) (s l c : Addr) (T : Int) (v1 : V) (n : List Int), vs = [.ref s, v1] ∧ Dq G v1 (dI n) ∧ (∀ x ∈ n, 0 < x ∧ x ≤ 1000) ∧ n.length ≤ 1000 ∧ Wd G H s l c T ∧ T < 100000000000 ∧
  ∀ v p G' H', InP p n → Wd G' H' s l c (T + 1000) → StS [s, l, c] G H G' H' → Dq G' v (dI p) → Q v H'
section
variable {P : Program} {w : World} {mg : Str → Option Value} {base : Heap} {K : PySem.W.Frag}
end
end Mv


namespace Mv
open PySem L2 Evl
/-! ### places judged, places so many times -/
def mulP : List Int → List Int → Int → List Int
  | s :: n, x :: a, k => ((x * k) % s) :: mulP n a k
  | _, _, _ => []
def isTup (d : D) (m : Int) : Bool := match d with
  | .tuple xs => decide ((xs.length : Int) = m)
  | _ => false
def isPlace (n : List Int) (d : D) : Bool := match d with
  | .tuple xs => decide (xs.length = n.length) && (xs.zip n).all fun q => btw 0 (q.2 - 1) q.1
  | _ => false
/-- the least number of times from 1 on -/
def turnF (n p : List Int) : Nat := ((List.range 24).find? fun (i : Nat) => decide (mulP n p ((i : Int) + 1) = zeros n)).getD 0 + 1
theorem few_turn : (fewD.all fun n => (placesOf n).all fun p => ((List.range 24).find? fun (i : Nat) => decide (mulP n p ((i : Int) + 1) = zeros n)).isSome && isPlace n (dI p)) = true := by decide +kernel
theorem mul_D : ∀ (n a : List Int) (k : Int), made (fun _ => true) (fun q : D × D => match q with | (.int x, .int s) => PyData.int ((x * k) % s) | _ => .none) ((a.map PyData.int).zip (n.map PyData.int)) = (mulP n a k).map PyData.int
  | [], [], _ => rfl
  | [], _ :: _, _ => rfl
  | _ :: _, [], _ => rfl
  | s :: n, x :: a, k => by
    have ih := mul_D n a k
    unfold made at ih ⊢
    rw [List.filter_eq_self.mpr (fun _ _ => rfl)] at ih ⊢
    rw [List.map_cons, List.map_cons, List.zip_cons_cons, List.map_cons, ih]
    rfl
theorem zip_in (n a : List Int) {d e : D} (h : (d, e) ∈ (a.map PyData.int).zip (n.map PyData.int)) : ∃ x s : Int, d = .int x ∧ e = .int s ∧ s ∈ n := by
  obtain ⟨h1, h2⟩ := List.of_mem_zip h
  obtain ⟨x, _, rfl⟩ := List.mem_map.mp h1
  obtain ⟨s, hs, rfl⟩ := List.mem_map.mp h2
  exact ⟨x, s, rfl, rfl, hs⟩
theorem place_D : ∀ (xs : List D) (n : List Int), made (fun _ => true) (fun q : D × D => match q with | (d, .int s) => PyData.bool (btw 0 (s - 1) d) | _ => .none) (xs.zip (n.map PyData.int)) = ((xs.zip n).map fun q => btw 0 (q.2 - 1) q.1).map PyData.bool
  | [], _ => by unfold made; simp
  | _ :: _, [] => by unfold made; simp
  | d :: xs, s :: n => by
    have ih := place_D xs n
    unfold made at ih ⊢
    rw [List.filter_eq_self.mpr (fun _ _ => rfl)] at ih ⊢
    rw [List.map_cons, List.zip_cons_cons, List.map_cons, ih, List.zip_cons_cons, List.map_cons, List.map_cons]
def R_multiply (ds : List D) (z : D) : Prop := ∃ (n a : List Int) (k : Int), ds = [dI n, dI a, .int k] ∧ a.length = n.length ∧ n.length ≤ 1000 ∧ (∀ s ∈ n, 0 < s) ∧ (-(2 ^ 64) < k ∧ k < 2 ^ 64) ∧ z = dI (mulP n a k)
def R_is_tuple_of (ds : List D) (z : D) : Prop := ∃ (d : D) (m : Int), ds = [d, .int m] ∧ z = .bool (isTup d m)
def R_is_place (ds : List D) (z : D) : Prop := ∃ (n : List Int) (d : D), ds = [dI n, d] ∧ n.length ≤ 1000 ∧ z = .bool (isPlace n d)
def R_check_place (C : Addr) (ds : List D) (r : Except Addr D) : Prop := ∃ (n : List Int) (d : D), ds = [dI n, d] ∧ n.length ≤ 1000 ∧ r = if isPlace n d then .ok .none else .error C
def R_turn_of (C C' : Addr) (ds : List D) (r : Except Addr D) : Prop := ∃ d e : D, ds = [d, e] ∧ ((∃ n p, d = dI n ∧ e = dI p ∧ n ∈ fewD ∧ p ∈ placesOf n ∧ r = .ok (.int (turnF n p : Nat))) ∨ (isDials d = false ∧ r = .error C) ∨ (∃ n, d = dI n ∧ n ∈ fewD ∧ isPlace n e = false ∧ r = .error C'))
section
variable {K : PySem.W.Frag} {σ : L2.St} {G G' H H' : Hp} {te : TE} {D' : Ends} {tz : TS} {ds : List D}
/-- a call as a statement, which may raise -/
theorem q_callE {R : List D → Except Addr D → Prop} {E : XK} {tr : TA} {r : Except Addr D} (h : EvS tr σ G ds) (w : Ex G H) (hR : R ds r) (h1 : ∀ C, r = .error C → ∀ G1 H1, Stp G H G1 H1 → E (.ref C) none H1) (h2 : ∀ z, r = .ok z → ∀ G1 H1, Stp G H G1 H1 → tz D' σ H1) :
    tSeq (tDrop (tCall (SpE R) [] E tr)) tz D' σ H := h G H (.refl G) w _ fun vs G1 H1 s hv => by
  show SpE R (vs ++ []) H1 (fun _ H1 => tz D' σ H1) E
  rw [List.append_nil]
  exact ⟨G1, ds, r, s.w, hv, hR, fun z hz v G2 H2 s2 _ => h2 z hz G2 H2 (s.trans s2), fun C hC G2 H2 s2 => h1 C hC G2 H2 (s.trans s2)⟩
end
abbrev s_is_tuple_of : Stmt := top 21
abbrev s_is_place : Stmt := top 26
section
variable {P : Program} {w : World} {mg : Str → Option Value} {base : Heap} {K : PySem.W.Frag}
theorem ok_is_tuple_of {f : Addr} {fd : FuncData} (Z : Zs mg) (F : Fun K "is_tuple_of" "is_tuple_of" s_is_tuple_of f fd) : FnOk P w K mg base CX0 1 f fd ["thing", "many"] (SpR R_is_tuple_of) := by
  have sc : FnScope ["thing", "many"] ["thing", "many"] (defScope s_is_tuple_of) := ⟨rfl, rfl, rfl, by decide +kernel, rfl, by decide +kernel, by decide +kernel⟩
  refine F.ok sc (fun vs H Q E h => ?_) (fun cdv A outer s H vs Q E hr h => ?_)
  · obtain ⟨G, ds, z, _, hv, ⟨d, m, rfl, _⟩, _⟩ := h
    exact hv.len
  · obtain ⟨G, ds, z, wf, hv, ⟨d, m, rfl, rfl⟩, k⟩ := h
    refine ⟨_, (pss_one (ps_ret (pe_and (pe_callB (r := rIsiY K) call_isiY (by rfl) Z.isinstance (by decide +kernel) (pa_cons (pv 0) (pa_cons (pe_bltn (v := .ty "tuple") (u := .type "tuple") (by rfl) Z.tuple (by decide +kernel) rfl) pa_nil))) (pe_one (pe_cmpR op_eq (pe_callB (r := rLenA K) call_len_seq (by rfl) Z.len PySem.boot_len (pa_cons (pv 0) pa_nil)) (pv 1) (nomark _)))))), ?_⟩
    cases hv with
    | @cons v0 vs d0 ds hv0 hn =>
      cases hn with
      | @cons v1 vs d1 ds hv1 hn =>
        cases hn
        refine s_ret (G := G) (d := .bool (isTup d m)) ?_ wf fun v G3 H3 s3 hv => k v G3 H3 s3 hv
        cases d with
        | tuple xs => exact (d_and (a := true) (d_isi (c := "tuple") (by decide) (d_var rfl hv0)) fun _ => d_op (d_cb (a_cons (d_var rfl hv0) a_nil) cad_lenT) (d_var rfl hv1) (opd_eqN _ _)).is rfl
        | _ => exact (d_and (a := false) (b := true) (d_isi (c := "tuple") (by decide) (d_var rfl hv0)) fun z => nomatch z).is rfl
theorem ok_is_place {f : Addr} {fd : FuncData} (Z : Zs mg) (C_is_tuple_of : Cal P w K mg base CX0 1 "is_tuple_of" ["thing", "many"] (SpR R_is_tuple_of)) (C_is_between : Cal P w K mg base CX0 2 "is_between" ["thing", "low", "high"] (SpR R_is_between)) (F : Fun K "is_place" "is_place" s_is_place f fd) : FnOk P w K mg base CX0 3 f fd ["dials", "thing"] (SpR R_is_place) := by
  have sc : FnScope ["dials", "thing", "at", "size"] ["dials", "thing"] (defScope s_is_place) := ⟨rfl, rfl, rfl, by decide +kernel, rfl, by decide +kernel, by decide +kernel⟩
  refine F.ok sc (fun vs H Q E h => ?_) (fun cdv A outer s H vs Q E hr h => ?_)
  · obtain ⟨G, ds, z, _, hv, ⟨n, d, rfl, _⟩, _⟩ := h
    exact hv.len
  · obtain ⟨G, ds, z, wf, hv, ⟨n, d, rfl, hl, rfl⟩, k⟩ := h
    refine ⟨_, (pss_cons (ps_if (pt_not (pt_val (pe_cal C_is_tuple_of (hr.mono (by decide)) pass0 (pa_cons (pv 1) (pa_cons (pe_callB (r := rLenA K) call_len_seq (by rfl) Z.len PySem.boot_len (pa_cons (pv 0) pa_nil)) pa_nil))))) (pss_one (ps_ret pe_bl)) pss_nil) (pss_one (ps_ret (pe_callB (r := rAll K) (cr_all (by rfl)) (by rfl) Z.all (by decide +kernel) (pa_cons (pe_lc (own := [("at", 2), ("size", 3)]) (g := gTup K 2 (gCons (gName 2) (gCons (gName 3) gNil))) (tt := tYes) (by rfl) sc.nd (pi_zip2 false false (by rfl) Z.zip (pa_cons (pv 1) (pa_cons (pv 0) pa_nil))) (blkOk_by (N := ["dials", "thing", "at", "size"]) (sc := defScope s_is_place) (by decide +kernel)) (fun _ _ _ _ _ => (pg_tup rfl (pgs_cons (pg_name (i := 2) sc.nd rfl (Or.inl rfl)) (pgs_cons (pg_name (i := 3) sc.nd rfl (Or.inl rfl)) pgs_nil)))) (fun _ _ _ _ _ => pts_nil) (fun _ _ _ _ _ => (pe_cal C_is_between (hr.mono (by decide)) pass0 (pa_cons (pv 2) (pa_cons pe_int (pa_cons (pe_op op_sub (pv 3) pe_int) pa_nil)))))) pa_nil))))), ?_⟩
    cases hv with
    | @cons v0 vs d0 ds hv0 hn =>
      cases hn with
      | @cons v1 vs d1 ds hv1 hn =>
        cases hn
        refine q_when (G := G) (b := !isTup d (n.length : Nat)) (b_not (b_B (d_cal (a_cons (d_var rfl hv1) (a_cons ((d_cb (a_cons (d_var rfl hv0) a_nil) cad_lenT).is (by rw [List.length_map])) a_nil)) ⟨d, _, rfl, rfl⟩))) wf (fun hb G1 H1 s1 => ?_) fun hb G1 H1 s1 => ?_
        · have e : isPlace n d = false := by
            cases d with
            | tuple xs =>
              have hb2 : decide ((xs.length : Int) = (n.length : Nat)) = false := by simpa [isTup] using hb
              have : decide (xs.length = n.length) = false := by
                have := of_decide_eq_false hb2
                exact (decide_eq_false (by omega))
              show (decide (xs.length = n.length) && _) = false
              rw [this]; rfl
            | _ => rfl
          refine s_ret (G := G1) (D' := { nx := _, rt := Q }) (d := .bool false) (d_c (.bl false)) s1.w fun v G3 H3 s3 hv => k v G3 H3 (s1.trans s3) (by rw [e]; exact hv)
        · have hb2 : isTup d (n.length : Nat) = true := by simpa using hb
          cases d with
          | tuple xs =>
            have hx : xs.length = n.length := by have := of_decide_eq_true hb2; omega
            have e : isPlace n (.tuple xs) = ((xs.zip n).map fun q => btw 0 (q.2 - 1) q.1).all id := by
              show (decide (xs.length = n.length) && (xs.zip n).all fun q => btw 0 (q.2 - 1) q.1) = _
              rw [decide_eq_true hx, List.all_map]
              rfl
            rw [e] at k
            have hv0' := hv0.mono s1.g
            have hv1' := hv1.mono s1.g
            refine s_ret (G := G1) (d := .bool _) (d_cb (a_cons ?_ a_nil) cad_all) s1.w fun v G3 H3 s3 hv => k v G3 H3 (s1.trans s3) hv
            rw [← place_D xs n]
            refine d_lcZ2 (k1 := false) (k2 := false) (as := xs) (bs := n.map PyData.int) (fun _ => true) _ (a_cons (d_var rfl hv1') (a_cons (d_var rfl hv0') a_nil)) (by omega) (by rw [List.length_map]; omega) (fun _ _ => rfl) (fun _ _ _ _ _ _ _ _ _ => b_yes) ?_
            rintro x y da db G2 e1 hm hx hy _
            obtain ⟨s, hs, rfl⟩ := List.mem_map.mp (List.of_mem_zip hm).2
            exact d_cal (a_cons (d_var rfl hx) (a_cons (d_c (.int 0)) (a_cons (d_op (d_var rfl hy) (d_c (.int 1)) (opd_I0 fun _ => .int (s - 1))) a_nil))) ⟨da, 0, s - 1, rfl, rfl⟩
          | _ => simp [isTup] at hb2
end
end Mv


namespace Mv
open PySem L2 Evl
/-! ### slices of tuples -/
def EvO (to : TO) (σ : L2.St) (G : Hp) (o : Option Int) : Prop := ∀ G1 H1, Ex G G1 → Ex G1 H1 → ∀ Q : Option Int → Hp → Prop, (∀ G2 H2, Stp G1 H1 G2 H2 → Q o H2) → to σ H1 Q
def cutD (ds : List D) (lo hi : Option Int) : List D := (ds.drop (HT.sIx ds.length 0 lo)).take (HT.sIx ds.length ds.length hi - HT.sIx ds.length 0 lo)
section
variable {K : PySem.W.Frag} {σ : L2.St} {G G' H H' : Hp} {te : TE} {tl th : TO} {ds : List D}
theorem o_none : EvO tNoPart σ G none := fun G1 H1 x w Q q => q G1 H1 (.refl w)
theorem o_some {i : Int} (h : EvD te σ G (.int i)) : EvO (tPart te) σ G (some i) := fun G1 H1 x w Q q => h G1 H1 x w _ fun v G2 H2 s hv => by
  cases hv
  exact ⟨i, rfl, q G2 H2 s⟩
theorem d_slT {lo hi : Option Int} (h : EvD te σ G (.tuple ds)) (hl : EvO tl σ G lo) (hh : EvO th σ G hi) : EvD (tSl (rSlA K) te tl th) σ G (.tuple (cutD ds lo hi)) := fun G1 H1 x w Q q =>
  h G1 H1 x w _ fun v G2 H2 s2 hv => hl G2 H2 (x.trans s2.g) s2.w _ fun G3 H3 s3 => hh G3 H3 ((x.trans s2.g).trans s3.g) s3.w _ fun G4 H4 s4 => by
    have hv4 := hv.mono (s3.g.trans s4.g)
    have s := (s2.trans s3).trans s4
    cases hv4 with
    | @tup a xs _ ha hxs =>
      have e := hxs.len
      refine ⟨a, xs, rfl, SqT.of (s4.w _ _ ha), fun ⟨c1, c2⟩ => ?_, fun _ p hp => ?_⟩
      · have z : cutD ds lo hi = ds := by
          unfold cutD
          rw [← e, c1, c2, Nat.sub_zero, List.drop_zero, e, List.take_length]
        rw [z] at q
        exact q _ G4 H4 s (.tup ha hxs)
      · have s5 := Stp.new (o := .tup (cutV xs lo hi)) s4.w hp
        have key : DqA G4 (cutV xs lo hi) (cutD ds lo hi) := by
          unfold cutV cutD
          rw [e]
          exact (hxs.drop _).take _
        exact q _ _ _ (s.trans s5) (.tup upd_same (key.mono s5.g))
end
theorem cut_lo {ds : List D} (i : Nat) (h : i ≤ ds.length) : cutD ds none (some (i : Int)) = ds.take i := by
  unfold cutD
  rw [HT.sIx_none, HT.sIx_nat, Nat.min_eq_left h, Nat.sub_zero, List.drop_zero]
theorem cut_hi {ds : List D} (i : Nat) (h : i ≤ ds.length) : cutD ds (some (i : Int)) none = ds.drop i := by
  unfold cutD
  rw [HT.sIx_none, HT.sIx_nat, Nat.min_eq_left h, List.take_of_length_le (by rw [List.length_drop]; exact Nat.le_refl _)]
theorem cut_last {ds : List D} (h : 1 ≤ ds.length) : (cutD ds none (some (-1))).length = ds.length - 1 := by
  unfold cutD
  rw [HT.sIx_none]
  have e : HT.sIx ds.length ds.length (some (-1)) = ds.length - 1 := by
    unfold HT.sIx
    simp only []
    rw [if_pos (by decide)]
    omega
  rw [e, Nat.sub_zero, List.drop_zero, List.length_take]
  omega
theorem noPlace_len {n : List Int} {ds : List D} (h : ds.length ≠ n.length) : isPlace n (.tuple ds) = false := by
  show (decide (ds.length = n.length) && _) = false
  rw [decide_eq_false h]; rfl
theorem noPlace_at {n : List Int} {ds : List D} {i : Nat} {d : D} {s : Int} (h1 : ds[i]? = some d) (h2 : n[i]? = some s) (h3 : btw 0 (s - 1) d = false) : isPlace n (.tuple ds) = false := by
  show (decide (ds.length = n.length) && (ds.zip n).all fun q => btw 0 (q.2 - 1) q.1) = false
  have h4 : (ds.zip n)[i]? = some (d, s) := List.getElem?_zip_eq_some.mpr ⟨h1, h2⟩
  have h5 : ((ds.zip n).all fun q => btw 0 (q.2 - 1) q.1) = false := by
    rw [List.all_eq_false]
    exact ⟨(d, s), List.mem_of_getElem? h4, by rw [h3]; exact Bool.false_ne_true⟩
  rw [h5, Bool.and_false]
/-- one item put in the place of another -/
theorem put_at {ds : List D} {i : Nat} {d : D} (h : i < ds.length) : (ds.take i ++ [d] ++ ds.drop (i + 1))[i]? = some d := by
  rw [List.append_assoc, List.getElem?_append_right (by rw [List.length_take]; omega), List.length_take]
  have e : i - min i ds.length = 0 := by omega
  rw [e]; rfl
/-! ### drawn dials -/
def menuD : List (List Int) := [[2], [3], [4], [2, 2], [5], [6], [2, 3], [7], [8], [2, 4], [2, 2, 2], [9], [3, 3], [10], [11], [12]] ++ [[2, 6], [3, 4], [13], [14], [15], [3, 5], [16], [4, 4], [2, 8], [2, 2, 4], [2, 2, 2, 2], [17], [18], [3, 6]] ++ [[19], [20], [2, 10], [21], [22], [23], [24], [2, 12], [4, 6], [2, 2, 6], [2, 2, 2, 3]]
theorem menu_few : (menuD.all fun n => fewD.contains n) = true := by decide +kernel
def cntD : D → Bool
  | .tuple xs => decide (prod (intsD xs) ≤ 24)
  | _ => false
theorem menu_ne : (made cntD id (menuD.map dI)).length = 41 := by decide +kernel
def SpDials : Sp := fun vs H Q _ => ∃ (G : Hp) (s l c : Addr) (T : Int), vs = [.ref s, .int 24] ∧ Wd G H s l c T ∧ T < 1000000000000 ∧ ∀ v n G' H', n ∈ fewD → Wd G' H' s l c (T + 1) → StS [s, l, c] G H G' H' → Dq G' v (dI n) → Q v H'
def R_law_halves (ds : List D) (z : D) : Prop := R_all_halves ds z
def SpBool : Sp := fun vs H Q _ => ∃ (G : Hp) (s l c : Addr) (T : Int) (v1 : V) (p n : List Int), vs = [.ref s, v1] ∧ Dq G v1 (dI p) ∧ InP p n ∧ 1 ≤ n.length ∧ n.length ≤ 1000 ∧ Wd G H s l c T ∧ T < 1000000000000 ∧
  ∀ v d G' H', isPlace n d = false → Wd G' H' s l c (T + 1) → StS [s, l, c] G H G' H' → Dq G' v d → Q v H'
abbrev s__law_dials : Stmt := top 55
section
variable {P : Program} {w : World} {mg : Str → Option Value} {base : Heap} {K : PySem.W.Frag}
theorem ok__law_dials {f : Addr} {fd : FuncData} (C__law_count : Cal P w K mg base CX0 1 "_law_count" ["dials_here"] (SpR R_place_count)) (C__law_pick : Cal P w K mg base CX0 2 "_law_pick" ["state", "several"] SpPick) (F : Fun K "_law_dials" "_law_dials" s__law_dials f fd) : FnOk P w K mg base CX0 3 f fd ["state", "most"] SpDials := by
  have sc : FnScope ["state", "most", "some", "dials_here"] ["state", "most"] (defScope s__law_dials) := ⟨rfl, rfl, rfl, by decide +kernel, rfl, by decide +kernel, by decide +kernel⟩
  refine F.ok sc (fun vs H Q E h => ?_) (fun cdv A outer s0 H vs Q E hr h => ?_)
  · obtain ⟨G, s, l, c, T, rfl, _⟩ := h
    rfl
  · obtain ⟨G, s, l, c, T, rfl, wd, hT, k⟩ := h
    refine ⟨_, (pss_cons (ps_set (i := 2) sc.nd rfl (Or.inl rfl) (pe_lst (pa_cons (pe_tup (pa_cons pe_int pa_nil)) (pa_cons (pe_tup (pa_cons pe_int pa_nil)) (pa_cons (pe_tup (pa_cons pe_int pa_nil)) (pa_cons (pe_tup (pa_cons pe_int (pa_cons pe_int pa_nil))) (pa_cons (pe_tup (pa_cons pe_int pa_nil)) (pa_cons (pe_tup (pa_cons pe_int pa_nil)) (pa_cons (pe_tup (pa_cons pe_int (pa_cons pe_int pa_nil))) (pa_cons (pe_tup (pa_cons pe_int pa_nil)) (pa_cons (pe_tup (pa_cons pe_int pa_nil)) (pa_cons (pe_tup (pa_cons pe_int (pa_cons pe_int pa_nil))) (pa_cons (pe_tup (pa_cons pe_int (pa_cons pe_int (pa_cons pe_int pa_nil)))) (pa_cons (pe_tup (pa_cons pe_int pa_nil)) (pa_cons (pe_tup (pa_cons pe_int (pa_cons pe_int pa_nil))) (pa_cons (pe_tup (pa_cons pe_int pa_nil)) (pa_cons (pe_tup (pa_cons pe_int pa_nil)) (pa_cons (pe_tup (pa_cons pe_int pa_nil)) pa_nil)))))))))))))))))) (pss_cons (ps_set (i := 2) sc.nd rfl (Or.inl rfl) (pe_op op_cat (pv 2) (pe_lst (pa_cons (pe_tup (pa_cons pe_int (pa_cons pe_int pa_nil))) (pa_cons (pe_tup (pa_cons pe_int (pa_cons pe_int pa_nil))) (pa_cons (pe_tup (pa_cons pe_int pa_nil)) (pa_cons (pe_tup (pa_cons pe_int pa_nil)) (pa_cons (pe_tup (pa_cons pe_int pa_nil)) (pa_cons (pe_tup (pa_cons pe_int (pa_cons pe_int pa_nil))) (pa_cons (pe_tup (pa_cons pe_int pa_nil)) (pa_cons (pe_tup (pa_cons pe_int (pa_cons pe_int pa_nil))) (pa_cons (pe_tup (pa_cons pe_int (pa_cons pe_int pa_nil))) (pa_cons (pe_tup (pa_cons pe_int (pa_cons pe_int (pa_cons pe_int pa_nil)))) (pa_cons (pe_tup (pa_cons pe_int (pa_cons pe_int (pa_cons pe_int (pa_cons pe_int pa_nil))))) (pa_cons (pe_tup (pa_cons pe_int pa_nil)) (pa_cons (pe_tup (pa_cons pe_int pa_nil)) (pa_cons (pe_tup (pa_cons pe_int (pa_cons pe_int pa_nil))) pa_nil))))))))))))))))) (pss_cons (ps_set (i := 2) sc.nd rfl (Or.inl rfl) (pe_op op_cat (pv 2) (pe_lst (pa_cons (pe_tup (pa_cons pe_int pa_nil)) (pa_cons (pe_tup (pa_cons pe_int pa_nil)) (pa_cons (pe_tup (pa_cons pe_int (pa_cons pe_int pa_nil))) (pa_cons (pe_tup (pa_cons pe_int pa_nil)) (pa_cons (pe_tup (pa_cons pe_int pa_nil)) (pa_cons (pe_tup (pa_cons pe_int pa_nil)) (pa_cons (pe_tup (pa_cons pe_int pa_nil)) (pa_cons (pe_tup (pa_cons pe_int (pa_cons pe_int pa_nil))) (pa_cons (pe_tup (pa_cons pe_int (pa_cons pe_int pa_nil))) (pa_cons (pe_tup (pa_cons pe_int (pa_cons pe_int (pa_cons pe_int pa_nil)))) (pa_cons (pe_tup (pa_cons pe_int (pa_cons pe_int (pa_cons pe_int (pa_cons pe_int pa_nil))))) pa_nil)))))))))))))) (pss_one (ps_ret (pe_cal C__law_pick (hr.mono (by decide)) pass0 (pa_cons (pv 0) (pa_cons (pe_lc (own := [("dials_here", 3)]) (g := gName 3) (tt := _) (by rfl) sc.nd (pi_list (pv 2)) (blkOk_by (N := ["state", "most", "some", "dials_here"]) (sc := defScope s__law_dials) (by decide +kernel)) (fun _ _ _ _ _ => (pg_name (i := 3) sc.nd rfl (Or.inl rfl))) (fun _ _ _ _ _ => (pts_one (pt_cmpR op_le (pe_cal C__law_count (hr.mono (by decide)) pass0 (pa_cons (pv 3) pa_nil)) (pv 1) (nomark _)))) (fun _ _ _ _ _ => (pv 3))) pa_nil)))))))), ?_⟩
    refine q_asg (G := G) (d := dL [[2], [3], [4], [2, 2], [5], [6], [2, 3], [7], [8], [2, 4], [2, 2, 2], [9], [3, 3], [10], [11], [12]]) (d_lst (a_cons (d_tup (a_cons (d_c (.int 2)) a_nil) (by show 1 ≤ sizeLine; decide)) (a_cons (d_tup (a_cons (d_c (.int 3)) a_nil) (by show 1 ≤ sizeLine; decide)) (a_cons (d_tup (a_cons (d_c (.int 4)) a_nil) (by show 1 ≤ sizeLine; decide)) (a_cons (d_tup (a_cons (d_c (.int 2)) (a_cons (d_c (.int 2)) a_nil)) (by show 2 ≤ sizeLine; decide)) (a_cons (d_tup (a_cons (d_c (.int 5)) a_nil) (by show 1 ≤ sizeLine; decide)) (a_cons (d_tup (a_cons (d_c (.int 6)) a_nil) (by show 1 ≤ sizeLine; decide)) (a_cons (d_tup (a_cons (d_c (.int 2)) (a_cons (d_c (.int 3)) a_nil)) (by show 2 ≤ sizeLine; decide)) (a_cons (d_tup (a_cons (d_c (.int 7)) a_nil) (by show 1 ≤ sizeLine; decide)) (a_cons (d_tup (a_cons (d_c (.int 8)) a_nil) (by show 1 ≤ sizeLine; decide)) (a_cons (d_tup (a_cons (d_c (.int 2)) (a_cons (d_c (.int 4)) a_nil)) (by show 2 ≤ sizeLine; decide)) (a_cons (d_tup (a_cons (d_c (.int 2)) (a_cons (d_c (.int 2)) (a_cons (d_c (.int 2)) a_nil))) (by show 3 ≤ sizeLine; decide)) (a_cons (d_tup (a_cons (d_c (.int 9)) a_nil) (by show 1 ≤ sizeLine; decide)) (a_cons (d_tup (a_cons (d_c (.int 3)) (a_cons (d_c (.int 3)) a_nil)) (by show 2 ≤ sizeLine; decide)) (a_cons (d_tup (a_cons (d_c (.int 10)) a_nil) (by show 1 ≤ sizeLine; decide)) (a_cons (d_tup (a_cons (d_c (.int 11)) a_nil) (by show 1 ≤ sizeLine; decide)) (a_cons (d_tup (a_cons (d_c (.int 12)) a_nil) (by show 1 ≤ sizeLine; decide)) a_nil)))))))))))))))) (by show 16 ≤ sizeLine; decide)) wd.w fun v2 G1 H1 s1 h1 => ?_
    refine q_asg (G := G1) (d := dL ([[2], [3], [4], [2, 2], [5], [6], [2, 3], [7], [8], [2, 4], [2, 2, 2], [9], [3, 3], [10], [11], [12]] ++ [[2, 6], [3, 4], [13], [14], [15], [3, 5], [16], [4, 4], [2, 8], [2, 2, 4], [2, 2, 2, 2], [17], [18], [3, 6]])) (d_op (d_var rfl h1) (d_lst (a_cons (d_tup (a_cons (d_c (.int 2)) (a_cons (d_c (.int 6)) a_nil)) (by show 2 ≤ sizeLine; decide)) (a_cons (d_tup (a_cons (d_c (.int 3)) (a_cons (d_c (.int 4)) a_nil)) (by show 2 ≤ sizeLine; decide)) (a_cons (d_tup (a_cons (d_c (.int 13)) a_nil) (by show 1 ≤ sizeLine; decide)) (a_cons (d_tup (a_cons (d_c (.int 14)) a_nil) (by show 1 ≤ sizeLine; decide)) (a_cons (d_tup (a_cons (d_c (.int 15)) a_nil) (by show 1 ≤ sizeLine; decide)) (a_cons (d_tup (a_cons (d_c (.int 3)) (a_cons (d_c (.int 5)) a_nil)) (by show 2 ≤ sizeLine; decide)) (a_cons (d_tup (a_cons (d_c (.int 16)) a_nil) (by show 1 ≤ sizeLine; decide)) (a_cons (d_tup (a_cons (d_c (.int 4)) (a_cons (d_c (.int 4)) a_nil)) (by show 2 ≤ sizeLine; decide)) (a_cons (d_tup (a_cons (d_c (.int 2)) (a_cons (d_c (.int 8)) a_nil)) (by show 2 ≤ sizeLine; decide)) (a_cons (d_tup (a_cons (d_c (.int 2)) (a_cons (d_c (.int 2)) (a_cons (d_c (.int 4)) a_nil))) (by show 3 ≤ sizeLine; decide)) (a_cons (d_tup (a_cons (d_c (.int 2)) (a_cons (d_c (.int 2)) (a_cons (d_c (.int 2)) (a_cons (d_c (.int 2)) a_nil)))) (by show 4 ≤ sizeLine; decide)) (a_cons (d_tup (a_cons (d_c (.int 17)) a_nil) (by show 1 ≤ sizeLine; decide)) (a_cons (d_tup (a_cons (d_c (.int 18)) a_nil) (by show 1 ≤ sizeLine; decide)) (a_cons (d_tup (a_cons (d_c (.int 3)) (a_cons (d_c (.int 6)) a_nil)) (by show 2 ≤ sizeLine; decide)) a_nil)))))))))))))) (by show 14 ≤ sizeLine; decide)) (opd_cat (by show 16 + 14 ≤ sizeLine; decide))) s1.w fun v3 G2 H2 s2 h2 => ?_
    refine q_asg (G := G2) (d := dL menuD) (d_op (d_var rfl h2) (d_lst (a_cons (d_tup (a_cons (d_c (.int 19)) a_nil) (by show 1 ≤ sizeLine; decide)) (a_cons (d_tup (a_cons (d_c (.int 20)) a_nil) (by show 1 ≤ sizeLine; decide)) (a_cons (d_tup (a_cons (d_c (.int 2)) (a_cons (d_c (.int 10)) a_nil)) (by show 2 ≤ sizeLine; decide)) (a_cons (d_tup (a_cons (d_c (.int 21)) a_nil) (by show 1 ≤ sizeLine; decide)) (a_cons (d_tup (a_cons (d_c (.int 22)) a_nil) (by show 1 ≤ sizeLine; decide)) (a_cons (d_tup (a_cons (d_c (.int 23)) a_nil) (by show 1 ≤ sizeLine; decide)) (a_cons (d_tup (a_cons (d_c (.int 24)) a_nil) (by show 1 ≤ sizeLine; decide)) (a_cons (d_tup (a_cons (d_c (.int 2)) (a_cons (d_c (.int 12)) a_nil)) (by show 2 ≤ sizeLine; decide)) (a_cons (d_tup (a_cons (d_c (.int 4)) (a_cons (d_c (.int 6)) a_nil)) (by show 2 ≤ sizeLine; decide)) (a_cons (d_tup (a_cons (d_c (.int 2)) (a_cons (d_c (.int 2)) (a_cons (d_c (.int 6)) a_nil))) (by show 3 ≤ sizeLine; decide)) (a_cons (d_tup (a_cons (d_c (.int 2)) (a_cons (d_c (.int 2)) (a_cons (d_c (.int 2)) (a_cons (d_c (.int 3)) a_nil)))) (by show 4 ≤ sizeLine; decide)) a_nil))))))))))) (by show 11 ≤ sizeLine; decide)) (opd_cat (by show 30 + 11 ≤ sizeLine; decide))) s2.w fun v4 G3 H3 s3 h3 => ?_
    refine ⟨.ref s, rfl, ?_⟩
    have ev : EvD (tLc (iList K (tVar 2)) (gName 3) (tTest (tOp (rI0 fun i j => .bl (decide (i ≤ j))) (tCall (SpR R_place_count) [] E0 (tCons (tVar 3) tNil)) (tVar 1))) (tVar 3) [3]) [some (.ref s), some (.int 24), some v4, none] G3 (.list (made cntD id (menuD.map dI))) :=
      d_lcL cntD id (d_var rfl h3) (by show 41 ≤ 1000000; decide) (fun _ => rfl) (fun v a G4 e4 ha hq => by
        obtain ⟨n, hn, rfl⟩ := List.mem_map.mp ha
        have hf := List.all_eq_true.mp menu_few n hn
        have okd := okB_ok (List.all_eq_true.mp few_ok n (by simpa using hf))
        refine (b_test (d_op (d_cal (a_cons (d_var rfl hq) a_nil) ⟨n, rfl, fun s hs => by have := okd.sz s hs; omega, rfl⟩) (d_var rfl (.int 24)) (opd_I0 fun _ => .bl _))).is ?_
        show decide (prod n ≤ 24) = decide (prod (intsD (n.map PyData.int)) ≤ 24)
        rw [intsD_map]) (fun v a G4 e4 ha hq _ => d_var rfl hq)
    refine ev G3 H3 (.refl G3) s3.w _ fun v G4 H4 s4 hv => ?_
    have sAll := ((s1.trans s2).trans s3).trans s4
    have ne : made cntD id (menuD.map dI) ≠ [] := fun z => by
      have := menu_ne
      rw [z] at this
      cases this
    refine ⟨G4, s, l, c, T, v, _, rfl, hv, ne, by rw [menu_ne]; decide, wd.stp sAll, hT, fun u d H5 hd hq wd5 ss5 => ?_⟩
    have hd2 : d ∈ menuD.map dI := by
      unfold made at hd
      rw [List.map_id] at hd
      exact (List.mem_filter.mp hd).1
    obtain ⟨n, hn, rfl⟩ := List.mem_map.mp hd2
    exact k u n G4 H5 (by have := List.all_eq_true.mp menu_few n hn; simpa using this) wd5 (sAll.toS.trans ss5) hq
end
end Mv


namespace Mv
open PySem L2 Evl
section
variable {K : PySem.W.Frag} {σ : L2.St} {G G' H H' : Hp} {ta te : TE} {tr : TA} {ds : List D} {d : D}
theorem ev_cons {Q : List V → Hp → Prop} (h : EvD ta σ G d) (w : Ex G H) (k : ∀ v G1 H1, Stp G H G1 H1 → Dq G1 v d → tr σ H1 fun vs H2 => Q (v :: vs) H2) : tCons ta tr σ H Q := h G H (.refl G) w _ k
theorem cad_listT : CaD (rListOf K) G [.tuple ds] (.list ds) := fun vs G1 H1 x w h Q q => by
  cases h with
  | cons h k =>
    cases k
    cases h with
    | @tup p xs _ hp hx =>
      refine ⟨_, _, rfl, .inr (SqT.of (w _ _ hp)), fun l hl => ?_⟩
      have s2 := Stp.new (o := .lst xs) w hl
      exact q _ _ _ s2 (.lst upd_same (hx.mono s2.g))
end
def lowE : Nat × D → Bool := fun q => match q.2 with
  | .int x => decide (x < 2)
  | _ => false
def idxF (p : List Int) : List Int := (((List.range p.length).zip (p.map PyData.int)).filter lowE).map fun q => (q.1 : Int)
theorem idx_D (p : List Int) : made lowE (fun q => PyData.int (q.1 : Int)) ((List.range (p.map PyData.int).length).zip (p.map PyData.int)) = (idxF p).map PyData.int := by
  unfold made idxF
  rw [List.map_map, List.length_map]
  rfl
theorem idx_in {p : List Int} {i : Int} (h : i ∈ idxF p) : ∃ j : Nat, i = (j : Int) ∧ ∃ x : Int, p[j]? = some x := by
  obtain ⟨q, hq, rfl⟩ := List.mem_map.mp h
  have h1 := (List.mem_filter.mp hq).1
  obtain ⟨j, d⟩ := q
  obtain ⟨m, hm⟩ := List.mem_iff_getElem?.mp h1
  obtain ⟨h2, h3⟩ := List.getElem?_zip_eq_some.mp hm
  have e : m = j := by
    have lt : m < p.length := by have := (List.getElem?_eq_some_iff.mp h2).1; simpa using this
    rw [List.getElem?_range lt] at h2
    exact Option.some.inj h2
  subst e
  rw [List.getElem?_map] at h3
  obtain ⟨x, hx, _⟩ := Option.map_eq_some_iff.mp h3
  exact ⟨m, rfl, x, hx⟩
theorem flat_lI (a : List Int) : flatD (.list (a.map PyData.int)) = true := by
  have h := flat_dI a
  unfold dI at h
  simpa [flatD] using h
theorem shaped_int (x : Int) : SeqAt.shaped (.int x) = true := by simp [SeqAt.shaped, PyData.canLay0, PyData.depth]
def SpBadPlace : Sp := fun vs H Q _ => ∃ (G : Hp) (s l c : Addr) (T : Int) (v1 : V) (n : List Int), vs = [.ref s, v1] ∧ Dq G v1 (dI n) ∧ n ∈ fewD ∧ Wd G H s l c T ∧ T < 100000000000 - 2000 ∧
  ∀ v d G' H', isPlace n d = false → Wd G' H' s l c (T + 2000) → StS [s, l, c] G H G' H' → Dq G' v d → Q v H'
section
variable {P : Program} {w : World} {mg : Str → Option Value} {base : Heap} {K : PySem.W.Frag}
end
end Mv


namespace Mv
open PySem L2 Evl
section
variable {P : Program} {w : World} {mg : Str → Option Value} {base : Heap} {K : PySem.W.Frag}
end
end Mv


namespace Mv
open PySem L2 Evl
def takeP : List Int → List Int → List Int → List Int
  | s :: n, x :: a, y :: b => ((x - y) % s) :: takeP n a b
  | _, _, _ => []
theorem takeP_D : ∀ (n a b : List Int), a.length = n.length → b.length = n.length →
    made (fun _ => true) (fun (x : D × D × D) => match x with | (.int x, .int y, .int s) => .int ((x - y) % s) | _ => .none) (zip3 (a.map PyData.int) (b.map PyData.int) (n.map PyData.int)) = (takeP n a b).map PyData.int
  | [], [], [], _, _ => rfl
  | s :: n, x :: a, y :: b, h1, h2 => by
    have ih := takeP_D n a b (by simpa using h1) (by simpa using h2)
    unfold made at ih ⊢
    rw [List.filter_eq_self.mpr (fun _ _ => rfl)] at ih ⊢
    show PyData.int ((x - y) % s) :: _ = PyData.int ((x - y) % s) :: (takeP n a b).map PyData.int
    rw [← ih]
  | s :: n, [], _, h, _ => by simp at h
  | s :: n, x :: a, [], _, h => by simp at h
  | [], x :: a, _, h, _ => by simp at h
  | [], [], y :: b, _, h => by simp at h
def R_take (ds : List D) (z : D) : Prop := ∃ n a b : List Int, ds = [dI n, dI a, dI b] ∧ a.length = n.length ∧ b.length = n.length ∧ n.length ≤ 1000 ∧ (∀ s ∈ n, 0 < s) ∧ z = dI (takeP n a b)
def isLst (d : D) : Bool := match d with
  | .list _ => true
  | .tuple _ => true
  | _ => false
def R_is_listed (ds : List D) (z : D) : Prop := ∃ d, ds = [d] ∧ z = .bool (isLst d)
def R_places (C : Addr) (ds : List D) (r : Except Addr D) : Prop := ∃ d, ds = [d] ∧ ((∃ n, d = dI n ∧ OkD n ∧ r = .ok (dL (placesOf n))) ∨ (isDials d = false ∧ r = .error C))
/-- two places put together by o -/
def R_two (o : List Int → List Int → List Int → List Int) (C C' : Addr) (ds : List D) (r : Except Addr D) : Prop := ∃ d e g : D, ds = [d, e, g] ∧ ((∃ n p q, d = dI n ∧ e = dI p ∧ g = dI q ∧ n ∈ fewD ∧ p ∈ placesOf n ∧ q ∈ placesOf n ∧ r = .ok (dI (o n p q))) ∨ (isDials d = false ∧ r = .error C) ∨
  (∃ n, d = dI n ∧ n ∈ fewD ∧ isPlace n e = false ∧ r = .error C') ∨ ∃ n p, d = dI n ∧ n ∈ fewD ∧ e = dI p ∧ p ∈ placesOf n ∧ isPlace n g = false ∧ r = .error C')
def R_times (C C' C3 : Addr) (ds : List D) (r : Except Addr D) : Prop := ∃ d e g : D, ds = [d, e, g] ∧ ((∃ n p k, d = dI n ∧ e = dI p ∧ g = .int k ∧ n ∈ fewD ∧ p ∈ placesOf n ∧ btw (-999999999) 999999999 g = true ∧ r = .ok (dI (mulP n p k))) ∨ (isDials d = false ∧ r = .error C) ∨
  (∃ n, d = dI n ∧ n ∈ fewD ∧ isPlace n e = false ∧ r = .error C') ∨ ∃ n p, d = dI n ∧ n ∈ fewD ∧ e = dI p ∧ p ∈ placesOf n ∧ btw (-999999999) 999999999 g = false ∧ r = .error C3)
abbrev s_take_off : Stmt := top 5
abbrev s_is_listed : Stmt := top 20
abbrev s__law_less : Stmt := top 58
section
variable {K : PySem.W.Frag} {σ : L2.St} {G G' H H' : Hp} {ta : TE} {d : D}
/-- isinstance(x, (list, tuple)) -/
theorem d_isLst (h : EvD ta σ G d) : EvD (tCB (rIsiTY K) (tCons ta (tCons (tTup (tCons (tC (.ty "list")) (tCons (tC (.ty "tuple")) tNil))) tNil))) σ G (.bool (isLst d)) := fun G1 H1 x w Q q =>
  h G1 H1 x w _ fun v G2 H2 s hv => ⟨by show 2 ≤ sizeLine; decide, fun p hp => by
    have s2 := Stp.new (o := .tup [.ty "list", .ty "tuple"]) s.w hp
    have e1 := kit_ty (K := K) (kit_of_D d (c := "list") (by decide))
    have e2 := kit_ty (K := K) (kit_of_D d (c := "tuple") (by decide))
    have e : PySem.W.kitAny K (.type (tyD d)) [.type "list", .type "tuple"] = some (isLst d) := by
      unfold PySem.W.kitAny
      rw [e1]
      cases d <;> first | rfl | (simp only [tyD]; unfold PySem.W.kitAny; rw [kit_ty (by decide +kernel)] <;> rfl)
    exact ⟨v, p, _, .type (tyD d), _, isLst d, rfl, upd_same, .cons (.ty _) (.cons (.ty _) .nil), tyX_of s2.w (hv.mono s2.g), e, q _ _ _ (s.trans s2) (.bl _)⟩⟩
end
section
variable {P : Program} {w : World} {mg : Str → Option Value} {base : Heap} {K : PySem.W.Frag}
theorem ok_take_off {f : Addr} {fd : FuncData} (Z : Zs mg) (F : Fun K "take_off" "take_off" s_take_off f fd) : FnOk P w K mg base CX0 1 f fd ["dials", "one", "other"] (SpR R_take) := by
  have sc : FnScope ["dials", "one", "other", "here", "there", "size"] ["dials", "one", "other"] (defScope s_take_off) := ⟨rfl, rfl, rfl, by decide +kernel, rfl, by decide +kernel, by decide +kernel⟩
  refine F.ok sc (fun vs H Q E h => ?_) (fun cdv A outer s H vs Q E hr h => ?_)
  · obtain ⟨G, ds, z, _, hv, ⟨n, a, b, rfl, _⟩, _⟩ := h
    exact hv.len
  · obtain ⟨G, ds, z, wf, hv, ⟨n, a, b, rfl, h1, h2, h3, h4, rfl⟩, k⟩ := h
    refine ⟨_, (pss_one (ps_ret (pe_callTy (r := rTupOf K) call_tuple_of (by rfl) Z.tuple (by decide +kernel) (pa_cons (pe_lc (own := [("here", 3), ("there", 4), ("size", 5)]) (g := gTup K 3 (gCons (gName 3) (gCons (gName 4) (gCons (gName 5) gNil)))) (tt := tYes) (by rfl) sc.nd (pi_zip3 false false false (by rfl) Z.zip (pa_cons (pv 1) (pa_cons (pv 2) (pa_cons (pv 0) pa_nil)))) (blkOk_by (N := ["dials", "one", "other", "here", "there", "size"]) (sc := defScope s_take_off) (by decide +kernel)) (fun _ _ _ _ _ => (pg_tup rfl (pgs_cons (pg_name (i := 3) sc.nd rfl (Or.inl rfl)) (pgs_cons (pg_name (i := 4) sc.nd rfl (Or.inl rfl)) (pgs_cons (pg_name (i := 5) sc.nd rfl (Or.inl rfl)) pgs_nil))))) (fun _ _ _ _ _ => pts_nil) (fun _ _ _ _ _ => (pe_op op_mod (pe_op op_sub (pv 3) (pv 4)) (pv 5)))) pa_nil)))), ?_⟩
    cases hv with
    | @cons v0 vs d ds hv0 hn =>
      cases hn with
      | @cons v1 vs d ds hv1 hn =>
        cases hn with
        | @cons v2 vs d ds hv2 hn =>
          cases hn
          refine s_ret (G := G) (d := dI (takeP n a b)) ?_ wf fun v G3 H3 s3 hv => k v G3 H3 s3 hv
          refine d_cb (a_cons ?_ a_nil) cad_tuple
          rw [← takeP_D n a b h1 h2]
          refine d_lcZ3 (k1 := false) (k2 := false) (k3 := false) (as := a.map PyData.int) (bs := b.map PyData.int) (cs := n.map PyData.int) (fun _ => true) _ (a_cons (d_var rfl hv1) (a_cons (d_var rfl hv2) (a_cons (d_var rfl hv0) a_nil))) (by rw [List.length_map]; omega) (by simp only [List.length_map]; omega) (fun _ _ _ => rfl)
            (fun _ _ _ _ _ _ _ _ _ _ _ _ => b_yes) ?_
          rintro x y z da db dc G1 e1 hm hx hy hz _
          obtain ⟨i, j, s, rfl, rfl, rfl, hs⟩ := zip3_ints n a b h4 hm
          exact d_op (d_op (d_var rfl hx) (d_var rfl hy) (opd_I0 fun _ => .int (i - j))) (d_var rfl hz) (opd_I hs fun _ => .int _)
theorem ok__law_less {f : Addr} {fd : FuncData} (Z : Zs mg) (F : Fun K "_law_less" "_law_less" s__law_less f fd) : FnOk P w K mg base CX0 1 f fd ["dials_here", "one", "other"] (SpR R_take) := by
  have sc : FnScope ["dials_here", "one", "other", "here", "there", "size_here"] ["dials_here", "one", "other"] (defScope s__law_less) := ⟨rfl, rfl, rfl, by decide +kernel, rfl, by decide +kernel, by decide +kernel⟩
  refine F.ok sc (fun vs H Q E h => ?_) (fun cdv A outer s H vs Q E hr h => ?_)
  · obtain ⟨G, ds, z, _, hv, ⟨n, a, b, rfl, _⟩, _⟩ := h
    exact hv.len
  · obtain ⟨G, ds, z, wf, hv, ⟨n, a, b, rfl, h1, h2, h3, h4, rfl⟩, k⟩ := h
    refine ⟨_, (pss_one (ps_ret (pe_callTy (r := rTupOf K) call_tuple_of (by rfl) Z.tuple (by decide +kernel) (pa_cons (pe_lc (own := [("here", 3), ("there", 4), ("size_here", 5)]) (g := gTup K 3 (gCons (gName 3) (gCons (gName 4) (gCons (gName 5) gNil)))) (tt := tYes) (by rfl) sc.nd (pi_zip3 false false false (by rfl) Z.zip (pa_cons (pv 1) (pa_cons (pv 2) (pa_cons (pv 0) pa_nil)))) (blkOk_by (N := ["dials_here", "one", "other", "here", "there", "size_here"]) (sc := defScope s__law_less) (by decide +kernel)) (fun _ _ _ _ _ => (pg_tup rfl (pgs_cons (pg_name (i := 3) sc.nd rfl (Or.inl rfl)) (pgs_cons (pg_name (i := 4) sc.nd rfl (Or.inl rfl)) (pgs_cons (pg_name (i := 5) sc.nd rfl (Or.inl rfl)) pgs_nil))))) (fun _ _ _ _ _ => pts_nil) (fun _ _ _ _ _ => (pe_op op_mod (pe_callTy call_int1 (by rfl) Z.int (by decide +kernel) (pa_cons (pe_op op_add (pe_op op_sub (pv 3) (pv 4)) (pv 5)) pa_nil)) (pv 5)))) pa_nil)))), ?_⟩
    cases hv with
    | @cons v0 vs d ds hv0 hn =>
      cases hn with
      | @cons v1 vs d ds hv1 hn =>
        cases hn with
        | @cons v2 vs d ds hv2 hn =>
          cases hn
          refine s_ret (G := G) (d := dI (takeP n a b)) ?_ wf fun v G3 H3 s3 hv => k v G3 H3 s3 hv
          refine d_cb (a_cons ?_ a_nil) cad_tuple
          rw [← takeP_D n a b h1 h2]
          refine d_lcZ3 (k1 := false) (k2 := false) (k3 := false) (as := a.map PyData.int) (bs := b.map PyData.int) (cs := n.map PyData.int) (fun _ => true) _ (a_cons (d_var rfl hv1) (a_cons (d_var rfl hv2) (a_cons (d_var rfl hv0) a_nil))) (by rw [List.length_map]; omega) (by simp only [List.length_map]; omega) (fun _ _ _ => rfl)
            (fun _ _ _ _ _ _ _ _ _ _ _ _ => b_yes) ?_
          rintro x y z da db dc G1 e1 hm hx hy hz _
          obtain ⟨i, j, s, rfl, rfl, rfl, hs⟩ := zip3_ints n a b h4 hm
          exact EvD.is (d := .int ((i - j + s) % s)) (d_op (d_cb (a_cons (d_op (d_op (d_var rfl hx) (d_var rfl hy) (opd_I0 fun _ => .int (i - j))) (d_var rfl hz) (opd_I0 fun _ => .int (i - j + s))) a_nil) cad_int1) (d_var rfl hz) (opd_I hs fun _ => .int _)) (by show PyData.int ((i - j + s) % s) = PyData.int ((i - j) % s); rw [Int.add_emod_right])
theorem ok_is_listed {f : Addr} {fd : FuncData} (Z : Zs mg) (F : Fun K "is_listed" "is_listed" s_is_listed f fd) : FnOk P w K mg base CX0 1 f fd ["thing"] (SpR R_is_listed) := by
  have sc : FnScope ["thing"] ["thing"] (defScope s_is_listed) := ⟨rfl, rfl, rfl, by decide +kernel, rfl, by decide +kernel, by decide +kernel⟩
  refine F.ok sc (fun vs H Q E h => ?_) (fun cdv A outer s H vs Q E hr h => ?_)
  · obtain ⟨G, ds, z, _, hv, ⟨d, rfl, _⟩, _⟩ := h
    exact hv.len
  · obtain ⟨G, ds, z, wf, hv, ⟨d, rfl, rfl⟩, k⟩ := h
    refine ⟨_, (pss_one (ps_ret (pe_callB (r := rIsiTY K) call_isiTY (by rfl) Z.isinstance (by decide +kernel) (pa_cons (pv 0) (pa_cons (pe_tup (pa_cons (pe_bltn (v := .ty "list") (u := .type "list") (by rfl) Z.list (by decide +kernel) rfl) (pa_cons (pe_bltn (v := .ty "tuple") (u := .type "tuple") (by rfl) Z.tuple (by decide +kernel) rfl) pa_nil))) pa_nil))))), ?_⟩
    cases hv with
    | @cons v0 vs d0 ds hv0 hn =>
      cases hn
      exact s_ret (G := G) (d := .bool (isLst d)) (d_isLst (d_var rfl hv0)) wf fun v G3 H3 s3 hv => k v G3 H3 s3 hv
end
end Mv


namespace Mv
open PySem L2 Evl
def isPlaces (n : List Int) (d : D) : Bool := match d with
  | .list xs => xs.all (isPlace n)
  | .tuple xs => xs.all (isPlace n)
  | _ => false
def fewIn (d : D) : Prop := match d with
  | .list xs => xs.length ≤ 1000
  | .tuple xs => xs.length ≤ 1000
  | _ => True
def R_are_places (ds : List D) (z : D) : Prop := ∃ (n : List Int) (d : D), ds = [dI n, d] ∧ n.length ≤ 1000 ∧ fewIn d ∧ z = .bool (isPlaces n d)
def R_check_several (C : Addr) (ds : List D) (r : Except Addr D) : Prop := ∃ (n : List Int) (d : D), ds = [dI n, d] ∧ n.length ≤ 1000 ∧ fewIn d ∧ r = if isPlaces n d then .ok .none else .error C
abbrev s_are_places : Stmt := top 27
theorem all_D (n : List Int) (xs : List D) : made (fun _ => true) (fun d => PyData.bool (isPlace n d)) xs = (xs.map (isPlace n)).map PyData.bool := by
  unfold made
  rw [List.filter_eq_self.mpr (fun _ _ => rfl), List.map_map]
  rfl
section
variable {P : Program} {w : World} {mg : Str → Option Value} {base : Heap} {K : PySem.W.Frag}
theorem ok_are_places {f : Addr} {fd : FuncData} (Z : Zs mg) (C_is_listed : Cal P w K mg base CX0 1 "is_listed" ["thing"] (SpR R_is_listed)) (C_is_place : Cal P w K mg base CX0 3 "is_place" ["dials", "thing"] (SpR R_is_place)) (F : Fun K "are_places" "are_places" s_are_places f fd) : FnOk P w K mg base CX0 4 f fd ["dials", "thing"] (SpR R_are_places) := by
  have sc : FnScope ["dials", "thing", "item"] ["dials", "thing"] (defScope s_are_places) := ⟨rfl, rfl, rfl, by decide +kernel, rfl, by decide +kernel, by decide +kernel⟩
  refine F.ok sc (fun vs H Q E h => ?_) (fun cdv A outer s H vs Q E hr h => ?_)
  · obtain ⟨G, ds, z, _, hv, ⟨n, d, rfl, _⟩, _⟩ := h
    exact hv.len
  · obtain ⟨G, ds, z, wf, hv, ⟨n, d, rfl, hl, hf, rfl⟩, k⟩ := h
    cases hv with
    | @cons v0 vs d0 ds hv0 hn =>
      cases hn with
      | @cons v1 vs d1 ds hv1 hn =>
        cases hn
        cases d with
        | list xs =>
          refine ⟨_, (pss_one (ps_ret (pe_and (pe_cal C_is_listed (hr.mono (by decide)) pass0 (pa_cons (pv 1) pa_nil)) (pe_one (pe_callB (r := rAll K) (cr_all (by rfl)) (by rfl) Z.all (by decide +kernel) (pa_cons (pe_lc (own := [("item", 2)]) (g := gName 2) (tt := tYes) (by rfl) sc.nd (pi_list (pv 1)) (blkOk_by (N := ["dials", "thing", "item"]) (sc := defScope s_are_places) (by decide +kernel)) (fun _ _ _ _ _ => (pg_name (i := 2) sc.nd rfl (Or.inl rfl))) (fun _ _ _ _ _ => pts_nil) (fun _ _ _ _ _ => (pe_cal C_is_place (hr.mono (by decide)) pass0 (pa_cons (pv 0) (pa_cons (pv 2) pa_nil))))) pa_nil)))))), ?_⟩
          refine s_ret (G := G) (d := .bool (isPlaces n (.list xs))) ?_ wf fun v G3 H3 s3 hv => k v G3 H3 s3 hv
          have e : isPlaces n (.list xs) = (true && (xs.map (isPlace n)).all id) := by
            show xs.all (isPlace n) = _
            rw [List.all_map, Bool.true_and]; rfl
          rw [e]
          refine d_and (a := true) (d_cal (a_cons (d_var rfl hv1) a_nil) ⟨.list xs, rfl, rfl⟩) fun _ => d_cb (a_cons ?_ a_nil) cad_all
          rw [← all_D]
          exact d_lcL (as := xs) (fun _ => true) _ (d_var rfl hv1) (by have : xs.length ≤ 1000 := hf; omega) (fun _ => rfl) (fun _ _ _ _ _ _ => b_yes) (fun v a G2 e2 _ hq _ => d_cal (a_cons (d_var rfl (hv0.mono e2)) (a_cons (d_var rfl hq) a_nil)) ⟨n, a, rfl, hl, rfl⟩)
        | tuple xs =>
          refine ⟨_, (pss_one (ps_ret (pe_and (pe_cal C_is_listed (hr.mono (by decide)) pass0 (pa_cons (pv 1) pa_nil)) (pe_one (pe_callB (r := rAll K) (cr_all (by rfl)) (by rfl) Z.all (by decide +kernel) (pa_cons (pe_lc (own := [("item", 2)]) (g := gName 2) (tt := tYes) (by rfl) sc.nd (pi_tup (pv 1)) (blkOk_by (N := ["dials", "thing", "item"]) (sc := defScope s_are_places) (by decide +kernel)) (fun _ _ _ _ _ => (pg_name (i := 2) sc.nd rfl (Or.inl rfl))) (fun _ _ _ _ _ => pts_nil) (fun _ _ _ _ _ => (pe_cal C_is_place (hr.mono (by decide)) pass0 (pa_cons (pv 0) (pa_cons (pv 2) pa_nil))))) pa_nil)))))), ?_⟩
          refine s_ret (G := G) (d := .bool (isPlaces n (.tuple xs))) ?_ wf fun v G3 H3 s3 hv => k v G3 H3 s3 hv
          have e : isPlaces n (.tuple xs) = (true && (xs.map (isPlace n)).all id) := by
            show xs.all (isPlace n) = _
            rw [List.all_map, Bool.true_and]; rfl
          rw [e]
          refine d_and (a := true) (d_cal (a_cons (d_var rfl hv1) a_nil) ⟨.tuple xs, rfl, rfl⟩) fun _ => d_cb (a_cons ?_ a_nil) cad_all
          rw [← all_D]
          exact d_lcT (as := xs) (fun _ => true) _ (d_var rfl hv1) (by have : xs.length ≤ 1000 := hf; omega) (fun _ => rfl) (fun _ _ _ _ _ _ => b_yes) (fun v a G2 e2 _ hq _ => d_cal (a_cons (d_var rfl (hv0.mono e2)) (a_cons (d_var rfl hq) a_nil)) ⟨n, a, rfl, hl, rfl⟩)
        | _ =>
          refine ⟨_, (pss_one (ps_ret (pe_and (pe_cal C_is_listed (hr.mono (by decide)) pass0 (pa_cons (pv 1) pa_nil)) (pe_one (pe_callB (r := rAll K) (cr_all (by rfl)) (by rfl) Z.all (by decide +kernel) (pa_cons (pe_lc (own := [("item", 2)]) (g := gName 2) (tt := tYes) (by rfl) sc.nd (pi_list (pv 1)) (blkOk_by (N := ["dials", "thing", "item"]) (sc := defScope s_are_places) (by decide +kernel)) (fun _ _ _ _ _ => (pg_name (i := 2) sc.nd rfl (Or.inl rfl))) (fun _ _ _ _ _ => pts_nil) (fun _ _ _ _ _ => (pe_cal C_is_place (hr.mono (by decide)) pass0 (pa_cons (pv 0) (pa_cons (pv 2) pa_nil))))) pa_nil)))))), ?_⟩
          exact s_ret (G := G) (d := .bool (false && false)) (d_and (a := false) (b := false) (d_cal (a_cons (d_var rfl hv1) a_nil) ⟨_, rfl, rfl⟩) fun z => nomatch z) wf fun v G3 H3 s3 hv => k v G3 H3 s3 hv
end
end Mv


namespace Mv
open PySem L2 Evl
abbrev Rows := List (List Int)
def rowD : D → List Int
  | .tuple xs => xs.map fun d => match d with | .int i => i | _ => 0
  | _ => []
def dT (P : Rows) : D := .tuple (P.map dI)
def ins {α : Type} (lt : α → α → Bool) (p : α) : List α → List α
  | [] => [p]
  | q :: l => if lt q p then q :: ins lt p l else p :: q :: l
def isort {α : Type} (lt : α → α → Bool) : List α → List α
  | [] => []
  | p :: l => ins lt p (isort lt l)
def strict {α : Type} (lt : α → α → Bool) : List α → Bool
  | [] => true
  | p :: l => l.all (lt p) && strict lt l
def sortR (P : Rows) : Rows := isort HT.lexLt P
/-! ### places, told of data -/
theorem place_zip : ∀ {n : List Int} {xs : List D}, xs.length = n.length → ((xs.zip n).all fun q => btw 0 (q.2 - 1) q.1) = true → ∃ p, xs = p.map PyData.int ∧ InP p n
  | [], [], _, _ => ⟨[], rfl, .nil⟩
  | s :: n, x :: xs, hl, h => by
    rw [List.zip_cons_cons, List.all_cons, Bool.and_eq_true] at h
    obtain ⟨p, rfl, hp⟩ := place_zip (by simpa using hl) h.2
    cases x with
    | int i =>
      have hb : (decide (0 ≤ i) && decide (i ≤ s - 1)) = true := h.1
      simp only [Bool.and_eq_true, decide_eq_true_eq] at hb
      exact ⟨i :: p, rfl, .cons hb.1 (by omega) hp⟩
    | _ => exact absurd h.1 (by intro z; cases z)
  | s :: n, [], hl, _ => by simp at hl
  | [], x :: xs, hl, _ => by simp at hl
theorem place_inv {n : List Int} {d : D} (h : isPlace n d = true) : ∃ p, d = dI p ∧ InP p n := by
  cases d with
  | tuple xs =>
    have h : (decide (xs.length = n.length) && (xs.zip n).all fun q => btw 0 (q.2 - 1) q.1) = true := h
    simp only [Bool.and_eq_true, decide_eq_true_eq] at h
    obtain ⟨p, rfl, hp⟩ := place_zip h.1 h.2
    exact ⟨p, rfl, hp⟩
  | _ => exact absurd h (by intro z; cases z)
theorem place_all {n : List Int} : ∀ {xs : List D}, xs.all (isPlace n) = true → ∃ P : Rows, xs = P.map dI ∧ ∀ p ∈ P, InP p n
  | [], _ => ⟨[], rfl, fun _ h => by cases h⟩
  | x :: xs, h => by
    rw [List.all_cons, Bool.and_eq_true] at h
    obtain ⟨p, rfl, hp⟩ := place_inv h.1
    obtain ⟨P, rfl, hP⟩ := place_all h.2
    refine ⟨p :: P, rfl, fun q hq => ?_⟩
    rcases (List.mem_cons.mp hq) with rfl | hq
    · exact hp
    · exact hP q hq
theorem rowD_dI (p : List Int) : rowD (dI p) = p := by
  show (p.map PyData.int).map _ = p
  rw [List.map_map]
  exact (List.map_congr_left fun _ _ => rfl).trans (List.map_id p)
theorem rowsD_dI (P : Rows) : (P.map dI).map rowD = P := by
  rw [List.map_map]
  exact (List.map_congr_left fun p _ => rowD_dI p).trans (List.map_id P)
theorem inP_place {n p : List Int} (h : InP p n) : isPlace n (dI p) = true := by
  have key : ∀ {p n : List Int}, InP p n → (((p.map PyData.int).zip n).all fun q => btw 0 (q.2 - 1) q.1) = true := fun h => by
    induction h with
    | nil => rfl
    | @cons x s p n h1 h2 _ ih =>
      rw [List.map_cons, List.zip_cons_cons, List.all_cons, ih, Bool.and_true]
      show (decide (0 ≤ x) && decide (x ≤ s - 1)) = true
      (simp only [Bool.and_eq_true, decide_eq_true_eq])
      omega
  show (decide ((p.map PyData.int).length = n.length) && _) = true
  rw [key h, Bool.and_true]
  simpa using h.len
/-! ### the order of rows -/
theorem lex_is : ∀ a b : List Int, HT.lexLt a b = PySem.W.dataLt (dI a) (dI b) := by
  have key : ∀ a b : List Int, HT.lexLt a b = decide (a < b) := by
    intro a
    induction a with
    | nil => intro b; cases b <;> simp [HT.lexLt]
    | cons x a ih =>
      intro b
      cases b with
      | nil => simp [HT.lexLt]
      | cons y b =>
        rw [HT.lexLt, ih]
        by_cases e : x = y
        · subst e; simp [List.cons_lt_cons_iff]
        · rw [if_neg e]; simp [List.cons_lt_cons_iff, e]
  intro a b
  rw [key]
  exact (PySem.W.dataLt_ints a b).symm
theorem lex_eq : ∀ {a b : List Int}, HT.lexLt a b = false → HT.lexLt b a = false → a = b
  | [], [], _, _ => rfl
  | [], _ :: _, h, _ => by simp [HT.lexLt] at h
  | _ :: _, [], _, h => by simp [HT.lexLt] at h
  | x :: a, y :: b, h1, h2 => by
    rw [HT.lexLt] at h1 h2
    by_cases e : x = y
    · subst e
      rw [if_pos rfl] at h1 h2
      rw [lex_eq h1 h2]
    · rw [if_neg e] at h1
      rw [if_neg (Ne.symm e)] at h2
      simp only [decide_eq_false_iff_not] at h1 h2
      omega
theorem ord_total : PySem.W.TotalLe ordD := by
  unfold ordD PySem.W.dataLe
  exact PySem.W.sortLe_total _ _ _
theorem ord_is (a b : D) : ordD a b = !PySem.W.dataLt b a := rfl
theorem sort_is {ds m : List D} (hp : ds.Perm m) (hs : m.Pairwise fun a b => ordD a b = true) (anti : ∀ a b, a ∈ m → b ∈ m → ordD a b = true → ordD b a = true → a = b) : sortD ds = m :=
  List.Perm.eq_of_pairwise (le := fun a b => ordD a b = true) (fun a b ha hb h1 h2 => anti a b ((List.mem_mergeSort.mp ha) |> hp.mem_iff.mp) hb h1 h2) (PySem.W.sort_pairwise ord_total ds) hs ((List.mergeSort_perm ds ordD).trans hp)
section
variable {α : Type} {lt : α → α → Bool}
theorem ins_perm (p : α) : ∀ l : List α, (ins lt p l).Perm (p :: l)
  | [] => .refl _
  | q :: l => by
    unfold ins
    by_cases h : lt q p = true
    · rw [if_pos h]; exact ((ins_perm p l).cons q).trans (.swap p q l)
    · rw [if_neg h]
theorem isort_perm : ∀ l : List α, (isort lt l).Perm l
  | [] => .refl _
  | p :: l => (ins_perm p _).trans ((isort_perm l).cons p)
theorem ins_pair (T : PySem.W.TotalLe fun a b => !lt b a) (p : α) : ∀ {l : List α}, l.Pairwise (fun a b => (!lt b a) = true) → (ins lt p l).Pairwise fun a b => (!lt b a) = true
  | [], _ => List.pairwise_singleton _ _
  | q :: l, h => by
    have hq := List.pairwise_cons.mp h
    unfold ins
    by_cases hl : lt q p = true
    · rw [if_pos hl]
      refine List.pairwise_cons.mpr ⟨fun x hx => ?_, ins_pair T p hq.2⟩
      rcases List.mem_cons.mp ((ins_perm p l).mem_iff.mp hx) with rfl | hx
      · rcases T.total q x with h1 | h1
        · exact h1
        · simp [hl] at h1
      · exact hq.1 x hx
    · rw [if_neg hl]
      have hp : (!lt q p) = true := by simpa using hl
      refine List.pairwise_cons.mpr ⟨fun x hx => ?_, h⟩
      rcases (List.mem_cons.mp hx) with rfl | hx
      · exact hp
      · exact T.trans p q x hp (hq.1 x hx)
theorem isort_pair (T : PySem.W.TotalLe fun a b => !lt b a) : ∀ l : List α, (isort lt l).Pairwise fun a b => (!lt b a) = true
  | [] => .nil
  | p :: l => ins_pair T p (isort_pair T l)
theorem strict_or : ∀ {l : List α}, strict lt l = true → ∀ a b, a ∈ l → b ∈ l → a = b ∨ lt a b = true ∨ lt b a = true
  | [], _, a, b, h, _ => by cases h
  | x :: l, h, a, b, ha, hb => by
    simp only [strict, Bool.and_eq_true, List.all_eq_true] at h
    rcases List.mem_cons.mp ha with e | ha2
    · rcases List.mem_cons.mp hb with e2 | hb2
      · exact .inl (e.trans e2.symm)
      · rw [e]; exact .inr (.inl (h.1 b hb2))
    · rcases List.mem_cons.mp hb with e2 | hb2
      · rw [e2]; exact .inr (.inr (h.1 a ha2))
      · exact strict_or h.2 a b ha2 hb2
end
theorem comap_total {α : Type} (f : α → D) : PySem.W.TotalLe fun a b : α => !PySem.W.dataLt (f b) (f a) := by
  have := ord_total
  exact ⟨fun a b c h1 h2 => this.trans (f a) (f b) (f c) h1 h2, fun a b => this.total (f a) (f b)⟩
theorem rows_total : PySem.W.TotalLe fun a b : List Int => !HT.lexLt b a := by
  have := comap_total dI
  refine ⟨fun a b c h1 h2 => ?_, fun a b => ?_⟩
  · rw [lex_is] at h1 h2 ⊢; exact this.trans a b c h1 h2
  · rw [lex_is, lex_is]; exact this.total a b
theorem sort_rows (P : Rows) : sortD (P.map dI) = (sortR P).map dI := by
  refine sort_is ((isort_perm P).symm.map dI) ?_ ?_
  · rw [List.pairwise_map]
    exact (isort_pair rows_total P).imp fun {a b} h => by rw [lex_is] at h; rw [ord_is]; exact h
  · rintro a b ha hb h1 h2
    obtain ⟨p, _, rfl⟩ := List.mem_map.mp ha
    obtain ⟨q, _, rfl⟩ := List.mem_map.mp hb
    rw [ord_is, ← lex_is] at h1 h2
    exact congrArg dI (lex_eq (by simpa using h2) (by simpa using h1))
/-! ### rows and lots as data -/
theorem flat_rows : ∀ P : Rows, flatDs (P.map dI) = true
  | [] => rfl
  | p :: P => by rw [List.map_cons, flatDs, flat_dI, flat_rows P]; rfl
theorem flat_dT (P : Rows) : flatD (dT P) = true := flat_rows P
theorem lay_dI (p : List Int) : PyData.canLay0 (dI p) = true := by unfold dI; rw [PyData.canLay0]; exact canLay_ints p
theorem lay_rows : ∀ P : Rows, PyData.canLayAll0 (P.map dI) = true
  | [] => by simp [PyData.canLayAll0]
  | p :: P => by rw [List.map_cons, PyData.canLayAll0, lay_dI, lay_rows P]; rfl
theorem lay_dT (P : Rows) : PyData.canLay0 (dT P) = true := by unfold dT; rw [PyData.canLay0]; exact lay_rows P
theorem dep_dI (p : List Int) : PyData.depth (dI p) ≤ 2 := by
  unfold dI; rw [PyData.depth]; have := depth_ints p; omega
theorem dep_rows : ∀ P : Rows, PyData.depthAll (P.map dI) ≤ 2
  | [] => by simp [PyData.depthAll]
  | p :: P => by rw [List.map_cons, PyData.depthAll]; have := dep_dI p; have := dep_rows P; omega
theorem dep_dT (P : Rows) : PyData.depth (dT P) ≤ 3 := by
  unfold dT; rw [PyData.depth]; have := dep_rows P; omega
theorem shaped_dT (P : Rows) : SeqAt.shaped (dT P) = true := by
  unfold SeqAt.shaped; rw [lay_dT]; have := dep_dT P; simp; omega
theorem shaped_rowsL (P : Rows) : SeqAt.shaped (.list (P.map dI)) = true := by
  unfold SeqAt.shaped; rw [PyData.canLay0, lay_rows, PyData.depth]; have := dep_rows P; simp; omega
theorem eqv_rows : ∀ P Q : Rows, PyData.eqvAll (P.map dI) (Q.map dI) = decide (P = Q)
  | [], [] => by simp [PyData.eqvAll]
  | [], q :: Q => by simp [PyData.eqvAll]
  | p :: P, [] => by simp [PyData.eqvAll]
  | p :: P, q :: Q => by
    rw [List.map_cons, List.map_cons, PyData.eqvAll, eqv_dI, eqv_rows P Q]
    by_cases h : p = q <;> simp [h]
theorem eqv_dT (P Q : Rows) : PyData.eqv (dT P) (dT Q) = decide (P = Q) := by
  unfold dT; rw [PyData.eqv]; exact eqv_rows P Q
theorem any_rows (P : Rows) (q : List Int) : ((P.map dI).any fun z => PyData.eqv z (dI q)) = P.any fun c => decide (c = q) := by
  rw [List.any_map]
  congr 1
  funext c
  exact eqv_dI c q
theorem alike_dI (p q : List Int) : PySem.W.alike (dI p) (dI q) = true := by unfold dI; rw [PySem.W.alike]; exact PySem.W.alike_ints p q
theorem alike_rows : ∀ P Q : Rows, PySem.W.alikeAll (P.map dI) (Q.map dI) = true
  | [], _ => by simp [PySem.W.alikeAll]
  | _ :: _, [] => by simp [PySem.W.alikeAll]
  | p :: P, q :: Q => by rw [List.map_cons, List.map_cons, PySem.W.alikeAll, alike_dI, alike_rows P Q]; rfl
theorem alike_dT (P Q : Rows) : PySem.W.alike (dT P) (dT Q) = true := by unfold dT; rw [PySem.W.alike]; exact alike_rows P Q
theorem sortOk_rows {P : Rows} (h : ∀ p ∈ P, 1 ≤ p.length) : SortOk (P.map dI) := by
  refine ⟨flat_rows P, fun d hd d' hd' => ?_, .inl fun d hd => ?_, fun d hd => ?_⟩
  · obtain ⟨p, _, rfl⟩ := List.mem_map.mp hd
    obtain ⟨q, _, rfl⟩ := List.mem_map.mp hd'
    exact alike_dI p q
  · obtain ⟨p, hp, rfl⟩ := List.mem_map.mp hd
    have := h p hp
    cases p with
    | nil => simp at this
    | cons x p => exact ⟨_, _, rfl⟩
  · obtain ⟨p, _, rfl⟩ := List.mem_map.mp hd
    have := dep_dI p
    omega
section
variable {K : PySem.W.Frag} {σ : L2.St} {G : Hp} {t : TT} {te : TE}
/-- zip of two that may be unlike in length -/
theorem d_lcZ2m {ta : TA} {i j : Nat} {vs : List Nat} {k1 k2 : Bool} {as bs : List D} (f : D × D → D) (h : EvS ta σ G [sq k1 as, sq k2 bs]) (hz : as.length ≤ 1000000)
    (hw : ∀ x y, wipe (((wipe σ vs).set i (some x)).set j (some y)) vs = wipe σ vs)
    (he : ∀ x y a b G1, Ex G G1 → (a, b) ∈ as.zip bs → Dq G1 x a → Dq G1 y b → EvD te (((wipe σ vs).set i (some x)).set j (some y)) G1 (f (a, b))) :
    EvD (tLc (iZip2 K k1 k2 ta) (gT2 K i j) tYes te vs) σ G (.list ((as.zip bs).map f)) := fun G1 H1 x w Q q => h G1 H1 x w _ fun us G2 H2 s hv => by
  cases hv with
  | cons hv hn =>
    cases hn with
    | cons hv2 hn =>
      cases hn
      obtain ⟨a, xs, rfl, hxs, qa⟩ := sq_at (K := K) hv
      obtain ⟨b, ys, rfl, hys, qb⟩ := sq_at (K := K) hv2
      refine ⟨a, b, xs, ys, rfl, qa _ s.w, qb _ s.w, fun Dl hD => ?_⟩
      have l1 := hxs.len
      have l2 := hys.len
      obtain ⟨N, hN⟩ : ∃ N, N = (as.zip bs).length := ⟨_, rfl⟩
      have hN2 : N = min xs.length ys.length := by rw [hN, List.length_zip, l1, l2]
      refine ⟨fun i m H => m = N - i ∧ i ≤ N ∧ Mk2 G2 H2 Dl (((as.zip bs).take i).map f) H, ⟨N, rfl, Nat.zero_le _, Mk2.start s.w hD⟩, ?_⟩
      rintro n m H ⟨rfl, hn, mk⟩
      obtain ⟨G3, vs3, s3, g3, hvs3, hH3⟩ := id mk
      have qa' := qa H (s3.g.trans s3.w)
      have qb' := qb H (s3.g.trans s3.w)
      by_cases hlt : n < N
      · have ex : xs[n]? = some (xs[n]'(by omega)) := List.getElem?_eq_getElem _
        have ey : ys[n]? = some (ys[n]'(by omega)) := List.getElem?_eq_getElem _
        refine .inr ⟨⟨xs, ys, _, _, qa', qb', ex, ey⟩, fun H' => Mk2 G2 H2 Dl (((as.zip bs).take (n + 1)).map f) H', fun H' m' => ⟨N - (n + 1), by omega, rfl, hlt, m'⟩, ?_⟩
        rintro v H' ⟨T, x', y', rfl, hT, rfl, f1, f2⟩
        obtain ⟨dx, hdx, qx⟩ := hxs.get (f1 xs qa')
        obtain ⟨dy, hdy, qy⟩ := hys.get (f2 ys qb')
        have hz3 : (as.zip bs)[n]? = some (dx, dy) := List.getElem?_zip_eq_some.mpr ⟨hdx, hdy⟩
        refine ⟨T, [x', y'], rfl, SqT.of upd_same, rfl, x', _, rfl, y', _, rfl, rfl, hw _ _, ?_⟩
        have hTD : T ≠ Dl := fun e => by rw [e, hH3] at hT; cases hT
        have mk' : Mk2 G2 H2 Dl (((as.zip bs).take n).map f) (upd H T (.tup [x', y'])) :=
          ⟨G3, vs3, s3.trans (.old s3.w (.new hT)), g3, hvs3, by rw [upd_ne hTD.symm]; exact hH3⟩
        refine Mk2.turn (b := true) (d := f (dx, dy)) hD mk' ?_ (fun G4 e1 _ => b_yes)
          (fun G4 e1 _ hp => he _ _ _ _ G4 ((x.trans s.g).trans e1) (List.mem_of_getElem? hz3) (qx.mono e1) (qy.mono e1)) fun H3 m3 => ?_
        · rw [List.length_map, List.length_take, sizeLine_eq]; omega
        · rw [if_pos rfl] at m3
          rw [take_more hz3, List.map_append]; exact m3
      · have e : n = N := by omega
        subst e
        refine .inl ⟨⟨xs, ys, qa', qb', by omega, by omega, by omega⟩, ?_⟩
        rw [hN, List.take_length] at mk
        obtain ⟨G4, s4, h4⟩ := mk.done hD
        exact q _ G4 H (s.trans s4) h4
end
theorem room65 {k : Nat} {A : Around} (r : Room k A) : A.units + 64 + 1 < cLine := by have := r.un; omega
theorem few_inP {n p : List Int} (hn : n ∈ fewD) (hp : p ∈ placesOf n) : InP p n := by
  have h := List.all_eq_true.mp (List.all_eq_true.mp few_turn n hn) p hp
  simp only [Bool.and_eq_true] at h
  obtain ⟨q, e, hq⟩ := place_inv h.2
  have : p = q := by rw [← rowD_dI p, e, rowD_dI]
  rw [this]; exact hq
theorem sort_mem {P : Rows} {p : List Int} : p ∈ sortR P ↔ p ∈ P := (isort_perm P).mem_iff
theorem d_inT {K : PySem.W.Frag} {σ : L2.St} {G : Hp} {te tv : TE} {q : List Int} {P : Rows} {neg : Bool} (h : EvD te σ G (dI q)) (h2 : EvD tv σ G (dT P)) : EvD (tOp (rInA K neg) te tv) σ G (.bool (if neg then !(P.any fun c => decide (c = q)) else P.any fun c => decide (c = q))) :=
  (d_op h h2 (opd_inT (K := K) (neg := neg) (ds := P.map dI) (flat_dI q) (flat_dT P) (shaped_dI q) (shaped_dT P))).is (by rw [any_rows])
theorem few_prod : (fewD.all fun n => decide (prod n = ((placesOf n).length : Int))) = true := by decide +kernel
theorem few_strict : (fewD.all fun n => strict HT.lexLt (placesOf n)) = true := by decide +kernel
theorem strict_nodup {α : Type} {lt : α → α → Bool} (ir : ∀ a, lt a a = false) : ∀ {l : List α}, strict lt l = true → l.Nodup
  | [], _ => .nil
  | x :: l, h => by
    simp only [strict, Bool.and_eq_true, List.all_eq_true] at h
    refine List.nodup_cons.mpr ⟨fun hx => ?_, strict_nodup ir h.2⟩
    have := h.1 x hx
    rw [ir x] at this; cases this
theorem lex_irr : ∀ a : List Int, HT.lexLt a a = false
  | [] => rfl
  | x :: a => by rw [HT.lexLt, if_pos rfl]; exact lex_irr a
theorem few_nodup {n : List Int} (hn : n ∈ fewD) : (placesOf n).Nodup := strict_nodup lex_irr (List.all_eq_true.mp few_strict n hn)
theorem sort_perm {L M : Rows} (h : L.Perm M) : sortR L = sortR M :=
  List.Perm.eq_of_pairwise (le := fun a b => (!HT.lexLt b a) = true) (fun a b _ _ h1 h2 => lex_eq (by simpa using h2) (by simpa using h1)) (isort_pair rows_total L) (isort_pair rows_total M) (((isort_perm L).trans h).trans (isort_perm M).symm)
theorem sort_places {n : List Int} (hn : n ∈ fewD) : sortR (placesOf n) = placesOf n := by
  have h := List.all_eq_true.mp few_strict n hn
  refine List.Perm.eq_of_pairwise (le := fun a b => (!HT.lexLt b a) = true) (fun a b _ _ h1 h2 => lex_eq (by simpa using h2) (by simpa using h1)) (isort_pair rows_total _) ?_ (isort_perm _)
  have key : ∀ {l : Rows}, strict HT.lexLt l = true → l.Pairwise fun a b => (!HT.lexLt b a) = true := fun {l} => by
    induction l with
    | nil => intro _; exact .nil
    | cons x l ih =>
      intro h
      simp only [strict, Bool.and_eq_true, List.all_eq_true] at h
      refine List.pairwise_cons.mpr ⟨fun y hy => ?_, ih h.2⟩
      have h1 := h.1 y hy
      cases z : HT.lexLt y x with
      | false => rfl
      | true =>
        have : ∀ {a b : List Int}, HT.lexLt a b = true → HT.lexLt b a = true → False := fun {a} => by
          induction a with
          | nil => intro b h1 h2; cases b <;> simp [HT.lexLt] at h1 h2
          | cons x a ih =>
            intro b h1 h2
            cases b with
            | nil => simp [HT.lexLt] at h1
            | cons y b =>
              rw [HT.lexLt] at h1 h2
              by_cases e : x = y
              · subst e
                rw [if_pos rfl] at h1 h2
                exact ih h1 h2
              · rw [if_neg e] at h1
                rw [if_neg (Ne.symm e)] at h2
                simp only [decide_eq_true_eq] at h1 h2
                omega
        exact (this h1 z).elim
  exact key h
/-- sorted they are all places exactly if no two are the same -/
theorem sort_all {n : List Int} (hn : n ∈ fewD) {L : Rows} (h : ∀ p ∈ L, p ∈ placesOf n) (hl : L.length = (placesOf n).length) : sortR L = placesOf n ↔ L.Nodup := by
  refine ⟨fun e => ?_, fun hd => ?_⟩
  · have : (sortR L).Perm L := isort_perm L
    rw [e] at this
    exact this.nodup_iff.mp (few_nodup hn)
  · rw [sort_perm (nodup_perm hd h hl), sort_places hn]
theorem addP_in : ∀ {n a b : List Int}, a.length = n.length → b.length = n.length → (∀ s ∈ n, 0 < s) → InP (addP n a b) n
  | [], [], [], _, _, _ => .nil
  | s :: n, x :: a, y :: b, h1, h2, h => .cons (Int.emod_nonneg _ (by have := h s (.head _); omega)) (Int.emod_lt_of_pos _ (h s (.head _))) (addP_in (by simpa using h1) (by simpa using h2) fun s hs => h s (.tail _ hs))
  | s :: n, [], _, h, _, _ => by simp at h
  | s :: n, _ :: _, [], _, h, _ => by simp at h
  | [], _ :: _, _, h, _, _ => by simp at h
  | [], [], _ :: _, _, h, _ => by simp at h
theorem takeP_in : ∀ {n a b : List Int}, a.length = n.length → b.length = n.length → (∀ s ∈ n, 0 < s) → InP (takeP n a b) n
  | [], [], [], _, _, _ => .nil
  | s :: n, x :: a, y :: b, h1, h2, h => .cons (Int.emod_nonneg _ (by have := h s (.head _); omega)) (Int.emod_lt_of_pos _ (h s (.head _))) (takeP_in (by simpa using h1) (by simpa using h2) fun s hs => h s (.tail _ hs))
  | s :: n, [], _, h, _, _ => by simp at h
  | s :: n, _ :: _, [], _, h, _ => by simp at h
  | [], _ :: _, _, h, _, _ => by simp at h
  | [], [], _ :: _, _, h, _ => by simp at h
theorem zeros_in : ∀ {n : List Int}, (∀ s ∈ n, 0 < s) → InP (zeros n) n
  | [], _ => .nil
  | s :: n, h => .cons (Int.le_refl _) (h s (.head _)) (zeros_in (n := n) fun s hs => h s (.tail _ hs))
end Mv


namespace Mv
open PySem L2 Evl
def reachF (n : List Int) (M : Rows) : Rows := ((placesOf n).zip M).map fun q => addP n q.1 q.2
def isMoves (n : List Int) (d : D) : Bool := isTup d (prod n) && isPlaces n d
def isDealt (n : List Int) (d : D) : Bool := isMoves n d && match d with
  | .tuple xs => decide (reachF n (xs.map rowD)).Nodup
  | _ => false
/-- the moves of a row: rows, as many as places -/
structure MovesOk (n : List Int) (M : Rows) : Prop where
  inp : ∀ p ∈ M, InP p n
  len : M.length = (placesOf n).length
theorem prod_len {n : List Int} (hn : n ∈ fewD) : prod n = ((placesOf n).length : Int) := by
  have := List.all_eq_true.mp few_prod n hn
  simpa using this
theorem moves_inv {n : List Int} (hn : n ∈ fewD) {d : D} (h : isMoves n d = true) : ∃ M, d = dT M ∧ MovesOk n M := by
  unfold isMoves at h
  rw [Bool.and_eq_true] at h
  cases d with
  | tuple xs =>
    obtain ⟨M, rfl, hM⟩ := place_all (show xs.all (isPlace n) = true from h.2)
    have h1 : decide (((M.map dI).length : Int) = prod n) = true := h.1
    rw [decide_eq_true_eq, prod_len hn, List.length_map] at h1
    exact ⟨M, rfl, hM, by omega⟩
  | _ => exact absurd h.1 (by intro z; cases z)
theorem moves_of {n : List Int} (hn : n ∈ fewD) {M : Rows} (o : MovesOk n M) : isMoves n (dT M) = true := by
  unfold isMoves
  rw [Bool.and_eq_true]
  refine ⟨?_, ?_⟩
  · show decide (((M.map dI).length : Int) = prod n) = true
    rw [decide_eq_true_eq, prod_len hn, List.length_map, o.len]
  · show (M.map dI).all (isPlace n) = true
    refine List.all_eq_true.mpr fun d hd => ?_
    obtain ⟨p, hp, rfl⟩ := List.mem_map.mp hd
    exact inP_place (o.inp p hp)
theorem dealt_T {n : List Int} (hn : n ∈ fewD) {M : Rows} (o : MovesOk n M) : isDealt n (dT M) = decide (reachF n M).Nodup := by
  show (isMoves n (dT M) && decide (reachF n ((M.map dI).map rowD)).Nodup) = _
  rw [moves_of hn o, Bool.true_and, rowsD_dI]
theorem dealt_no {n : List Int} {d : D} (h : isMoves n d = false) : isDealt n d = false := by
  unfold isDealt
  rw [h, Bool.false_and]
theorem reach_len {n : List Int} {M : Rows} (h : M.length = (placesOf n).length) : (reachF n M).length = (placesOf n).length := by
  unfold reachF
  rw [List.length_map, List.length_zip, h, Nat.min_self]
theorem reach_in {n : List Int} (hn : n ∈ fewD) {M : Rows} (o : MovesOk n M) : ∀ p ∈ reachF n M, p ∈ placesOf n := fun p hp => by
  obtain ⟨q, hq, rfl⟩ := (List.mem_map.mp hp)
  obtain ⟨h1, h2⟩ := List.of_mem_zip (a := q.1) (b := q.2) hq
  have okd := okB_ok (List.all_eq_true.mp few_ok n hn)
  exact (addP_in (few_inP hn h1).len (o.inp _ h2).len fun s hs => by have := okd.sz s hs; omega).mem
def R_reached (ds : List D) (z : D) : Prop := ∃ n M, ds = [dI n, dT M] ∧ n ∈ fewD ∧ MovesOk n M ∧ z = dL (reachF n M)
def R_all_different (ds : List D) (z : D) : Prop := ∃ R : Rows, ds = [dL R] ∧ R.length < 64 ∧ z = .bool (decide R.Nodup)
def R_is_moves (ds : List D) (z : D) : Prop := ∃ n d, ds = [dI n, d] ∧ n ∈ fewD ∧ fewIn d ∧ z = .bool (isMoves n d)
def R_is_dealt (ds : List D) (z : D) : Prop := ∃ n d, ds = [dI n, d] ∧ n ∈ fewD ∧ fewIn d ∧ z = .bool (isDealt n d)
def R_check_moves (C : Addr) (ds : List D) (r : Except Addr D) : Prop := ∃ n d, ds = [dI n, d] ∧ n ∈ fewD ∧ fewIn d ∧ r = if isMoves n d then .ok .none else .error C
def R_ends (C C' : Addr) (ds : List D) (r : Except Addr D) : Prop := ∃ d e : D, ds = [d, e] ∧ ((∃ n M, d = dI n ∧ e = dT M ∧ n ∈ fewD ∧ MovesOk n M ∧ r = .ok (dL (reachF n M))) ∨ (isDials d = false ∧ r = .error C) ∨ ∃ n, d = dI n ∧ n ∈ fewD ∧ fewIn e ∧ isMoves n e = false ∧ r = .error C')
def R_is_dealing (C : Addr) (ds : List D) (r : Except Addr D) : Prop := ∃ d e : D, ds = [d, e] ∧ ((∃ n, d = dI n ∧ n ∈ fewD ∧ fewIn e ∧ r = .ok (.bool (isDealt n e))) ∨ (isDials d = false ∧ r = .error C))
abbrev s_is_moves : Stmt := top 28
section
variable {P : Program} {w : World} {mg : Str → Option Value} {base : Heap} {K : PySem.W.Frag}
theorem ok_is_moves {f : Addr} {fd : FuncData} (C_is_tuple_of : Cal P w K mg base CX0 1 "is_tuple_of" ["thing", "many"] (SpR R_is_tuple_of)) (C_place_count : Cal P w K mg base CX0 1 "place_count" ["dials"] (SpR R_place_count)) (C_are_places : Cal P w K mg base CX0 4 "are_places" ["dials", "thing"] (SpR R_are_places)) (F : Fun K "is_moves" "is_moves" s_is_moves f fd) : FnOk P w K mg base CX0 5 f fd ["dials", "thing"] (SpR R_is_moves) := by
  have sc : FnScope ["dials", "thing"] ["dials", "thing"] (defScope s_is_moves) := ⟨rfl, rfl, rfl, by decide +kernel, rfl, by decide +kernel, by decide +kernel⟩
  refine F.ok sc (fun vs H Q E h => ?_) (fun cdv A outer s H vs Q E hr h => ?_)
  · obtain ⟨G, ds, z, _, hv, ⟨n, d, rfl, _⟩, _⟩ := h
    exact hv.len
  · obtain ⟨G, ds, z, wf, hv, ⟨n, d, rfl, hn, hf, rfl⟩, k⟩ := h
    refine ⟨_, (pss_one (ps_ret (pe_and (pe_cal C_is_tuple_of (hr.mono (by decide)) pass0 (pa_cons (pv 1) (pa_cons (pe_cal C_place_count (hr.mono (by decide)) pass0 (pa_cons (pv 0) pa_nil)) pa_nil))) (pe_one (pe_cal C_are_places (hr.mono (by decide)) pass0 (pa_cons (pv 0) (pa_cons (pv 1) pa_nil))))))), ?_⟩
    have okd := okB_ok (List.all_eq_true.mp few_ok n hn)
    have l2 := okd.hi
    cases hv with
    | @cons v0 vs d0 ds hv0 hn' =>
      cases hn' with
      | @cons v1 vs d1 ds hv1 hn' =>
        cases hn'
        exact s_ret (G := G) (d := .bool (isMoves n d)) (d_and (d_cal (a_cons (d_var rfl hv1) (a_cons (d_cal (a_cons (d_var rfl hv0) a_nil) ⟨n, rfl, fun s hs => by have := okd.sz s hs; omega, rfl⟩) a_nil)) ⟨d, prod n, rfl, rfl⟩) fun _ => d_cal (a_cons (d_var rfl hv0) (a_cons (d_var rfl hv1) a_nil)) ⟨n, d, rfl, by omega, hf, rfl⟩) wf fun v G3 H3 s3 hv => k v G3 H3 s3 hv
end
end Mv


namespace Mv
open PySem L2 Evl
def R_is_whole (ds : List D) (z : D) : Prop := ∃ d, ds = [d] ∧ z = .bool (isNum d)
def R_deals (ds : List D) (z : D) : Prop := ∃ n d, ds = [dI n, d] ∧ n ∈ fewD ∧ fewIn d ∧ z = .bool (isDealt n d)
/-- no item is left -/
theorem none_left {α : Type} (p : α → Bool) (l : List α) : (((l.filter p).map fun _ => PyData.int 1).isEmpty) = l.all fun x => !p x := by
  induction l with
  | nil => rfl
  | cons x l ih =>
    rw [List.filter_cons, List.all_cons]
    cases h : p x with
    | true => simp
    | false => simp [ih]
theorem flat_ones {α : Type} (l : List α) : flatD (.list (l.map fun _ => PyData.int 1)) = true := by
  show flatDs (l.map fun _ => PyData.int 1) = true
  induction l with
  | nil => rfl
  | cons x l ih => rw [List.map_cons, flatDs, ih]; rfl
theorem shaped_ones {α : Type} (l : List α) : SeqAt.shaped (.list (l.map fun _ => PyData.int 1)) = true := by
  have e : (l.map fun _ => PyData.int 1) = (l.map fun _ => (1 : Int)).map PyData.int := by rw [List.map_map]; rfl
  rw [e]
  exact shaped_lI _
theorem opd_neN {G : Hp} (i j : Int) : OpD rNe G (.int i) (.int j) (.bool (!decide (i = j))) := fun x y G1 H1 a b hx hy Q q => by
  cases hx
  cases hy
  refine ⟨rfl, ?_⟩
  have e : decide (V.int i = V.int j) = decide (i = j) := by rw [dec_int, Bool.eq_iff_iff]; simp
  rw [e]
  exact q _ G1 H1 (.refl b) (.bl _)
section
variable {P : Program} {w : World} {mg : Str → Option Value} {base : Heap} {K : PySem.W.Frag}
end
end Mv


namespace Mv
open PySem L2 Evl
/-! ### rows: ascending moves -/
def leR (a b : List Int) : Bool := !HT.lexLt b a
theorem lexAt_up {e r : Nat → Bool} {z : Bool} : ∀ (k i : Nat), Ob.lexAt e r z (i + 1) k = Ob.lexAt (fun j => e (j + 1)) (fun j => r (j + 1)) z i k
  | 0, _ => rfl
  | k + 1, i => by rw [Ob.lexAt_succ, Ob.lexAt_succ, lexAt_up k (i + 1)]
theorem lexAt_le : ∀ a b : List Int, Ob.lexAt (fun j => decide (a.getD j 0 = b.getD j 0)) (fun j => decide (a.getD j 0 ≤ b.getD j 0)) (decide (a.length ≤ b.length)) 0 (min a.length b.length) = leR a b
  | [], [] => rfl
  | [], _ :: _ => rfl
  | x :: a, [] => by
    show Ob.lexAt _ _ (decide ((x :: a).length ≤ 0)) 0 0 = _
    rw [Ob.lexAt_zero]
    simp [leR, HT.lexLt]
  | x :: a, y :: b => by
    have ih := lexAt_le a b
    rw [List.length_cons, List.length_cons, Nat.add_min_add_right, Ob.lexAt_succ]
    show (if decide (x = y) = true then _ else decide (x ≤ y)) = _
    unfold leR
    rw [HT.lexLt]
    by_cases h : x = y
    · subst h
      rw [if_pos (by simp), if_pos rfl, lexAt_up]
      have e : decide (a.length + 1 ≤ b.length + 1) = decide (a.length ≤ b.length) := by simp
      rw [e]
      exact ih
    · rw [if_neg (by simpa using h), if_neg (Ne.symm h)]
      by_cases q : x ≤ y
      · rw [decide_eq_true q, decide_eq_false (by omega)]; rfl
      · rw [decide_eq_false q, decide_eq_true (by omega)]; rfl
def isAsc (M : Rows) : Bool := ((M.zip (M.drop 1)).map fun q => leR q.1 q.2).all id
def isRow (n : List Int) (d : D) : Bool := isMoves n d && match d with
  | .tuple xs => isAsc (xs.map rowD)
  | _ => false
def isOf (n : List Int) (R : Rows) (d : D) : Bool := isDealt n d && match d with
  | .tuple xs => decide (sortR (xs.map rowD) = R)
  | _ => false
theorem row_T {n : List Int} (hn : n ∈ fewD) {M : Rows} (o : MovesOk n M) : isRow n (dT M) = isAsc M := by
  show (isMoves n (dT M) && isAsc ((M.map dI).map rowD)) = _
  rw [moves_of hn o, Bool.true_and, rowsD_dI]
theorem row_no {n : List Int} {d : D} (h : isMoves n d = false) : isRow n d = false := by
  unfold isRow
  rw [h, Bool.false_and]
theorem of_T {n : List Int} (hn : n ∈ fewD) {R M : Rows} (o : MovesOk n M) : isOf n R (dT M) = (isDealt n (dT M) && decide (sortR M = R)) := by
  show (isDealt n (dT M) && decide (sortR ((M.map dI).map rowD) = R)) = _
  rw [rowsD_dI]
theorem of_no {n : List Int} {R : Rows} {d : D} (h : isDealt n d = false) : isOf n R d = false := by
  unfold isOf
  rw [h, Bool.false_and]
theorem dealt_moves {n : List Int} {d : D} (h : isDealt n d = true) : isMoves n d = true := by
  unfold isDealt at h
  rw [Bool.and_eq_true] at h
  exact h.1
theorem row_moves {n : List Int} {d : D} (h : isRow n d = true) : isMoves n d = true := by
  unfold isRow at h
  rw [Bool.and_eq_true] at h
  exact h.1
theorem asc_cons (p q : List Int) (M : Rows) : isAsc (p :: q :: M) = (leR p q && isAsc (q :: M)) := rfl
theorem asc_pair : ∀ {M : Rows}, (M.Pairwise fun a b => (!HT.lexLt b a) = true) → isAsc M = true
  | [], _ => rfl
  | [_], _ => rfl
  | p :: q :: M, h => by
    have h := List.pairwise_cons.mp h
    rw [asc_cons, asc_pair h.2, Bool.and_true]
    exact h.1 q (.head _)
theorem asc_sort (M : Rows) : isAsc (sortR M) = true := asc_pair (isort_pair rows_total M)
theorem pair_asc : ∀ {M : Rows}, isAsc M = true → M.Pairwise fun a b => (!HT.lexLt b a) = true
  | [], _ => .nil
  | [_], _ => List.pairwise_singleton _ _
  | p :: q :: M, h => by
    rw [asc_cons, Bool.and_eq_true] at h
    have ih := pair_asc h.2
    refine List.pairwise_cons.mpr ⟨fun x hx => ?_, ih⟩
    rcases (List.mem_cons.mp hx) with rfl | hx
    · exact h.1
    · exact rows_total.trans p q x h.1 ((List.pairwise_cons.mp ih).1 x hx)
theorem asc_is {M : Rows} (h : isAsc M = true) : sortR M = M :=
  List.Perm.eq_of_pairwise (le := fun a b => (!HT.lexLt b a) = true) (fun a b _ _ h1 h2 => lex_eq (by simpa using h2) (by simpa using h1)) (isort_pair rows_total M) (pair_asc h) (isort_perm M)
def R_is_ascending (ds : List D) (z : D) : Prop := ∃ M : Rows, ds = [dT M] ∧ M.length ≤ 1000 ∧ z = .bool (isAsc M)
def R_is_row (ds : List D) (z : D) : Prop := ∃ n d, ds = [dI n, d] ∧ n ∈ fewD ∧ fewIn d ∧ z = .bool (isRow n d)
def R_check_row (C : Addr) (ds : List D) (r : Except Addr D) : Prop := ∃ n d, ds = [dI n, d] ∧ n ∈ fewD ∧ fewIn d ∧ r = if isRow n d then .ok .none else .error C
def R_check_dealing (C : Addr) (ds : List D) (r : Except Addr D) : Prop := ∃ n d, ds = [dI n, d] ∧ n ∈ fewD ∧ fewIn d ∧ r = if isDealt n d then .ok .none else .error C
def R_row_of (C C' : Addr) (ds : List D) (r : Except Addr D) : Prop := ∃ d e : D, ds = [d, e] ∧ ((∃ n M, d = dI n ∧ e = dT M ∧ n ∈ fewD ∧ MovesOk n M ∧ isDealt n (dT M) = true ∧ r = .ok (dT (sortR M))) ∨ (isDials d = false ∧ r = .error C) ∨ ∃ n, d = dI n ∧ n ∈ fewD ∧ fewIn e ∧ isDealt n e = false ∧ r = .error C')
def R_is_dealing_of (C C' : Addr) (ds : List D) (r : Except Addr D) : Prop := ∃ d ro e : D, ds = [d, ro, e] ∧ ((∃ n R, d = dI n ∧ ro = dT R ∧ n ∈ fewD ∧ isRow n (dT R) = true ∧ fewIn e ∧ r = .ok (.bool (isOf n R e))) ∨ (isDials d = false ∧ r = .error C) ∨ ∃ n, d = dI n ∧ n ∈ fewD ∧ fewIn ro ∧ isRow n ro = false ∧ r = .error C')
abbrev s_is_ascending : Stmt := top 22
abbrev s_is_row_of_moves : Stmt := top 29
abbrev s_check_row : Stmt := top 34
section
variable {K : PySem.W.Frag} {σ : L2.St} {G : Hp} {te : TE}
theorem opd_leT {a b : List Int} : OpD (rLeT K) G (dI a) (dI b) (.bool (leR a b)) := fun x y G1 H1 u w hx hy Q q => by
  cases hx with
  | tup hp hxs =>
    cases hy with
    | tup hp2 hys =>
      have e1 := hxs.ints
      have e2 := hys.ints
      subst e1 e2
      refine ⟨_, _, a, b, rfl, rfl, SqT.of (w _ _ hp), SqT.of (w _ _ hp2), ?_⟩
      rw [lexAt_le]
      exact q _ G1 H1 (.refl w) (.bl _)
theorem cut_1 (ds : List D) : cutD ds (some 1) none = ds.drop 1 := by
  cases ds with
  | nil => rfl
  | cons d ds => exact cut_hi (ds := d :: ds) 1 (by simp)
end
section
variable {P : Program} {w : World} {mg : Str → Option Value} {base : Heap} {K : PySem.W.Frag}
theorem ok_is_ascending {f : Addr} {fd : FuncData} (Z : Zs mg) (F : Fun K "is_ascending" "is_ascending" s_is_ascending f fd) : FnOk P w K mg base CX0 1 f fd ["items"] (SpR R_is_ascending) := by
  have sc : FnScope ["items", "one", "other"] ["items"] (defScope s_is_ascending) := ⟨rfl, rfl, rfl, by decide +kernel, rfl, by decide +kernel, by decide +kernel⟩
  refine F.ok sc (fun vs H Q E h => ?_) (fun cdv A outer s H vs Q E hr h => ?_)
  · obtain ⟨G, ds, z, _, hv, ⟨M, rfl, _⟩, _⟩ := h
    exact hv.len
  · obtain ⟨G, ds, z, wf, hv, ⟨M, rfl, hl, rfl⟩, k⟩ := h
    refine ⟨_, (pss_one (ps_ret (pe_callB (r := rAll K) (cr_all (by rfl)) (by rfl) Z.all (by decide +kernel) (pa_cons (pe_lc (own := [("one", 1), ("other", 2)]) (g := gTup K 2 (gCons (gName 1) (gCons (gName 2) gNil))) (tt := tYes) (by rfl) sc.nd (pi_zip2 false false (by rfl) Z.zip (pa_cons (pv 0) (pa_cons (pe_slice (r := rSlA K) sl_tupA (pv 0) (po_some pe_int) po_none) pa_nil))) (blkOk_by (N := ["items", "one", "other"]) (sc := defScope s_is_ascending) (by decide +kernel)) (fun _ _ _ _ _ => (pg_tup rfl (pgs_cons (pg_name (i := 1) sc.nd rfl (Or.inl rfl)) (pgs_cons (pg_name (i := 2) sc.nd rfl (Or.inl rfl)) pgs_nil)))) (fun _ _ _ _ _ => pts_nil) (fun _ _ _ _ _ => (pe_cmpR (r := rLeT K) (op_leT hr.units0) (pv 1) (pv 2) (nomark _)))) pa_nil)))), ?_⟩
    cases hv with
    | @cons v0 vs d0 ds hv0 hn' =>
      cases hn'
      refine s_ret (G := G) (d := .bool (isAsc M)) (d_cb (a_cons ?_ a_nil) cad_all) wf fun v G3 H3 s3 hv => k v G3 H3 s3 hv
      have e : PyData.list (((M.zip (M.drop 1)).map fun q => leR q.1 q.2).map PyData.bool) = .list (((M.map dI).zip ((M.map dI).drop 1)).map fun q : D × D => .bool (leR (rowD q.1) (rowD q.2))) := by
        rw [← List.map_drop, List.map_map, List.zip_map, List.map_map]
        congr 1
        refine List.map_congr_left fun q _ => ?_
        show _ = PyData.bool (leR (rowD (dI q.1)) (rowD (dI q.2)))
        rw [rowD_dI, rowD_dI]; rfl
      rw [e]
      refine d_lcZ2m (k1 := false) (k2 := false) (as := M.map dI) (bs := (M.map dI).drop 1) _ (a_cons (d_var rfl hv0) (a_cons ?sl a_nil)) (by rw [List.length_map]; omega) (fun _ _ => rfl) ?_
      case sl =>
        have := d_slT (K := K) (d_var (i := 0) (σ := [some v0, none, none]) rfl hv0) (o_some (d_c (.int 1))) o_none
        rw [cut_1] at this
        exact this
      rintro x y da db G1 e1 hm hx hy
      obtain ⟨h1, h2⟩ := List.of_mem_zip hm
      obtain ⟨p, _, rfl⟩ := List.mem_map.mp h1
      obtain ⟨q, _, rfl⟩ := List.mem_map.mp (List.mem_of_mem_drop h2)
      show EvD _ _ G1 (.bool (leR (rowD (dI p)) (rowD (dI q))))
      rw [rowD_dI, rowD_dI]
      exact d_op (d_var rfl hx) (d_var rfl hy) opd_leT
theorem ok_is_row_of_moves {f : Addr} {fd : FuncData} (C_is_moves : Cal P w K mg base CX0 5 "is_moves" ["dials", "thing"] (SpR R_is_moves)) (C_is_ascending : Cal P w K mg base CX0 1 "is_ascending" ["items"] (SpR R_is_ascending)) (F : Fun K "is_row_of_moves" "is_row_of_moves" s_is_row_of_moves f fd) : FnOk P w K mg base CX0 6 f fd ["dials", "thing"] (SpR R_is_row) := by
  have sc : FnScope ["dials", "thing"] ["dials", "thing"] (defScope s_is_row_of_moves) := ⟨rfl, rfl, rfl, by decide +kernel, rfl, by decide +kernel, by decide +kernel⟩
  refine F.ok sc (fun vs H Q E h => ?_) (fun cdv A outer s H vs Q E hr h => ?_)
  · obtain ⟨G, ds, z, _, hv, ⟨n, d, rfl, _⟩, _⟩ := h
    exact hv.len
  · obtain ⟨G, ds, z, wf, hv, ⟨n, d, rfl, hn, hf, rfl⟩, k⟩ := h
    refine ⟨_, (pss_one (ps_ret (pe_and (pe_cal C_is_moves (hr.mono (by decide)) pass0 (pa_cons (pv 0) (pa_cons (pv 1) pa_nil))) (pe_one (pe_cal C_is_ascending (hr.mono (by decide)) pass0 (pa_cons (pv 1) pa_nil)))))), ?_⟩
    have okd := okB_ok (List.all_eq_true.mp few_ok n hn)
    have pl24 : (placesOf n).length ≤ 24 := by
      have h1 := okd.pl n.length
      rw [List.take_length] at h1
      exact h1
    cases hv with
    | @cons v0 vs d0 ds hv0 hn' =>
      cases hn' with
      | @cons v1 vs d1 ds hv1 hn' =>
        cases hn'
        have key : EvD (tAndV (tCall (SpR R_is_moves) [] E0 (tCons (tVar 0) (tCons (tVar 1) tNil))) (tCall (SpR R_is_ascending) [] E0 (tCons (tVar 1) tNil))) [some v0, some v1] G (.bool (isRow n d)) := by
          cases hb : isMoves n d with
          | false =>
            rw [row_no hb]
            exact d_and (a := false) (b := false) (d_cal (a_cons (d_var rfl hv0) (a_cons (d_var rfl hv1) a_nil)) ⟨n, d, rfl, hn, hf, by rw [hb]⟩) fun z => nomatch z
          | true =>
            obtain ⟨M, rfl, o⟩ := moves_inv hn hb
            have oL := o.len
            rw [row_T hn o]
            exact d_and (a := true) (d_cal (a_cons (d_var rfl hv0) (a_cons (d_var rfl hv1) a_nil)) ⟨n, dT M, rfl, hn, hf, by rw [hb]⟩) fun _ => d_cal (a_cons (d_var rfl hv1) a_nil) ⟨M, rfl, by omega, rfl⟩
        exact s_ret (G := G) key wf fun v G3 H3 s3 hv => k v G3 H3 s3 hv
theorem ok_check_row {f C : Addr} {fd : FuncData} (B : ExcC K mg "BadRow" C) (C_is_row_of_moves : Cal P w K mg base CX0 6 "is_row_of_moves" ["dials", "thing"] (SpR R_is_row)) (F : Fun K "check_row" "check_row" s_check_row f fd) : FnOk P w K mg base (L2.CX P w) 7 f fd ["dials", "row"] (SpE (R_check_row C)) := by
  have sc : FnScope ["dials", "row"] ["dials", "row"] (defScope s_check_row) := ⟨rfl, rfl, rfl, by decide +kernel, rfl, by decide +kernel, by decide +kernel⟩
  refine F.okX sc (fun vs H Q E h => ?_) (fun cdv A outer s H vs Q E hr h => ?_)
  · obtain ⟨G, ds, z, _, hv, ⟨n, d, rfl, _⟩, _⟩ := h
    exact hv.len
  · obtain ⟨G, ds, r, wf, hv, ⟨n, d, rfl, hn, hf, rfl⟩, k, ke⟩ := h
    refine ⟨_, (pss_one (ps_if (pt_not (pt_val (pe_cal C_is_row_of_moves (hr.mono (by decide)) pass0 (pa_cons (pv 0) (pa_cons (pv 1) pa_nil))))) (pss_one (ps_raise rfl (takes_of rfl rfl rfl rfl) (pmk_own PySem.F.excBase_ValueError B.ex B.g B.k (raises_own B.b B.t) rfl))) pss_nil)), ?_⟩
    cases hv with
    | @cons v0 vs d0 ds hv0 hn' =>
      cases hn' with
      | @cons v1 vs d1 ds hv1 hn' =>
        cases hn'
        refine s_if (G := G) (b := !isRow n d) (b_not (b_B (d_cal (a_cons (d_var rfl hv0) (a_cons (d_var rfl hv1) a_nil)) ⟨n, d, rfl, hn, hf, rfl⟩))) wf (fun hb G1 H1 s1 => ?_) fun hb G1 H1 s1 => ?_
        · exact ke C (by rw [if_neg (by simpa using hb)]) G1 H1 s1
        · exact k .none (by rw [if_pos (by simpa using hb)]) .non G1 H1 s1 .non
theorem d_tupSort {te : TE} {σ : L2.St} {G : Hp} {n : List Int} {M : Rows} (hn : n ∈ fewD) (o : MovesOk n M) (h : EvD te σ G (dT M)) : EvD (tCB (rTupOf K) (tCons (tCB (rSortD K) (tCons te tNil)) tNil)) σ G (dT (sortR M)) := by
  have l1 := (okB_ok (List.all_eq_true.mp few_ok n hn)).lo
  have e : dT (sortR M) = .tuple (sortD (M.map dI)) := by rw [sort_rows]; rfl
  rw [e]
  exact d_cb (a_cons (d_cb (a_cons h a_nil) (cad_sortT (sortOk_rows fun p hp => by have := (o.inp p hp).len; omega))) a_nil) cad_tuple
end
end Mv


namespace Mv
open PySem L2 Evl
/-! ### dealings: what they are made of -/
theorem add_take : ∀ {n a b : List Int}, InP a n → InP b n → addP n a (takeP n b a) = b
  | _, _, _, .nil, .nil => rfl
  | s :: n, x :: a, y :: b, .cons _ _ ha, .cons h1 h2 hb => by
    show ((x + (y - x) % s) % s) :: addP n a (takeP n b a) = _
    rw [add_take ha hb, Int.add_emod_emod]
    have e : x + (y - x) = y := by omega
    rw [e, Int.emod_eq_of_lt h1 h2]
theorem add_take_add : ∀ {n a b e : List Int}, InP a n → InP b n → addP n a (addP n (takeP n b a) e) = addP n b e
  | _, _, _, _, .nil, .nil => rfl
  | s :: n, x :: a, y :: b, [], _, _ => rfl
  | s :: n, x :: a, y :: b, z :: e, .cons _ _ ha, .cons h1 h2 hb => by
    show ((x + ((y - x) % s + z) % s) % s) :: addP n a (addP n (takeP n b a) e) = ((y + z) % s) :: addP n b e
    have q1 : x + ((y - x) % s + z) = (y - x) % s + (x + z) := by omega
    rw [add_take_add ha hb, Int.add_emod_emod, q1, Int.emod_add_emod]
    have q : y - x + (x + z) = y + z := by omega
    rw [q]
theorem add_swap : ∀ (n z x y : List Int), addP n (addP n z x) y = addP n (addP n z y) x
  | [], _, _, _ => rfl
  | s :: n, [], [], [] => rfl
  | s :: n, [], [], _ :: _ => rfl
  | s :: n, [], _ :: _, [] => rfl
  | s :: n, [], _ :: _, _ :: _ => rfl
  | s :: n, _ :: _, [], [] => rfl
  | s :: n, _ :: _, [], _ :: _ => rfl
  | s :: n, _ :: _, _ :: _, [] => rfl
  | s :: n, u :: z, a :: x, b :: y => by
    show (((u + a) % s + b) % s) :: addP n (addP n z x) y = (((u + b) % s + a) % s) :: addP n (addP n z y) x
    rw [add_swap n z x y, Int.emod_add_emod, Int.emod_add_emod]
    have q : u + a + b = u + b + a := by omega
    rw [q]
theorem addUp_perm {n : List Int} {L M : Rows} (h : L.Perm M) : addUp n L = addUp n M := by
  unfold addUp
  exact h.foldl_eq' (fun x _ y _ z => add_swap n z x y) _
theorem take_both : ∀ (n u v b p : List Int), addP n (takeP n u v) (takeP n b p) = takeP n (addP n u b) (addP n v p)
  | [], _, _, _, _ => rfl
  | s :: n, [], _, _, _ => rfl
  | s :: n, _ :: _, [], b, p => by cases b <;> cases p <;> rfl
  | s :: n, _ :: _, _ :: _, [], _ => rfl
  | s :: n, _ :: _, _ :: _, _ :: _, [] => rfl
  | s :: n, u :: us, v :: vs, b :: bs, p :: ps => by
    show (((u - v) % s + (b - p) % s) % s) :: addP n (takeP n us vs) (takeP n bs ps) = (((u + b) % s - (v + p) % s) % s) :: takeP n (addP n us bs) (addP n vs ps)
    rw [take_both n us vs bs ps, Int.emod_add_emod, Int.add_emod_emod, Int.emod_sub_emod, Int.sub_emod_emod]
    have q : u - v + (b - p) = u + b - (v + p) := by omega
    rw [q]
theorem take_self : ∀ {n z : List Int}, z.length = n.length → takeP n z z = zeros n
  | [], [], _ => rfl
  | s :: n, x :: z, h => by
    show ((x - x) % s) :: takeP n z z = 0 :: zeros n
    rw [take_self (n := n) (z := z) (by simpa using h), Int.sub_self, Int.zero_emod]
  | [], _ :: _, h => by simp at h
  | _ :: _, [], h => by simp at h
/-- the moves that lead from P to B -/
def ledBy (n : List Int) (P B : Rows) : Rows := (P.zip B).map fun q => takeP n q.2 q.1
theorem sum_led (n : List Int) : ∀ (P B : Rows) (u v : List Int), P.length = B.length → (ledBy n P B).foldl (fun a b => addP n a b) (takeP n u v) = takeP n (B.foldl (fun a b => addP n a b) u) (P.foldl (fun a b => addP n a b) v)
  | [], [], _, _, _ => rfl
  | p :: P, b :: B, u, v, h => by
    show (ledBy n P B).foldl _ (addP n (takeP n u v) (takeP n b p)) = _
    rw [take_both]
    exact sum_led n P B _ _ (by simpa using h)
  | [], _ :: _, _, _, h => by simp at h
  | _ :: _, [], _, _, h => by simp at h
theorem reach_led (n : List Int) : ∀ (P B : Rows), P.length = B.length → (∀ p ∈ P, InP p n) → (∀ p ∈ B, InP p n) → ((P.zip (ledBy n P B)).map fun q => addP n q.1 q.2) = B
  | [], [], _, _, _ => rfl
  | p :: P, b :: B, h, hP, hB => by
    show addP n p (takeP n b p) :: ((P.zip (ledBy n P B)).map fun q => addP n q.1 q.2) = b :: B
    rw [add_take (hP p (.head _)) (hB b (.head _)), reach_led n P B (by simpa using h) (fun q hq => hP q (.tail _ hq)) fun q hq => hB q (.tail _ hq)]
  | [], _ :: _, h, _, _ => by simp at h
  | _ :: _, [], h, _, _ => by simp at h
/-- a dealing: it leads from all places to all places, in some order -/
def DealOk (n : List Int) (M : Rows) : Prop := ∃ B : Rows, B.Perm (placesOf n) ∧ M = ledBy n (placesOf n) B
section
variable {n : List Int}
theorem perm_in (hn : n ∈ fewD) {B : Rows} (h : B.Perm (placesOf n)) : ∀ p ∈ B, InP p n := fun p hp => few_inP hn (h.mem_iff.mp hp)
theorem DealOk.ok (hn : n ∈ fewD) {M : Rows} (d : DealOk n M) : MovesOk n M := by
  obtain ⟨B, hB, rfl⟩ := d
  have okd := okB_ok (List.all_eq_true.mp few_ok n hn)
  refine ⟨fun p hp => ?_, by unfold ledBy; rw [List.length_map, List.length_zip, hB.length_eq, Nat.min_self]⟩
  obtain ⟨q, hq, rfl⟩ := (List.mem_map.mp hp)
  obtain ⟨h1, h2⟩ := List.of_mem_zip (a := q.1) (b := q.2) hq
  exact takeP_in (perm_in hn hB _ h2).len (few_inP hn h1).len fun s hs => by have := okd.sz s hs; omega
theorem DealOk.reach (hn : n ∈ fewD) {B : Rows} (hB : B.Perm (placesOf n)) : reachF n (ledBy n (placesOf n) B) = B :=
  reach_led n _ _ hB.length_eq.symm (fun _ h => few_inP hn h) (perm_in hn hB)
theorem DealOk.dealt (hn : n ∈ fewD) {M : Rows} (d : DealOk n M) : isDealt n (dT M) = true := by
  have o := d.ok hn
  obtain ⟨B, hB, rfl⟩ := d
  rw [dealt_T hn o, DealOk.reach hn hB]
  exact decide_eq_true (hB.nodup_iff.mpr (few_nodup hn))
theorem DealOk.sum (hn : n ∈ fewD) {M : Rows} (d : DealOk n M) : addUp n (sortR M) = zeros n := by
  have pm : (sortR M).Perm M := isort_perm M
  rw [addUp_perm pm]
  obtain ⟨B, hB, rfl⟩ := d
  have h := sum_led n (placesOf n) B (zeros n) (zeros n) hB.length_eq.symm
  rw [take_self (zeros_len n)] at h
  have e : addUp n B = addUp n (placesOf n) := addUp_perm hB
  unfold addUp at e ⊢
  rw [h, e]
  exact take_self (addUp_len (n := n) (l := placesOf n) fun p hp => (few_inP hn hp).len)
theorem few_two : (fewD.all fun n => decide (2 ≤ (placesOf n).length)) = true := by decide +kernel
theorem few_step : (fewD.all fun n => (placesOf n).all fun p => decide (addP n p ((placesOf n).getD 1 []) ≠ p)) = true := by decide +kernel
theorem set_dup {B : Rows} {i : Nat} (hi : i < B.length) {x : List Int} (hx : x ∈ B) (hne : x ≠ B[i]) : ¬ (B.set i x).Nodup := fun hd => by
  obtain ⟨j, hj, e⟩ := List.getElem_of_mem hx
  have hij : i ≠ j := fun z => by subst z; exact hne e.symm
  have h := List.pairwise_iff_getElem.mp hd
  have hi2 : i < (B.set i x).length := by simpa using hi
  have hj2 : j < (B.set i x).length := by simpa using hj
  have a1 : (B.set i x)[i] = x := List.getElem_set_self hi2
  have a2 : (B.set i x)[j] = x := by rw [List.getElem_set_ne hij]; exact e
  rcases Nat.lt_or_gt_of_ne hij with q | q
  · exact h i j hi2 hj2 q (a1.trans a2.symm)
  · exact h j i hj2 hi2 q (a2.trans a1.symm)
theorem reach_set {M : Rows} {i : Nat} {y : List Int} (hi : i < (placesOf n).length) : reachF n (M.set i y) = (reachF n M).set i (addP n ((placesOf n)[i]) y) := by
  apply List.ext_getElem
  · simp [reachF]
  · intro k h1 h2
    simp only [reachF, List.getElem_map, List.getElem_zip, List.getElem_set]
    by_cases e : i = k
    · subst e; simp
    · simp [e]
theorem DealOk.bent (hn : n ∈ fewD) {M : Rows} (d : DealOk n M) {i : Nat} (hi : i < M.length) : isDealt n (dT (M.set i (addP n M[i] ((placesOf n).getD 1 [])))) = false := by
  have o := d.ok hn
  have okd := okB_ok (List.all_eq_true.mp few_ok n hn)
  have pos : ∀ s ∈ n, 0 < s := fun s hs => by have := okd.sz s hs; omega
  obtain ⟨x, hx⟩ : ∃ x, x = addP n M[i] ((placesOf n).getD 1 []) := ⟨_, rfl⟩
  have h1 : (placesOf n).getD 1 [] ∈ placesOf n := by
    have h := List.all_eq_true.mp few_two n hn
    have two : 2 ≤ (placesOf n).length := by simpa using h
    rw [List.getD_eq_getElem?_getD, List.getElem?_eq_getElem (by omega)]
    exact List.getElem_mem _
  have inx : InP x n := by rw [hx]; exact addP_in (o.inp _ (List.getElem_mem hi)).len (few_inP hn h1).len pos
  have o2 : MovesOk n (M.set i x) := ⟨fun p hp => by
    rcases List.mem_or_eq_of_mem_set hp with h | h
    · exact o.inp p h
    · rw [h]; exact inx, by rw [List.length_set]; exact o.len⟩
  rw [← hx, dealt_T hn o2]
  refine decide_eq_false ?_
  have pl := o.len
  rw [reach_set (by omega)]
  obtain ⟨B, hB, rfl⟩ := d
  rw [DealOk.reach hn hB]
  have hl := hB.length_eq
  have hiB : i < B.length := by omega
  have eM : (ledBy n (placesOf n) B)[i] = takeP n B[i] (placesOf n)[i] := by simp [ledBy]
  have ex : addP n (placesOf n)[i] x = addP n B[i] ((placesOf n).getD 1 []) := by
    rw [hx, eM]
    exact add_take_add (few_inP hn (List.getElem_mem _)) (perm_in hn hB _ (List.getElem_mem _))
  rw [ex]
  have hBi : B[i] ∈ placesOf n := hB.mem_iff.mp (List.getElem_mem hiB)
  refine set_dup hiB (hB.mem_iff.mpr ?_) ?_
  · exact (addP_in (few_inP hn hBi).len (few_inP hn h1).len pos).mem
  · have h := List.all_eq_true.mp (List.all_eq_true.mp few_step n hn) _ hBi
    simpa using h
theorem moves_len (hn : n ∈ fewD) {xs : List D} (h : xs.length ≠ (placesOf n).length) : isMoves n (.tuple xs) = false := by
  unfold isMoves
  have : decide ((xs.length : Int) = prod n) = false := decide_eq_false (by rw [prod_len hn]; omega)
  show (decide ((xs.length : Int) = prod n) && _) = false
  rw [this, Bool.false_and]
theorem moves_at (hn : n ∈ fewD) {xs : List D} {d : D} (hd : d ∈ xs) (h : isPlace n d = false) : isMoves n (.tuple xs) = false := by
  cases e : isMoves n (.tuple xs) with
  | false => rfl
  | true =>
    obtain ⟨M, eM, o⟩ := moves_inv hn e
    have : xs = M.map dI := PyData.tuple.inj eM
    rw [this] at hd
    obtain ⟨p, hp, rfl⟩ := List.mem_map.mp hd
    rw [inP_place (o.inp p hp)] at h
    cases h
theorem sort_ok {M : Rows} (o : MovesOk n M) : MovesOk n (sortR M) := ⟨fun p hp => o.inp p (sort_mem.mp hp), (show (sortR M).Perm M from isort_perm M).length_eq.trans o.len⟩
theorem row_sort (hn : n ∈ fewD) {M : Rows} (o : MovesOk n M) : isRow n (dT (sortR M)) = true := by rw [row_T hn (sort_ok o), asc_sort]
theorem row_back (hn : n ∈ fewD) {R : Rows} (o : MovesOk n R) (a : isAsc R = true) (h : R.reverse ≠ R) : isRow n (dT R.reverse) = false := by
  have o2 : MovesOk n R.reverse := ⟨fun p hp => o.inp p (List.mem_reverse.mp hp), by rw [List.length_reverse]; exact o.len⟩
  rw [row_T hn o2]
  cases e : isAsc R.reverse with
  | false => rfl
  | true => exact (h (by rw [← asc_is e, sort_perm (List.reverse_perm R), asc_is a])).elim
end
end Mv


namespace Mv
open PySem L2 Evl

/-! ### adding up places -/
theorem addP_comm : ∀ (n a b : List Int), addP n a b = addP n b a
  | [], _, _ => rfl
  | s :: n, [], [] => rfl
  | s :: n, [], _ :: _ => rfl
  | s :: n, _ :: _, [] => rfl
  | s :: n, x :: a, y :: b => by
    show (x + y) % s :: addP n a b = (y + x) % s :: addP n b a
    rw [addP_comm n a b, Int.add_comm]
theorem addP_cancel : ∀ {n a x y : List Int}, InP x n → InP y n → a.length = n.length → addP n a x = addP n a y → x = y
  | [], _, _, _, .nil, .nil, _, _ => rfl
  | s :: n, u :: a, x :: xs, y :: ys, .cons x0 x1 hx, .cons y0 y1 hy, hl, e => by
    have e' : (u + x) % s :: addP n a xs = (u + y) % s :: addP n a ys := e
    injection e' with e1 e2
    have h1 := addP_cancel hx hy (by simpa using hl) e2
    have h2 : (x - y) % s = 0 := by
      have : ((u + x) - (u + y)) % s = 0 := by rw [Int.sub_emod, e1, Int.sub_self, Int.zero_emod]
      have q : (u + x) - (u + y) = x - y := by omega
      rwa [q] at this
    have h3 : x = y := by
      obtain ⟨c, hc⟩ := Int.dvd_of_emod_eq_zero h2
      have : c = 0 := by
        rcases Int.lt_trichotomy c 0 with z | z | z
        · have := Int.mul_le_mul_of_nonneg_left (show c ≤ -1 by omega) (show 0 ≤ s by omega)
          omega
        · exact z
        · have := Int.mul_le_mul_of_nonneg_left (show 1 ≤ c by omega) (show 0 ≤ s by omega)
          omega
      rw [this, Int.mul_zero] at hc
      omega
    rw [h3, h1]

/-! ### begun dealings: persons and moves -/
abbrev Bg := List (List Int × List Int)
def kI (p : List Int) : KK := p.map Sum.inl
theorem kD_kI (p : List Int) : kD (kI p) = dI p := by
  unfold kD kI dI
  rw [List.map_map]
  rfl
theorem kI_inj {p q : List Int} (h : kI p = kI q) : p = q := by
  have := congrArg kD h
  rw [kD_kI, kD_kI] at this
  have t : PyData.tuple (p.map PyData.int) = .tuple (q.map .int) := this
  injection t with t
  have same : ∀ {a b : List Int}, a.map PyData.int = b.map PyData.int → a = b := fun {a} => by
    induction a with
    | nil => intro b z; cases b with
      | nil => rfl
      | cons y b => simp at z
    | cons x a ih => intro b z; cases b with
      | nil => simp at z
      | cons y b =>
        rw [List.map_cons, List.map_cons] at z
        injection z with z1 z2
        injection z1 with z1
        rw [z1, ih z2]
  exact same t
def enc (B : Bg) : List (KK × D) := B.map fun q => (kI q.1, dI q.2)
def endB (n : List Int) (q : List Int × List Int) : List Int := addP n q.1 q.2
def atEnd (n : List Int) (B : Bg) (e : List Int) : Option (List Int × List Int) := B.find? fun q => decide (endB n q = e)
/-- the passing of a move -/
def passGo (n : List Int) : Nat → Bg → Bg → List Int → List Int → List Int → Bg × Bg
  | 0, H, T, _, _, _ => (T, H)
  | k + 1, H, T, t, w, m => match atEnd n H (addP n t m) with
    | none => (T ++ [(t, m)], H ++ [(t, m)])
    | some q => passGo n k ((H ++ [(t, m)]).filter fun x => decide (x.1 ≠ q.1)) (T ++ [(t, m)]) w q.1 q.2

section
variable {n K : List Int} {S : Rows} {H : Bg} {t w m : List Int} {q : List Int × List Int}
structure BgOk (n : List Int) (H : Bg) : Prop where
  keys : (H.map (·.1)).Nodup
  inH : ∀ q ∈ H, InP q.1 n ∧ InP q.2 n
  ends : (H.map (endB n)).Nodup
structure Ps (n K : List Int) (S : Rows) (H : Bg) (t w m : List Int) : Prop where
  b : BgOk n H
  it : InP t n
  iw : InP w n
  im : InP m n
  ft : t ∉ H.map (·.1)
  fw : w ∉ H.map (·.1)
  seq : (S ++ [t, w]).Nodup
  inS : ∀ p ∈ S, InP p n
  chain : ∀ (i : Nat) (p mv : List Int), S[i]? = some p → (p, mv) ∈ H → ∃ r, (S ++ [t])[i + 1]? = some r ∧ addP n (addP n p mv) r = K
  key : addP n (addP n t m) w = K
theorem addP_inP {n a b : List Int} (h1 : InP a n) (h2 : InP b n) : InP (addP n a b) n := by
  have pos : ∀ {p n : List Int}, InP p n → ∀ s ∈ n, 0 < s := fun h => by
    induction h with
    | nil => intro s hs; cases hs
    | cons a b _ ih =>
      intro s hs
      rcases List.mem_cons.mp hs with e | e
      · rw [e]; omega
      · exact ih s e
  exact addP_in h1.len h2.len (pos h1)
theorem at_mem {B : Bg} {e : List Int} (h : atEnd n B e = some q) : q ∈ B ∧ endB n q = e :=
  ⟨List.mem_of_find?_eq_some h, by
    have z := List.find?_some (p := fun q => decide (endB n q = e)) h
    exact of_decide_eq_true z⟩
theorem at_none {B : Bg} {e : List Int} (h : atEnd n B e = none) : e ∉ B.map (endB n) := fun z => by
  obtain ⟨x, hx, hq⟩ := List.mem_map.mp z
  have := List.find?_eq_none.mp h x hx
  simp [hq] at this
theorem key_one {B : Bg} (hk : (B.map (·.1)).Nodup) {x y : List Int × List Int} (hx : x ∈ B) (hy : y ∈ B) (e : x.1 = y.1) : x = y := by
  induction B with
  | nil => cases hx
  | cons b B ih =>
    rw [List.map_cons, List.nodup_cons] at hk
    rcases List.mem_cons.mp hx with ex | ex <;> rcases List.mem_cons.mp hy with ey | ey
    · rw [ex, ey]
    · exact (hk.1 (List.mem_map.mpr ⟨y, ey, by rw [← e, ex]⟩)).elim
    · exact (hk.1 (List.mem_map.mpr ⟨x, ex, by rw [e, ey]⟩)).elim
    · exact ih hk.2 ex ey
theorem end_one {B : Bg} (hk : (B.map (endB n)).Nodup) {x y : List Int × List Int} (hx : x ∈ B) (hy : y ∈ B) (e : endB n x = endB n y) : x = y := by
  induction B with
  | nil => cases hx
  | cons b B ih =>
    rw [List.map_cons, List.nodup_cons] at hk
    rcases List.mem_cons.mp hx with ex | ex <;> rcases List.mem_cons.mp hy with ey | ey
    · rw [ex, ey]
    · exact (hk.1 (List.mem_map.mpr ⟨y, ey, by rw [← e, ex]⟩)).elim
    · exact (hk.1 (List.mem_map.mpr ⟨x, ex, by rw [e, ey]⟩)).elim
    · exact ih hk.2 ex ey
theorem mem_key {B : Bg} {x : List Int × List Int} (h : x ∈ B) : x.1 ∈ B.map (·.1) := List.mem_map.mpr ⟨x, h, rfl⟩
theorem drop_snoc {l : List Int} (h : t ≠ l) : ((H ++ [(t, m)]).filter fun x => decide (x.1 ≠ l)) = (H.filter fun x => decide (x.1 ≠ l)) ++ [(t, m)] := by
  rw [List.filter_append, List.filter_cons_of_pos (by simpa using h)]
  rfl
theorem BgOk.filter (b : BgOk n H) (p : List Int × List Int → Bool) : BgOk n (H.filter p) :=
  ⟨b.keys.sublist ((List.filter_sublist (p := p)).map _), fun q hq => b.inH q ((List.mem_filter.mp hq).1), b.ends.sublist ((List.filter_sublist (p := p)).map _)⟩
theorem BgOk.snoc (b : BgOk n H) (hp : InP t n) (hm : InP m n) (ft : t ∉ H.map (·.1)) (fe : addP n t m ∉ H.map (endB n)) : BgOk n (H ++ [(t, m)]) := by
  refine ⟨?_, fun q hq => ?_, ?_⟩
  · (rw [List.map_append, List.nodup_append])
    refine ⟨b.keys, by simp, fun x hx y hy e => ?_⟩
    simp at hy
    rw [e, hy] at hx
    exact ft hx
  · rcases List.mem_append.mp hq with h | h
    · exact b.inH q h
    · simp at h; rw [h]; exact ⟨hp, hm⟩
  · (rw [List.map_append, List.nodup_append])
    refine ⟨b.ends, by simp, fun x hx y hy e => ?_⟩
    simp at hy
    rw [e, hy] at hx
    exact fe hx
/-- who gives up is another one each time -/
theorem Ps.loser (p : Ps n K S H t w m) (h : atEnd n H (addP n t m) = some q) : q.1 ≠ t ∧ q.1 ≠ w ∧ q.1 ∉ S := by
  obtain ⟨hm, he⟩ := at_mem h
  refine ⟨fun z => p.ft (z ▸ mem_key hm), fun z => p.fw (z ▸ mem_key hm), fun z => ?_⟩
  obtain ⟨i, hi⟩ := List.mem_iff_getElem?.mp z
  obtain ⟨r, hr, hk⟩ := p.chain i q.1 q.2 hi hm
  have lt : i + 1 < (S ++ [t]).length := (List.getElem?_eq_some_iff.mp hr).1
  have hr2 : r ∈ S ++ [t] := List.mem_of_getElem? hr
  have ri : InP r n := by
    rcases List.mem_append.mp hr2 with h | h
    · exact p.inS r h
    · simp at h; rw [h]; exact p.it
  have e : r = w := by
    refine addP_cancel ri p.iw (addP_inP p.it p.im).len ?_
    have he' : addP n q.1 q.2 = addP n t m := he
    rw [he'] at hk
    rw [hk, p.key]
  have sq := p.seq
  have e2 : S ++ [t, w] = (S ++ [t]) ++ [w] := by simp
  rw [e2, List.nodup_append] at sq
  exact sq.2.2 r hr2 w (by simp) e
theorem Ps.next (p : Ps n K S H t w m) (h : atEnd n H (addP n t m) = some q) : Ps n K (S ++ [t]) ((H ++ [(t, m)]).filter fun x => decide (x.1 ≠ q.1)) w q.1 q.2 := by
  obtain ⟨hm, he⟩ := at_mem h
  obtain ⟨n1, n2, n3⟩ := p.loser h
  have he' : addP n q.1 q.2 = addP n t m := he
  rw [drop_snoc (Ne.symm n1)]
  have fe : addP n t m ∉ (H.filter fun x => decide (x.1 ≠ q.1)).map (endB n) := fun z => by
    obtain ⟨x, hx, hq⟩ := List.mem_map.mp z
    have h1 := List.mem_filter.mp hx
    have := end_one p.b.ends h1.1 hm (hq.trans he.symm)
    have h2 := of_decide_eq_true h1.2
    exact h2 (by rw [this])
  have ft : t ∉ (H.filter fun x => decide (x.1 ≠ q.1)).map (·.1) := fun z => by
    obtain ⟨x, hx, hq⟩ := List.mem_map.mp z
    exact p.ft (hq ▸ mem_key ((List.mem_filter.mp hx).1))
  have i2 := p.b.inH q hm
  have sq := p.seq
  have e2 : S ++ [t, w] = (S ++ [t]) ++ [w] := by simp
  rw [e2, List.nodup_append] at sq
  refine ⟨(p.b.filter _).snoc p.it p.im ft fe, p.iw, i2.1, i2.2, fun z => ?_, fun z => ?_, ?_, fun x hx => ?_, fun i x mv hi hx => ?_, ?_⟩
  · rw [List.map_append, List.mem_append] at z
    rcases z with z | z
    · obtain ⟨x, hx, hq⟩ := List.mem_map.mp z
      exact p.fw (hq ▸ mem_key ((List.mem_filter.mp hx).1))
    · simp at z
      exact sq.2.2 t (by simp) w (by simp) z.symm
  · rw [List.map_append, List.mem_append] at z
    rcases z with z | z
    · obtain ⟨x, hx, hq⟩ := List.mem_map.mp z
      exact of_decide_eq_true (List.mem_filter.mp hx).2 hq
    · simp at z; exact n1 z
  · have e3 : S ++ [t] ++ [w, q.1] = ((S ++ [t]) ++ [w]) ++ [q.1] := by simp
    rw [e3, List.nodup_append]
    refine ⟨List.nodup_append.mpr sq, by simp, fun x hx y hy e => ?_⟩
    simp at hy
    rw [e, hy] at hx
    simp at hx
    rcases hx with z | z | z
    · exact n3 z
    · exact n1 z
    · exact n2 z
  · rcases List.mem_append.mp hx with h | h
    · exact p.inS x h
    · simp at h; rw [h]; exact p.it
  · by_cases hl : i < S.length
    · rw [List.getElem?_append_left hl] at hi
      have hx2 : (x, mv) ∈ H := by
        rcases List.mem_append.mp hx with h | h
        · exact (List.mem_filter.mp h).1
        · simp at h
          have sq1 := sq.1
          rw [List.nodup_append] at sq1
          exact (sq1.2.2 x (List.mem_of_getElem? hi) t (by simp) h.1).elim
      obtain ⟨r, hr, hk⟩ := p.chain i x mv hi hx2
      exact ⟨r, by rw [List.getElem?_append_left (List.getElem?_eq_some_iff.mp hr).1]; exact hr, hk⟩
    · have hlen : i < (S ++ [t]).length := (List.getElem?_eq_some_iff.mp hi).1
      rw [List.length_append] at hlen
      have ei : i = S.length := by simp at hlen; omega
      subst ei
      rw [List.getElem?_append_right (Nat.le_refl _)] at hi
      simp at hi
      subst hi
      have ex : mv = m := by
        rcases List.mem_append.mp hx with h | h
        · exact (ft (List.mem_map.mpr ⟨_, h, rfl⟩)).elim
        · simp at h; exact h
      refine ⟨w, ?_, by rw [ex]; exact p.key⟩
      rw [List.getElem?_append_right (by simp)]
      simp
  · rw [add_swap, addP_comm n w q.1, add_swap, he']
    exact p.key
theorem Ps.few (hn : n ∈ fewD) (p : Ps n K S H t w m) : S.length + 2 ≤ (placesOf n).length := by
  have : (S ++ [t, w]).length ≤ (placesOf n).length := nodup_len p.seq fun x hx => by
    rcases List.mem_append.mp hx with h | h
    · exact (p.inS x h).mem
    · simp at h
      rcases h with h | h
      · rw [h]; exact p.it.mem
      · rw [h]; exact p.iw.mem
  simpa using this
/-- what a passing comes to -/
theorem pass_ok (hn : n ∈ fewD) : ∀ (k : Nat) {S : Rows} {H T : Bg} {t w m : List Int}, Ps n K S H t w m → (placesOf n).length ≤ k + S.length + 1 →
    BgOk n (passGo n k H T t w m).2 ∧ (passGo n k H T t w m).2.length = H.length + 1 ∧ ((passGo n k H T t w m).2.map (·.2)).Perm (H.map (·.2) ++ [m])
  | 0, S, H, T, t, w, m, p, hk => by
    have := p.few hn
    omega
  | k + 1, S, H, T, t, w, m, p, hk => by
    unfold passGo
    cases h : atEnd n H (addP n t m) with
    | none =>
      refine ⟨p.b.snoc p.it p.im p.ft (at_none h), by simp, ?_⟩
      show ((H ++ [(t, m)]).map (·.2)).Perm _
      rw [List.map_append]
      exact .refl _
    | some q =>
      obtain ⟨hm, he⟩ := at_mem h
      obtain ⟨n1, n2, n3⟩ := p.loser h
      show BgOk n (passGo n k _ _ w q.1 q.2).2 ∧ _
      obtain ⟨h1, h2, h3⟩ := pass_ok hn k (T := T ++ [(t, m)]) (p.next h) (by rw [List.length_append]; simp; omega)
      -- H without its pair
      have split : H.Perm (q :: H.filter fun x => decide (x.1 ≠ q.1)) := by
        have : ∀ {B : Bg}, (B.map (·.1)).Nodup → q ∈ B → B.Perm (q :: B.filter fun x => decide (x.1 ≠ q.1)) := fun {B} => by
          induction B with
          | nil => intro _ h; cases h
          | cons b B ih =>
            intro hk hq
            rw [List.map_cons, List.nodup_cons] at hk
            rcases (List.mem_cons.mp hq) with e | e
            · rw [e, List.filter_cons_of_neg (by simp)]
              have : (B.filter fun x => decide (x.1 ≠ b.1)) = B := List.filter_eq_self.mpr fun x hx => decide_eq_true fun z => hk.1 (z ▸ mem_key hx)
              rw [this]
            · have ne : b.1 ≠ q.1 := fun z => hk.1 (z ▸ mem_key e)
              rw [List.filter_cons_of_pos (by simpa using ne)]
              exact ((ih hk.2 e).cons b).trans (.swap _ _ _)
        exact this p.b.keys hm
      have len := split.length_eq
      refine ⟨h1, ?_, ?_⟩
      · refine h2.trans ?_
        rw [drop_snoc (Ne.symm n1), List.length_append]
        simp at len ⊢; omega
      refine List.Perm.trans h3 ?_
      rw [drop_snoc (Ne.symm n1), List.map_append]
      have s2 := (split.map (·.2)).append_right [m]
      refine List.Perm.trans ?_ s2.symm
      show ((List.map (·.2) (H.filter _) ++ [m]) ++ [q.2]).Perm (q.2 :: (List.map (·.2) (H.filter _) ++ [m]))
      exact List.perm_append_comm
end
end Mv


namespace Mv
open PySem L2 Evl

/-! ### begun dealings as data -/
def pOf (k : KK) : List Int := k.map fun x => match x with | .inl i => i | .inr _ => 0
theorem pOf_kI (p : List Int) : pOf (kI p) = p := by
  unfold pOf kI
  rw [List.map_map]
  exact List.map_id p
theorem lk_put (es : List (KK × D)) (k j : KK) (d : D) : lkD (putD es k d) j = if j = k then some d else lkD es j := by
  have key : ∀ es : List (KK × D), lkD (es.map fun e => if e.1 = k then (e.1, d) else e) j = if j = k then (lkD es j).map (fun _ => d) else lkD es j := by
    intro es
    induction es with
    | nil => show none = _; split <;> rfl
    | cons e es ih =>
      unfold lkD at ih ⊢
      rw [List.map_cons, List.find?_cons, List.find?_cons]
      by_cases h : e.1 = k
      · rw [if_pos h]
        by_cases h2 : e.1 = j
        · rw [decide_eq_true h2, if_pos (h2.symm.trans h)]; rfl
        · rw [decide_eq_false h2]; exact ih
      · rw [if_neg h]
        by_cases h2 : e.1 = j
        · rw [decide_eq_true h2, if_neg (fun z => h (h2.trans z))]
        · rw [decide_eq_false h2]; exact ih
  have app : ∀ es : List (KK × D), lkD (es ++ [(k, d)]) j = (lkD es j).or (if k = j then some d else none) := by
    intro es
    induction es with
    | nil =>
      unfold lkD
      rw [List.nil_append, List.find?_cons]
      by_cases h : k = j
      · rw [decide_eq_true h, if_pos h]; rfl
      · rw [decide_eq_false h, if_neg h]; rfl
    | cons e es ih =>
      unfold lkD at ih ⊢
      rw [List.cons_append, List.find?_cons, List.find?_cons]
      by_cases h2 : e.1 = j
      · rw [decide_eq_true h2]; rfl
      · rw [decide_eq_false h2]; exact ih
  have any_lk : ∀ es : List (KK × D), (es.any fun e => decide (e.1 = k)) = (lkD es k).isSome := by
    intro es
    induction es with
    | nil => rfl
    | cons e es ih =>
      unfold lkD at ih ⊢
      rw [List.any_cons, List.find?_cons]
      by_cases h2 : e.1 = k
      · rw [decide_eq_true h2]; rfl
      · rw [decide_eq_false h2, Bool.false_or]; exact ih
  unfold putD
  rw [any_lk]
  cases h : (lkD es k).isSome with
  | true =>
    rw [if_pos rfl, key]
    by_cases hj : j = k
    · rw [if_pos hj, if_pos hj, hj]
      cases q : lkD es k with
      | none => rw [q] at h; cases h
      | some x => rfl
    · rw [if_neg hj, if_neg hj]
  | false =>
    rw [if_neg (by decide), app]
    by_cases hj : j = k
    · rw [if_pos hj, hj, if_pos rfl]
      cases q : lkD es k with
      | none => rfl
      | some x => rw [q] at h; cases h
    · rw [if_neg hj, if_neg (fun z => hj z.symm)]
      cases lkD es j <;> rfl
def atKeyB (B : Bg) (p : List Int) : Option (List Int × List Int) := B.find? fun q => decide (q.1 = p)
theorem lk_enc (B : Bg) (p : List Int) : lkD (enc B) (kI p) = (atKeyB B p).map fun q => dI q.2 := by
  induction B with
  | nil => rfl
  | cons b B ih =>
    unfold lkD atKeyB enc at ih ⊢
    rw [List.map_cons, List.find?_cons, List.find?_cons]
    by_cases h : b.1 = p
    · rw [decide_eq_true h, decide_eq_true (congrArg kI h)]; rfl
    · rw [decide_eq_false h, decide_eq_false (fun z => h (kI_inj z))]; exact ih
theorem keys_enc (B : Bg) : (enc B).map (·.1) = (B.map (·.1)).map kI := by
  unfold enc
  (rw [List.map_map, List.map_map])
  rfl
theorem put_enc {B : Bg} {t : List Int} (m : List Int) (h : t ∉ B.map (·.1)) : putD (enc B) (kI t) (dI m) = enc (B ++ [(t, m)]) := by
  unfold putD
  rw [if_neg ?_]
  · unfold enc; rw [List.map_append]; rfl
  · intro z
    obtain ⟨e, he, hq⟩ := List.any_eq_true.mp z
    obtain ⟨b, hb, rfl⟩ := List.mem_map.mp he
    exact h (List.mem_map.mpr ⟨b, hb, kI_inj (of_decide_eq_true hq)⟩)
theorem drop_enc (B : Bg) (l : List Int) : dropD (enc B) (kI l) = enc (B.filter fun x => decide (x.1 ≠ l)) := by
  unfold dropD enc
  induction B with
  | nil => rfl
  | cons b B ih =>
    rw [List.map_cons]
    by_cases h : b.1 = l
    · rw [List.filter_cons_of_neg (by simp [h]), List.filter_cons_of_neg (by simp [h])]; exact ih
    · rw [List.filter_cons_of_pos (by simpa using fun z => h (kI_inj z)), List.filter_cons_of_pos (by simpa using h), List.map_cons, ih]
theorem madeD_nodup {α : Type} (f : α → KK) (g : α → D) : ∀ (l : List α), (l.map f).Nodup → madeD (fun _ => true) f g l = l.map fun x => (f x, g x) := by
  have key : ∀ (l : List α) (es : List (KK × D)), (l.map f).Nodup → (∀ x ∈ l, ∀ e ∈ es, e.1 ≠ f x) → l.foldl (fun es x => putD es (f x) (g x)) es = es ++ l.map fun x => (f x, g x) := by
    intro l
    induction l with
    | nil => intro es _ _; simp
    | cons x l ih =>
      intro es hd hn
      rw [List.map_cons, List.nodup_cons] at hd
      have e1 : putD es (f x) (g x) = es ++ [(f x, g x)] := by
        unfold putD
        rw [if_neg]
        intro z
        obtain ⟨e, he, hq⟩ := List.any_eq_true.mp z
        exact hn x (List.mem_cons_self ..) e he (of_decide_eq_true hq)
      rw [List.foldl_cons, e1, ih _ hd.2, List.map_cons, List.append_assoc]
      · rfl
      · intro y hy e he
        rcases List.mem_append.mp he with h | h
        · exact hn y (List.mem_cons_of_mem _ hy) e h
        · simp at h; rw [h]; exact fun z => hd.1 (List.mem_map.mpr ⟨y, hy, z.symm⟩)
  intro l h
  unfold madeD
  rw [List.filter_eq_self.mpr (fun _ _ => rfl), key l [] h (fun _ _ _ he => by cases he), List.nil_append]
theorem nodup_kI {L : Rows} (h : L.Nodup) : (L.map kI).Nodup := by
  induction L with
  | nil => exact List.nodup_nil
  | cons x L ih =>
    rw [List.nodup_cons] at h
    (rw [List.map_cons, List.nodup_cons])
    exact ⟨fun z => by obtain ⟨y, hy, e⟩ := List.mem_map.mp z; exact h.1 (kI_inj e ▸ hy), ih h.2⟩
/-- whose end a place is -/
def OwnR (n : List Int) (H : Bg) (es : List (KK × D)) : Prop := ∀ e, lkD es (kI e) = (atEnd n H e).map fun q => dI q.1
theorem own_start (n : List Int) {B : Bg} : OwnR n B (B.map fun q => (kI (endB n q), dI q.1)) := fun e => by
  induction B with
  | nil => rfl
  | cons b B ih =>
    unfold lkD atEnd at ih ⊢
    rw [List.map_cons, List.find?_cons, List.find?_cons]
    by_cases h : endB n b = e
    · rw [decide_eq_true h, decide_eq_true (congrArg kI h)]; rfl
    · rw [decide_eq_false h, decide_eq_false (fun z => h (kI_inj z))]; exact ih
theorem find_snoc {α : Type} (p : α → Bool) (l : List α) (x : α) : (l ++ [x]).find? p = (l.find? p).or (if p x then some x else none) := by
  induction l with
  | nil =>
    rw [List.nil_append, List.find?_cons]
    cases p x <;> rfl
  | cons y l ih =>
    rw [List.cons_append, List.find?_cons, List.find?_cons]
    cases p y with
    | true => rfl
    | false => exact ih
theorem own_next {n K : List Int} {S : Rows} {H : Bg} {t w m : List Int} {q : List Int × List Int} {es : List (KK × D)} (p : Ps n K S H t w m) (h : atEnd n H (addP n t m) = some q) (o : OwnR n H es) :
    OwnR n ((H ++ [(t, m)]).filter fun x => decide (x.1 ≠ q.1)) (putD es (kI (addP n t m)) (dI t)) := fun e => by
  obtain ⟨hm, he⟩ := at_mem h
  obtain ⟨n1, _, _⟩ := p.loser h
  rw [lk_put, drop_snoc (Ne.symm n1)]
  unfold atEnd
  rw [find_snoc]
  have gone : ∀ {e : List Int}, e ≠ addP n t m → (H.filter fun x => decide (x.1 ≠ q.1)).find? (fun x => decide (endB n x = e)) = H.find? (fun x => decide (endB n x = e)) := fun {e} ne => by
    rw [List.find?_filter]
    have : ∀ {B : Bg}, (∀ x ∈ B, x ∈ H) → B.find? (fun a => decide (decide (a.1 ≠ q.1) = true ∧ decide (endB n a = e) = true)) = B.find? fun x => decide (endB n x = e) := fun {B} => by
      induction B with
      | nil => intro _; rfl
      | cons b B ih =>
        intro hs
        rw [List.find?_cons, List.find?_cons, ih fun x hx => hs x (List.mem_cons_of_mem _ hx)]
        by_cases hb : endB n b = e
        · have : b.1 ≠ q.1 := fun z => by
            have := key_one p.b.keys (hs b (List.mem_cons_self ..)) hm z
            rw [this] at hb
            exact ne (hb.symm.trans he)
          have e2 : decide (decide (b.1 ≠ q.1) = true ∧ decide (endB n b = e) = true) = true := decide_eq_true ⟨decide_eq_true this, decide_eq_true hb⟩
          rw [e2, decide_eq_true hb]
        · have e2 : decide (decide (b.1 ≠ q.1) = true ∧ decide (endB n b = e) = true) = false := decide_eq_false fun z => hb (of_decide_eq_true z.2)
          rw [e2, decide_eq_false hb]
    exact this fun _ h => h
  by_cases hz : e = addP n t m
  · rw [if_pos (congrArg kI hz), hz]
    have : (H.filter fun x => decide (x.1 ≠ q.1)).find? (fun x => decide (endB n x = addP n t m)) = none := List.find?_eq_none.mpr fun x hx => by
      have h1 := List.mem_filter.mp hx
      intro z
      have := end_one p.b.ends h1.1 hm ((of_decide_eq_true z).trans he.symm)
      exact of_decide_eq_true h1.2 (by rw [this])
    rw [this, if_pos (show decide (endB n (t, m) = addP n t m) = true from decide_eq_true rfl)]
    rfl
  · rw [if_neg (fun z => hz (kI_inj z)), o e, gone hz, if_neg (show ¬ decide (endB n (t, m) = e) = true from fun z => hz (of_decide_eq_true z).symm)]
    unfold atEnd
    cases H.find? (fun x => decide (endB n x = e)) <;> rfl
/-- a dealing by its persons, ascending -/
def sortB (B : Bg) : Bg := (sortR (B.map (·.1))).map fun p => (p, ((atKeyB B p).map (·.2)).getD [])
theorem at_key {B : Bg} (hk : (B.map (·.1)).Nodup) {q : List Int × List Int} (hq : q ∈ B) : atKeyB B q.1 = some q := by
  unfold atKeyB
  cases h : B.find? (fun x => decide (x.1 = q.1)) with
  | none =>
    have := List.find?_eq_none.mp h q hq
    simp at this
  | some x =>
    have h1 := List.mem_of_find?_eq_some h
    have h2 := List.find?_some (p := fun x : List Int × List Int => decide (x.1 = q.1)) h
    rw [key_one hk h1 hq (of_decide_eq_true h2)]
theorem sortB_perm {B : Bg} (hk : (B.map (·.1)).Nodup) : (sortB B).Perm B := by
  unfold sortB
  have h1 : ((sortR (B.map (·.1))).map fun p => (p, ((atKeyB B p).map (·.2)).getD [])).Perm ((B.map (·.1)).map fun p => (p, ((atKeyB B p).map (·.2)).getD [])) := (isort_perm _).map _
  refine h1.trans ?_
  rw [List.map_map]
  have : B.map ((fun p => (p, ((atKeyB B p).map (·.2)).getD [])) ∘ (·.1)) = B := by
    have : ∀ {L : Bg}, (∀ x ∈ L, x ∈ B) → L.map ((fun p => (p, ((atKeyB B p).map (·.2)).getD [])) ∘ (·.1)) = L := fun {L} => by
      induction L with
      | nil => intro _; rfl
      | cons x L ih =>
        intro hs
        rw [List.map_cons, ih fun y hy => hs y (List.mem_cons_of_mem _ hy)]
        show (x.1, ((atKeyB B x.1).map (·.2)).getD []) :: L = x :: L
        rw [at_key hk (hs x (List.mem_cons_self ..))]
        rfl
    exact this fun _ h => h
  rw [this]
theorem bg_perm {n : List Int} {B C : Bg} (h : C.Perm B) (b : BgOk n B) : BgOk n C :=
  ⟨(h.map (·.1)).nodup_iff.mpr b.keys, fun q hq => b.inH q (h.mem_iff.mp hq), (h.map (endB n)).nodup_iff.mpr b.ends⟩
def passB (n : List Int) (B : Bg) (t w m : List Int) : Bg × Bg := let r := passGo n (placesOf n).length B [] t w m; (r.1, sortB r.2)
theorem Ps.start {n : List Int} {B : Bg} {t w m : List Int} (b : BgOk n B) (it : InP t n) (iw : InP w n) (im : InP m n) (ft : t ∉ B.map (·.1)) (fw : w ∉ B.map (·.1)) (ne : t ≠ w) : Ps n (addP n (addP n t m) w) [] B t w m :=
  { b := b, it := it, iw := iw, im := im, ft := ft, fw := fw, seq := by simp [ne], inS := fun _ h => (by cases h), chain := fun _ _ _ h => (by simp at h), key := rfl }
theorem passB_ok {n : List Int} {B : Bg} {t w m : List Int} (hn : n ∈ fewD) (b : BgOk n B) (it : InP t n) (iw : InP w n) (im : InP m n) (ft : t ∉ B.map (·.1)) (fw : w ∉ B.map (·.1)) (ne : t ≠ w) :
    BgOk n (passB n B t w m).2 ∧ (passB n B t w m).2.length = B.length + 1 ∧ ((passB n B t w m).2.map (·.2)).Perm (B.map (·.2) ++ [m]) := by
  obtain ⟨h1, h2, h3⟩ := pass_ok hn (placesOf n).length (T := []) (Ps.start b it iw im ft fw ne) (by simp)
  have p := sortB_perm h1.keys
  exact ⟨bg_perm p h1, p.length_eq.trans h2, (p.map _).trans h3⟩
end Mv


namespace Mv
open PySem L2 Evl

/-! ### a row dealt -/
def freeOf (n : List Int) (B : Bg) : Rows := (placesOf n).filter fun p => decide (p ∉ B.map (·.1))
def emptyOf (n : List Int) (B : Bg) : Rows := (placesOf n).filter fun e => decide (e ∉ B.map (endB n))
def goalF (n : List Int) (B : Bg) (p : List Int) : Rows := match atKeyB B p with
  | some q => [endB n q]
  | none => emptyOf n B
def goalsOf (n : List Int) (B : Bg) : Rows := (placesOf n).flatMap (goalF n B)
theorem perm_split {L P : Rows} (h1 : L.Nodup) (h2 : P.Nodup) (s : ∀ x ∈ L, x ∈ P) : P.Perm (L ++ P.filter fun x => decide (x ∉ L)) := by
  have nd : (L ++ P.filter fun x => decide (x ∉ L)).Nodup := by
    rw [List.nodup_append]
    refine ⟨h1, h2.sublist (List.filter_sublist), fun x hx y hy e => ?_⟩
    have := (List.mem_filter.mp hy).2
    rw [← e] at this
    exact of_decide_eq_true this hx
  have sub1 : ∀ x ∈ P, x ∈ L ++ P.filter fun x => decide (x ∉ L) := fun x hx => by
    by_cases h : x ∈ L
    · exact List.mem_append_left _ h
    · exact List.mem_append_right _ (List.mem_filter.mpr ⟨hx, decide_eq_true h⟩)
  have sub2 : ∀ x ∈ L ++ P.filter fun x => decide (x ∉ L), x ∈ P := fun x hx => by
    rcases List.mem_append.mp hx with h | h
    · exact s x h
    · exact (List.mem_filter.mp h).1
  have l1 := nodup_len h2 sub1
  have l2 := nodup_len nd sub2
  exact nodup_perm h2 sub1 (by omega)
theorem at_keyN {B : Bg} {p : List Int} (h : p ∉ B.map (·.1)) : atKeyB B p = none := by
  unfold atKeyB
  refine List.find?_eq_none.mpr fun x hx z => h (List.mem_map.mpr ⟨x, hx, of_decide_eq_true z⟩)
theorem takeP_inP {n a b : List Int} (h1 : InP a n) (h2 : InP b n) : InP (takeP n a b) n := by
  have pos : ∀ {p n : List Int}, InP p n → ∀ s ∈ n, 0 < s := fun h => by
    induction h with
    | nil => intro s hs; cases hs
    | cons a b _ ih =>
      intro s hs
      rcases List.mem_cons.mp hs with e | e
      · rw [e]; omega
      · exact ih s e
  exact takeP_in h1.len h2.len (pos h1)
section
variable {n : List Int} {B : Bg}
theorem ends_in (b : BgOk n B) : ∀ e ∈ B.map (endB n), e ∈ placesOf n := fun e he => by
  obtain ⟨q, hq, rfl⟩ := List.mem_map.mp he
  exact (addP_inP (b.inH q hq).1 (b.inH q hq).2).mem
theorem keys_in (b : BgOk n B) : ∀ e ∈ B.map (·.1), e ∈ placesOf n := fun e he => by
  obtain ⟨q, hq, rfl⟩ := List.mem_map.mp he
  exact (b.inH q hq).1.mem
theorem free_len (hn : n ∈ fewD) (b : BgOk n B) : (freeOf n B).length + B.length = (placesOf n).length := by
  have := (perm_split b.keys (few_nodup hn) (keys_in b)).length_eq
  rw [List.length_append, List.length_map] at this
  unfold freeOf
  omega
theorem empty_len (hn : n ∈ fewD) (b : BgOk n B) : (emptyOf n B).length + B.length = (placesOf n).length := by
  have := (perm_split b.ends (few_nodup hn) (ends_in b)).length_eq
  rw [List.length_append, List.length_map] at this
  unfold emptyOf
  omega
/-- two free persons -/
theorem free_two (hn : n ∈ fewD) (b : BgOk n B) (h : B.length + 2 ≤ (placesOf n).length) : ∃ x y rest, freeOf n B = x :: y :: rest ∧ InP x n ∧ InP y n ∧ x ∉ B.map (·.1) ∧ y ∉ B.map (·.1) ∧ x ≠ y := by
  have l := free_len hn b
  have nd : (freeOf n B).Nodup := (few_nodup hn).sublist List.filter_sublist
  have mem : ∀ p ∈ freeOf n B, InP p n ∧ p ∉ B.map (·.1) := fun p hp => ⟨few_inP hn (List.mem_filter.mp hp).1, of_decide_eq_true (List.mem_filter.mp hp).2⟩
  cases e : freeOf n B with
  | nil => rw [e] at l; simp at l; omega
  | cons x r =>
    cases r with
    | nil => rw [e] at l; simp at l; omega
    | cons y r =>
      rw [e] at nd mem
      have mx := mem x (by simp)
      have my := mem y (by simp)
      exact ⟨x, y, r, rfl, mx.1, my.1, mx.2, my.2, fun z => by rw [List.nodup_cons] at nd; exact nd.1 (by simp [z])⟩
/-- the last person is led -/
theorem goals_ok (hn : n ∈ fewD) (b : BgOk n B) (h : B.length + 1 = (placesOf n).length) : (goalsOf n B).Perm (placesOf n) ∧ ∃ last, InP last n ∧ (ledBy n (placesOf n) (goalsOf n B)).Perm (B.map (·.2) ++ [last]) := by
  have fl := free_len hn b
  have el := empty_len hn b
  obtain ⟨p0, ef⟩ : ∃ p0, freeOf n B = [p0] := by
    cases e : freeOf n B with
    | nil => rw [e] at fl; simp at fl; omega
    | cons x r => cases r with
      | nil => exact ⟨x, rfl⟩
      | cons y r => rw [e] at fl; simp at fl; omega
  obtain ⟨e0, ee⟩ : ∃ e0, emptyOf n B = [e0] := by
    cases e : emptyOf n B with
    | nil => rw [e] at el; simp at el; omega
    | cons x r => cases r with
      | nil => exact ⟨x, rfl⟩
      | cons y r => rw [e] at el; simp at el; omega
  have m0 : p0 ∈ freeOf n B := by rw [ef]; simp
  have i0 : InP p0 n := few_inP hn (List.mem_filter.mp m0).1
  have n0 : p0 ∉ B.map (·.1) := of_decide_eq_true (List.mem_filter.mp m0).2
  have me0 : e0 ∈ emptyOf n B := by rw [ee]; simp
  have ie : InP e0 n := few_inP hn (List.mem_filter.mp me0).1
  -- the goals, person by person
  obtain ⟨hf, ehf⟩ : ∃ hf : List Int → List Int, hf = fun p => match atKeyB B p with | some q => endB n q | none => e0 := ⟨_, rfl⟩
  have gf : ∀ p, goalF n B p = [hf p] := fun p => by
    have e1 : hf p = match atKeyB B p with | some q => endB n q | none => e0 := by rw [ehf]
    unfold goalF
    rw [e1]
    cases e : atKeyB B p with
    | none => simp only [ee]
    | some q => simp only
  have gm : goalsOf n B = (placesOf n).map hf := by
    unfold goalsOf
    have : ∀ P : Rows, P.flatMap (goalF n B) = P.map hf := fun P => by
      induction P with
      | nil => rfl
      | cons p P ih => rw [List.flatMap_cons, gf, ih]; rfl
    exact this _
  have sp : (placesOf n).Perm (B.map (·.1) ++ [p0]) := by
    have := perm_split b.keys (few_nodup hn) (keys_in b)
    rw [show ((placesOf n).filter fun x => decide (x ∉ B.map (·.1))) = freeOf n B from rfl, ef] at this
    exact this
  have hk : ∀ q ∈ B, hf q.1 = endB n q := fun q hq => by rw [ehf]; simp only [at_key b.keys hq]
  have h0 : hf p0 = e0 := by rw [ehf]; simp only [at_keyN n0]
  refine ⟨?_, takeP n e0 p0, takeP_inP ie i0, ?_⟩
  · rw [gm]
    refine (sp.map hf).trans ?_
    rw [List.map_append, List.map_map]
    have : B.map (hf ∘ (·.1)) = B.map (endB n) := List.map_congr_left fun q hq => hk q hq
    rw [this]
    have s2 := perm_split b.ends (few_nodup hn) (ends_in b)
    rw [show ((placesOf n).filter fun x => decide (x ∉ B.map (endB n))) = emptyOf n B from rfl, ee] at s2
    show (B.map (endB n) ++ [hf p0]).Perm _
    rw [h0]
    exact s2.symm
  · rw [gm]
    have led : ∀ P : Rows, ledBy n P (P.map hf) = P.map fun p => takeP n (hf p) p := fun P => by
      unfold ledBy
      induction P with
      | nil => rfl
      | cons p P ih => rw [List.map_cons, List.zip_cons_cons, List.map_cons, ih, List.map_cons]
    rw [led]
    refine (sp.map _).trans ?_
    rw [List.map_append, List.map_map]
    have : B.map ((fun p => takeP n (hf p) p) ∘ (·.1)) = B.map (·.2) := List.map_congr_left fun q hq => by
      show takeP n (hf q.1) q.1 = q.2
      rw [hk q hq]
      have iq := b.inH q hq
      have ia := addP_inP iq.1 iq.2
      exact addP_cancel (takeP_inP ia iq.1) iq.2 iq.1.len (add_take iq.1 ia)
    rw [this]
    show (B.map (·.2) ++ [takeP n (hf p0) p0]).Perm _
    rw [h0]
def dealGo (n : List Int) : Rows → Bg → Bg
  | [], B => B
  | m :: ms, B => dealGo n ms (passB n B ((freeOf n B).getD 0 []) ((freeOf n B).getD 1 []) m).2
theorem dealGo_ok (hn : n ∈ fewD) : ∀ (ms : Rows) {B : Bg}, BgOk n B → (∀ m ∈ ms, InP m n) → B.length + ms.length + 1 ≤ (placesOf n).length → BgOk n (dealGo n ms B) ∧ (dealGo n ms B).length = B.length + ms.length ∧ ((dealGo n ms B).map (·.2)).Perm (B.map (·.2) ++ ms)
  | [], B, b, _, _ => ⟨b, rfl, by rw [List.append_nil]; exact .refl _⟩
  | m :: ms, B, b, hm, hl => by
    rw [List.length_cons] at hl
    obtain ⟨x, y, r, e, ix, iy, fx, fy, ne⟩ := free_two hn b (by omega)
    unfold dealGo
    rw [e]
    obtain ⟨h1, h2, h3⟩ := passB_ok (m := m) hn b ix iy (hm m (List.mem_cons_self ..)) fx fy ne
    obtain ⟨h4, h5, h6⟩ := dealGo_ok hn ms h1 (fun z hz => hm z (List.mem_cons_of_mem _ hz)) (by omega)
    refine ⟨h4, by rw [List.length_cons]; show (dealGo n ms (passB n B x y m).2).length = _; omega, h6.trans ?_⟩
    have := h3.append_right ms
    rw [List.append_assoc] at this
    exact this
def dealF (n : List Int) (R : Rows) : Rows := ledBy n (placesOf n) (goalsOf n (dealGo n R.tail []))
theorem bg_nil : BgOk n [] := { keys := List.nodup_nil, inH := fun _ h => (by cases h), ends := List.nodup_nil }
theorem deal_ok (hn : n ∈ fewD) {R : Rows} (o : MovesOk n R) : (goalsOf n (dealGo n R.tail [])).Perm (placesOf n) ∧ DealOk n (dealF n R) ∧ (addUp n R = zeros n → (dealF n R).Perm R) := by
  have two := of_decide_eq_true (List.all_eq_true.mp few_two n hn)
  cases R with
  | nil => have := o.len; simp at this; omega
  | cons r0 rest =>
    have ol := o.len
    rw [List.length_cons] at ol
    obtain ⟨b, hl, hp⟩ := dealGo_ok hn rest (bg_nil (n := n)) (fun m hm => o.inp m (List.mem_cons_of_mem _ hm)) (by simp; omega)
    simp at hl
    obtain ⟨g1, last, il, g2⟩ := goals_ok hn b (by omega)
    have d : DealOk n (dealF n (r0 :: rest)) := ⟨_, g1, rfl⟩
    refine ⟨g1, d, fun hz => ?_⟩
    have p1 : (dealF n (r0 :: rest)).Perm (rest ++ [last]) := g2.trans (hp.append_right [last])
    have sum := d.sum hn
    have sp : (sortR (dealF n (r0 :: rest))).Perm (rest ++ [last]) := (isort_perm _).trans p1
    rw [addUp_perm sp] at sum
    have z2 : addUp n (rest ++ [r0]) = zeros n := by rw [addUp_perm (List.perm_append_comm (l₁ := rest) (l₂ := [r0]))]; exact hz
    have e1 : ∀ x, addUp n (rest ++ [x]) = addP n (addUp n rest) x := fun x => by unfold addUp; rw [List.foldl_append]; rfl
    rw [e1] at sum z2
    have : last = r0 := addP_cancel il (o.inp r0 (List.mem_cons_self ..)) (addUp_len fun p hp => (o.inp p (List.mem_cons_of_mem _ hp)).len) (sum.trans z2.symm)
    rw [this] at p1
    exact p1.trans (List.perm_append_comm (l₁ := rest) (l₂ := [r0]))
end
end Mv


namespace Mv
open PySem L2 Evl

def kmD (T : Bg) : List D := T.map fun q => .tuple [dI q.1, dI q.2]
def R_moves_to (ds : List D) (z : D) : Prop := ∃ (n : List Int) (B : Rows), ds = [dI n, dL B] ∧ n ∈ fewD ∧ MovesOk n B ∧ z = dT (ledBy n (placesOf n) B)
def R_pass_on (ds : List D) (z : D) : Prop := ∃ (n : List Int) (B : Bg) (t y m : List Int), ds = [dI n, dctD (enc B), dI t, dI y, dI m] ∧ n ∈ fewD ∧ BgOk n B ∧ InP t n ∧ InP y n ∧ InP m n ∧ t ∉ B.map (·.1) ∧ y ∉ B.map (·.1) ∧ t ≠ y ∧
  z = .tuple [.list (kmD (passB n B t y m).1), dctD (enc (passB n B t y m).2)]
abbrev s_moves_to : Stmt := top 8
abbrev s_pass_on : Stmt := top 37
def ownD (n : List Int) (B : Bg) : List (KK × D) := B.map fun q => (kI (endB n q), dI q.1)
theorem enc_nodup {n : List Int} {B : Bg} (b : BgOk n B) : ((enc B).map (·.1)).Nodup := by
  rw [keys_enc]
  exact nodup_kI b.keys
theorem enc_copy {n : List Int} {B : Bg} (b : BgOk n B) : madeD (fun _ => true) (fun e : KK × D => e.1) (fun e => e.2) (enc B) = enc B := by
  rw [madeD_nodup _ _ _ (enc_nodup b)]
  exact List.map_id' (enc B)
theorem enc_owners {n : List Int} {B : Bg} (b : BgOk n B) : madeD (fun _ => true) (fun e : KK × D => kI (addP n (pOf e.1) (rowD e.2))) (fun e => dI (pOf e.1)) (enc B) = ownD n B := by
  have e1 : ∀ B : Bg, (enc B).map (fun e : KK × D => kI (addP n (pOf e.1) (rowD e.2))) = (B.map (endB n)).map kI := fun B => by
    unfold enc
    (rw [List.map_map, List.map_map])
    refine List.map_congr_left fun q _ => ?_
    show kI (addP n (pOf (kI q.1)) (rowD (dI q.2))) = kI (endB n q)
    rw [pOf_kI, rowD_dI]; rfl
  rw [madeD_nodup _ _ _ (by rw [e1]; exact nodup_kI b.ends)]
  unfold enc ownD
  rw [List.map_map]
  refine List.map_congr_left fun q _ => ?_
  show (kI (addP n (pOf (kI q.1)) (rowD (dI q.2))), dI (pOf (kI q.1))) = (kI (endB n q), dI q.1)
  rw [pOf_kI, rowD_dI]; rfl
theorem bg_len {n : List Int} {B : Bg} (b : BgOk n B) : B.length ≤ (placesOf n).length := by
  have := nodup_len b.keys fun x hx => by
    obtain ⟨q, hq, rfl⟩ := List.mem_map.mp hx
    exact (b.inH q hq).1.mem
  rwa [List.length_map] at this
theorem few24 {n : List Int} (hn : n ∈ fewD) : (placesOf n).length ≤ 24 := by
  have okd := okB_ok (List.all_eq_true.mp few_ok n hn)
  have h1 := okd.pl n.length
  rw [List.take_length] at h1
  exact h1
theorem lk_encB {n : List Int} {B : Bg} (b : BgOk n B) {q : List Int × List Int} (hq : q ∈ B) : lkD (enc B) (kI q.1) = some (dI q.2) := by
  rw [lk_enc, at_key b.keys hq]
  rfl
theorem keys_snoc {n K : List Int} {S : Rows} {H : Bg} {t y m : List Int} (p : Ps n K S H t y m) : ((H ++ [(t, m)]).map (·.1)).Nodup := by
  (rw [List.map_append, List.nodup_append])
  refine ⟨p.b.keys, by simp, fun x hx z hz e => ?_⟩
  simp at hz
  rw [e, hz] at hx
  exact p.ft hx
theorem keys_data (B : Bg) : ((enc B).map fun e => kD e.1) = (B.map (·.1)).map dI := by
  unfold enc
  (rw [List.map_map, List.map_map])
  exact List.map_congr_left fun q _ => kD_kI q.1
theorem sorted_keys {B : Bg} (hl : ∀ q ∈ B, 1 ≤ q.1.length) : SortOk ((enc B).map fun e => kD e.1) ∧ sortD ((enc B).map fun e => kD e.1) = (sortR (B.map (·.1))).map dI := by
  rw [keys_data]
  exact ⟨sortOk_rows fun p hp => by obtain ⟨q, hq, rfl⟩ := List.mem_map.mp hp; exact hl q hq, sort_rows _⟩
theorem enc_sorted {B : Bg} (hk : (B.map (·.1)).Nodup) : madeD (fun _ => true) (fun d : D => kI (rowD d)) (fun d => dI (((atKeyB B (rowD d)).map (·.2)).getD [])) ((sortR (B.map (·.1))).map dI) = enc (sortB B) := by
  have e1 : ((sortR (B.map (·.1))).map dI).map (fun d : D => kI (rowD d)) = (sortR (B.map (·.1))).map kI := by
    rw [List.map_map]
    exact List.map_congr_left fun q _ => by show kI (rowD (dI q)) = _; rw [rowD_dI]
  rw [madeD_nodup _ _ _ (by rw [e1]; exact nodup_kI ((isort_perm _).nodup_iff.mpr hk))]
  unfold enc sortB
  (rw [List.map_map, List.map_map])
  exact List.map_congr_left fun q _ => by show (kI (rowD (dI q)), dI (((atKeyB B (rowD (dI q))).map (·.2)).getD [])) = _; rw [rowD_dI]; rfl
section
variable {P : Program} {w : World} {mg : Str → Option Value} {base : Heap} {K : PySem.W.Frag}
theorem ok_moves_to {f : Addr} {fd : FuncData} (Z : Zs mg) (C_all_places : Cal P w K mg base CX0 1 "all_places" ["dials"] (SpR R_all_places)) (C_take_off : Cal P w K mg base CX0 1 "take_off" ["dials", "one", "other"] (SpR R_take)) (F : Fun K "moves_to" "moves_to" s_moves_to f fd) : FnOk P w K mg base CX0 2 f fd ["dials", "goals"] (SpR R_moves_to) := by
  have sc : FnScope ["dials", "goals", "person", "goal"] ["dials", "goals"] (defScope s_moves_to) := ⟨rfl, rfl, rfl, by decide +kernel, rfl, by decide +kernel, by decide +kernel⟩
  refine F.ok sc (fun vs H Q E h => ?_) (fun cdv A outer s H vs Q E hr h => ?_)
  · obtain ⟨G, ds, z, _, hv, ⟨n, M, rfl, _⟩, _⟩ := h
    exact hv.len
  · obtain ⟨G, ds, z, wf, hv, ⟨n, M, rfl, hn, o, rfl⟩, k⟩ := h
    refine ⟨_, (pss_one (ps_ret (pe_callTy (r := rTupOf K) call_tuple_of (by rfl) Z.tuple (by decide +kernel) (pa_cons (pe_lc (own := [("person", 2), ("goal", 3)]) (g := gTup K 2 (gCons (gName 2) (gCons (gName 3) gNil))) (tt := tYes) (by rfl) sc.nd (pi_zip2 true true (by rfl) Z.zip (pa_cons (pe_cal C_all_places (hr.mono (by decide)) pass0 (pa_cons (pv 0) pa_nil)) (pa_cons (pv 1) pa_nil))) (blkOk_by (N := ["dials", "goals", "person", "goal"]) (sc := defScope s_moves_to) (by decide +kernel)) (fun _ _ _ _ _ => (pg_tup rfl (pgs_cons (pg_name (i := 2) sc.nd rfl (Or.inl rfl)) (pgs_cons (pg_name (i := 3) sc.nd rfl (Or.inl rfl)) pgs_nil)))) (fun _ _ _ _ _ => pts_nil) (fun _ _ _ _ _ => (pe_cal C_take_off (hr.mono (by decide)) pass0 (pa_cons (pv 0) (pa_cons (pv 3) (pa_cons (pv 2) pa_nil)))))) pa_nil)))), ?_⟩
    have okd := okB_ok (List.all_eq_true.mp few_ok n hn)
    have l2 := okd.hi
    have pl24 := few24 hn
    cases hv with
    | @cons v0 vs d0 ds hv0 hn' =>
      cases hn' with
      | @cons v1 vs d1 ds hv1 hn' =>
        cases hn'
        refine s_ret (G := G) (d := dT (ledBy n (placesOf n) M)) ?_ wf fun v G3 H3 s3 hv => k v G3 H3 s3 hv
        have e : (ledBy n (placesOf n) M).map dI = ((((placesOf n).map dI).zip (M.map dI)).map fun q : D × D => dI (takeP n (rowD q.2) (rowD q.1))) := by
          unfold ledBy
          rw [List.map_map, List.zip_map, List.map_map]
          refine List.map_congr_left fun q _ => ?_
          show _ = dI (takeP n (rowD (dI q.2)) (rowD (dI q.1)))
          rw [rowD_dI, rowD_dI]; rfl
        unfold dT
        rw [e]
        refine d_cb (a_cons (d_lcZ2m (k1 := true) (k2 := true) (as := (placesOf n).map dI) (bs := M.map dI) _ (a_cons (d_cal (a_cons (d_var rfl hv0) a_nil) ⟨n, rfl, okd, rfl⟩) (a_cons (d_var rfl hv1) a_nil)) (by rw [List.length_map]; omega) (fun _ _ => rfl) ?_) a_nil) cad_tuple
        rintro x y da db G1 e1 hm hx hy
        obtain ⟨h1, h2⟩ := List.of_mem_zip hm
        obtain ⟨p, hp, rfl⟩ := List.mem_map.mp h1
        obtain ⟨q, hq, rfl⟩ := List.mem_map.mp h2
        rw [rowD_dI, rowD_dI]
        exact d_cal (a_cons (d_var rfl (hv0.mono e1)) (a_cons (d_var rfl hy) (a_cons (d_var rfl hx) a_nil))) ⟨n, q, p, rfl, (o.inp q hq).len, (few_inP hn hp).len, by omega, fun s hs => by have := okd.sz s hs; omega, rfl⟩
theorem ok_pass_on {f : Addr} {fd : FuncData} (Z : Zs mg) (Z_sorted : mg "sorted" = none) (C_add : Cal P w K mg base CX0 1 "add" ["dials", "one", "other"] (SpR R_add)) (F : Fun K "pass_on" "pass_on" s_pass_on f fd) : FnOk P w K mg base CX0 2 f fd ["dials", "begun", "first", "second", "move"] (SpR R_pass_on) := by
  have sc : FnScope ["dials", "begun", "first", "second", "move", "held", "person", "owners", "takes", "taker", "waiting", "end", "loser"] ["dials", "begun", "first", "second", "move"] (defScope s_pass_on) := ⟨rfl, rfl, rfl, by decide +kernel, rfl, by decide +kernel, by decide +kernel⟩
  refine F.ok sc (fun vs H Q E h => ?_) (fun cdv A outer s0 H vs Q E hr h => ?_)
  · obtain ⟨G, ds, z, _, hv, ⟨n, B, t, y, m, rfl, _⟩, _⟩ := h
    exact hv.len
  · obtain ⟨G, ds, z, wf, hv, ⟨n, B, t, y, m, rfl, hn, bk, it, iy, im, ft, fy, ne, rfl⟩, k⟩ := h
    have hu := hu_of hr
    refine ⟨_, (pss_cons (ps_set (i := 5) sc.nd rfl (Or.inr rfl) (pe_dcT (own := [("person", 6)]) (g := gName 6) (tt := tYes) hu (by rfl) sc.nd (pi_keys (pv 1)) (blkOk_by (N := ["dials", "begun", "first", "second", "move", "held", "person", "owners", "takes", "taker", "waiting", "end", "loser"]) (sc := defScope s_pass_on) (by decide +kernel)) (fun _ _ _ _ _ => (pg_name (i := 6) sc.nd rfl (Or.inl rfl))) (fun _ _ _ _ _ => pts_nil) (fun _ _ _ _ _ => (pv 6)) (fun _ _ _ _ _ => (pe_dget hu (pv 1) (pv 6) (fun _ _ => rfl))))) (pss_cons (ps_lock (ps_setDcT (i := 7) (own := [("person", 6)]) (g := gName 6) (tt := tYes) hu (by rfl) sc.nd rfl rfl (swT rfl rfl rfl (by decide +kernel)) (pi_keys (pv 5)) (blkOk_by (N := ["dials", "begun", "first", "second", "move", "held", "person", "owners", "takes", "taker", "waiting", "end", "loser"]) (sc := defScope s_pass_on) (by decide +kernel)) (fun _ _ _ _ _ => (pg_name (i := 6) sc.nd rfl (Or.inl rfl))) (fun _ _ _ _ _ => pts_nil) (fun _ _ _ _ _ => (pe_cal C_add (hr.mono (by decide)) pass0 (pa_cons (pv 0) (pa_cons (pv 6) (pa_cons (pe_dget hu (pv 5) (pv 6) (fun _ _ => rfl)) pa_nil))))) (fun _ _ _ _ _ => (pv 6)))) (pss_cons (ps_set (i := 8) sc.nd rfl (Or.inl rfl) (pe_lst pa_nil)) (pss_cons (ps_set (i := 9) sc.nd rfl (Or.inl rfl) (pv 2)) (pss_cons (ps_set (i := 10) sc.nd rfl (Or.inl rfl) (pv 3)) (pss_one (ps_while PassesOwn.never (pt_val pe_bl) (pss_cons (ps_expr (pe_bm PySem.F.plainAttrs_list PySem.F.slot_list_append PySem.F.type_list_append mt_append (pv 8) (pa_cons (pe_tup (pa_cons (pv 9) (pa_cons (pv 4) pa_nil))) pa_nil))) (pss_cons (ps_dput hu (pv 5) (pv 9) (pv 4) rfl) (pss_cons (ps_set (i := 11) sc.nd rfl (Or.inl rfl) (pe_cal C_add (hr.mono (by decide)) pass0 (pa_cons (pv 0) (pa_cons (pv 9) (pa_cons (pv 4) pa_nil))))) (pss_cons (ps_set (i := 12) sc.nd rfl (Or.inl rfl) (pe_dget1 hu (pv 7) (pv 11) ⟨rfl, rfl, rfl, rfl⟩)) (pss_cons (ps_dput hu (pv 7) (pv 11) (pv 9) rfl) (pss_cons (ps_if (pt_cmpR op_isN (pv 12) pe_non (nomark _)) (pss_one (ps_ret (pe_tup (pa_cons (pv 8) (pa_cons (pe_fix (pe_lock (pe_dcT (own := [("person", 6)]) (g := gName 6) (tt := tYes) hu (by rfl) sc.nd (pi_list (pe_callB (r := rSortK) (call_sortK (by rfl) hr.units) (by rfl) Z_sorted (by decide +kernel) (pa_cons (pv 5) pa_nil))) (blkOk_by (N := ["dials", "begun", "first", "second", "move", "held", "person", "owners", "takes", "taker", "waiting", "end", "loser"]) (sc := defScope s_pass_on) (by decide +kernel)) (fun _ _ _ _ _ => (pg_name (i := 6) sc.nd rfl (Or.inl rfl))) (fun _ _ _ _ _ => pts_nil) (fun _ _ _ _ _ => (pv 6)) (fun _ _ _ _ _ => (pe_dget hu (pv 5) (pv 6) (fun _ _ => rfl)))))) pa_nil))))) pss_nil) (pss_cons (ps_set (i := 4) sc.nd rfl (Or.inl rfl) (pe_dget hu (pv 5) (pv 12) (fun _ _ => rfl))) (pss_cons (ps_delT hu (pv 5) (pv 12)) (pss_cons (ps_set (i := 9) sc.nd rfl (Or.inl rfl) (pv 10)) (pss_one (ps_set (i := 10) sc.nd rfl (Or.inl rfl) (pv 12))))))))))))))))))), ?_⟩
    have okd := okB_ok (List.all_eq_true.mp few_ok n hn)
    have l2 := okd.hi
    have pl24 := few24 hn
    have bl := bg_len bk
    have pos : ∀ s ∈ n, 0 < s := fun s hs => by have := okd.sz s hs; omega
    have el : ∀ B : Bg, (enc B).length = B.length := fun B => List.length_map _
    cases hv with
    | @cons v0 vs d0 ds hv0 hn' =>
      cases hn' with
      | @cons v1 vs d1 ds hv1 hn' =>
        cases hn' with
        | @cons v2 vs d2 ds hv2 hn' =>
          cases hn' with
          | @cons v3 vs d3 ds hv3 hn' =>
            cases hn' with
            | @cons v4 vs d4 ds hv4 hn' =>
              cases hn'
              -- held
              refine q_asgM (G := G) (es := enc B) ((m_dcK (es := enc B) (fun _ => true) (fun e => e.1) (fun e => e.2) (d_var rfl hv1) (by rw [el]; omega) (fun _ => rfl) (fun _ _ _ _ _ _ => b_yes) (fun v e G1 _ _ hq _ => d_var rfl hq)
                (fun v e G1 x1 he hq _ => d_dget (d_var rfl (hv1.mono x1)) (d_var rfl hq) (lk_mem (enc_nodup bk) he))).is (enc_copy bk)) wf fun ph G1 H1 s1 h0 m1 => ?_
              -- owners
              refine q_lockM (es2 := ownD n B) m1 s1.w (fun G' x1 hd => (m_dcK (es := enc B) (fun _ => true) (fun e => kI (addP n (pOf e.1) (rowD e.2))) (fun e => dI (pOf e.1)) (d_var rfl hd) (by rw [el]; omega) (fun _ => rfl) (fun _ _ _ _ _ _ => b_yes) (fun v e G2 x2 he hq _ => ?_)
                (fun v e G2 _ he hq _ => ?_)).is (enc_owners bk)) (fun e he => by obtain ⟨q, _, rfl⟩ := List.mem_map.mp he; exact flat_dI _) fun po G2 H2 s2 h0' m2 m2h => ?_
              · obtain ⟨q, hq', rfl⟩ := List.mem_map.mp he
                have iq := bk.inH q hq'
                have hq2 : Dq G2 v (dI q.1) := kD_kI q.1 ▸ hq
                show EvD _ _ G2 (kD (kI (addP n (pOf (kI q.1)) (rowD (dI q.2)))))
                rw [pOf_kI, rowD_dI, kD_kI]
                exact d_cal (a_cons (d_var rfl (hv0.mono (s1.g.trans (x1.trans x2)))) (a_cons (d_var rfl hq2) (a_cons (d_dget (d_var rfl (hd.mono x2)) (d_var rfl hq) (lk_encB bk hq')) a_nil))) ⟨n, q.1, q.2, rfl, iq.1.len, iq.2.len, by omega, pos, rfl⟩
              · obtain ⟨q, hq', rfl⟩ := List.mem_map.mp he
                show EvD _ _ G2 (dI (pOf (kI q.1)))
                rw [pOf_kI]
                exact d_var rfl (kD_kI q.1 ▸ hq)
              -- takes, taker, waiting
              refine q_newL (G := G2) s2.w fun pt o3 h03 s3 l3 => ?_
              refine q_asg (G := G2) (d := dI t) (d_var rfl (hv2.mono (s1.g.trans s2.g))) s3.w fun vt G4 H4 s4 ht4 => ?_
              refine q_asg (G := G4) (d := dI y) (d_var rfl (hv3.mono ((s1.g.trans s2.g).trans s4.g))) s4.w fun vy G5 H5 s5 hy5 => ?_
              have a12 := s1.trans s2
              have a3 : Stp G H G2 _ := a12.trans s3
              have a4 := a3.trans s4
              have a5 := a4.trans s5
              have nho : ph ≠ po := fun z => by obtain ⟨_, e, _⟩ := m1.at_; rw [z, h0'] at e; cases e
              have nht : ph ≠ pt := fun z => by obtain ⟨_, e, _⟩ := m2h.at_; rw [z, h03] at e; cases e
              have not : po ≠ pt := fun z => by obtain ⟨_, e, _⟩ := m2.at_; rw [z, h03] at e; cases e
              have f1 : H po = none := fresh_back s1.h h0'
              have f2 : H pt = none := fresh_back a12.h h03
              -- the loop
              refine ⟨fun fuel σ H' => ∃ (G' : Hp) (vt vy vm : V) (o6 o11 o12 : Option V) (S : Rows) (Hb T : Bg) (t1 y1 m1 : List Int) (es : List (KK × D)), σ = [some v0, some v1, some v2, some v3, some vm, some (.ref ph), o6, some (.ref po), some (.ref pt), some vt, some vy, o11, o12] ∧
                Stp G H G' H' ∧ Dq G' vt (dI t1) ∧ Dq G' vy (dI y1) ∧ Dq G' vm (dI m1) ∧ MD G' H' ph (enc Hb) ∧ MD G' H' po es ∧ ML G' H' pt (kmD T) ∧ OwnR n Hb es ∧ Ps n (addP n (addP n t m) y) S Hb t1 y1 m1 ∧ T.length = S.length ∧ es.length ≤ 24 + S.length ∧
                passGo n fuel Hb T t1 y1 m1 = passGo n (placesOf n).length B [] t y m ∧ (placesOf n).length ≤ fuel + S.length + 1, ⟨(placesOf n).length, ?_⟩, ?_⟩
              · exact ⟨G5, vt, vy, v4, none, none, none, [], B, [], t, y, m, ownD n B, rfl, a5, ht4.mono s5.g, hy5, hv4.mono a5.g, ((m2h.stp s3).stp s4).stp s5, ((m2.stp s3).stp s4).stp s5, (l3.stp s4).stp s5, own_start n, Ps.start bk it iy im ft fy ne, rfl, by unfold ownD; rw [List.length_map]; simp; omega, rfl, by simp⟩
              · rintro fuel σ H' ⟨G', vt, vy, vm, o6, o11, o12, S, Hb, T, t1, y1, mv, es, rfl, st, ht, hy, hm, mh, mo, lt, ow, ps, tl, esl, go, fu⟩
                have sf := ps.few hn
                obtain ⟨k1, rfl⟩ : ∃ k1, fuel = k1 + 1 := ⟨fuel - 1, by omega⟩
                have hl := bg_len ps.b
                refine ⟨true, rfl, iteT ⟨_, fun σ' H' hN => ⟨k1, by omega, hN⟩, ?_⟩⟩
                refine q_app (G := G') (d := .tuple [dI t1, dI mv]) rfl lt st.w (by show (kmD T).length < _; unfold kmD; rw [List.length_map, sizeLine_eq]; omega) (d_tup (a_cons (d_var rfl ht) (a_cons (d_var rfl hm) a_nil)) (by show 2 ≤ sizeLine; decide)) fun G2 H2 o2 s2 w2 l2' => ?_
                have stA := (st.trans s2).mutd (o := o2) f2 l2'.g
                have mh2 := (mh.stp s2).other (o := o2) nht
                have mo2 := (mo.stp s2).other (o := o2) not
                refine q_put (G := G2) (k := kI t1) (d := dI mv) rfl mh2 w2 (by rw [el, sizeLine_eq]; omega) (d_var rfl (hm.mono s2.g)) (by rw [kD_kI]; exact d_var rfl (ht.mono s2.g)) fun G3 H3 o3 s3 w3 m3 => ?_
                rw [put_enc mv ps.ft] at m3
                have stB := (stA.trans s3).mutd (o := o3) h0 m3.g
                have mo3 := (mo2.stp s3).other (o := o3) (Ne.symm nho)
                have l3' := (l2'.stp s3).other (o := o3) (Ne.symm nht)
                have g23 := s2.g.trans s3.g
                refine q_asg (G := G3) (d := dI (addP n t1 mv)) (d_cal (a_cons (d_var rfl (hv0.mono stB.g)) (a_cons (d_var rfl (ht.mono g23)) (a_cons (d_var rfl (hm.mono g23)) a_nil))) ⟨n, t1, mv, rfl, ps.it.len, ps.im.len, by omega, pos, rfl⟩) w3 fun ve G4 H4 s4 he => ?_
                refine q_get1 (G := G4) (k := kI (addP n t1 mv)) rfl (mo3.stp s4) s4.w (by rw [kD_kI]; exact d_var rfl he) fun vl G5 H5 s5 hl5 => ?_
                rw [ow (addP n t1 mv)] at hl5
                have g25 := (g23.trans s4.g).trans s5.g
                refine q_put (G := G5) (k := kI (addP n t1 mv)) (d := dI t1) rfl ((mo3.stp s4).stp s5) s5.w (by rw [sizeLine_eq]; omega) (d_var rfl (ht.mono g25)) (by rw [kD_kI]; exact d_var rfl (he.mono s5.g)) fun G6 H6 o6' s6 w6 m6 => ?_
                have stC := (((stB.trans s4).trans s5).trans s6).mutd (o := o6') f1 m6.g
                have mh6 := (((m3.stp s4).stp s5).stp s6).other (o := o6') nho
                have l6 := (((l3'.stp s4).stp s5).stp s6).other (o := o6') (Ne.symm not)
                have g26 := g25.trans s6.g
                cases hq : atEnd n Hb (addP n t1 mv) with
                | none =>
                  rw [hq] at hl5
                  refine q_when (G := G6) (b := true) (b_test (d_op (d_var rfl (hl5.mono s6.g)) (d_c .non) opd_isN)) w6 (fun _ G7 H7 s7 => ?_) fun z => by cases z
                  have stD := stC.trans s7
                  obtain ⟨us, sk, xk, dk, wk, mk⟩ := (l6.stp s7).know stD f2
                  have kk := keys_snoc ps
                  have hpos : ∀ q ∈ Hb ++ [(t1, mv)], 1 ≤ q.1.length := fun q hq' => by
                    have := okd.lo
                    rcases List.mem_append.mp hq' with h | h
                    · have := (ps.b.inH q h).1.len; omega
                    · simp at h; have := ps.it.len; rw [h]; show 1 ≤ t1.length; omega
                  obtain ⟨so, sr⟩ := sorted_keys hpos
                  have fin : passB n B t y m = (T ++ [(t1, mv)], sortB (Hb ++ [(t1, mv)])) := by
                    unfold passB
                    rw [← go]
                    unfold passGo
                    rw [hq]
                  refine ⟨.ref pt, rfl, lock_fix (es2 := enc (sortB (Hb ++ [(t1, mv)]))) (mk nht (mh6.stp s7)) wk (fun Gx xx hd => ?_) (fun e he' => by obtain ⟨q, _, rfl⟩ := List.mem_map.mp he'; exact flat_dI _) fun vd G8 H8 s8 hd8 => ⟨by show 2 ≤ sizeLine; decide, fun p hp => ?_⟩⟩
                  · refine (m_dcL (as := (sortR ((Hb ++ [(t1, mv)]).map (·.1))).map dI) (fun _ => true) (fun d : D => kI (rowD d)) (fun d => dI (((atKeyB (Hb ++ [(t1, mv)]) (rowD d)).map (·.2)).getD [])) ((d_sortK (d_var rfl hd) so).is (by rw [sr])) ?_ (fun _ => rfl) (fun _ _ _ _ _ _ => b_yes) (fun v e Gy xy he' hq' _ => ?_) (fun v e Gy xy he' hq' _ => ?_)).is (enc_sorted kk)
                    · rw [List.length_map, (show (sortR _).length = _ from (isort_perm _).length_eq), List.length_map, List.length_append]; simp; omega
                    · obtain ⟨p, hp, rfl⟩ := List.mem_map.mp he'
                      rw [rowD_dI, kD_kI]
                      exact d_var rfl hq'
                    · obtain ⟨p, hp, rfl⟩ := List.mem_map.mp he'
                      rw [rowD_dI]
                      obtain ⟨q, hq2, e2⟩ := List.mem_map.mp ((isort_perm _).mem_iff.mp hp)
                      have ak : atKeyB (Hb ++ [(t1, mv)]) p = some q := by rw [← e2]; exact at_key kk hq2
                      refine d_dget (k := kI p) (d_var rfl (hd.mono xy)) (by rw [kD_kI]; exact d_var rfl hq') ?_
                      rw [lk_enc, ak]
                      rfl
                  · have s9 := Stp.new (o := .tup [.ref pt, vd]) s8.w hp
                    refine k _ _ _ ((sk.trans s8).trans s9) (.tup upd_same (.cons ?_ (.cons ?_ .nil)))
                    · rw [fin]
                      have : kmD (T ++ [(t1, mv)]) = kmD T ++ [.tuple [dI t1, dI mv]] := by unfold kmD; rw [List.map_append]; rfl
                      rw [this]
                      exact dk.mono (s8.g.trans s9.g)
                    · rw [fin]
                      exact hd8.mono s9.g
                | some q =>
                  rw [hq] at hl5
                  have hl5 : Dq G5 vl (dI q.1) := hl5
                  obtain ⟨qm, _⟩ := at_mem hq
                  have kk := keys_snoc ps
                  have ak : lkD (enc (Hb ++ [(t1, mv)])) (kI q.1) = some (dI q.2) := by
                    rw [lk_enc, at_key kk (List.mem_append_left _ qm)]; rfl
                  refine q_when (G := G6) (b := false) (b_test (d_op (d_var rfl (hl5.mono s6.g)) (d_c .non) opd_isN)) w6 (fun z => by cases z) fun _ G7 H7 s7 => ?_
                  refine q_get (G := G7) (k := kI q.1) (d := dI q.2) rfl (mh6.stp s7) s7.w (by rw [kD_kI]; exact d_var rfl (hl5.mono (s6.g.trans s7.g))) ak fun vm2 G8 H8 s8 hm8 => ?_
                  refine q_del (G := G8) (k := kI q.1) rfl ((mh6.stp s7).stp s8) s8.w (by rw [ak]; rfl) (by rw [kD_kI]; exact d_var rfl (hl5.mono ((s6.g.trans s7.g).trans s8.g))) fun G9 H9 o9 s9 w9 m9 => ?_
                  rw [drop_enc] at m9
                  have stE := (((stC.trans s7).trans s8).trans s9).mutd (o := o9) h0 m9.g
                  have mo9 := ((((m6.stp s7).stp s8).stp s9).other (o := o9) (Ne.symm nho))
                  have l9 := ((((l6.stp s7).stp s8).stp s9).other (o := o9) (Ne.symm nht))
                  have g69 := (s7.g.trans s8.g).trans s9.g
                  refine q_asg (G := G9) (d := dI y1) (d_var rfl (hy.mono (g26.trans g69))) w9 fun vt2 Ga Ha sa hta => ?_
                  refine s_asg (G := Ga) (d := dI q.1) (d_var rfl (hl5.mono ((s6.g.trans g69).trans sa.g))) sa.w fun vy2 Gb Hc sb hyb => ?_
                  have gab := sa.g.trans sb.g
                  refine ⟨Gb, vt2, vy2, vm2, o6, some ve, some vl, S ++ [t1], _, T ++ [(t1, mv)], y1, q.1, q.2, putD es (kI (addP n t1 mv)) (dI t1), rfl, (stE.trans sa).trans sb, hta.mono sb.g, hyb, hm8.mono (s9.g.trans gab), (m9.stp sa).stp sb, (mo9.stp sa).stp sb, ?_, own_next ps hq ow, ps.next hq, by rw [List.length_append, List.length_append, tl]; rfl, ?_, ?_, ?_⟩
                  · have : kmD (T ++ [(t1, mv)]) = kmD T ++ [.tuple [dI t1, dI mv]] := by unfold kmD; rw [List.map_append]; rfl
                    rw [this]
                    exact (l9.stp sa).stp sb
                  · have := putD_len es (kI (addP n t1 mv)) (dI t1)
                    rw [List.length_append]; simp; omega
                  · rw [← go]
                    conv => rhs; unfold passGo
                    rw [hq]
                  · rw [List.length_append]; simp; omega
end
end Mv


namespace Mv
open PySem L2 Evl

def R_add_upT (ds : List D) (z : D) : Prop := ∃ (n : List Int) (R : Rows), ds = [dI n, dT R] ∧ 1 ≤ n.length ∧ n.length ≤ 1000 ∧ (∀ s ∈ n, 0 < s) ∧ (∀ p ∈ R, p.length = n.length) ∧ z = dI (addUp n R)
def R_finished (ds : List D) (z : D) : Prop := ∃ (n : List Int) (B : Bg), ds = [dI n, dctD (enc B)] ∧ n ∈ fewD ∧ BgOk n B ∧ (goalsOf n B).Perm (placesOf n) ∧ z = dT (ledBy n (placesOf n) (goalsOf n B))
def R_hand_all (ds : List D) (z : D) : Prop := ∃ (n : List Int) (R : Rows), ds = [dI n, dL (placesOf n), dT R.tail] ∧ n ∈ fewD ∧ MovesOk n R ∧ z = dctD (enc (dealGo n R.tail []))
def dealD (n : List Int) (R : Rows) : D := if addUp n R = zeros n then dT (dealF n R) else .none
def R_deal (ds : List D) (z : D) : Prop := ∃ (n : List Int) (R : Rows), ds = [dI n, dT R] ∧ n ∈ fewD ∧ MovesOk n R ∧ z = dealD n R
def R_dealing (C C' : Addr) (ds : List D) (r : Except Addr D) : Prop := ∃ d e : D, ds = [d, e] ∧ ((∃ n R, d = dI n ∧ e = dT R ∧ n ∈ fewD ∧ MovesOk n R ∧ isRow n (dT R) = true ∧ r = .ok (dealD n R)) ∨ (isDials d = false ∧ r = .error C) ∨ ∃ n, d = dI n ∧ n ∈ fewD ∧ fewIn e ∧ isRow n e = false ∧ r = .error C')
abbrev s_finished : Stmt := top 38
abbrev s_hand_all : Stmt := top 39
abbrev s_deal : Stmt := top 40
abbrev s_dealing : Stmt := top 48
theorem d_inL {K : PySem.W.Frag} {σ : L2.St} {G : Hp} {te tv : TE} {q : List Int} {P : Rows} {neg : Bool} (h : EvD te σ G (dI q)) (h2 : EvD tv σ G (dL P)) : EvD (tOp (rInA K neg) te tv) σ G (.bool (if neg then !(P.any fun c => decide (c = q)) else P.any fun c => decide (c = q))) :=
  (d_op h h2 (opd_inL (K := K) (neg := neg) (ds := P.map dI) (flat_dI q) (flat_rows P) (shaped_dI q) (shaped_rowsL P))).is (by rw [any_rows])
theorem any_in (P : Rows) (q : List Int) : (P.any fun c => decide (c = q)) = decide (q ∈ P) := by
  cases h : P.any fun c => decide (c = q) with
  | true =>
    obtain ⟨c, hc, e⟩ := List.any_eq_true.mp h
    rw [decide_eq_true (of_decide_eq_true e ▸ hc)]
  | false =>
    rw [decide_eq_false]
    intro hq
    have := List.any_eq_false.mp h q hq
    simp at this
theorem made_rows (p : List Int → Bool) (L : Rows) : made (fun d : D => p (rowD d)) id (L.map dI) = (L.filter p).map dI := by
  unfold made
  rw [List.filter_map, List.map_id]
  congr 1
  exact List.filter_congr fun x _ => by show p (rowD (dI x)) = p x; rw [rowD_dI]
theorem take_flat {α β : Type} (g : α → List β) {l : List α} {i : Nat} {x : α} (h : l[i]? = some x) : (l.take (i + 1)).flatMap g = (l.take i).flatMap g ++ g x := by
  rw [take_more h, List.flatMap_append]
  simp
section
variable {P : Program} {w : World} {mg : Str → Option Value} {base : Heap} {K : PySem.W.Frag}
theorem ok_add_upT {f : Addr} {fd : FuncData} (C_nothing_of : Cal P w K mg base CX0 1 "nothing_of" ["dials"] (SpR R_nothing_of)) (C_add : Cal P w K mg base CX0 1 "add" ["dials", "one", "other"] (SpR R_add)) (F : Fun K "add_up" "add_up" s_add_up f fd) : FnOk P w K mg base CX0 2 f fd ["dials", "several"] (SpR R_add_upT) := by
  have sc : FnScope ["dials", "several", "sum_so_far", "place"] ["dials", "several"] (defScope s_add_up) := ⟨rfl, rfl, rfl, by decide +kernel, rfl, by decide +kernel, by decide +kernel⟩
  refine F.ok sc (fun vs H Q E h => ?_) (fun cdv A outer s H vs Q E hr h => ?_)
  · obtain ⟨G, ds, z, _, hv, ⟨n, l, rfl, _⟩, _⟩ := h
    exact hv.len
  · obtain ⟨G, ds, z, wf, hv, ⟨n, l, rfl, h1, h2, h3, h4, rfl⟩, k⟩ := h
    refine ⟨_, (pss_cons (ps_set (i := 2) sc.nd rfl (Or.inl rfl) (pe_cal C_nothing_of (hr.mono (by decide)) pass0 (pa_cons (pv 0) pa_nil))) (pss_cons (ps_for PassesOwn.never rfl (pi_tup (pv 1)) (pg_name (i := 3) sc.nd rfl (Or.inl rfl)) (pss_one (ps_set (i := 2) sc.nd rfl (Or.inl rfl) (pe_cal C_add (hr.mono (by decide)) pass0 (pa_cons (pv 0) (pa_cons (pv 2) (pa_cons (pv 3) pa_nil))))))) (pss_one (ps_ret (pv 2))))), ?_⟩
    cases hv with
    | @cons v0 vs d ds hv0 hnil =>
      cases hnil with
      | @cons v1 vs d ds hv1 hnil =>
        cases hnil
        refine q_asg (G := G) (d := dI (zeros n)) (d_cal (a_cons (d_var rfl hv0) a_nil) ⟨n, rfl, h1, h2, rfl⟩) wf fun v2 G1 H1 s1 hz => ?_
        refine q_forT (as := l.map dI) (d_var rfl (hv1.mono s1.g)) s1.w (fun i σ G' => ∃ v o, σ = [some v0, some v1, some v, o] ∧ Dq G' v0 (dI n) ∧ Dq G' v (dI (addUp n (l.take i)))) (fun G2 H2 s2 => ⟨v2, none, rfl, hv0.mono (s1.g.trans s2.g), hz.mono s2.g⟩) ?_ ?_
        · rintro G2 H2 s2 i v a σ G3 H3 hi s3 ⟨vf, o, rfl, hv0', hf⟩ hq
          rw [List.getElem?_map] at hi
          obtain ⟨x, hx, rfl⟩ := Option.map_eq_some_iff.mp hi
          have hx2 := h4 x (List.mem_of_getElem? hx)
          refine s_asg (G := G3) (d := dI (addUp n (l.take (i + 1)))) (i := 2) ?_ s3.w fun v G4 H4 s4 hv => ⟨G4, s3.trans s4, v, _, rfl, hv0'.mono s4.g, hv⟩
          refine d_cal (a_cons (d_var rfl hv0') (a_cons (d_var rfl hf) (a_cons (d_var rfl hq) a_nil))) ⟨n, addUp n (l.take i), x, rfl, addUp_len fun p hp => h4 p (List.mem_of_mem_take hp), hx2, h2, h3, ?_⟩
          unfold addUp
          rw [foldl_take _ _ hx]
        · rintro σ G2 H2 s2 ⟨vf, o, rfl, _, hf⟩
          rw [List.length_map, List.take_length] at hf
          exact s_ret (G := G2) (d_var rfl hf) s2.w fun v G3 H3 s3 hv => k v G3 H3 ((s1.trans s2).trans s3) hv
theorem ok_finished {f : Addr} {fd : FuncData} (Z : Zs mg) (C_all_places : Cal P w K mg base CX0 1 "all_places" ["dials"] (SpR R_all_places)) (C_add : Cal P w K mg base CX0 1 "add" ["dials", "one", "other"] (SpR R_add)) (C_moves_to : Cal P w K mg base CX0 2 "moves_to" ["dials", "goals"] (SpR R_moves_to)) (F : Fun K "finished" "finished" s_finished f fd) : FnOk P w K mg base CX0 3 f fd ["dials", "held"] (SpR R_finished) := by
  have sc : FnScope ["dials", "held", "taken", "person", "goals", "place"] ["dials", "held"] (defScope s_finished) := ⟨rfl, rfl, rfl, by decide +kernel, rfl, by decide +kernel, by decide +kernel⟩
  refine F.ok sc (fun vs H Q E h => ?_) (fun cdv A outer s H vs Q E hr h => ?_)
  · obtain ⟨G, ds, z, _, hv, ⟨n, B, rfl, _⟩, _⟩ := h
    exact hv.len
  · obtain ⟨G, ds, z, wf, hv, ⟨n, B, rfl, hn, bk, gp, rfl⟩, k⟩ := h
    have hu := hu_of hr
    refine ⟨_, (pss_cons (ps_set (i := 2) sc.nd rfl (Or.inr rfl) (pe_lc (own := [("person", 3)]) (g := gName 3) (tt := tYes) (by rfl) sc.nd (pi_keys (pv 1)) (blkOk_by (N := ["dials", "held", "taken", "person", "goals", "place"]) (sc := defScope s_finished) (by decide +kernel)) (fun _ _ _ _ _ => (pg_name (i := 3) sc.nd rfl (Or.inl rfl))) (fun _ _ _ _ _ => pts_nil) (fun _ _ _ _ _ => (pe_cal C_add (hr.mono (by decide)) pass0 (pa_cons (pv 0) (pa_cons (pv 3) (pa_cons (pe_dget hu (pv 1) (pv 3) (fun _ _ => rfl)) pa_nil))))))) (pss_cons (ps_set (i := 4) sc.nd rfl (Or.inl rfl) (pe_lst pa_nil)) (pss_cons (ps_for PassesOwn.never rfl (pi_list (pe_cal C_all_places (hr.mono (by decide)) pass0 (pa_cons (pv 0) pa_nil))) (pg_name (i := 3) sc.nd rfl (Or.inl rfl)) (pss_one (ps_if (pt_cmp (pc_din hu (pv 3) (pv 1))) (pss_one (ps_expr (pe_bm PySem.F.plainAttrs_list PySem.F.slot_list_append PySem.F.type_list_append mt_append (pv 4) (pa_cons (pe_cal C_add (hr.mono (by decide)) pass0 (pa_cons (pv 0) (pa_cons (pv 3) (pa_cons (pe_dget hu (pv 1) (pv 3) (fun _ _ => rfl)) pa_nil)))) pa_nil)))) (pss_one (ps_set (i := 4) sc.nd rfl (Or.inl rfl) (pe_op op_cat (pv 4) (pe_lc (own := [("place", 5)]) (g := gName 5) (tt := _) (by rfl) sc.nd (pi_list (pe_cal C_all_places (hr.mono (by decide)) pass0 (pa_cons (pv 0) pa_nil))) (blkOk_by (N := ["dials", "held", "taken", "person", "goals", "place"]) (sc := defScope s_finished) (by decide +kernel)) (fun _ _ _ _ _ => (pg_name (i := 5) sc.nd rfl (Or.inl rfl))) (fun _ _ _ _ _ => (pts_one (pt_cmpR (r := rInA K true) (op_notInA (room65 hr)) (pv 5) (pv 2) (by rfl)))) (fun _ _ _ _ _ => (pv 5))))))))) (pss_one (ps_ret (pe_cal C_moves_to (hr.mono (by decide)) pass0 (pa_cons (pv 0) (pa_cons (pv 4) pa_nil)))))))), ?_⟩
    have okd := okB_ok (List.all_eq_true.mp few_ok n hn)
    have l2 := okd.hi
    have pl24 := few24 hn
    have bl := bg_len bk
    have pos : ∀ s ∈ n, 0 < s := fun s hs => by have := okd.sz s hs; omega
    have el : (enc B).length = B.length := List.length_map _
    cases hv with
    | @cons v0 vs d0 ds hv0 hn' =>
      cases hn' with
      | @cons v1 vs d1 ds hv1 hn' =>
        cases hn'
        have reach : made (fun _ => true) (fun e : KK × D => dI (addP n (pOf e.1) (rowD e.2))) (enc B) = (B.map (endB n)).map dI := by
          unfold made enc
          rw [List.filter_eq_self.mpr (fun _ _ => rfl), List.map_map, List.map_map]
          exact List.map_congr_left fun q _ => by show dI (addP n (pOf (kI q.1)) (rowD (dI q.2))) = dI (endB n q); rw [pOf_kI, rowD_dI]; rfl
        have endE : ∀ {σ : L2.St} {G2 : Hp} {v : V} {E : XK} {q : List Int × List Int}, q ∈ B → σ[0]? = some (some v0) → σ[1]? = some (some v1) → σ[3]? = some (some v) → Dq G2 v0 (dI n) → Dq G2 v1 (dctD (enc B)) → Dq G2 v (kD (kI q.1)) →
            EvD (tCall (SpR R_add) [] E (tCons (tVar 0) (tCons (tVar 3) (tCons (tDGet (tVar 1) (tVar 3)) tNil)))) σ G2 (dI (endB n q)) := fun {σ G2 v E q} hq i0 i1 i3 h0 h1 h3 => by
          have iq := bk.inH q hq
          exact d_cal (a_cons (d_var i0 h0) (a_cons (d_var i3 (kD_kI q.1 ▸ h3)) (a_cons (d_dget (d_var i1 h1) (d_var i3 h3) (lk_encB bk hq)) a_nil))) ⟨n, q.1, q.2, rfl, iq.1.len, iq.2.len, by omega, pos, rfl⟩
        refine q_asg (G := G) (d := dL (B.map (endB n))) ((d_lcK (es := enc B) (fun _ => true) (fun e => dI (addP n (pOf e.1) (rowD e.2))) (d_var rfl hv1) (by rw [el]; omega) (fun _ => rfl) (fun _ _ _ _ _ _ => b_yes) (fun v e G1 x1 he hq _ => ?_)).is (by rw [reach]; rfl)) wf fun vt G1 H1 s1 ht => ?_
        · obtain ⟨q, hq', rfl⟩ := List.mem_map.mp he
          show EvD _ _ G1 (dI (addP n (pOf (kI q.1)) (rowD (dI q.2))))
          rw [pOf_kI, rowD_dI]
          exact endE hq' rfl rfl rfl (hv0.mono x1) (hv1.mono x1) hq
        refine q_newL (G := G1) s1.w fun pg o3 h03 s3 l3 => ?_
        have fg : H pg = none := fresh_back s1.h h03
        refine q_forLW (G := G1) (as := (placesOf n).map dI) (d_cal (a_cons (d_var rfl (hv0.mono s1.g)) a_nil) ⟨n, rfl, okd, rfl⟩) s3.w (fun Gl i σ' H' => ∃ (G' : Hp) (pg : Addr) (o3 o5 : Option V), σ' = [some v0, some v1, some vt, o3, some (.ref pg), o5] ∧ Ex Gl G' ∧ Stp G H G' H' ∧ H pg = none ∧ ML G' H' pg ((((placesOf n).take i).flatMap (goalF n B)).map dI))
          (fun G2 H2 s2 => ⟨G2, pg, none, none, rfl, .refl _, (s1.trans s3).trans s2, fg, l3.stp s2⟩) (fun Gl i σ' H' ⟨G', _, _, _, _, x, st, _⟩ => x.trans st.w) ?_ ?_
        · rintro Gl Hl sl i v d σ' H2 hi hq ⟨G', pg, o3, o5, rfl, xl, st, fg, lg⟩
          rw [List.getElem?_map] at hi
          obtain ⟨p, hp, rfl⟩ := Option.map_eq_some_iff.mp hi
          have ip := few_inP hn (List.mem_of_getElem? hp)
          have hvp : Dq G' v (kD (kI p)) := by rw [kD_kI]; exact hq.mono xl
          have gl : ((((placesOf n).take i).flatMap (goalF n B)).map dI).length ≤ 1000 := by
            rw [List.length_map]
            have h1 : ∀ L : Rows, (L.flatMap (goalF n B)).length ≤ L.length * 25 := fun L => by
              induction L with
              | nil => simp
              | cons x L ih =>
                rw [List.flatMap_cons, List.length_append, List.length_cons]
                have : (goalF n B x).length ≤ 25 := by
                  unfold goalF
                  cases atKeyB B x with
                  | some q => simp
                  | none =>
                    have := List.length_filter_le (fun e => decide (e ∉ B.map (endB n))) (placesOf n)
                    show (emptyOf n B).length ≤ 25
                    unfold emptyOf
                    omega
                omega
            have h2 := h1 ((placesOf n).take i)
            have h3 : ((placesOf n).take i).length ≤ 24 := by rw [List.length_take]; omega
            omega
          have hvt : Dq G' vt (dL (B.map (endB n))) := (ht.mono sl.g).mono xl
          refine s_if (G := G') (b := (lkD (enc B) (kI p)).isSome) (b_B (d_din (d_var rfl (hv1.mono st.g)) (d_var rfl hvp))) st.w (fun hb G2 H3 s2 => ?_) fun hb G2 H3 s2 => ?_
          · rw [lk_enc] at hb
            obtain ⟨q, hq2⟩ : ∃ q, atKeyB B p = some q := by
              cases e : atKeyB B p with
              | none => rw [e] at hb; cases hb
              | some q => exact ⟨q, rfl⟩
            have qm : q ∈ B := List.mem_of_find?_eq_some hq2
            have qp : q.1 = p := of_decide_eq_true (List.find?_some (p := fun q : List Int × List Int => decide (q.1 = p)) hq2)
            refine s_app (G := G2) (d := dI (endB n q)) rfl (lg.stp s2) s2.w (by rw [sizeLine_eq]; omega) (endE (σ := [some v0, some v1, some vt, some v, some (.ref pg), o5]) qm rfl rfl rfl (hv0.mono (st.g.trans s2.g)) (hv1.mono (st.g.trans s2.g)) (by rw [qp]; exact hvp.mono s2.g)) fun G4 H4 o4 s4 w4 l4 => ?_
            refine ⟨G4, pg, _, _, rfl, (xl.trans s2.g).trans s4.g, ((st.trans s2).trans s4).mutd fg l4.g, fg, ?_⟩
            have e1 : goalF n B p = [endB n q] := by unfold goalF; rw [hq2]
            rw [take_flat _ hp, e1, List.map_append]
            exact l4
          · rw [lk_enc] at hb
            have hq2 : atKeyB B p = none := by
              cases e : atKeyB B p with
              | none => rfl
              | some q => rw [e] at hb; cases hb
            have lg2 := lg.stp s2
            obtain ⟨us, eu, qu⟩ := lg2.at_
            have ev : EvD (tLc (iList K (tCall (SpR R_all_places) [] E0 (tCons (tVar 0) tNil))) (gName 5) (tTest (tOp (rInA K true) (tVar 5) (tVar 2))) (tVar 5) [5]) [some v0, some v1, some vt, some v, some (.ref pg), o5] G2 (dL (emptyOf n B)) := by
              refine (d_lcL (as := (placesOf n).map dI) (fun d : D => decide (rowD d ∉ B.map (endB n))) id (d_cal (a_cons (d_var rfl (hv0.mono (st.g.trans s2.g))) a_nil) ⟨n, rfl, okd, rfl⟩) (by rw [List.length_map]; omega) (fun _ => rfl) (fun x a G4 x4 ha hx => ?_) (fun x a G4 x4 ha hx _ => d_var rfl hx)).is (by rw [made_rows (fun r => decide (r ∉ B.map (endB n)))]; rfl)
              obtain ⟨r, hr, rfl⟩ := List.mem_map.mp ha
              rw [rowD_dI]
              refine (b_test (d_inL (neg := true) (d_var rfl hx) (d_var rfl ((hvt.mono s2.g).mono x4)))).is ?_
              rw [if_pos rfl, any_in]
              by_cases hm : r ∈ B.map (endB n)
              · rw [decide_eq_true hm, decide_eq_false (fun z => z hm)]; rfl
              · rw [decide_eq_false hm, decide_eq_true hm]; rfl
            refine ⟨.ref pg, rfl, ev G2 H3 (.refl _) s2.w _ fun ve G4 H4 s4 he => ?_⟩
            have l4 := lg2.stp s4
            obtain ⟨us4, eu4, qu4⟩ := l4.at_
            cases he with
            | @lst pe ws _ hpe hws =>
              have n1 := qu4.len
              have n2 := hws.len
              have el2 : (emptyOf n B).length ≤ 24 := by
                unfold emptyOf
                exact Nat.le_trans (List.length_filter_le _ _) pl24
              rw [List.length_map] at n2
              refine ⟨pg, pe, us4, ws, rfl, rfl, eu4, s4.w _ _ hpe, by rw [sizeLine_eq]; omega, fun lz hz => ?_⟩
              have stz := ((st.trans s2).trans s4)
              refine ⟨G4, lz, _, _, rfl, (xl.trans s2.g).trans s4.g, stz.trans (Stp.old s4.w (.new hz)), fresh_back stz.h hz, fresh_back s4.w hz, us4 ++ ws, upd_same, ?_⟩
              have e1 : goalF n B p = emptyOf n B := by unfold goalF; rw [hq2]
              rw [take_flat _ hp, e1, List.map_append]
              exact qu4.app hws
        · rintro Gl Hl sl σ' H2 ⟨G', pg, o3, o5, rfl, xl, st, fg, lg⟩
          rw [List.length_map, List.take_length] at lg
          obtain ⟨us, sk, xk, dk, wk, mk⟩ := lg.know st fg
          refine s_ret (G := _) (d := dT (ledBy n (placesOf n) (goalsOf n B))) (d_cal (a_cons (d_var rfl (hv0.mono sk.g)) (a_cons (d_var rfl dk) a_nil)) ⟨n, goalsOf n B, rfl, hn, ⟨fun p hp => few_inP hn (gp.mem_iff.mp hp), gp.length_eq⟩, rfl⟩) wk fun v G3 H3 s3 hv => k v G3 H3 (sk.trans s3) hv
theorem ok_hand_all {f : Addr} {fd : FuncData} (Z : Zs mg) (C_pass_on : Cal P w K mg base CX0 2 "pass_on" ["dials", "begun", "first", "second", "move"] (SpR R_pass_on)) (F : Fun K "hand_all" "hand_all" s_hand_all f fd) : FnOk P w K mg base CX0 3 f fd ["dials", "persons", "moves"] (SpR R_hand_all) := by
  have sc : FnScope ["dials", "persons", "moves", "held", "move", "free", "person"] ["dials", "persons", "moves"] (defScope s_hand_all) := ⟨rfl, rfl, rfl, by decide +kernel, rfl, by decide +kernel, by decide +kernel⟩
  refine F.ok sc (fun vs H Q E h => ?_) (fun cdv A outer s H vs Q E hr h => ?_)
  · obtain ⟨G, ds, z, _, hv, ⟨n, R, rfl, _⟩, _⟩ := h
    exact hv.len
  · obtain ⟨G, ds, z, wf, hv, ⟨n, R, rfl, hn, o, rfl⟩, k⟩ := h
    have hu := hu_of hr
    refine ⟨_, (pss_cons (ps_set (i := 3) sc.nd rfl (Or.inr rfl) (pe_fix pe_dnewT)) (pss_cons (ps_for PassesOwn.never rfl (pi_tup (pv 2)) (pg_name (i := 4) sc.nd rfl (Or.inl rfl)) (pss_cons (ps_setLc (i := 5) (own := [("person", 6)]) (g := gName 6) (tt := _) (by rfl) sc.nd rfl rfl (sw_true rfl rfl rfl (by decide +kernel)) (pi_list (pv 1)) (blkOk_by (N := ["dials", "persons", "moves", "held", "move", "free", "person"]) (sc := defScope s_hand_all) (by decide +kernel)) (fun _ _ _ _ _ => (pg_name (i := 6) sc.nd rfl (Or.inl rfl))) (fun _ _ _ _ _ => (pts_one (pt_cmp (pc_dnotin hu (pv 6) (pv 3))))) (fun _ _ _ _ _ => (pv 6))) (pss_one (ps_set (i := 3) sc.nd rfl (Or.inr rfl) (pe_ix (r := rIxT K) ix_tup (pe_cal C_pass_on (hr.mono (by decide)) pass0 (pa_cons (pv 0) (pa_cons (pv 3) (pa_cons (pe_ix (r := rIxL K) ix_list (pv 5) pe_int (fun _ _ => rfl)) (pa_cons (pe_ix (r := rIxL K) ix_list (pv 5) pe_int (fun _ _ => rfl)) (pa_cons (pv 4) pa_nil)))))) pe_int (fun _ _ => rfl)))))) (pss_one (ps_ret (pv 3))))), ?_⟩
    have okd := okB_ok (List.all_eq_true.mp few_ok n hn)
    have pl24 := few24 hn
    have oL := o.len
    cases hv with
    | @cons v0 vs d0 ds hv0 hn' =>
      cases hn' with
      | @cons v1 vs d1 ds hv1 hn' =>
        cases hn' with
        | @cons v2 vs d2 ds hv2 hn' =>
          cases hn'
          refine q_asg (G := G) (d := dctD (enc [])) d_dnew wf fun vh G2 H2 s2 hh => ?_
          refine q_forT (G := G2) (as := R.tail.map dI) (d_var rfl (hv2.mono s2.g)) s2.w (fun i σ' G' => ∃ (vh : V) (o3 o4 o5 : Option V) (B : Bg), σ' = [some v0, some v1, some v2, some vh, o3, o4, o5] ∧ Dq G' v0 (dI n) ∧ Dq G' v1 (dL (placesOf n)) ∧ Dq G' vh (dctD (enc B)) ∧ BgOk n B ∧ B.length = i ∧ dealGo n (R.tail.drop i) B = dealGo n R.tail [])
            (fun G3 H3 s3 => ⟨vh, none, none, none, [], rfl, hv0.mono (s2.g.trans s3.g), hv1.mono (s2.g.trans s3.g), hh.mono s3.g, bg_nil, rfl, rfl⟩) ?_ ?_
          · rintro G3 H3 s3 i v d σ' G4 H4 hi s4 ⟨vh, o3, o4, o5, B, rfl, h0, h1, hh, bk, bl, hd⟩ hq
            rw [List.getElem?_map] at hi
            obtain ⟨m, hm, rfl⟩ := Option.map_eq_some_iff.mp hi
            have hlt : i < R.tail.length := (List.getElem?_eq_some_iff.mp hm).1
            rw [List.length_tail] at hlt
            have im : InP m n := o.inp m (List.mem_of_mem_tail (List.mem_of_getElem? hm))
            obtain ⟨x, y, r, ef, ix, iy, fx, fy, ne⟩ := free_two hn bk (by omega)
            obtain ⟨b2, bl2, _⟩ := passB_ok (m := m) hn bk ix iy im fx fy ne
            refine q_asg (G := G4) (d := dL (freeOf n B)) ((d_lcL (as := (placesOf n).map dI) (fun d : D => decide (rowD d ∉ B.map (·.1))) id (d_var rfl h1) (by rw [List.length_map]; omega) (fun _ => rfl) (fun z a G5 x5 ha hz => ?_) (fun z a G5 x5 ha hz _ => d_var rfl hz)).is (by rw [made_rows (fun r => decide (r ∉ B.map (·.1)))]; rfl)) s4.w fun vf G5 H5 s5 hf => ?_
            · obtain ⟨p, hp, rfl⟩ := List.mem_map.mp ha
              rw [rowD_dI]
              refine (b_B (d_dnotin (es := enc B) (k := kI p) (d_var rfl (hh.mono x5)) (by rw [kD_kI]; exact d_var rfl hz))).is ?_
              rw [lk_enc]
              by_cases hmem : p ∈ B.map (·.1)
              · obtain ⟨q, hq, e⟩ := List.mem_map.mp hmem
                rw [← e, at_key bk.keys hq, decide_eq_false (fun z => z (List.mem_map.mpr ⟨q, hq, rfl⟩))]; rfl
              · rw [at_keyN hmem, decide_eq_true hmem]; rfl
            · rw [ef] at hf
              refine s_asg (G := G5) (d := dctD (enc (passB n B x y m).2)) (d_op (z := dctD (enc (passB n B x y m).2)) (d_cal (a_cons (d_var rfl (h0.mono s5.g)) (a_cons (d_var rfl (hh.mono s5.g)) (a_cons (d_op (z := dI x) (d_var rfl hf) (d_c (.int 0)) (opd_ixL (j := 0) rfl)) (a_cons (d_op (z := dI y) (d_var rfl hf) (d_c (.int 1)) (opd_ixL (j := 1) rfl)) (a_cons (d_var rfl (hq.mono s5.g)) a_nil))))) ⟨n, B, x, y, m, rfl, hn, bk, ix, iy, im, fx, fy, ne, rfl⟩) (d_c (.int 1)) (opd_ixT (j := 1) rfl)) s5.w fun v2 G6 H6 s6 h2 => ?_
              refine ⟨G6, (s4.trans s5).trans s6, v2, _, _, _, _, rfl, h0.mono (s5.g.trans s6.g), h1.mono (s5.g.trans s6.g), h2, b2, by rw [bl2, bl], ?_⟩
              have dr : R.tail.drop i = m :: R.tail.drop (i + 1) := by
                rw [List.drop_eq_getElem_cons (by rw [List.length_tail]; omega)]
                congr 1
                have := (List.getElem?_eq_some_iff.mp hm).2
                exact this
              rw [dr] at hd
              have e3 : dealGo n (m :: R.tail.drop (i + 1)) B = dealGo n (R.tail.drop (i + 1)) (passB n B ((freeOf n B).getD 0 []) ((freeOf n B).getD 1 []) m).2 := rfl
              rw [e3, ef] at hd
              exact hd
          · rintro σ' G3 H3 s3 ⟨vh, o3, o4, o5, B, rfl, h0, h1, hh, bk, bl, hd⟩
            have e2 : B = dealGo n R.tail [] := by
              rw [← hd, List.length_map, List.drop_length]; rfl
            rw [e2] at hh
            exact s_ret (G := G3) (d := dctD (enc (dealGo n R.tail []))) (d_var rfl hh) s3.w fun v G4 H4 s4 hv => k v G4 H4 ((s2.trans s3).trans s4) hv
theorem ok_deal {f : Addr} {fd : FuncData} (Z : Zs mg) (C_all_places : Cal P w K mg base CX0 1 "all_places" ["dials"] (SpR R_all_places)) (C_nothing_of : Cal P w K mg base CX0 1 "nothing_of" ["dials"] (SpR R_nothing_of)) (C_add_up : Cal P w K mg base CX0 2 "add_up" ["dials", "several"] (SpR R_add_upT)) (C_hand_all : Cal P w K mg base CX0 3 "hand_all" ["dials", "persons", "moves"] (SpR R_hand_all)) (C_finished : Cal P w K mg base CX0 3 "finished" ["dials", "held"] (SpR R_finished)) (F : Fun K "deal" "deal" s_deal f fd) : FnOk P w K mg base CX0 4 f fd ["dials", "row"] (SpR R_deal) := by
  have sc : FnScope ["dials", "row"] ["dials", "row"] (defScope s_deal) := ⟨rfl, rfl, rfl, by decide +kernel, rfl, by decide +kernel, by decide +kernel⟩
  refine F.ok sc (fun vs H Q E h => ?_) (fun cdv A outer s H vs Q E hr h => ?_)
  · obtain ⟨G, ds, z, _, hv, ⟨n, R, rfl, _⟩, _⟩ := h
    exact hv.len
  · obtain ⟨G, ds, z, wf, hv, ⟨n, R, rfl, hn, o, rfl⟩, k⟩ := h
    have hu := hu_of hr
    refine ⟨_, (pss_cons (ps_if (pt_cmpR (r := rNeD K) (op_neD hr.units) (pe_cal C_add_up (hr.mono (by decide)) pass0 (pa_cons (pv 0) (pa_cons (pv 1) pa_nil))) (pe_cal C_nothing_of (hr.mono (by decide)) pass0 (pa_cons (pv 0) pa_nil)) (nomark _)) (pss_one (ps_ret pe_non)) pss_nil) (pss_one (ps_ret (pe_cal C_finished (hr.mono (by decide)) pass0 (pa_cons (pv 0) (pa_cons (pe_cal C_hand_all (hr.mono (by decide)) pass0 (pa_cons (pv 0) (pa_cons (pe_cal C_all_places (hr.mono (by decide)) pass0 (pa_cons (pv 0) pa_nil)) (pa_cons (pe_slice (r := rSlA K) sl_tupA (pv 1) (po_some pe_int) po_none) pa_nil)))) pa_nil)))))), ?_⟩
    have okd := okB_ok (List.all_eq_true.mp few_ok n hn)
    have l1 := okd.lo
    have l2 := okd.hi
    have pl24 := few24 hn
    have pos : ∀ s ∈ n, 0 < s := fun s hs => by have := okd.sz s hs; omega
    have oL := o.len
    have two := of_decide_eq_true (List.all_eq_true.mp few_two n hn)
    obtain ⟨gp, _, _⟩ := deal_ok hn o
    obtain ⟨bk, _, _⟩ := dealGo_ok hn R.tail (bg_nil (n := n)) (fun m hm => o.inp m (List.mem_of_mem_tail hm)) (by rw [List.length_tail, List.length_nil]; omega)
    cases hv with
    | @cons v0 vs d0 ds hv0 hn' =>
      cases hn' with
      | @cons v1 vs d1 ds hv1 hn' =>
        cases hn'
        refine q_when (G := G) (b := !decide (addUp n R = zeros n)) (b_test ((d_op (d := dI (addUp n R)) (e := dI (zeros n)) (d_cal (a_cons (d_var rfl hv0) (a_cons (d_var rfl hv1) a_nil)) ⟨n, R, rfl, l1, by omega, pos, fun p hp => (o.inp p hp).len, rfl⟩) (d_cal (a_cons (d_var rfl hv0) a_nil) ⟨n, rfl, l1, by omega, rfl⟩) (opd_neI _ _)).is (by rw [eqv_dI]))) wf (fun hb G1 H1 s1 => ?_) fun hb G1 H1 s1 => ?_
        · have hz : ¬ addUp n R = zeros n := fun z => by rw [decide_eq_true z] at hb; cases hb
          have e : dealD n R = .none := by unfold dealD; rw [if_neg hz]
          rw [e] at k
          exact s_ret (G := G1) (d_c .non) s1.w fun v G3 H3 s3 hv => k v G3 H3 (s1.trans s3) hv
        · have hz : addUp n R = zeros n := by
            cases e : decide (addUp n R = zeros n) with
            | true => exact of_decide_eq_true e
            | false => rw [e] at hb; cases hb
          have e : dealD n R = dT (dealF n R) := by unfold dealD; rw [if_pos hz]
          rw [e] at k
          have h01 := hv0.mono s1.g
          have cut : cutD (R.map dI) (some 1) none = R.tail.map dI := by
            cases R with
            | nil => simp at oL; omega
            | cons r rest =>
              unfold cutD HT.sIx
              simp
              exact List.take_of_length_le (by rw [List.length_map]; exact Nat.le_refl _)
          refine s_ret (G := G1) (d := dT (dealF n R)) (d_cal (a_cons (d_var rfl h01) (a_cons (d_cal (z := dctD (enc (dealGo n R.tail []))) (a_cons (d_var rfl h01) (a_cons (d_cal (z := dL (placesOf n)) (a_cons (d_var rfl h01) a_nil) ⟨n, rfl, okd, rfl⟩) (a_cons ((d_slT (d_var rfl (hv1.mono s1.g)) (o_some (d_c (.int 1))) o_none).is (by rw [cut]; rfl)) a_nil))) ⟨n, R, rfl, hn, o, rfl⟩) a_nil)) ⟨n, dealGo n R.tail [], rfl, hn, bk, gp, rfl⟩) s1.w fun v G3 H3 s3 hv => k v G3 H3 (s1.trans s3) hv
theorem ok_dealing {f C C' : Addr} {fd : FuncData} (C_check_dials : Cal P w K mg base (L2.CX P w) 4 "check_dials" ["dials"] (SpE (R_check_dials C))) (C_check_row : Cal P w K mg base (L2.CX P w) 7 "check_row" ["dials", "row"] (SpE (R_check_row C'))) (C_deal : Cal P w K mg base CX0 4 "deal" ["dials", "row"] (SpR R_deal)) (F : Fun K "dealing" "dealing" s_dealing f fd) : FnOk P w K mg base (L2.CX P w) 8 f fd ["dials", "row"] (SpE (R_dealing C C')) := by
  have sc : FnScope ["dials", "row"] ["dials", "row"] (defScope s_dealing) := ⟨rfl, rfl, rfl, by decide +kernel, rfl, by decide +kernel, by decide +kernel⟩
  refine F.okX sc (fun vs H Q E h => ?_) (fun cdv A outer s H vs Q E hr h => ?_)
  · obtain ⟨G, ds, z, _, hv, ⟨d, e, rfl, _⟩, _⟩ := h
    exact hv.len
  · obtain ⟨G, ds, r, wf, hv, ⟨d, e, rfl, hd⟩, k, ke⟩ := h
    refine ⟨_, (pss_cons (ps_expr (pe_cal C_check_dials (hr.mono (by decide)) (passes_call (E := E) (W := fun c d _ H => E c d H) (takes_of rfl rfl rfl rfl) (fun _ _ _ _ h => h)) (pa_cons (pv 0) pa_nil))) (pss_cons (ps_expr (pe_cal C_check_row (hr.mono (by decide)) (passes_call (E := E) (W := fun c d _ H => E c d H) (takes_of rfl rfl rfl rfl) (fun _ _ _ _ h => h)) (pa_cons (pv 0) (pa_cons (pv 1) pa_nil)))) (pss_one (ps_ret (pe_cal C_deal (hr.mono (by decide)) pass0 (pa_cons (pv 0) (pa_cons (pv 1) pa_nil))))))), ?_⟩
    cases hv with
    | @cons v0 vs d0 ds hv0 hn' =>
      cases hn' with
      | @cons v1 vs d1 ds hv1 hn' =>
        cases hn'
        have isd : ∀ {n}, n ∈ fewD → OkD n := fun hn => okB_ok (List.all_eq_true.mp few_ok _ hn)
        refine q_chk (G := G) (d := d) (d_var rfl hv0) wf (fun hb => ?_) fun hb G1 H1 s1 => ?_
        · rcases hd with ⟨n, M, rfl, _, hn, _⟩ | ⟨_, rfl⟩ | ⟨n, rfl, hn, _⟩
          · rw [isDials_of (isd hn)] at hb; cases hb
          · exact ke C rfl
          · rw [isDials_of (isd hn)] at hb; cases hb
        · have hv01 := hv0.mono s1.g
          have hv11 := hv1.mono s1.g
          rcases hd with ⟨n, M, rfl, rfl, hn, o, hdl, rfl⟩ | ⟨h0, _⟩ | ⟨n, rfl, hn, hf, hno, rfl⟩
          · have pl24 := few24 hn
            have oL := o.len
            refine q_callE (G := G1) (a_cons (d_var rfl hv01) (a_cons (d_var rfl hv11) a_nil)) s1.w ⟨n, dT M, rfl, hn, by show (M.map dI).length ≤ 1000; rw [List.length_map]; omega, rfl⟩ (fun C2 hC => by rw [if_pos hdl] at hC; cases hC) fun z hz G2 H2 s2 => ?_
            exact s_ret (G := G2) (d_cal (a_cons (d_var rfl (hv01.mono s2.g)) (a_cons (d_var rfl (hv11.mono s2.g)) a_nil)) ⟨n, M, rfl, hn, o, rfl⟩) s2.w fun v G3 H3 s3 hv => k _ rfl v G3 H3 ((s1.trans s2).trans s3) hv
          · rw [h0] at hb; cases hb
          · refine q_callE (G := G1) (a_cons (d_var rfl hv01) (a_cons (d_var rfl hv11) a_nil)) s1.w ⟨n, e, rfl, hn, hf, rfl⟩ (fun C2 hC G2 H2 s2 => ?_) fun z hz G2 H2 s2 => ?_
            · rw [if_neg (by rw [hno]; exact Bool.false_ne_true)] at hC
              cases hC
              exact ke _ rfl G2 H2 (s1.trans s2)
            · rw [if_neg (by rw [hno]; exact Bool.false_ne_true)] at hz
              cases hz
end
end Mv


namespace Mv
open PySem L2 Evl
abbrev s_reached : Stmt := top 7
abbrev s_is_all_different : Stmt := top 23
abbrev s_is_dealt : Stmt := top 30
abbrev s_check_dealing : Stmt := top 35
abbrev s_is_dealing : Stmt := top 46
abbrev s_row_of : Stmt := top 47
section
variable {P : Program} {w : World} {mg : Str → Option Value} {base : Heap} {K : PySem.W.Frag}
theorem ok_reached {f : Addr} {fd : FuncData} (Z : Zs mg) (C_all_places : Cal P w K mg base CX0 1 "all_places" ["dials"] (SpR R_all_places)) (C_add : Cal P w K mg base CX0 1 "add" ["dials", "one", "other"] (SpR R_add)) (F : Fun K "reached" "reached" s_reached f fd) : FnOk P w K mg base CX0 2 f fd ["dials", "moves"] (SpR R_reached) := by
  have sc : FnScope ["dials", "moves", "person", "move"] ["dials", "moves"] (defScope s_reached) := ⟨rfl, rfl, rfl, by decide +kernel, rfl, by decide +kernel, by decide +kernel⟩
  refine F.ok sc (fun vs H Q E h => ?_) (fun cdv A outer s H vs Q E hr h => ?_)
  · obtain ⟨G, ds, z, _, hv, ⟨n, M, rfl, _⟩, _⟩ := h
    exact hv.len
  · obtain ⟨G, ds, z, wf, hv, ⟨n, M, rfl, hn, o, rfl⟩, k⟩ := h
    refine ⟨_, (pss_one (ps_ret (pe_lc (own := [("person", 2), ("move", 3)]) (g := gTup K 2 (gCons (gName 2) (gCons (gName 3) gNil))) (tt := tYes) (by rfl) sc.nd (pi_zip2 true false (by rfl) Z.zip (pa_cons (pe_cal C_all_places (hr.mono (by decide)) pass0 (pa_cons (pv 0) pa_nil)) (pa_cons (pv 1) pa_nil))) (blkOk_by (N := ["dials", "moves", "person", "move"]) (sc := defScope s_reached) (by decide +kernel)) (fun _ _ _ _ _ => (pg_tup rfl (pgs_cons (pg_name (i := 2) sc.nd rfl (Or.inl rfl)) (pgs_cons (pg_name (i := 3) sc.nd rfl (Or.inl rfl)) pgs_nil)))) (fun _ _ _ _ _ => pts_nil) (fun _ _ _ _ _ => (pe_cal C_add (hr.mono (by decide)) pass0 (pa_cons (pv 0) (pa_cons (pv 2) (pa_cons (pv 3) pa_nil)))))))), ?_⟩
    have okd := okB_ok (List.all_eq_true.mp few_ok n hn)
    have l2 := okd.hi
    have pl24 : (placesOf n).length ≤ 24 := by
      have h1 := okd.pl n.length
      rw [List.take_length] at h1
      exact h1
    cases hv with
    | @cons v0 vs d0 ds hv0 hn' =>
      cases hn' with
      | @cons v1 vs d1 ds hv1 hn' =>
        cases hn'
        refine s_ret (G := G) (d := dL (reachF n M)) ?_ wf fun v G3 H3 s3 hv => k v G3 H3 s3 hv
        have e : dL (reachF n M) = .list ((((placesOf n).map dI).zip (M.map dI)).map fun q : D × D => dI (addP n (rowD q.1) (rowD q.2))) := by
          show PyData.list ((reachF n M).map dI) = _
          unfold reachF
          rw [List.map_map, List.zip_map, List.map_map]
          congr 1
          refine List.map_congr_left fun q _ => ?_
          show _ = dI (addP n (rowD (dI q.1)) (rowD (dI q.2)))
          rw [rowD_dI, rowD_dI]; rfl
        rw [e]
        refine d_lcZ2m (k1 := true) (k2 := false) (as := (placesOf n).map dI) (bs := M.map dI) _ (a_cons (d_cal (a_cons (d_var rfl hv0) a_nil) ⟨n, rfl, okd, rfl⟩) (a_cons (d_var rfl hv1) a_nil)) (by rw [List.length_map]; omega) (fun _ _ => rfl) ?_
        rintro x y da db G1 e1 hm hx hy
        obtain ⟨h1, h2⟩ := List.of_mem_zip hm
        obtain ⟨p, hp, rfl⟩ := List.mem_map.mp h1
        obtain ⟨q, hq, rfl⟩ := List.mem_map.mp h2
        rw [rowD_dI, rowD_dI]
        exact d_cal (a_cons (d_var rfl (hv0.mono e1)) (a_cons (d_var rfl hx) (a_cons (d_var rfl hy) a_nil))) ⟨n, p, q, rfl, (few_inP hn hp).len, (o.inp q hq).len, by omega, fun s hs => by have := okd.sz s hs; omega, rfl⟩
theorem ok_is_all_different {f : Addr} {fd : FuncData} (Z : Zs mg) (Z_set : mg "set" = none) (F : Fun K "is_all_different" "is_all_different" s_is_all_different f fd) : FnOk P w K mg base CX0 1 f fd ["items"] (SpR R_all_different) := by
  have sc : FnScope ["items"] ["items"] (defScope s_is_all_different) := ⟨rfl, rfl, rfl, by decide +kernel, rfl, by decide +kernel, by decide +kernel⟩
  refine F.ok sc (fun vs H Q E h => ?_) (fun cdv A outer s H vs Q E hr h => ?_)
  · obtain ⟨G, ds, z, _, hv, ⟨R, rfl, _⟩, _⟩ := h
    exact hv.len
  · obtain ⟨G, ds, z, wf, hv, ⟨R, rfl, hl, rfl⟩, k⟩ := h
    refine ⟨_, (pss_one (ps_ret (pe_cmpR op_eq (pe_callB (r := rLenST K P w) call_lenST (by rfl) Z.len PySem.boot_len (pa_cons (pe_callTy (r := rSetOfT K P w) (cr_setOfT rfl hr.units) (by rfl) Z_set (by decide +kernel) (pa_cons (pv 0) pa_nil)) pa_nil)) (pe_callB (r := rLenA K) call_len_seq (by rfl) Z.len PySem.boot_len (pa_cons (pv 0) pa_nil)) (nomark _)))), ?_⟩
    cases hv with
    | @cons v0 vs d0 ds hv0 hn' =>
      cases hn'
      obtain ⟨M0, h1, h2, h3⟩ : ∃ M0 : Rows, M0.Nodup ∧ (∀ x ∈ M0, x ∈ R) ∧ ∀ x ∈ R, x ∈ M0 := by
        clear hv0 hl k
        induction R with
        | nil => exact ⟨[], .nil, fun _ h => h, fun _ h => h⟩
        | cons r R ih =>
          obtain ⟨M, a, b, c⟩ := ih
          by_cases hr : r ∈ M
          · exact ⟨M, a, fun x hx => .tail _ (b x hx), fun x hx => by rcases List.mem_cons.mp hx with rfl | hx; exact hr; exact c x hx⟩
          · exact ⟨r :: M, List.nodup_cons.mpr ⟨hr, a⟩, fun x hx => by rcases List.mem_cons.mp hx with rfl | hx; exact .head _; exact .tail _ (b x hx), fun x hx => by rcases List.mem_cons.mp hx with rfl | hx; exact .head _; exact .tail _ (c x hx)⟩
      have uniq : ∀ M : Rows, M.Nodup → (∀ x ∈ M, x ∈ R) → (∀ x ∈ R, x ∈ M) → ((M.length : Nat) : Int) = ((M0.length : Nat) : Int) := fun M a b c => by
        have e1 := nodup_len a fun x hx => h3 x (b x hx)
        have e2 := nodup_len h1 fun x hx => c x (h2 x hx)
        omega
      have e : decide R.Nodup = decide (((M0.length : Nat) : Int) = (((R.map dI).length : Nat) : Int)) := by
        rw [List.length_map]
        refine decide_eq_decide.mpr ?_
        rw [← nodup_iff h1 h2 h3]
        omega
      rw [e] at k
      exact s_ret (G := G) (d := .bool (decide (((M0.length : Nat) : Int) = (((R.map dI).length : Nat) : Int)))) (d_op (d_lenset (R := R) (d_var rfl hv0) hl _ uniq) (d_cb (a_cons (d_var rfl hv0) a_nil) cad_lenL) (opd_eqN _ _)) wf fun v G3 H3 s3 hv => k v G3 H3 s3 hv
theorem ok_is_dealt {f : Addr} {fd : FuncData} (C_is_moves : Cal P w K mg base CX0 5 "is_moves" ["dials", "thing"] (SpR R_is_moves)) (C_is_all_different : Cal P w K mg base CX0 1 "is_all_different" ["items"] (SpR R_all_different)) (C_reached : Cal P w K mg base CX0 2 "reached" ["dials", "moves"] (SpR R_reached)) (F : Fun K "is_dealt" "is_dealt" s_is_dealt f fd) : FnOk P w K mg base CX0 6 f fd ["dials", "thing"] (SpR R_is_dealt) := by
  have sc : FnScope ["dials", "thing"] ["dials", "thing"] (defScope s_is_dealt) := ⟨rfl, rfl, rfl, by decide +kernel, rfl, by decide +kernel, by decide +kernel⟩
  refine F.ok sc (fun vs H Q E h => ?_) (fun cdv A outer s H vs Q E hr h => ?_)
  · obtain ⟨G, ds, z, _, hv, ⟨n, d, rfl, _⟩, _⟩ := h
    exact hv.len
  · obtain ⟨G, ds, z, wf, hv, ⟨n, d, rfl, hn, hf, rfl⟩, k⟩ := h
    refine ⟨_, (pss_one (ps_ret (pe_and (pe_cal C_is_moves (hr.mono (by decide)) pass0 (pa_cons (pv 0) (pa_cons (pv 1) pa_nil))) (pe_one (pe_cal C_is_all_different (hr.mono (by decide)) pass0 (pa_cons (pe_cal C_reached (hr.mono (by decide)) pass0 (pa_cons (pv 0) (pa_cons (pv 1) pa_nil))) pa_nil)))))), ?_⟩
    have okd := okB_ok (List.all_eq_true.mp few_ok n hn)
    have pl24 : (placesOf n).length ≤ 24 := by
      have h1 := okd.pl n.length
      rw [List.take_length] at h1
      exact h1
    cases hv with
    | @cons v0 vs d0 ds hv0 hn' =>
      cases hn' with
      | @cons v1 vs d1 ds hv1 hn' =>
        cases hn'
        have key : EvD (tAndV (tCall (SpR R_is_moves) [] E0 (tCons (tVar 0) (tCons (tVar 1) tNil))) (tCall (SpR R_all_different) [] E0 (tCons (tCall (SpR R_reached) [] E0 (tCons (tVar 0) (tCons (tVar 1) tNil))) tNil))) [some v0, some v1] G (.bool (isDealt n d)) := by
          cases hb : isMoves n d with
          | false =>
            rw [dealt_no hb]
            exact d_and (a := false) (b := false) (d_cal (a_cons (d_var rfl hv0) (a_cons (d_var rfl hv1) a_nil)) ⟨n, d, rfl, hn, hf, by rw [hb]⟩) fun z => nomatch z
          | true =>
            obtain ⟨M, rfl, o⟩ := moves_inv hn hb
            rw [dealt_T hn o]
            exact d_and (a := true) (d_cal (a_cons (d_var rfl hv0) (a_cons (d_var rfl hv1) a_nil)) ⟨n, dT M, rfl, hn, hf, by rw [hb]⟩) fun _ => d_cal (a_cons (d_cal (a_cons (d_var rfl hv0) (a_cons (d_var rfl hv1) a_nil)) ⟨n, M, rfl, hn, o, rfl⟩) a_nil) ⟨_, rfl, by rw [reach_len o.len]; omega, rfl⟩
        exact s_ret (G := G) key wf fun v G3 H3 s3 hv => k v G3 H3 s3 hv
theorem ok_check_dealing {f C : Addr} {fd : FuncData} (B : ExcC K mg "BadDealing" C) (C_is_dealt : Cal P w K mg base CX0 6 "is_dealt" ["dials", "thing"] (SpR R_is_dealt)) (F : Fun K "check_dealing" "check_dealing" s_check_dealing f fd) : FnOk P w K mg base (L2.CX P w) 7 f fd ["dials", "moves"] (SpE (R_check_dealing C)) := by
  have sc : FnScope ["dials", "moves"] ["dials", "moves"] (defScope s_check_dealing) := ⟨rfl, rfl, rfl, by decide +kernel, rfl, by decide +kernel, by decide +kernel⟩
  refine F.okX sc (fun vs H Q E h => ?_) (fun cdv A outer s H vs Q E hr h => ?_)
  · obtain ⟨G, ds, z, _, hv, ⟨n, d, rfl, _⟩, _⟩ := h
    exact hv.len
  · obtain ⟨G, ds, r, wf, hv, ⟨n, d, rfl, hn, hf, rfl⟩, k, ke⟩ := h
    refine ⟨_, (pss_one (ps_if (pt_not (pt_val (pe_cal C_is_dealt (hr.mono (by decide)) pass0 (pa_cons (pv 0) (pa_cons (pv 1) pa_nil))))) (pss_one (ps_raise rfl (takes_of rfl rfl rfl rfl) (pmk_own PySem.F.excBase_ValueError B.ex B.g B.k (raises_own B.b B.t) rfl))) pss_nil)), ?_⟩
    cases hv with
    | @cons v0 vs d0 ds hv0 hn' =>
      cases hn' with
      | @cons v1 vs d1 ds hv1 hn' =>
        cases hn'
        refine s_if (G := G) (b := !isDealt n d) (b_not (b_B (d_cal (a_cons (d_var rfl hv0) (a_cons (d_var rfl hv1) a_nil)) ⟨n, d, rfl, hn, hf, rfl⟩))) wf (fun hb G1 H1 s1 => ?_) fun hb G1 H1 s1 => ?_
        · exact ke C (by rw [if_neg (by simpa using hb)]) G1 H1 s1
        · exact k .none (by rw [if_pos (by simpa using hb)]) .non G1 H1 s1 .non
theorem ok_is_dealing {f C : Addr} {fd : FuncData} (C_check_dials : Cal P w K mg base (L2.CX P w) 4 "check_dials" ["dials"] (SpE (R_check_dials C))) (C_is_dealt : Cal P w K mg base CX0 6 "is_dealt" ["dials", "thing"] (SpR R_is_dealt)) (F : Fun K "is_dealing" "is_dealing" s_is_dealing f fd) : FnOk P w K mg base (L2.CX P w) 7 f fd ["dials", "thing"] (SpE (R_is_dealing C)) := by
  have sc : FnScope ["dials", "thing"] ["dials", "thing"] (defScope s_is_dealing) := ⟨rfl, rfl, rfl, by decide +kernel, rfl, by decide +kernel, by decide +kernel⟩
  refine F.okX sc (fun vs H Q E h => ?_) (fun cdv A outer s H vs Q E hr h => ?_)
  · obtain ⟨G, ds, z, _, hv, ⟨d, e, rfl, _⟩, _⟩ := h
    exact hv.len
  · obtain ⟨G, ds, r, wf, hv, ⟨d, e, rfl, hd⟩, k, ke⟩ := h
    refine ⟨_, (pss_cons (ps_expr (pe_cal C_check_dials (hr.mono (by decide)) (passes_call (E := E) (W := fun c d _ H => E c d H) (takes_of rfl rfl rfl rfl) (fun _ _ _ _ h => h)) (pa_cons (pv 0) pa_nil))) (pss_one (ps_ret (pe_cal C_is_dealt (hr.mono (by decide)) pass0 (pa_cons (pv 0) (pa_cons (pv 1) pa_nil)))))), ?_⟩
    cases hv with
    | @cons v0 vs d0 ds hv0 hn' =>
      cases hn' with
      | @cons v1 vs d1 ds hv1 hn' =>
        cases hn'
        refine q_chk (G := G) (d := d) (d_var rfl hv0) wf (fun hb => ?_) fun hb G1 H1 s1 => ?_
        · rcases hd with ⟨n, rfl, hn, _⟩ | ⟨_, rfl⟩
          · rw [isDials_of (okB_ok (List.all_eq_true.mp few_ok _ hn))] at hb; cases hb
          · exact ke C rfl
        · rcases hd with ⟨n, rfl, hn, hf, rfl⟩ | ⟨h0, _⟩
          · exact s_ret (G := G1) (d_cal (a_cons (d_var rfl (hv0.mono s1.g)) (a_cons (d_var rfl (hv1.mono s1.g)) a_nil)) ⟨n, e, rfl, hn, hf, rfl⟩) s1.w fun v G3 H3 s3 hv => k _ rfl v G3 H3 (s1.trans s3) hv
          · rw [h0] at hb; cases hb
theorem ok_row_of {f C C' : Addr} {fd : FuncData} (Z : Zs mg) (Z_sorted : mg "sorted" = none) (C_check_dials : Cal P w K mg base (L2.CX P w) 4 "check_dials" ["dials"] (SpE (R_check_dials C))) (C_check_dealing : Cal P w K mg base (L2.CX P w) 7 "check_dealing" ["dials", "moves"] (SpE (R_check_dealing C'))) (F : Fun K "row_of" "row_of" s_row_of f fd) : FnOk P w K mg base (L2.CX P w) 8 f fd ["dials", "dealing"] (SpE (R_row_of C C')) := by
  have sc : FnScope ["dials", "dealing"] ["dials", "dealing"] (defScope s_row_of) := ⟨rfl, rfl, rfl, by decide +kernel, rfl, by decide +kernel, by decide +kernel⟩
  refine F.okX sc (fun vs H Q E h => ?_) (fun cdv A outer s H vs Q E hr h => ?_)
  · obtain ⟨G, ds, z, _, hv, ⟨d, e, rfl, _⟩, _⟩ := h
    exact hv.len
  · obtain ⟨G, ds, r, wf, hv, ⟨d, e, rfl, hd⟩, k, ke⟩ := h
    refine ⟨_, (pss_cons (ps_expr (pe_cal C_check_dials (hr.mono (by decide)) (passes_call (E := E) (W := fun c d _ H => E c d H) (takes_of rfl rfl rfl rfl) (fun _ _ _ _ h => h)) (pa_cons (pv 0) pa_nil))) (pss_cons (ps_expr (pe_cal C_check_dealing (hr.mono (by decide)) (passes_call (E := E) (W := fun c d _ H => E c d H) (takes_of rfl rfl rfl rfl) (fun _ _ _ _ h => h)) (pa_cons (pv 0) (pa_cons (pv 1) pa_nil)))) (pss_one (ps_ret (pe_callTy (r := rTupOf K) call_tuple_of (by rfl) Z.tuple (by decide +kernel) (pa_cons (pe_callB (r := rSortD K) (call_sortD hr.units) (by rfl) Z_sorted (by decide +kernel) (pa_cons (pv 1) pa_nil)) pa_nil)))))), ?_⟩
    cases hv with
    | @cons v0 vs d0 ds hv0 hn' =>
      cases hn' with
      | @cons v1 vs d1 ds hv1 hn' =>
        cases hn'
        have isd : ∀ {n}, n ∈ fewD → OkD n := fun hn => okB_ok (List.all_eq_true.mp few_ok _ hn)
        refine q_chk (G := G) (d := d) (d_var rfl hv0) wf (fun hb => ?_) fun hb G1 H1 s1 => ?_
        · rcases hd with ⟨n, M, rfl, _, hn, _⟩ | ⟨_, rfl⟩ | ⟨n, rfl, hn, _⟩
          · rw [isDials_of (isd hn)] at hb; cases hb
          · exact ke C rfl
          · rw [isDials_of (isd hn)] at hb; cases hb
        · have hv01 := hv0.mono s1.g
          have hv11 := hv1.mono s1.g
          rcases hd with ⟨n, M, rfl, rfl, hn, o, hdl, rfl⟩ | ⟨h0, _⟩ | ⟨n, rfl, hn, hf, hno, rfl⟩
          · have okd := isd hn
            have pl24 : (placesOf n).length ≤ 24 := by
              have h1 := okd.pl n.length
              rw [List.take_length] at h1
              exact h1
            have oL := o.len
            refine q_callE (G := G1) (a_cons (d_var rfl hv01) (a_cons (d_var rfl hv11) a_nil)) s1.w ⟨n, dT M, rfl, hn, by show (M.map dI).length ≤ 1000; rw [List.length_map]; omega, rfl⟩ (fun C2 hC => by rw [if_pos hdl] at hC; cases hC) fun z hz G2 H2 s2 => ?_
            exact s_ret (G := G2) (d_tupSort hn o (d_var rfl (hv11.mono s2.g))) s2.w fun v G3 H3 s3 hv => k _ rfl v G3 H3 ((s1.trans s2).trans s3) hv
          · rw [h0] at hb; cases hb
          · refine q_callE (G := G1) (a_cons (d_var rfl hv01) (a_cons (d_var rfl hv11) a_nil)) s1.w ⟨n, e, rfl, hn, hf, rfl⟩ (fun C2 hC G2 H2 s2 => ?_) fun z hz G2 H2 s2 => ?_
            · rw [if_neg (by rw [hno]; exact Bool.false_ne_true)] at hC
              cases hC
              exact ke _ rfl G2 H2 (s1.trans s2)
            · rw [if_neg (by rw [hno]; exact Bool.false_ne_true)] at hz
              cases hz
end
end Mv


/-! passing, asked with what it takes -/
namespace Mv
open PySem L2 Evl
def R_goodB (ds : List D) (z : D) : Prop := ∃ (n : List Int) (B : Bg), ds = [dI n, dctD (enc B)] ∧ n ∈ fewD ∧ BgOk n B ∧ z = .bool true
def R_okMove (ds : List D) (r : Except Addr D) : Prop := ∃ n m : List Int, ds = [dI n, dI m] ∧ n ∈ fewD ∧ InP m n ∧ r = .ok .none
def R_okFree (ds : List D) (r : Except Addr D) : Prop := ∃ (n : List Int) (B : Bg) (t y : List Int), ds = [dI n, dctD (enc B), dI t, dI y] ∧ n ∈ fewD ∧ BgOk n B ∧ InP t n ∧ InP y n ∧ t ∉ B.map (·.1) ∧ y ∉ B.map (·.1) ∧ t ≠ y ∧ r = .ok .none
def R_okPass (ds : List D) (r : Except Addr D) : Prop := ∃ z, R_pass_on ds z ∧ r = .ok z
abbrev s_is_partly_dealt : Stmt := top 31
abbrev s_check_move : Stmt := top 33
abbrev s_is_begun : Stmt := top 42
abbrev s_check_two_free : Stmt := top 43
abbrev s_passing : Stmt := top 44
theorem bg_len24 {n : List Int} (hn : n ∈ fewD) {B : Bg} (b : BgOk n B) : B.length ≤ 24 := by
  have h1 := free_len hn b
  have h2 := few24 hn
  omega
theorem keys_places {n : List Int} {B : Bg} (b : BgOk n B) : isPlaces n (.list ((enc B).map fun e => kD e.1)) = true := by
  show ((enc B).map fun e => kD e.1).all (isPlace n) = true
  unfold enc
  rw [List.map_map, List.all_map, List.all_eq_true]
  intro q hq
  show isPlace n (kD (kI q.1)) = true
  rw [kD_kI]
  exact inP_place (b.inH q hq).1
theorem vals_places {n : List Int} {B : Bg} (b : BgOk n B) : isPlaces n (.list ((enc B).map (·.2))) = true := by
  show ((enc B).map (·.2)).all (isPlace n) = true
  unfold enc
  rw [List.map_map, List.all_map, List.all_eq_true]
  intro q hq
  exact inP_place (b.inH q hq).2
theorem at_keyD {B : Bg} (hk : (B.map (·.1)).Nodup) {q : List Int × List Int} (hq : q ∈ B) : lkD (enc B) (kI q.1) = some (dI q.2) := by
  rw [lk_enc, at_key hk hq]; rfl
theorem noKey {B : Bg} {p : List Int} (h : p ∉ B.map (·.1)) : lkD (enc B) (kI p) = none := by
  rw [lk_enc, at_keyN h]; rfl
section
variable {P : Program} {w : World} {mg : Str → Option Value} {base : Heap} {K : PySem.W.Frag}
theorem ok_is_partly_dealt {f : Addr} {fd : FuncData} (Z : Zs mg) (Z_dict : mg "dict" = none) (C_are_places : Cal P w K mg base CX0 4 "are_places" ["dials", "thing"] (SpR R_are_places)) (F : Fun K "is_partly_dealt" "is_partly_dealt" s_is_partly_dealt f fd) : FnOk P w K mg base CX0 5 f fd ["dials", "thing"] (SpR R_goodB) := by
  have sc : FnScope ["dials", "thing"] ["dials", "thing"] (defScope s_is_partly_dealt) := ⟨rfl, rfl, rfl, by decide +kernel, rfl, by decide +kernel, by decide +kernel⟩
  refine F.ok sc (fun vs H Q E h => ?_) (fun cdv A outer s H vs Q E hr h => ?_)
  · obtain ⟨G, ds, z, _, hv, ⟨n, B, rfl, _⟩, _⟩ := h
    exact hv.len
  · obtain ⟨G, ds, z, wf, hv, ⟨n, B, rfl, hn, b, rfl⟩, k⟩ := h
    refine ⟨_, (pss_cons (ps_if (pt_not (pt_val (pe_callB (r := rIsiY K) call_isiY (by rfl) Z.isinstance (by decide +kernel) (pa_cons (pv 1) (pa_cons (pe_bltn (v := .ty "dict") (u := .type "dict") (by rfl) Z_dict (by decide +kernel) rfl) pa_nil))))) (pss_one (ps_ret pe_bl)) pss_nil) (pss_one (ps_ret (pe_and (pe_cal C_are_places (hr.mono (by decide)) pass0 (pa_cons (pv 0) (pa_cons (pe_callTy (r := rListK) (call_listK (by rfl)) (by rfl) Z.list (by decide +kernel) (pa_cons (pv 1) pa_nil)) pa_nil))) (pe_one (pe_cal C_are_places (hr.mono (by decide)) pass0 (pa_cons (pv 0) (pa_cons (pe_callTy (r := rListV) (call_listV (by rfl)) (by rfl) Z.list (by decide +kernel) (pa_cons (pe_vals (pv 1)) pa_nil)) pa_nil)))))))), ?_⟩
    have okd := okB_ok (List.all_eq_true.mp few_ok n hn)
    have l2 := okd.hi
    have lB := bg_len24 hn b
    cases hv with
    | @cons v0 vs d0 ds hv0 hn' =>
      cases hn' with
      | @cons v1 vs d1 ds hv1 hn' =>
        cases hn'
        refine q_when (G := G) (b := false) ((b_not (a := true) (b_B ((d_isi (c := "dict") (by simp) (d_var rfl hv1)).is rfl))).is rfl) wf (fun z => by cases z) fun _ G1 H1 s1 => ?_
        have h01 := hv0.mono s1.g
        have h11 := hv1.mono s1.g
        refine s_ret (G := G1) (d := .bool true) ((d_and (a := true) (b := true) (d_cal (a_cons (d_var rfl h01) (a_cons (d_listK (d_var rfl h11)) a_nil)) ⟨n, _, rfl, by omega, ?_, by rw [keys_places b]⟩) fun _ => d_cal (a_cons (d_var rfl h01) (a_cons (d_listV (d_var rfl h11)) a_nil)) ⟨n, _, rfl, by omega, ?_, by rw [vals_places b]⟩).is rfl) s1.w fun v G3 H3 s3 hv => k v G3 H3 (s1.trans s3) hv
        · show ((enc B).map fun e => kD e.1).length ≤ 1000
          unfold enc
          (rw [List.length_map, List.length_map]); omega
        · show ((enc B).map (·.2)).length ≤ 1000
          unfold enc
          (rw [List.length_map, List.length_map]); omega
theorem ok_check_move {f C : Addr} {fd : FuncData} (B : ExcC K mg "BadMove" C) (C_is_place : Cal P w K mg base CX0 3 "is_place" ["dials", "thing"] (SpR R_is_place)) (F : Fun K "check_move" "check_move" s_check_move f fd) : FnOk P w K mg base (L2.CX P w) 4 f fd ["dials", "move"] (SpE R_okMove) := by
  have sc : FnScope ["dials", "move"] ["dials", "move"] (defScope s_check_move) := ⟨rfl, rfl, rfl, by decide +kernel, rfl, by decide +kernel, by decide +kernel⟩
  refine F.okX sc (fun vs H Q E h => ?_) (fun cdv A outer s H vs Q E hr h => ?_)
  · obtain ⟨G, ds, z, _, hv, ⟨n, d, rfl, _⟩, _⟩ := h
    exact hv.len
  · obtain ⟨G, ds, r, wf, hv, ⟨n, m, rfl, hn, im, rfl⟩, k, ke⟩ := h
    refine ⟨_, (pss_one (ps_if (pt_not (pt_val (pe_cal C_is_place (hr.mono (by decide)) pass0 (pa_cons (pv 0) (pa_cons (pv 1) pa_nil))))) (pss_one (ps_raise rfl (takes_of rfl rfl rfl rfl) (pmk_own PySem.F.excBase_ValueError B.ex B.g B.k (raises_own B.b B.t) rfl))) pss_nil)), ?_⟩
    have l2 := (okB_ok (List.all_eq_true.mp few_ok n hn)).hi
    cases hv with
    | @cons v0 vs d0 ds hv0 hn' =>
      cases hn' with
      | @cons v1 vs d1 ds hv1 hn' =>
        cases hn'
        exact s_if (G := G) (b := false) ((b_not (a := true) (b_B (d_cal (a_cons (d_var rfl hv0) (a_cons (d_var rfl hv1) a_nil)) ⟨n, dI m, rfl, by omega, by rw [inP_place im]⟩))).is rfl) wf (fun z => by cases z) fun _ G1 H1 s1 => k .none rfl .non G1 H1 s1 .non
theorem ok_is_begun {f : Addr} {fd : FuncData} (Z : Zs mg) (C_is_partly_dealt : Cal P w K mg base CX0 5 "is_partly_dealt" ["dials", "thing"] (SpR R_goodB)) (C_is_all_different : Cal P w K mg base CX0 1 "is_all_different" ["items"] (SpR R_all_different)) (C_add : Cal P w K mg base CX0 1 "add" ["dials", "one", "other"] (SpR R_add)) (F : Fun K "is_begun" "is_begun" s_is_begun f fd) : FnOk P w K mg base CX0 6 f fd ["dials", "thing"] (SpR R_goodB) := by
  have sc : FnScope ["dials", "thing", "person"] ["dials", "thing"] (defScope s_is_begun) := ⟨rfl, rfl, rfl, by decide +kernel, rfl, by decide +kernel, by decide +kernel⟩
  refine F.ok sc (fun vs H Q E h => ?_) (fun cdv A outer s H vs Q E hr h => ?_)
  · obtain ⟨G, ds, z, _, hv, ⟨n, B, rfl, _⟩, _⟩ := h
    exact hv.len
  · obtain ⟨G, ds, z, wf, hv, ⟨n, B, rfl, hn, b, rfl⟩, k⟩ := h
    have hu := hu_of hr
    refine ⟨_, (pss_cons (ps_if (pt_not (pt_val (pe_cal C_is_partly_dealt (hr.mono (by decide)) pass0 (pa_cons (pv 0) (pa_cons (pv 1) pa_nil))))) (pss_one (ps_ret pe_bl)) pss_nil) (pss_one (ps_ret (pe_cal C_is_all_different (hr.mono (by decide)) pass0 (pa_cons (pe_lc (own := [("person", 2)]) (g := gName 2) (tt := tYes) (by rfl) sc.nd (pi_keys (pv 1)) (blkOk_by (N := ["dials", "thing", "person"]) (sc := defScope s_is_begun) (by decide +kernel)) (fun _ _ _ _ _ => (pg_name (i := 2) sc.nd rfl (Or.inl rfl))) (fun _ _ _ _ _ => pts_nil) (fun _ _ _ _ _ => (pe_cal C_add (hr.mono (by decide)) pass0 (pa_cons (pv 0) (pa_cons (pv 2) (pa_cons (pe_dget hu (pv 1) (pv 2) (fun _ _ => rfl)) pa_nil)))))) pa_nil))))), ?_⟩
    have okd := okB_ok (List.all_eq_true.mp few_ok n hn)
    have l2 := okd.hi
    have pos : ∀ s ∈ n, 0 < s := fun s hs => by have := okd.sz s hs; omega
    have lB := bg_len24 hn b
    cases hv with
    | @cons v0 vs d0 ds hv0 hn' =>
      cases hn' with
      | @cons v1 vs d1 ds hv1 hn' =>
        cases hn'
        refine q_when (G := G) (b := false) ((b_not (a := true) (b_B (d_cal (a_cons (d_var rfl hv0) (a_cons (d_var rfl hv1) a_nil)) ⟨n, B, rfl, hn, b, rfl⟩))).is rfl) wf (fun z => by cases z) fun _ G1 H1 s1 => ?_
        have h01 := hv0.mono s1.g
        have h11 := hv1.mono s1.g
        have e : made (fun _ => true) (fun e : KK × D => dI (addP n (pOf e.1) (rowD e.2))) (enc B) = (B.map (endB n)).map dI := by
          unfold made enc
          rw [List.filter_eq_self.mpr (fun _ _ => rfl), List.map_map, List.map_map]
          refine List.map_congr_left fun q _ => ?_
          show dI (addP n (pOf (kI q.1)) (rowD (dI q.2))) = dI (addP n q.1 q.2)
          rw [pOf_kI, rowD_dI]
        refine s_ret (G := G1) (d := .bool true) (d_cal (a_cons ((d_lcK (es := enc B) (fun _ => true) (fun e : KK × D => dI (addP n (pOf e.1) (rowD e.2))) (d_var rfl h11) (by unfold enc; rw [List.length_map]; omega) (fun _ => rfl) (fun _ _ _ _ _ _ => b_yes) (fun v e G3 x3 he hq _ => ?_)).is (by rw [e]; rfl)) a_nil) ⟨B.map (endB n), rfl, by rw [List.length_map]; omega, by rw [decide_eq_true b.ends]⟩) s1.w fun v G3 H3 s3 hv => k v G3 H3 (s1.trans s3) hv
        obtain ⟨q, hqB, rfl⟩ := List.mem_map.mp he
        obtain ⟨i1, i2⟩ := b.inH q hqB
        dsimp only
        rw [pOf_kI, rowD_dI]
        rw [kD_kI] at hq
        exact d_cal (a_cons (d_var rfl (h01.mono x3)) (a_cons (d_var rfl hq) (a_cons (d_dget (es := enc B) (k := kI q.1) (d_var rfl (h11.mono x3)) (by rw [kD_kI]; exact d_var rfl hq) (at_keyD b.keys hqB)) a_nil))) ⟨n, q.1, q.2, rfl, i1.len, i2.len, by omega, pos, rfl⟩
theorem ok_check_two_free {f C : Addr} {fd : FuncData} (B : ExcC K mg "BadPerson" C) (C_is_place : Cal P w K mg base CX0 3 "is_place" ["dials", "thing"] (SpR R_is_place)) (F : Fun K "check_two_free" "check_two_free" s_check_two_free f fd) : FnOk P w K mg base (L2.CX P w) 4 f fd ["dials", "begun", "first", "second"] (SpE R_okFree) := by
  have sc : FnScope ["dials", "begun", "first", "second"] ["dials", "begun", "first", "second"] (defScope s_check_two_free) := ⟨rfl, rfl, rfl, by decide +kernel, rfl, by decide +kernel, by decide +kernel⟩
  refine F.okX sc (fun vs H Q E h => ?_) (fun cdv A outer s H vs Q E hr h => ?_)
  · obtain ⟨G, ds, z, _, hv, ⟨n, B, t, y, rfl, _⟩, _⟩ := h
    exact hv.len
  · obtain ⟨G, ds, r, wf, hv, ⟨n, Bg, t, y, rfl, hn, b, it, iy, ft, fy, ne, rfl⟩, k, ke⟩ := h
    have hu := hu_of hr
    refine ⟨_, (pss_cons (ps_if (PW.pt (pw_or (pt_not (pt_val (pe_cal C_is_place (hr.mono (by decide)) pass0 (pa_cons (pv 0) (pa_cons (pv 2) pa_nil))))) (pw_or1 (pt_cmp (pc_din hu (pv 2) (pv 1)))))) (pss_one (ps_raise rfl (takes_of rfl rfl rfl rfl) (pmk_own PySem.F.excBase_ValueError B.ex B.g B.k (raises_own B.b B.t) rfl))) pss_nil) (pss_one (ps_if (PW.pt (pw_or (pt_not (pt_val (pe_cal C_is_place (hr.mono (by decide)) pass0 (pa_cons (pv 0) (pa_cons (pv 3) pa_nil))))) (pw_or (pt_cmp (pc_din hu (pv 3) (pv 1))) (pw_or1 (pt_cmpR (r := rEqD K) (op_eqD hr.units) (pv 3) (pv 2) (nomark _)))))) (pss_one (ps_raise rfl (takes_of rfl rfl rfl rfl) (pmk_own PySem.F.excBase_ValueError B.ex B.g B.k (raises_own B.b B.t) rfl))) pss_nil))), ?_⟩
    have l2 := (okB_ok (List.all_eq_true.mp few_ok n hn)).hi
    cases hv with
    | @cons v0 vs d0 ds hv0 hn' =>
      cases hn' with
      | @cons v1 vs d1 ds hv1 hn' =>
        cases hn' with
        | @cons v2 vs d2 ds hv2 hn' =>
          cases hn' with
          | @cons v3 vs d3 ds hv3 hn' =>
            cases hn'
            have isp : ∀ {te : TE} {σ : L2.St} {G' : Hp} {p : List Int} {tz : TE}, InP p n → EvD tz σ G' (dI n) → EvD te σ G' (dI p) → EvB (tNot (tB (tCall (SpR R_is_place) [] E0 (tCons tz (tCons te tNil))))) σ G' false := fun ip h0 h1 => (b_not (a := true) (b_B (d_cal (a_cons h0 (a_cons h1 a_nil)) ⟨n, _, rfl, by omega, by rw [inP_place ip]⟩))).is rfl
            refine q_when (G := G) (b := false) (b_or (a := false) (b := false) (isp it (d_var rfl hv0) (d_var rfl hv2)) fun _ => (b_test (d_din (es := enc Bg) (k := kI t) (d_var rfl hv1) (by rw [kD_kI]; exact d_var rfl hv2))).is (by rw [noKey ft]; rfl)) wf (fun z => by cases z) fun _ G1 H1 s1 => ?_
            have h01 := hv0.mono s1.g
            have h11 := hv1.mono s1.g
            have h21 := hv2.mono s1.g
            have h31 := hv3.mono s1.g
            refine s_if (G := G1) (b := false) (b_or (a := false) (b := false) (isp iy (d_var rfl h01) (d_var rfl h31)) fun _ => b_or (a := false) (b := false) ((b_test (d_din (es := enc Bg) (k := kI y) (d_var rfl h11) (by rw [kD_kI]; exact d_var rfl h31))).is (by rw [noKey fy]; rfl)) fun _ => b_test ((d_op (d_var rfl h31) (d_var rfl h21) (opd_eqI _ _)).is (by rw [eqv_dI, decide_eq_false (Ne.symm ne)]))) s1.w (fun z => by cases z) fun _ G2 H2 s2 => k .none rfl .non G2 H2 (s1.trans s2) .non
theorem ok_passing {f C C3 : Addr} {fd : FuncData} (B : ExcC K mg "BadBegun" C3) (C_check_dials : Cal P w K mg base (L2.CX P w) 4 "check_dials" ["dials"] (SpE (R_check_dials C))) (C_is_begun : Cal P w K mg base CX0 6 "is_begun" ["dials", "thing"] (SpR R_goodB)) (C_check_two_free : Cal P w K mg base (L2.CX P w) 4 "check_two_free" ["dials", "begun", "first", "second"] (SpE R_okFree)) (C_check_move : Cal P w K mg base (L2.CX P w) 4 "check_move" ["dials", "move"] (SpE R_okMove)) (C_pass_on : Cal P w K mg base CX0 2 "pass_on" ["dials", "begun", "first", "second", "move"] (SpR R_pass_on)) (F : Fun K "passing" "passing" s_passing f fd) : FnOk P w K mg base (L2.CX P w) 7 f fd ["dials", "begun", "first", "second", "move"] (SpE R_okPass) := by
  have sc : FnScope ["dials", "begun", "first", "second", "move"] ["dials", "begun", "first", "second", "move"] (defScope s_passing) := ⟨rfl, rfl, rfl, by decide +kernel, rfl, by decide +kernel, by decide +kernel⟩
  refine F.okX sc (fun vs H Q E h => ?_) (fun cdv A outer s H vs Q E hr h => ?_)
  · obtain ⟨G, ds, z, _, hv, ⟨z, ⟨n, B, t, y, m, rfl, _⟩, _⟩, _⟩ := h
    exact hv.len
  · obtain ⟨G, ds, r, wf, hv, ⟨z, ⟨n, Bg, t, y, m, rfl, hn, b, it, iy, im, ft, fy, ne, ez⟩, rfl⟩, k, ke⟩ := h
    refine ⟨_, (pss_cons (ps_expr (pe_cal C_check_dials (hr.mono (by decide)) (passes_call (E := E) (W := fun c d _ H => E c d H) (takes_of rfl rfl rfl rfl) (fun _ _ _ _ h => h)) (pa_cons (pv 0) pa_nil))) (pss_cons (ps_if (pt_not (pt_val (pe_cal C_is_begun (hr.mono (by decide)) pass0 (pa_cons (pv 0) (pa_cons (pv 1) pa_nil))))) (pss_one (ps_raise rfl (takes_of rfl rfl rfl rfl) (pmk_own PySem.F.excBase_ValueError B.ex B.g B.k (raises_own B.b B.t) rfl))) pss_nil) (pss_cons (ps_expr (pe_cal C_check_two_free (hr.mono (by decide)) (passes_call (E := E) (W := fun c d _ H => E c d H) (takes_of rfl rfl rfl rfl) (fun _ _ _ _ h => h)) (pa_cons (pv 0) (pa_cons (pv 1) (pa_cons (pv 2) (pa_cons (pv 3) pa_nil)))))) (pss_cons (ps_expr (pe_cal C_check_move (hr.mono (by decide)) (passes_call (E := E) (W := fun c d _ H => E c d H) (takes_of rfl rfl rfl rfl) (fun _ _ _ _ h => h)) (pa_cons (pv 0) (pa_cons (pv 4) pa_nil)))) (pss_one (ps_ret (pe_cal C_pass_on (hr.mono (by decide)) pass0 (pa_cons (pv 0) (pa_cons (pv 1) (pa_cons (pv 2) (pa_cons (pv 3) (pa_cons (pv 4) pa_nil)))))))))))), ?_⟩
    have okd := okB_ok (List.all_eq_true.mp few_ok n hn)
    cases hv with
    | @cons v0 vs d0 ds hv0 hn' =>
      cases hn' with
      | @cons v1 vs d1 ds hv1 hn' =>
        cases hn' with
        | @cons v2 vs d2 ds hv2 hn' =>
          cases hn' with
          | @cons v3 vs d3 ds hv3 hn' =>
            cases hn' with
            | @cons v4 vs d4 ds hv4 hn' =>
              cases hn'
              refine q_chk (G := G) (d := dI n) (d_var rfl hv0) wf (fun hb => by rw [isDials_of okd] at hb; cases hb) fun _ G1 H1 s1 => ?_
              refine q_when (G := G1) (b := false) ((b_not (a := true) (b_B (d_cal (a_cons (d_var rfl (hv0.mono s1.g)) (a_cons (d_var rfl (hv1.mono s1.g)) a_nil)) ⟨n, Bg, rfl, hn, b, rfl⟩))).is rfl) s1.w (fun z => by cases z) fun _ G2 H2 s2 => ?_
              have s02 := s1.trans s2
              refine q_callE (G := G2) (a_cons (d_var rfl (hv0.mono s02.g)) (a_cons (d_var rfl (hv1.mono s02.g)) (a_cons (d_var rfl (hv2.mono s02.g)) (a_cons (d_var rfl (hv3.mono s02.g)) a_nil)))) s2.w ⟨n, Bg, t, y, rfl, hn, b, it, iy, ft, fy, ne, rfl⟩ (fun C2 hC => by cases hC) fun z1 hz1 G3 H3 s3 => ?_
              have s03 := s02.trans s3
              refine q_callE (G := G3) (a_cons (d_var rfl (hv0.mono s03.g)) (a_cons (d_var rfl (hv4.mono s03.g)) a_nil)) s3.w ⟨n, m, rfl, hn, im, rfl⟩ (fun C2 hC => by cases hC) fun z2 hz2 G4 H4 s4 => ?_
              have s04 := s03.trans s4
              exact s_ret (G := G4) (d_cal (a_cons (d_var rfl (hv0.mono s04.g)) (a_cons (d_var rfl (hv1.mono s04.g)) (a_cons (d_var rfl (hv2.mono s04.g)) (a_cons (d_var rfl (hv3.mono s04.g)) (a_cons (d_var rfl (hv4.mono s04.g)) a_nil))))) ⟨n, Bg, t, y, m, rfl, hn, b, it, iy, im, ft, fy, ne, ez⟩) s4.w fun v G5 H5 s5 hv => k _ rfl v G5 H5 (s04.trans s5) hv
end
end Mv


namespace Mv
open PySem PySem.Spec L2 LamX PyProof.Rows

/-! ### a lambda as a value -/
/-- at f stands a lambda of this frame, its code at c'; t: what its body does -/
def LamO (X : Cx) (k : Nat) (f c' : Addr) (t : XK → TE) : HO := .ext fun h => ∃ (params : Arguments) (body : Expr) (scope : Scope) (pm ctv : Value),
  h.get? f = some (PySem.W.kla_obj "<lambda>" (X.env.qual ++ "<lambda>") params body scope (cloFrom X.env.cells scope.names []) pm c' ctv) ∧ LamS X.env.scope scope ∧
  bindArgs (PySem.W.kla_fn "<lambda>" (X.env.qual ++ "<lambda>") params body scope (cloFrom X.env.cells scope.names []) pm (.ref c') ctv) ⟨[], []⟩ = pure [] ∧
  ∀ (A : Around) (outer : List Env) (s : Shared) (H : Hp) (E : XK), Room k (A.deeper (lamEnv X scope s.heap.objs.size f c')) → PE (lamCx X A outer s H E scope f c') body (t E)
section
variable {X : Cx} {pins : List (Addr × Obj)} {σ : L2.St} {H : Hp} {s : Shared} {f : Addr} {o : HO}
/-- what is new and no record of ours is tracked from now on -/
theorem track_new {ob : Obj} (J : Inv X pins σ H s) (hf : H f = none) (n0 : X.s_0.heap.get? f = none) (np : ∀ q ∈ X.pn ++ pins, q.1 ≠ f) (nl : f ≠ X.env.locals) (nc : ∀ x c, X.env.cells.lookup x = some c → c ≠ f) (hget : s.heap.get? f = some ob) (hp : ObjOk X.prog X.w (upd H f o) s.heap f o) : Inv X pins σ (upd H f o) s := by
  have away : ∀ {b : Addr}, b ≠ f → upd H f o b = H b := fun e => upd_ne e
  have old : ∀ {b : Addr} {u : HO}, H b = some u → upd H f o b = some u := fun e => (upd_ne (ne_of_none e hf)).trans e
  refine ⟨J.ok, J.os, J.bare, ⟨J.base.keep, J.base.slot, fun b u q n x => ?_, J.base.there, fun b xs q => old (J.base.tups b xs q), fun b u v q => old (J.base.frzs b u v q), fun b ps q => (J.base.tbls b ps q).imp fun m r => old r⟩, J.loc, J.cell, ?_, fun x c q => ?_, fun q hq => ?_, J.hok.laidN (fun _ _ q => q) hf hp, J.len⟩
  · rw [away (fun z => by rw [z, n0] at q; cases q)]
    exact J.base.free b u q n x
  · rw [away nl.symm]
    exact J.free
  · rw [away (nc x c q)]
    exact J.freeC x c q
  · obtain ⟨r1, r2, r3⟩ := J.pin q hq
    exact ⟨r1, by rw [away (np q hq)]; exact r2, r3⟩
/-- what was tracked by a word of its own alone is not any more; it stands there still -/
theorem forget {φ : Heap → Prop} (J : Inv X pins σ H s) (hf : H f = some (.ext φ)) : Inv X pins σ (delH H f) s := by
  have away : ∀ {b : Addr}, b ≠ f → delH H f b = H b := fun e => delH_ne e
  have ne : ∀ {b : Addr} {u : HO}, H b = some u → (∀ ψ, u ≠ .ext ψ) → b ≠ f := fun e n z => by
    rw [z, hf] at e
    exact (n φ (Option.some.inj e).symm)
  have none_ : ∀ {b : Addr}, H b = none → delH H f b = none := fun {b} e => by
    by_cases z : b = f
    · rw [z]; exact delH_same
    · rw [away z]; exact e
  refine ⟨J.ok, J.os, J.bare, ⟨J.base.keep, J.base.slot, fun b u q n x => none_ (J.base.free b u q n x), J.base.there, fun b xs q => ?_, fun b u v q => ?_, fun b ps q => ?_⟩, J.loc, J.cell, none_ J.free, fun x c q => none_ (J.freeC x c q), fun q hq => ?_, fun b u e => ?_, J.len⟩
  · have e := J.base.tups b xs q
    rw [away (ne e fun _ z => by cases z)]; exact e
  · have e := J.base.frzs b u v q
    rw [away (ne e fun _ z => by cases z)]; exact e
  · obtain ⟨m, e⟩ := J.base.tbls b ps q
    exact ⟨m, by rw [away (ne e fun _ z => by cases z)]; exact e⟩
  · obtain ⟨r1, r2, r3⟩ := J.pin q hq
    exact ⟨r1, none_ r2, r3⟩
  · have nb : b ≠ f := fun z => by rw [z, delH_same] at e; cases e
    rw [away nb] at e
    exact (J.hok b u e).stay (fun _ _ _ q => q) (fun c q => by rw [away (ne q fun _ z => by cases z)]; exact q) fun c xs q => by rw [away (ne q fun _ z => by cases z)]; exact q
end
def tLamV (X : Cx) (k : Nat) (T : List (Addr × Str)) (t : XK → TE) : TE := fun σ H Q => Tabs T H ∧ ∀ (f c' : Addr) (H1 : Hp), ExtN H H1 → Tabs T H1 → H1 f = none → H1 c' = some (CodeO c' (X.env.qual ++ "<lambda>")) → Q (.ref f) (upd H1 f (LamO X k f c' t))
section
variable {X : Cx}
theorem pe_lam {T : List (Addr × Str)} {c P : Addr} {k : Nat} {params : Arguments} {body : Expr} {scope : Scope} {t : XK → TE} {at_ : Pos} (TB : TabB X.base X.mg c P) (hcode : X.env.code = .ref c) (hmT : (P, X.env.qual ++ "<lambda>") ∈ T) (hu : ∀ p ∈ T, p.1 = P → p.2 = X.env.qual ++ "<lambda>")
    (L : LamS X.env.scope scope) (hdef : defaultsOf params X.env = ([], [])) (hbind : ∀ (q : Str) (cl : List (Str × Addr)) (pm cv ctv : Value), bindArgs (PySem.W.kla_fn "<lambda>" q params body scope cl pm cv ctv) ⟨[], []⟩ = pure [])
    (hbody : ∀ (A : Around) (outer : List Env) (s : Shared) (H : Hp) (E : XK) (f c' : Addr), Room k (A.deeper (lamEnv X scope s.heap.objs.size f c')) → PE (lamCx X A outer s H E scope f c') body (t E)) (hex : X.ex = []) : PE X (.Lambda params body scope at_) (tLamV X k T t) := by
  refine ⟨fun pins s σ H Q I ⟨hT, h⟩ => PySem.W.kla_eval hdef ?_⟩
  obtain ⟨ps, hP, ht, ha⟩ := hT _ hmT
  have tabAt : s.heap.get? P = some { cls := .none, data := .fields ps } := I.hok P _ hP
  have bltAt : s.heap.BuiltinsAt X.mg P := TB.bm.keeps I.bk
  -- the lambda's object, whatever its code
  have fin : ∀ (h' : Heap) (tk : Nat) (c' : Addr) (pm ctv : Value) (H1 : Hp), s.heap.objs.size ≤ h'.objs.size → ExtN H H1 → Tabs T H1 → H1 h'.objs.size = none → H1 c' = some (CodeO c' (X.env.qual ++ "<lambda>")) →
      Inv X pins σ H1 { s with heap := h'.push (PySem.W.kla_obj "<lambda>" (X.env.qual ++ "<lambda>") params body scope (cloFrom X.env.cells scope.names []) pm c' ctv), toks := tk } →
      EP X pins σ Q (.ref h'.objs.size) { s with heap := h'.push (PySem.W.kla_obj "<lambda>" (X.env.qual ++ "<lambda>") params body scope (cloFrom X.env.cells scope.names []) pm c' ctv), toks := tk } := fun h' tk c' pm ctv H1 sz eN T1 n1 hco J => by
    have new_ : ∀ {b : Addr} {u : Obj}, s.heap.get? b = some u → b ≠ h'.objs.size := fun e => Nat.ne_of_lt (Nat.lt_of_lt_of_le (Heap.lt_size e) sz)
    have got := Heap.get?_push_size h' (o := PySem.W.kla_obj "<lambda>" (X.env.qual ++ "<lambda>") params body scope (cloFrom X.env.cells scope.names []) pm c' ctv) rfl
    refine ⟨.ref h'.objs.size, _, track_new (o := LamO X k h'.objs.size c' t) J n1 ?_ (fun q hq => new_ (I.pin q hq).1) ?_ (fun x c q => ?_) got ⟨⟨params, body, scope, pm, ctv, got, L, hbind _ _ _ _ _, fun A outer s H E r => hbody A outer s H E _ c' r⟩, ⟨_, got⟩, fun _ _ ⟨p1, p2, p3, p4, p5, q, r⟩ keep => ⟨p1, p2, p3, p4, p5, keep _ q, r⟩⟩, rfl, h _ c' H1 eN T1 n1 hco⟩
    · cases e : X.s_0.heap.get? h'.objs.size with
      | none => rfl
      | some u =>
        obtain ⟨u', q⟩ := I.base.there _ u e (by rw [hex]; exact List.not_mem_nil)
        exact (new_ q rfl).elim
    · intro z
      obtain ⟨m, ⟨ob, es, ep, e, r⟩, _⟩ := I.loc
      exact new_ e z.symm
    · obtain ⟨w', u, e, r⟩ := I.cell x c q
      exact new_ e
  cases hc : codeAmong at_ ps.toList with
  | some cv =>
    obtain ⟨c', rfl, hco⟩ := ha at_ cv hc
    exact PySem.W.kla_makeFunctionHit (mg := X.mg) (c := c) (P := P) (ps := ps) (closure_ok (L.has I.ok)) I.ok.glob (I.mod.glob.keeps I.bk) hcode (TB.code.keeps I.bk) tabAt ht hc bltAt fun ctv h' tk hx hsz =>
      fin h' tk c' _ ctv H hsz (ExtN.refl H) hT (I.hok.fresh hsz) hco (I.kept fun b u e => Heap.get?_push_of_some _ (hx b u e))
  | none =>
    refine PySem.W.kla_makeFunction (mg := X.mg) (c := c) (P := P) (ps := ps) (closure_ok (L.has I.ok)) I.ok.glob (I.mod.glob.keeps I.bk) hcode (TB.code.keeps I.bk) tabAt ht hc TB.gP bltAt fun c' ctv h' tk hx hge hlt hrec htb => ?_
    obtain ⟨c2, oc, us, tt, e2, hoc, hd, hv⟩ := hrec
    cases e2
    have big : s.heap.objs.size ≤ h'.objs.size := Nat.le_trans hge (Nat.le_of_lt hlt)
    have freeC : H c' = none := I.hok.fresh hge
    have J := inv_table (t' := tk) (more := #[rawInt at_.line, rawInt at_.col, .ref c']) (h' := h'.push (PySem.W.kla_obj "<lambda>" (X.env.qual ++ "<lambda>") params body scope (cloFrom X.env.cells scope.names []) ((X.mg "__name__").getD .none) c' ctv)) I hP
      (fun b u hb e => Heap.get?_push_of_some _ (hx b u hb e)) (Heap.get?_push_of_some _ htb) hge ⟨oc, us, tt, Heap.get?_push_of_some _ hoc, hd, hv⟩
    have grown : ExtN H (upd (upd H P (.tbl (ps ++ #[rawInt at_.line, rawInt at_.col, .ref c']))) c' (CodeO c' (X.env.qual ++ "<lambda>"))) := fun b u e n => by
      rw [upd_ne (ne_of_none e freeC), upd_ne (fun z => n ps (Option.some.inj (e.symm.trans (by rw [z]; exact hP))))]
      exact e
    have list_ : (ps ++ #[rawInt at_.line, rawInt at_.col, .ref c']).toList = ps.toList ++ [rawInt at_.line, rawInt at_.col, .ref c'] := by simp
    refine fin h' tk c' _ ctv _ big grown (fun p hp => ?_) ?_ upd_same J
    · by_cases hb : p.1 = P
      · rw [hu p hp hb, hb]
        refine ⟨_, by rw [upd_ne (ne_of_none hP freeC), upd_same], by rw [list_]; exact PySem.TriplesOk_snoc _ _ _ _ ht, fun p' cv hcv => ?_⟩
        rw [list_] at hcv
        rcases (among_app _ ht hcv) with z | z
        · obtain ⟨c0, e1, e2⟩ := (ha p' cv z)
          exact ⟨c0, e1, grown _ _ e2 codeO_ne⟩
        · exact ⟨c', z, upd_same⟩
      · obtain ⟨ps', a1, a2, a3⟩ := (hT p hp)
        refine ⟨ps', by rw [upd_ne (ne_of_none a1 freeC), upd_ne hb]; exact a1, a2, fun p' cv hcv => ?_⟩
        obtain ⟨c0, e1, e2⟩ := (a3 p' cv hcv)
        exact ⟨c0, e1, grown _ _ e2 codeO_ne⟩
    · rw [upd_ne (Nat.ne_of_gt hlt), upd_ne (Nat.ne_of_gt (Nat.lt_of_lt_of_le (Heap.lt_size tabAt) big))]
      exact I.hok.fresh big
/-- x(w), w a slot that holds a lambda -/
theorem pe_lamvar {TT : (XK → Hp → VK → Prop) → Hp → VK → Prop} {x a wn : Str} {g : Addr} {k i : Nat} {pg : Arguments} {bg : List Stmt} {sg : Scope} {dV kV doc pm cdv ct oc : Value} {an od : Option Addr} {osl : Array (Option Value)} {Ng : List Str}
    {p pw pos : Pos} (hg : Gl X x) (hm : X.mg x = some (.ref g)) (hk : PySem.W.keepIn X.K (.ref g) = true) (lk : X.K.lookup g = some ⟨oc, od, .func (PySem.W.fnOf x x pg bg sg dV kV doc pm an cdv ct), osl⟩) (hcg : PySem.W.codeIn X.K cdv x = true) (hb : L2.Binds X.K (PySem.W.fnOf x x pg bg sg dV kV doc pm an cdv ct) [a] [])
    (Sg : FnScope Ng [a] sg) (hNg : Ng[0]? = some a) (hva : Vis sg a) (hG : GivesTo X Ng x sg g cdv bg a (X.env.qual ++ "<lambda>") TT) (hr : Room (k + 2) X.A) (hex : X.ex = []) (hw : PE X (.Name wn pw) (tVar i))
    (hdb : (x == ("__debug__" : Str)) = false := by decide) (hd : (a == ("__debug__" : Str)) = false := by decide) (hcd : (a == ("__classdict__" : Str)) = false := by decide) :
    PE X (.Call (.Name x p) [.Name wn pw] [] pos) (fun σ H Q => ∃ (f c' : Addr) (t : XK → TE), σ[i]? = some (some (.ref f)) ∧ H f = some (LamO X k f c' t) ∧ H c' = some (CodeO c' (X.env.qual ++ "<lambda>")) ∧ TT (fun E H' Q' => t E σ H' Q') (delH H f) Q) := by
  refine ⟨fun pins s σ H Q I ⟨f, c', t, hs, hf, hc, ht⟩ => wpAny_Call_Name_kw (ld_glob I hg hm ?_ hdb)⟩
  refine PySem.W.callWith_K (h₀ := X.base) I.ok.mod.kin hk (thn ((pa_cons hw pa_nil).run pos pins s σ H (fun vs H1 => vs = [.ref f] ∧ H1 = H) I ⟨.ref f, hs, rfl, rfl⟩) fun us s1 ⟨vs, H1, I1, rv, ev, eH⟩ => ⟨I1.kIn, ?_⟩) (by rfl) (by rfl)
  subst ev eH
  cases rv with
  | cons r1 rn =>
    cases rn
    obtain rfl := r1
    obtain ⟨⟨params, body, scope, pm', ctv, hget, L, hbind, hbody⟩, _, _⟩ := I1.hok f _ hf
    have J : Inv X pins σ (delH H1 f) s1 := forget I1 hf
    have hc2 : delH H1 f c' = some (CodeO c' (X.env.qual ++ "<lambda>")) := by
      by_cases z : c' = f
      · -- an object of code is no lambda
        exfalso
        obtain ⟨⟨o1, v1, t1, e1, d1, _⟩, _, _⟩ := I1.hok c' _ hc
        rw [z, hget] at e1
        cases e1
        cases d1
      · rw [delH_ne z]; exact hc
    have off : f ∉ frs X.stack := fun z => by
      have := I1.stkFree f z
      rw [hf] at this
      cases this
    have run : codeAny (model X.prog X.w) X.A (.call (.ref g) ⟨[.ref f], []⟩) (CR C8.CX0 X.stack X.prog X.w (delH H1 f) s1 Q C8.E0) s1 := by
      refine run_ofS (N := Ng) (ps := [a]) (us := [.ref f]) (vs := [.ref f]) lk hcg Sg hr J.env0 (hb s1 [.ref f] J.kIn rfl) (.cons rfl .nil) rfl fun hr2 => ?_
      obtain ⟨t', h1, h2⟩ := hG f c' s1 (delH H1 f) Q (fun E H' Q' => t E σ H' Q') (fun W pn xe E p1 p2 tk hW => pe_act (i := 0) J L hget delH_same off hbind tk hW hr2 (fun A outer s H r => hbody A outer s H E r) hNg hva hd hcd) hc2 ht
      exact ⟨t', h1.nox, h2⟩
    refine wpAny_call (codeAny_mono run fun r s2 hq => ?_)
    cases r with
    | error e => exact (show False from hq).elim
    | ok fl =>
      cases fl with
      | ret u => exact J.after hq
      | next => exact False.elim hq
      | brk => exact False.elim hq
      | cont => exact False.elim hq
end
end Mv


namespace Mv
open PySem L2 LamX Evl
/-! ### keywords in another order -/
structure CalS (P : Program) (w : World) (K : PySem.W.Frag) (mg : Str → Option Value) (base : Heap) (CX : CXT) (k : Nat) (x : Str) (p1 p2 : Str) (sp : Sp) : Prop where
  ex : ∃ (f : Addr) (fd : FuncData), FnOk P w K mg base CX k f fd [p1, p2] sp ∧ mg x = some (.ref f) ∧ PySem.W.keepIn K (.ref f) = true ∧ ∀ u v : Value, bindArgs fd ⟨[], [(p2, v), (p1, u)]⟩ = pure [(p1, u), (p2, v)]
def tCallS (sp : Sp) (E : XK) (t : TA) : TE := fun σ H Q => t σ H fun vs H1 => ∃ a b, vs = [a, b] ∧ sp [b, a] H1 Q E
theorem pe_calks {X : Cx} {CX : CXT} {k : Nat} {x p1 p2 : Str} {sp : Sp} {E : XK} {p pos : Pos} {kws : List Keyword} {t : TA} (C : CalS X.prog X.w X.K X.mg X.base CX k x p1 p2 sp) (hr : Room k X.A) (hx : Passes CX X E) (ha : PK X kws t)
    (hg : Gl X x := by rfl) (hall : (backToKw pos (keywordEach kws X.env)).all (·.1.isSome) = true := by rfl) (hks : (backToKw pos (keywordEach kws X.env)).filterMap (·.1) = [p2, p1] := by rfl) (hdb : (x == ("__debug__" : Str)) = false := by decide)
    (hpl : ((backTo pos (starEach [] X.env)).any (·.1) || (backToKw pos (keywordEach kws X.env)).any (·.1.isNone)) = false := by rfl) : PE X (.Call (.Name x p) [] kws pos) (tCallS sp E t) := by
  obtain ⟨f, fd, F, hm, hk, hb⟩ := C.ex
  refine ⟨fun pins s σ H Q I h => wpAny_Call_Name_kw (ld_glob I hg hm ?_ hdb)⟩
  refine PySem.W.callWith_KW0 (h₀ := X.base) I.ok.mod.kin hk hall (thn (ha.run pos pins s σ H _ I h) fun ws s2 ⟨zs, H2, I2, rz, a, b, ez, q2⟩ => ⟨I2.kIn, ?_⟩) hpl
  rw [hks]
  subst ez
  obtain ⟨ua, ub, rfl, ra, rb⟩ := vals2 rz
  refine wpAny_call (codeAny_mono (F.run X.A X.stack s2 H2 ⟨[], [p2, p1].zip [ua, ub]⟩ [ub, ua] [b, a] Q E hr I2.env0 (.of_eq (hb ub ua)) (.cons rb (.cons ra .nil)) q2) fun r s' hq => ?_)
  cases r with
  | error e => exact hx pins σ H2 s2 e s' I2 hq
  | ok fl =>
    cases fl with
    | ret u => exact I2.after hq
    | next => exact False.elim hq
    | brk => exact False.elim hq
    | cont => exact False.elim hq
theorem d_calS {G : Hp} {σ : L2.St} {R : List D → Except Addr D → Prop} {E : XK} {tr : TA} {d e z : D} (h : EvS tr σ G [d, e]) (hp : R [e, d] (.ok z)) : EvD (tCallS (SpE R) E tr) σ G z := fun G1 H1 x w Q q =>
  h G1 H1 x w _ fun vs G2 H2 s hvs => by
    cases hvs with
    | cons h1 hn =>
      cases hn with
      | cons h2 hn =>
        cases hn
        exact ⟨_, _, rfl, G2, [e, d], _, s.w, .cons h2 (.cons h1 .nil), hp, fun z' hz v G3 H3 s3 hv => by cases hz; exact q v G3 H3 (s.trans s3) hv, fun C hC => nomatch hC⟩
/-! ### a new list, held apart from what is known -/
/-- what the promise of a def without effect tells of a list that it returns: if nothing but one tuple was known, the list is new -/
theorem new_list {G0 H G2 H2 : Hp} {ad : Addr} {ts : List V} {a : Addr} {xs : List V} (h0 : ∀ b o, G0 b = some o → b = ad ∧ o = .tup ts) (s : Stp G0 H G2 H2) (h : G2 a = some (.lst xs)) : H a = none := by
  cases e : H a with
  | none => rfl
  | some o =>
    cases g : G0 a with
    | none =>
      have := s.n a g (by rw [e]; intro z; cases z) fun ys z => by
        have q := s.h _ _ z
        rw [s.w _ _ h] at q
        cases q
      rw [this] at h; cases h
    | some u =>
      obtain ⟨rfl, rfl⟩ := h0 a u g
      have := s.g _ _ g
      rw [this] at h; cases h
/-- what is known, and what a call has laid beside, but for the list at a -/
def besides (G G2 : Hp) (a : Addr) : Hp := fun b => match G b with
  | some o => some o
  | none => if b = a then none else G2 b
theorem besides_old {G G2 : Hp} {a : Addr} : Ex G (besides G G2 a) := fun b o q => by
  unfold besides
  rw [q]
theorem besides_at {G G2 : Hp} {a b : Addr} {o : HO} (h : besides G G2 a b = some o) : G b = some o ∨ (G b = none ∧ b ≠ a ∧ G2 b = some o) := by
  unfold besides at h
  cases e : G b with
  | some u => rw [e] at h; exact .inl h
  | none =>
    rw [e] at h
    by_cases z : b = a
    · simp only [z, if_true] at h; cases h
    · simp only [if_neg z] at h; exact .inr ⟨rfl, z, h⟩
theorem besides_stp {G H G0 G2 H2 : Hp} {a : Addr} (w : Ex G H) (sub : Ex G0 G) (s : Stp G0 H G2 H2) (ha : H a = none) : Stp G H (besides G G2 a) H2 ∧ besides G G2 a a = none := by
  have ga : G a = none := fresh_back w ha
  refine ⟨⟨besides_old, s.h, fun b o q => ?_, fun b h1 h2 h3 => ?_⟩, ?_⟩
  · rcases besides_at q with z | ⟨_, _, z⟩
    · exact s.h _ _ (w _ _ z)
    · exact s.w _ _ z
  · cases e : besides G G2 a b with
    | none => rfl
    | some o =>
      rcases besides_at e with z | ⟨_, _, z⟩
      · rw [h1] at z; cases z
      · have g0 : G0 b = none := by
          cases g : G0 b with
          | none => rfl
          | some u => have := sub _ _ g; rw [h1] at this; cases this
        rw [s.n b g0 h2 h3] at z; cases z
  · unfold besides
    rw [ga]
    simp
/-- data of tuples alone stand there as well -/
theorem besides_rows {G H G0 G2 H2 : Hp} {a : Addr} {ys : List V} (w : Ex G H) (sub : Ex G0 G) (s : Stp G0 H G2 H2) (ha : G2 a = some (.lst ys)) {v : V} {n : List Int} (h : Dq G2 v (dI n)) : Dq (besides G G2 a) v (dI n) := by
  cases h with
  | @tup t xs _ ht hxs =>
    have e := hxs.ints
    subst e
    refine .tup ?_ (DqA.ofInts n)
    unfold besides
    cases g : G t with
    | some o =>
      have h1 := s.h _ _ (w _ _ g)
      rw [s.w _ _ ht] at h1
      exact h1.symm
    | none =>
      have : t ≠ a := fun z => by rw [z, ha] at ht; cases ht
      simp only [if_neg this]
      exact ht
def only (H : Hp) (a : Addr) : Hp := fun b => if b = a then H a else none
theorem only_ex {H : Hp} {a : Addr} : Ex (only H a) H := fun b o q => by
  unfold only at q
  by_cases hb : b = a
  · rw [if_pos hb] at q
    rw [hb]; exact q
  · rw [if_neg hb] at q; cases q
theorem only_seq {K : PySem.W.Frag} {H H' : Hp} {a : Addr} {xs : List V} (h : SqL K H a xs) (e : Ex (only H a) H') : SqL K H' a xs := by
  have g : only H a a = H a := if_pos rfl
  rcases h with (z | ⟨o, z⟩) | z
  · exact .inl (.inl (e _ _ (g.trans z)))
  · exact .inl (.inr ⟨o, e _ _ (g.trans z)⟩)
  · exact .inr z
theorem Wd.low {G G0 H : Hp} {s l c : Addr} {T T' : Int} (x : Wd G H s l c T) (e : Ex G0 G) (h : T ≤ T') : Wd G0 H s l c T' := ⟨e.trans x.w, x.st.ge h, fresh_back e x.gs, fresh_back e x.gl, fresh_back e x.gc⟩
theorem tabs_keep {T : List (Addr × Str)} {H H' : Hp} (t : Tabs T H) (k : ∀ b o, ((∃ ps, o = .tbl ps) ∨ ∃ φ, o = .ext φ) → H b = some o → H' b = some o) : Tabs T H' := fun p hp => by
  obtain ⟨ps, h1, h2, h3⟩ := t p hp
  refine ⟨ps, k _ _ (.inl ⟨ps, rfl⟩) h1, h2, fun pos cv hc => ?_⟩
  obtain ⟨c, e1, e2⟩ := (h3 pos cv hc)
  exact ⟨c, e1, k _ _ (.inr ⟨_, rfl⟩) e2⟩
theorem st_apart {H : Hp} {s l c b : Addr} {T : Int} {o : HO} (x : StAt H s l c T) (h : H b = some o) (n : (∃ ps, o = .tbl ps) ∨ ∃ φ, o = .ext φ) : b ∉ [s, l, c] := by
  obtain ⟨⟨lg, cs, left, turn, h1, h2, h3, _⟩, _⟩ := x
  simp only [List.mem_cons, List.not_mem_nil, or_false, not_or]
  rcases n with ⟨ps, rfl⟩ | ⟨φ, rfl⟩
  · exact ⟨ne_of h h1 (by intro z; cases z), ne_of h h2 (by intro z; cases z), ne_of h h3 (by intro z; cases z)⟩
  · exact ⟨ne_of h h1 (by intro z; cases z), ne_of h h2 (by intro z; cases z), ne_of h h3 (by intro z; cases z)⟩
theorem tabs_sts {T : List (Addr × Str)} {G H G' H' : Hp} {s l c : Addr} {T0 : Int} (t : Tabs T H) (x : StAt H s l c T0) (ss : StS [s, l, c] G H G' H') : Tabs T H' := tabs_keep t fun b o n h => ss.h b o (st_apart x h n) h
theorem Wd.extN {G H H1 : Hp} {s l c : Addr} {T : Int} (x : Wd (noT G) H s l c T) (e : ExtN H H1) : Wd (noT G) H1 s l c T := by
  obtain ⟨⟨⟨lg, cs, left, turn, h1, h2, h3, h⟩, q⟩, _⟩ := id (And.intro x.st trivial)
  exact ⟨fun b o z => e b o (x.w b o z) (of_noT z).2, ⟨⟨lg, cs, left, turn, e _ _ h1 (fun _ z => by cases z), e _ _ h2 (fun _ z => by cases z), e _ _ h3 (fun _ z => by cases z), h⟩, q⟩, x.gs, x.gl, x.gc⟩
theorem Wd.del {G H : Hp} {s l c f : Addr} {T : Int} {φ : Heap → Prop} (x : Wd G H s l c T) (gf : G f = none) (hf : H f = some (.ext φ)) : Wd G (delH H f) s l c T := by
  have na := st_apart x.st hf (.inr ⟨φ, rfl⟩)
  simp only [List.mem_cons, List.not_mem_nil, or_false, not_or] at na
  obtain ⟨⟨⟨lg, cs, left, turn, h1, h2, h3, h⟩, q⟩, _⟩ := id (And.intro x.st trivial)
  refine ⟨fun b o z => ?_, ⟨⟨lg, cs, left, turn, by rw [delH_ne (Ne.symm na.1)]; exact h1, by rw [delH_ne (Ne.symm na.2.1)]; exact h2, by rw [delH_ne (Ne.symm na.2.2)]; exact h3, h⟩, q⟩, x.gs, x.gl, x.gc⟩
  have nb : b ≠ f := fun e => by rw [e, gf] at z; cases z
  rw [delH_ne nb]
  exact x.w b o z
section
variable {K : PySem.W.Frag} {σ : L2.St} {G H : Hp} {D' : Ends} {tu tz : TS}
theorem q_forRW {ta : TA} {j : Nat} {n : Nat} (h : EvS ta σ G [.int (n : Int)]) (hz : n ≤ 1000000) (w : Ex G H) (Iv : Nat → L2.St → Hp → Prop) (h0 : ∀ G1 H1, Stp G H G1 H1 → Iv 0 σ H1)
    (hs : ∀ (i : Nat) σ' H2, i < n → Iv i σ' H2 → tu { D' with nx := Iv (i + 1), ct := Iv (i + 1), bk := tz D' } (σ'.set j (some (.int (i : Int)))) H2)
    (hd : ∀ σ' H2, Iv n σ' H2 → tz D' σ' H2) : tSeq (tFor (iRng1 ta) (gName j) tu) tz D' σ H := h G H (.refl G) w _ fun us G1 H1 s hv => by
  cases hv with
  | cons hv hn =>
    cases hn
    cases hv
    refine ⟨(n : Int), rfl, by omega, by omega, ?_⟩
    have hn' : ((n : Int)).toNat = n := by omega
    rw [hn']
    refine for_range (D := { D' with nx := tz D' }) (lo := 0) (n := n) (fun i σ' H' => Iv i σ' H') (h0 G1 H1 s) ?_ ?_
    · rintro i σ' H' hi p
      have e0 : ((0 : Int) + (i : Int) = (i : Int)) := Int.zero_add _
      show tu { D' with nx := Iv (i + 1), ct := Iv (i + 1), bk := tz D' } (σ'.set j (some (.int ((0 : Int) + (i : Int))))) H'
      rw [e0]
      exact hs i σ' H' hi p
    · rintro σ' H' p
      exact hd σ' H' p
end
theorem rows_besides {G H G0 G2 H2 : Hp} {a : Addr} {ys zs : List V} (w : Ex G H) (sub : Ex G0 G) (s : Stp G0 H G2 H2) (ha : G2 a = some (.lst ys)) : ∀ {l : List (List Int)}, DqA G2 zs (l.map dI) → DqA (besides G G2 a) zs (l.map dI) := by
  intro l
  induction l generalizing zs with
  | nil => intro h; cases h; exact .nil
  | cons n l ih =>
    intro h
    cases h with
    | cons h1 h2 => exact .cons (besides_rows w sub s ha h1) (ih h2)
theorem flat_L (l : List (List Int)) : flatD (dL l) = true := by
  have : ∀ l : List (List Int), flatDs (l.map dI) = true := fun l => by
    induction l with
    | nil => rfl
    | cons a l ih => rw [List.map_cons, flatDs, flat_dI, ih]; rfl
  show flatD (.list (l.map dI)) = true
  simpa [flatD] using this l
theorem noD_ints (l : List Int) : PyData.hasDictAll (l.map PyData.int) = false := by
  induction l with
  | nil => rfl
  | cons i l ih => rw [List.map_cons, PyData.hasDictAll, PyData.hasDict, ih]; rfl
theorem noD_rows (l : List (List Int)) : PyData.hasDictAll (l.map dI) = false := by
  induction l with
  | nil => rfl
  | cons i l ih =>
    have h : PyData.hasDict (dI i) = false := by unfold dI; rw [PyData.hasDict]; exact noD_ints i
    rw [List.map_cons, PyData.hasDictAll, h, ih]; rfl
theorem deep_rows (l : List (List Int)) : PyData.depthAll (l.map dI) ≤ 2 := by
  induction l with
  | nil => rw [List.map_nil, PyData.depthAll]; omega
  | cons i l ih =>
    have h : PyData.depth (dI i) ≤ 2 := by
      unfold dI
      rw [PyData.depth]
      have := depth_ints i
      omega
    (rw [List.map_cons, PyData.depthAll])
    omega
theorem lam_ne_code {X : Cx} {k : Nat} {f c' : Addr} {t : XK → TE} {q : Str} : LamO X k f c' t ≠ CodeO f q := fun z => by
  have z2 := congrFun (HO.ext.inj z) (⟨Array.replicate (f + 1) { cls := .none, data := .fields #[.none, .str q 0] }, {}⟩ : Heap)
  have got : Heap.get? (⟨Array.replicate (f + 1) { cls := .none, data := .fields #[.none, .str q 0] }, {}⟩ : Heap) f = some { cls := .none, data := .fields #[.none, .str q 0] } := by
    unfold Heap.get?
    simp
  have yes := z2.mpr ⟨_, _, 0, got, rfl, rfl⟩
  obtain ⟨_, _, _, _, _, e, _⟩ := yes
  rw [got] at e
  cases e
theorem tabs_del {T : List (Addr × Str)} {H : Hp} {X : Cx} {k : Nat} {f c' : Addr} {t : XK → TE} (x : Tabs T H) (hf : H f = some (LamO X k f c' t)) : Tabs T (delH H f) := fun p hp => by
  obtain ⟨ps, h1, h2, h3⟩ := x p hp
  refine ⟨ps, ?_, h2, fun pos cv hc => ?_⟩
  · rw [delH_ne (fun z => by rw [z, hf] at h1; cases h1)]; exact h1
  · obtain ⟨c, e1, e2⟩ := h3 pos cv hc
    refine ⟨c, e1, ?_⟩
    rw [delH_ne (fun z => by rw [z, hf] at e2; exact lam_ne_code (Option.some.inj e2))]; exact e2
def oneT (ad : Addr) (ts : List V) : Hp := fun b => if b = ad then some (.tup ts) else none
theorem oneT_in {ad b : Addr} {ts : List V} {o : HO} (h : oneT ad ts b = some o) : b = ad ∧ o = .tup ts := by
  unfold oneT at h
  by_cases z : b = ad
  · rw [if_pos z] at h; exact ⟨z, (Option.some.inj h).symm⟩
  · rw [if_neg z] at h; cases h
theorem oneT_ex {ad : Addr} {ts : List V} {G : Hp} (h : G ad = some (.tup ts)) : Ex (oneT ad ts) G := fun b o q => by
  obtain ⟨rfl, rfl⟩ := oneT_in q
  exact h
theorem noDL (l : List (List Int)) : PyData.hasDict (dL l) = false := by
  show PyData.hasDict (.list (l.map dI)) = false
  rw [PyData.hasDict]; exact noD_rows l
theorem noDL2 (l : List (List Int)) : PyData.hasDict (.list [dL l, dL l]) = false := by
  rw [PyData.hasDict, PyData.hasDictAll, PyData.hasDictAll, PyData.hasDictAll, noDL]; rfl
theorem deepL (l : List (List Int)) : PyData.depth (dL l) ≤ 3 := by
  show PyData.depth (.list (l.map dI)) ≤ 3
  rw [PyData.depth]
  have := deep_rows l
  omega
theorem deepL2 (l : List (List Int)) : PyData.depth (.list [dL l, dL l]) ≤ 64 := by
  rw [PyData.depth, PyData.depthAll, PyData.depthAll, PyData.depthAll]
  have := deepL l
  omega
theorem flatL2 (l : List (List Int)) : flatD (.list [dL l, dL l]) = true := by
  have := flat_L l
  simp [flatD, flatDs, this]
/-! ### a list of lambdas, each of which raises -/
abbrev Lams := List (Addr × Addr × (XK → TE))
def tLams (X : Cx) (k : Nat) (T : List (Addr × Str)) : List (XK → TE) → TA
  | [] => tNil
  | t :: ts => tCons (tLamV X k T t) (tLams X k T ts)
/-- the lambda's body raises an error of the class at C, from whatever knows GN -/
def RaisesL (t : XK → TE) (σ : L2.St) (GN : Hp) (C : Addr) : Prop := ∀ (H : Hp) (E : XK) (Q : VK), Ex GN H → (∀ G7 H7, Stp GN H G7 H7 → E (.ref C) none H7) → t E σ H Q
structure LamAt (X : Cx) (k : Nat) (q : Str) (H : Hp) (x : Addr × Addr × (XK → TE)) : Prop where
  l : H x.1 = some (LamO X k x.1 x.2.1 x.2.2)
  c : H x.2.1 = some (CodeO x.2.1 q)
structure LamsOk (X : Cx) (k : Nat) (q : Str) (GN H : Hp) (L : Lams) : Prop where
  at_ : ∀ x ∈ L, LamAt X k q H x
  nd : (L.map (·.1)).Nodup
  g : ∀ x ∈ L, GN x.1 = none
theorem lams_made {X : Cx} {k : Nat} {T : List (Addr × Str)} {G : Hp} {s l c : Addr} {T0 : Int} {σ : L2.St} :
    ∀ (ts : List (XK → TE)) (L : Lams) (H : Hp) (Q : List V → Hp → Prop), Tabs T H → Wd (noT G) H s l c T0 → LamsOk X k (X.env.qual ++ "<lambda>") (noT G) H L →
      (∀ (L2 : Lams) (H2 : Hp), L2.map (·.2.2) = ts → Tabs T H2 → Wd (noT G) H2 s l c T0 → LamsOk X k (X.env.qual ++ "<lambda>") (noT G) H2 (L ++ L2) → Q (L2.map fun x => V.ref x.1) H2) → tLams X k T ts σ H Q
  | [], L, H, Q, tab, wd, ok, q => q [] H rfl tab wd (by rw [List.append_nil]; exact ok)
  | t :: ts, L, H, Q, tab, wd, ok, q => by
    refine ⟨tab, fun f1 c1 A1 eN TA n1 hc1 => ?_⟩
    have wdA := wd.extN eN
    have keepA : ∀ x ∈ L, LamAt X k (X.env.qual ++ "<lambda>") (upd A1 f1 (LamO X k f1 c1 t)) x := fun x hx => by
      have h1 := eN _ _ (ok.at_ x hx).l (fun ps z => by unfold LamO at z; cases z)
      have h2 := eN _ _ (ok.at_ x hx).c codeO_ne
      exact ⟨by rw [upd_ne (ne_of_none h1 n1)]; exact h1, by rw [upd_ne (ne_of_none h2 n1)]; exact h2⟩
    have newAt : LamAt X k (X.env.qual ++ "<lambda>") (upd A1 f1 (LamO X k f1 c1 t)) (f1, c1, t) := ⟨upd_same, (upd_ne (ne_of_none hc1 n1)).trans hc1⟩
    have apart : ∀ x ∈ L, x.1 ≠ f1 := fun x hx => ne_of_none (eN _ _ (ok.at_ x hx).l (fun ps z => by unfold LamO at z; cases z)) n1
    refine lams_made (G := G) (s := s) (l := l) (c := c) (T0 := T0) ts (L ++ [(f1, c1, t)]) _ _ (tabs_keep TA fun b o _ h => by rw [upd_ne (ne_of_none h n1)]; exact h) (wdA.stp (Stp.old wdA.w (.new n1))) ⟨fun x hx => ?_, ?_, fun x hx => ?_⟩ fun L2 H2 e tab2 wd2 ok2 => ?_
    · rcases List.mem_append.mp hx with h | h
      · exact keepA x h
      · rw [List.mem_singleton.mp h]; exact newAt
    · (rw [List.map_append, List.nodup_append])
      refine ⟨ok.nd, by simp, fun a ha b hb => ?_⟩
      obtain ⟨x, hx, rfl⟩ := List.mem_map.mp ha
      simp only [List.map_cons, List.map_nil, List.mem_singleton] at hb
      rw [hb]
      exact apart x hx
    · rcases List.mem_append.mp hx with h | h
      · exact ok.g x h
      · rw [List.mem_singleton.mp h]; exact fresh_back wdA.w n1
    · exact q ((f1, c1, t) :: L2) H2 (by rw [List.map_cons, e]) tab2 wd2 (by rw [List.append_assoc] at ok2; exact ok2)
/-- for w in [lambda: .., ..]: if not isinstance(caught(w), C): return False -/
theorem q_lams {X : Cx} {K : PySem.W.Frag} {k wi : Nat} {T : List (Addr × Str)} {G H : Hp} {s l c C C0 : Addr} {T0 : Int} {σ : L2.St} {D' : Ends} {tz tu : TS} {ts : List (XK → TE)}
    (tab : Tabs T H) (wd : Wd (noT G) H s l c T0) (hn : ts.length ≤ 1000) (hw : wi < σ.length) (hex : PySem.W.exmOne K (.ref C) (.ref C0) = some true) (hki : PySem.W.kitOne K (.ref C) (.ref C) = some true) (hr : ∀ t ∈ ts, ∀ o, RaisesL t (σ.set wi o) (noT G) C)
    (hd : ∀ o H2, Tabs T H2 → Wd (noT G) H2 s l c T0 → tz D' (σ.set wi o) H2) :
    tSeq (tFor (iList K (tLst (tLams X k T ts))) (gName wi) (tIfS (tNot (tB (tCB (rIsK K C) (tCons (fun σ H Q => ∃ (f c' : Addr) (t : XK → TE), σ[wi]? = some (some (.ref f)) ∧ H f = some (LamO X k f c' t) ∧ H c' = some (CodeO c' (X.env.qual ++ "<lambda>")) ∧ TTc K C0 (fun E H' Q' => t E σ H' Q') (delH H f) Q) (tCons (tC (.ref C)) tNil))))) tu tNext)) tz D' σ H := by
  refine lams_made (G := G) (s := s) (l := l) (c := c) (T0 := T0) ts [] H _ tab wd ⟨(fun _ h => nomatch h), List.Pairwise.nil, (fun _ h => nomatch h)⟩ fun L H2 eL tab2 wd2 ok2 => ?_
  rw [List.nil_append] at ok2
  have lenL : L.length = ts.length := by rw [← eL, List.length_map]
  refine ⟨by rw [List.length_map, lenL, sizeLine_eq]; omega, fun p hp => ⟨p, rfl, ⟨_, SqL.of upd_same⟩, ?_⟩⟩
  have gp : noT G p = none := fresh_back wd2.w hp
  refine for_list (D := { D' with nx := tz D' }) (xs := L.map fun x => V.ref x.1) (fun (j : Nat) (σ' : L2.St) (H' : Hp) => (∃ o, σ' = σ.set wi o) ∧ Wd (noT G) H' s l c T0 ∧ Tabs T H' ∧ H' p = some (.lst (L.map fun x => V.ref x.1)) ∧ ∀ i x, j ≤ i → L[i]? = some x → LamAt X k (X.env.qual ++ "<lambda>") H' x)
    ⟨⟨σ[wi], by rw [List.set_getElem_self]⟩, wd2.stp (Stp.old wd2.w (.new hp)), tabs_keep tab2 fun b o _ h => (by rw [upd_ne (ne_of_none h hp)]; exact h), upd_same, fun i x _ hx => ?_⟩ (fun j σ' H' _ inv => SqL.of inv.2.2.2.1) ?_ ?_
  · have h := ok2.at_ x (List.mem_of_getElem? hx)
    exact ⟨by rw [upd_ne (ne_of_none h.l hp)]; exact h.l, by rw [upd_ne (ne_of_none h.c hp)]; exact h.c⟩
  · rintro j v σ' H' hj ⟨⟨o, rfl⟩, wd3, tab3, hp3, hL⟩
    rw [List.getElem?_map] at hj
    obtain ⟨x, hx, rfl⟩ := Option.map_eq_some_iff.mp hj
    have hxm := List.mem_of_getElem? hx
    have hA := hL j x (Nat.le_refl _) hx
    have htm : x.2.2 ∈ ts := by rw [← eL]; exact List.mem_map.mpr ⟨x, hxm, rfl⟩
    have wdD := wd3.del (ok2.g x hxm) hA.l
    dsimp only [gName]
    rw [List.set_set]
    refine ⟨x.1, x.2.1, x.2.2, by rw [List.getElem?_set_self hw], hA.l, hA.c, ?_⟩
    refine hr _ htm _ _ _ _ wdD.w fun G7 H7 s7 => ?_
    refine ⟨true, hex, fun _ e he => ⟨e, .ref C, .ref C, true, rfl, upd_same, .own C, hki, true, rfl, iteF ?_⟩, (fun z => by cases z)⟩
    have keepc : ∀ b u, b ≠ x.1 → H' b = some u → upd H7 e (CauO (.ref C) none e) b = some u := fun b u nb h => by
      have h7 := s7.h b u (by rw [delH_ne nb]; exact h)
      rw [upd_ne (ne_of_none h7 he)]; exact h7
    have wd7 := (wdD.stp s7).low s7.g (Int.le_refl _)
    have tab7 := tabs_sts (tabs_del tab3 hA.l) wdD.st s7.toS
    refine ⟨⟨_, rfl⟩, wd7.stp (Stp.old wd7.w (.new he)), tabs_keep tab7 fun b u _ h => (by rw [upd_ne (ne_of_none h he)]; exact h), keepc p _ (ne_of hp3 hA.l (by intro z; unfold LamO at z; cases z)) hp3, fun i y hi hy => ?_⟩
    have hB := hL i y (by omega) hy
    have ne1 : y.1 ≠ x.1 := fun z => by
      have nd := ok2.nd
      have h1 : (L.map (·.1))[i]? = some y.1 := by rw [List.getElem?_map, hy]; rfl
      have h2 : (L.map (·.1))[j]? = some x.1 := by rw [List.getElem?_map, hx]; rfl
      rw [z, ← h2] at h1
      have := (List.getElem?_inj (by have := (List.getElem?_eq_some_iff.mp hy).1; rw [List.length_map]; exact this) nd).mp h1
      omega
    exact ⟨keepc _ _ ne1 hB.l, keepc _ _ (fun z => by have h := hB.c; rw [z, hA.l] at h; exact lam_ne_code (Option.some.inj h)) hB.c⟩
  · rintro σ' H' ⟨⟨o, rfl⟩, wd3, tab3, _, _⟩
    exact hd o H' tab3 wd3
end Mv


namespace Mv
open PySem L2 Evl
/-- values that are at hand -/
def tGiven (vs : List V) : TA := fun _ H R => R vs H
def tGivenE (v : V) : TE := fun _ H Q => Q v H
theorem a_given {σ : L2.St} {G : Hp} {vs : List V} {ds : List D} (h : DqA G vs ds) : EvS (tGiven vs) σ G ds := fun G1 H1 x w Q q => q vs G1 H1 (.refl w) (h.mono x)
theorem d_given {σ : L2.St} {G : Hp} {v : V} {d : D} (h : Dq G v d) : EvD (tGivenE v) σ G d := fun G1 H1 x w Q q => q v G1 H1 (.refl w) (h.mono x)
theorem zip_cps {K : PySem.W.Frag} {k1 k2 : Bool} {ta : TA} {g : TG} {tt : TT} {te : TE} {ws : List Nat} {σ : L2.St} {H : Hp} {Q : VK} (h : ta σ H fun vs H' => tLc (iZip2 K k1 k2 (tGiven vs)) g tt te ws σ H' Q) : tLc (iZip2 K k1 k2 ta) g tt te ws σ H Q := h
theorem list_cps {K : PySem.W.Frag} {tl : TE} {g : TG} {tt : TT} {te : TE} {ws : List Nat} {σ : L2.St} {H : Hp} {Q : VK} (h : tl σ H fun v H' => tLc (iList K (tGivenE v)) g tt te ws σ H' Q) : tLc (iList K tl) g tt te ws σ H Q := h
theorem ret_tup_zip {K : PySem.W.Frag} {k1 k2 : Bool} {ta : TA} {g : TG} {tt : TT} {te : TE} {ws : List Nat} {σ : L2.St} {H : Hp} {D' : Ends} (h : ta σ H fun vs H' => tLc (iZip2 K k1 k2 (tGiven vs)) g tt te ws σ H' fun x H1 => rTupOf K [x] H1 D'.rt) : tRet (tCB (rTupOf K) (tCons (tLc (iZip2 K k1 k2 ta) g tt te ws) tNil)) D' σ H := h
/-- {i: v} -/
theorem d_disp1 {σ : L2.St} {G : Hp} {i j : Int} : EvD (tDisp [(tC (V.int i), tC (V.int j))]) σ G (.dict [(.int i, .int j)]) := fun G1 H1 x w Q q p hp => by
  refine ⟨upd_same, [(Sum.inl i, V.int j)], rfl, by show 1 ≤ 15; decide, ?_⟩
  have e : upd (upd H1 p (.dK [])) p (.dK (mergeK [] [(Sum.inl i, V.int j)])) = upd H1 p (.dK (mergeK [] [(Sum.inl i, V.int j)])) := by
    funext b
    unfold upd
    by_cases h : b = p <;> simp [h]
  rw [e]
  have s := Stp.new (o := .dK (mergeK [] [(Sum.inl i, V.int j)])) w hp
  exact q _ _ _ s (.emp upd_same rfl)
theorem asg_list {K : PySem.W.Frag} {tl : TE} {g : TG} {tt : TT} {te : TE} {ws : List Nat} {i : Nat} {tz : TS} {D' : Ends} {σ : L2.St} {H : Hp} (h : tl σ H fun v H' => tSeq (tAsg (tLc (iList K (tGivenE v)) g tt te ws) (gName i)) tz D' σ H') : tSeq (tAsg (tLc (iList K tl) g tt te ws) (gName i)) tz D' σ H := h
def D_put (xs : List D) (i : Nat) (d : D) : D := .tuple (xs.take i ++ [d] ++ xs.drop (i + 1))
def SpBadDeal : Sp := fun vs H Q _ => ∃ (G : Hp) (s l c : Addr) (T : Int) (v1 : V) (n : List Int), vs = [.ref s, v1] ∧ Dq G v1 (dI n) ∧ n ∈ fewD ∧ Wd G H s l c T ∧ T < 1000000000 ∧
  ∀ v d G' H', fewIn d → isDealt n d = false → Wd G' H' s l c (T + 3000) → StS [s, l, c] G H G' H' → Dq G' v d → Q v H'
def SpOdd : Sp := fun vs H Q _ => ∃ (G : Hp) (s l c : Addr) (T : Int), vs = [.ref s] ∧ Wd G H s l c T ∧ T < 1000000000 ∧ ∀ v d G' H', fewIn d → Wd G' H' s l c (T + 1) → StS [s, l, c] G H G' H' → Dq G' v d → Q v H'
def SpDealing : Sp := fun vs H Q _ => ∃ (G : Hp) (s l c : Addr) (T : Int) (v1 : V) (n : List Int), vs = [.ref s, v1] ∧ Dq G v1 (dI n) ∧ n ∈ fewD ∧ Wd G H s l c T ∧ T < 1000000000 ∧
  ∀ v M G' H', DealOk n M → Wd G' H' s l c (T + 30) → StS [s, l, c] G H G' H' → Dq G' v (dT M) → Q v H'
section
variable {P : Program} {w : World} {mg : Str → Option Value} {base : Heap} {K : PySem.W.Frag}
end
end Mv


namespace Mv
open PySem L2 Evl
/-! ### what is known, its tuples alone -/
def tupsOf (G : Hp) : Hp := fun b => match G b with
  | some (.tup ts) => some (.tup ts)
  | _ => none
theorem tupsOf_in {G : Hp} {b : Addr} {o : HO} (h : tupsOf G b = some o) : ∃ ts, o = .tup ts ∧ G b = some (.tup ts) := by
  unfold tupsOf at h
  cases e : G b with
  | none => rw [e] at h; cases h
  | some u =>
    rw [e] at h
    cases u with
    | tup ts => cases h; exact ⟨ts, rfl, rfl⟩
    | _ => cases h
theorem tupsOf_at {G : Hp} {b : Addr} {ts : List V} (h : G b = some (.tup ts)) : tupsOf G b = some (.tup ts) := by
  unfold tupsOf; rw [h]
theorem tupsOf_ex {G : Hp} : Ex (tupsOf G) G := fun b o q => by
  obtain ⟨ts, rfl, h⟩ := tupsOf_in q
  exact h
theorem dq_tups {G : Hp} {v : V} {p : List Int} (h : Dq G v (dI p)) : Dq (tupsOf G) v (dI p) := by
  cases h with
  | tup ha hxs =>
    have e := hxs.ints
    subst e
    exact .tup (tupsOf_at ha) (DqA.ofInts p)
theorem dqa_tups {G : Hp} : ∀ {P : Rows} {vs : List V}, DqA G vs (P.map dI) → DqA (tupsOf G) vs (P.map dI)
  | [], _, h => by cases h; exact .nil
  | p :: P, _, h => by
    cases h with
    | cons h1 h2 => exact .cons (dq_tups h1) (dqa_tups h2)
theorem dqT_tups {G : Hp} {v : V} {P : Rows} (h : Dq G v (dT P)) : Dq (tupsOf G) v (dT P) := by
  cases h with
  | tup ha hxs => exact .tup (tupsOf_at ha) (dqa_tups hxs)
theorem new_listT {G0 H G2 H2 : Hp} {a : Addr} {xs : List V} (h0 : ∀ b o, G0 b = some o → ∃ ts, o = .tup ts) (s : Stp G0 H G2 H2) (h : G2 a = some (.lst xs)) : H a = none := by
  cases e : H a with
  | none => rfl
  | some o =>
    cases g : G0 a with
    | none =>
      have := s.n a g (by rw [e]; intro z; cases z) fun ys z => by
        have q := s.h _ _ z
        rw [s.w _ _ h] at q
        cases q
      rw [this] at h; cases h
    | some u =>
      obtain ⟨ts, rfl⟩ := h0 a u g
      have := s.g _ _ g
      rw [this] at h; cases h
theorem few_ent : (fewD.all fun n => (placesOf n).all fun p => p.all fun x => decide (0 ≤ x) && decide (x ≤ 24)) = true := by decide +kernel
theorem short_int : ∀ x : Int, 0 ≤ x → x ≤ 24 → (PyData.shown (.int x)).length ≤ 8 ∧ PyData.showable (.int x) = true := by
  have h : ((List.range 25).all fun (m : Nat) => decide ((PyData.shown (.int (m : Int))).length ≤ 8) && PyData.showable (.int (m : Int))) = true := by decide +kernel
  intro x h1 h2
  obtain ⟨m, rfl⟩ := Int.eq_ofNat_of_zero_le h1
  have := List.all_eq_true.mp h m (List.mem_range.mpr (by omega))
  simpa only [Bool.and_eq_true, decide_eq_true_eq] using this
theorem short_ints : ∀ p : List Int, (∀ x ∈ p, 0 ≤ x ∧ x ≤ 24) → PyData.leavesShortAll 8 (p.map PyData.int) = true ∧ PyData.showableAll (p.map PyData.int) = true
  | [], _ => ⟨by simp [PyData.leavesShortAll], by simp [PyData.showableAll]⟩
  | x :: p, h => by
    have ih := short_ints p fun y hy => h y (.tail _ hy)
    have h0 := short_int x (h x (.head _)).1 (h x (.head _)).2
    rw [List.map_cons, PyData.leavesShortAll, PyData.showableAll, ih.1, ih.2, h0.2, PyData.leavesShort]
    exact ⟨by simpa using h0.1, rfl⟩
theorem short_rows : ∀ l : Rows, (∀ p ∈ l, ∀ x ∈ p, 0 ≤ x ∧ x ≤ 24) → PyData.leavesShortAll 8 (l.map dI) = true ∧ PyData.showableAll (l.map dI) = true
  | [], _ => ⟨by simp [PyData.leavesShortAll], by simp [PyData.showableAll]⟩
  | p :: l, h => by
    have ih := short_rows l fun y hy => h y (.tail _ hy)
    have h0 := short_ints p (h p (.head _))
    have e1 : PyData.leavesShort 8 (dI p) = true := by unfold dI; rw [PyData.leavesShort]; exact h0.1
    have e2 : PyData.showable (dI p) = true := by unfold dI; rw [PyData.showable]; exact h0.2
    rw [List.map_cons, PyData.leavesShortAll, PyData.showableAll, ih.1, ih.2, e1, e2]
    exact ⟨rfl, rfl⟩
theorem StS.back {S : List Addr} {G H G' H' : Hp} {p : Addr} (a : StS S G H G' H') (h : H' p = none) : H p = none := by
  cases e : H p with
  | none => rfl
  | some o =>
    by_cases hs : p ∈ S
    · exact absurd h (a.k p hs (by rw [e]; intro z; cases z)).1
    · rw [a.h p o hs e] at h; cases h
/-- a list of ours becomes known -/
theorem Wd.know {G H : Hp} {s l c p : Addr} {T : Int} {o : HO} (x : Wd G H s l c T) (hp : H p = some o) (ns : p ∉ [s, l, c]) : Wd (upd G p o) H s l c T := by
  simp only [List.mem_cons, List.not_mem_nil, or_false, not_or] at ns
  refine ⟨fun b u q => ?_, x.st, ?_, ?_, ?_⟩
  · by_cases e : b = p
    · rw [e, upd_same] at q; rw [e, ← q]; exact hp
    · rw [upd_ne e] at q; exact x.w b u q
  · rw [upd_ne (Ne.symm ns.1)]; exact x.gs
  · rw [upd_ne (Ne.symm ns.2.1)]; exact x.gl
  · rw [upd_ne (Ne.symm ns.2.2)]; exact x.gc
theorem StS.know {S : List Addr} {G H G' H' : Hp} {p : Addr} {o : HO} (a : StS S G H G' H') (h0 : H p = none) (gp : G' p = none) (hp : H' p = some o) : StS S G H (upd G' p o) H' := by
  refine ⟨a.g.trans (.new gp), a.h, a.k, fun b u q => ?_, fun b h1 h2 h3 => ?_⟩
  · by_cases e : b = p
    · rw [e, upd_same] at q; rw [e, ← q]; exact hp
    · rw [upd_ne e] at q; exact a.w b u q
  · have : b ≠ p := fun e => h2 (e ▸ h0)
    rw [upd_ne this]; exact a.n b h1 h2 h3
theorem bulk_dI (p : List Int) : PyData.bulk (dI p) = p.length := by
  unfold dI
  rw [PyData.bulk]
  induction p with
  | nil => rfl
  | cons x p ih => rw [List.map_cons, PyData.bulkAll, ih, PyData.bulk, List.length_cons]; omega
theorem bulk_rows : ∀ L : Rows, (∀ p ∈ L, p.length ≤ 4) → PyData.bulkAll (L.map dI) ≤ 5 * L.length
  | [], _ => by simp [PyData.bulkAll]
  | p :: L, h => by
    have ih := bulk_rows L fun q hq => h q (.tail _ hq)
    have hp := h p (.head _)
    rw [List.map_cons, PyData.bulkAll, bulk_dI, List.length_cons]
    omega
theorem rows_show {n : List Int} (hn : n ∈ fewD) {L : Rows} (h : ∀ p ∈ L, p ∈ placesOf n) (hl : L.length ≤ 24) : (PyData.shown (.list [dL L, dL L])).length ≤ sizeLine ∧ PyData.showable (.list [dL L, dL L]) = true ∧ (PyData.shown (dL L)).length ≤ sizeLine ∧ PyData.showable (dL L) = true := by
  have okd := okB_ok (List.all_eq_true.mp few_ok n hn)
  have l2 := okd.hi
  have hr := short_rows L fun p hp x hx => by
    have := List.all_eq_true.mp (List.all_eq_true.mp (List.all_eq_true.mp few_ent n hn) p (h p hp)) x hx
    simpa only [Bool.and_eq_true, decide_eq_true_eq] using this
  have e1 : PyData.leavesShort 8 (dL L) = true := by unfold dL; rw [PyData.leavesShort]; exact hr.1
  have e2 : PyData.showable (dL L) = true := by unfold dL; rw [PyData.showable]; exact hr.2
  have d1 : PyData.leavesShort 8 (.list [dL L, dL L]) = true := by
    rw [PyData.leavesShort, PyData.leavesShortAll, PyData.leavesShortAll, PyData.leavesShortAll, e1]; rfl
  have d2 : PyData.showable (.list [dL L, dL L]) = true := by
    rw [PyData.showable, PyData.showableAll, PyData.showableAll, PyData.showableAll, e2]; rfl
  have b0 := bulk_rows L fun p hp => by rw [places_in p (h p hp)]; exact l2
  have b2 : PyData.bulk (dL L) ≤ 120 := by unfold dL; rw [PyData.bulk]; omega
  have b1 : PyData.bulk (.list [dL L, dL L]) ≤ 242 := by
    rw [PyData.bulk, PyData.bulkAll, PyData.bulkAll, PyData.bulkAll]; omega
  have l1 := PyData.shown_le_bulk 8 (by decide) _ d1
  have l2 := PyData.shown_le_bulk 8 (by decide) _ e1
  rw [sizeLine_eq]
  exact ⟨by omega, d2, by omega, e2⟩
theorem bools_show : ∀ b : Bool, (PyData.shown (.list [.bool b, .bool b])).length ≤ sizeLine ∧ PyData.showable (.list [.bool b, .bool b]) = true := by
  intro b
  rw [sizeLine_eq]
  cases b <;> exact ⟨by decide +kernel, by decide +kernel⟩
section
variable {K : PySem.W.Frag} {G : Hp} {z : D}
theorem opd_ixLast {as : List D} (h : as[as.length - 1]? = some z) (h1 : as ≠ []) : OpD (rIxL K) G (.list as) (.int (-1)) z := fun x y G1 H1 a b hx hy Q q => by
  cases hx with
  | @lst p xs _ hp hxs =>
    cases hy
    obtain ⟨v, hv, hd⟩ := hxs.getD h
    have l := hxs.len
    have lp : 0 < as.length := List.length_pos_iff.mpr h1
    refine ⟨p, xs, -1, v, rfl, rfl, SqL.of (b _ _ hp), ?_, q v G1 H1 (.refl b) hd⟩
    have e : ixN xs.length (-1) = some (xs.length - 1) := by
      unfold ixN
      rw [if_neg (by decide), if_pos (by omega)]
      congr 1
      omega
    show (ixN xs.length (-1)).bind (fun j => xs[j]?) = some v
    rw [e, l]
    exact hv
end
theorem Stp.mutNew {G H G' H' : Hp} {p : Addr} {o : HO} (s : Stp G H G' H') (hp : H p = none) (gp : G' p = none) : Stp G H G' (upd H' p o) :=
  ⟨s.g, s.h.mut hp, fun a u q => by
    have ha : a ≠ p := fun z => by rw [z, gp] at q; cases q
    rw [upd_ne ha]; exact s.w a u q, s.n⟩
end Mv


namespace Mv
open PySem L2 Evl
section
variable {t : TT} {tu tv : TS} {D' : Ends} {σ : L2.St} {G H : Hp}
theorem q_whenK {b : Bool} (I : L2.St → Hp → Prop) (h : EvB t σ G b) (w : Ex G H) (k : ∀ σ' H', I σ' H' → tv D' σ' H') (h1 : (∀ σ' H', I σ' H' → tv D' σ' H') → b = true → ∀ G1 H1, Stp G H G1 H1 → tu { D' with nx := tv D' } σ H1) (h2 : (∀ σ' H', I σ' H' → tv D' σ' H') → b = false → ∀ G1 H1, Stp G H G1 H1 → tv D' σ H1) : tSeq (tIfS t tu tNext) tv D' σ H := q_when h w (h1 k) (h2 k)
theorem when_cps {r : R2} {te : TE} {c : V} (h : te σ H fun v H' => tSeq (tIfS (tTest (tOp r (tGivenE v) (tC c))) tu tNext) tv D' σ H') : tSeq (tIfS (tTest (tOp r te (tC c))) tu tNext) tv D' σ H := h
theorem sl_cps {K : PySem.W.Frag} {ro : R2} {te td : TE} {c : V} {g : TG} (h : te σ H fun v H1 => td σ H1 fun u H2 => tAsg (tSl (rSlL K) (tGivenE v) tNoPart (tPart (tOp ro (tC c) (tGivenE u)))) g D' σ H2) : tAsg (tSl (rSlL K) te tNoPart (tPart (tOp ro (tC c) td))) g D' σ H := h
theorem d_slL {K : PySem.W.Frag} {te : TE} {tl th : TO} {ds : List D} {lo hi : Option Int} (h : EvD te σ G (.list ds)) (hl : EvO tl σ G lo) (hh : EvO th σ G hi) : EvD (tSl (rSlL K) te tl th) σ G (.list (cutD ds lo hi)) := fun G1 H1 x w Q q =>
  h G1 H1 x w _ fun v G2 H2 s2 hv => hl G2 H2 (x.trans s2.g) s2.w _ fun G3 H3 s3 => hh G3 H3 ((x.trans s2.g).trans s3.g) s3.w _ fun G4 H4 s4 => by
    have hv4 := hv.mono (s3.g.trans s4.g)
    have s := (s2.trans s3).trans s4
    cases hv4 with
    | @lst a xs _ ha hxs =>
      have e := hxs.len
      refine ⟨a, xs, rfl, SqL.of (s4.w _ _ ha), fun p hp => ?_⟩
      have s5 := Stp.new (o := .lst (cutV xs lo hi)) s4.w hp
      have key : DqA G4 (cutV xs lo hi) (cutD ds lo hi) := by
        unfold cutV cutD
        rw [e]
        exact (hxs.drop _).take _
      exact q _ _ _ (s.trans s5) (.lst upd_same (key.mono s5.g))
end
/-- a row just made is kept, whatever becomes of the list that it goes into -/
theorem keep_row {G0 H0 G H' G2 H2 : Hp} {s l c dl ta : Addr} {T : Int} {vs : List V} {ts : List V} (o : HO) (ss : StS [s, l, c] G0 H0 G H') (wd : Wd G H' s l c T) (h0 : H0 dl = none) (gd : G dl = none) (hd : H' dl = some (.lst vs)) (nd : dl ≠ s ∧ dl ≠ l ∧ dl ≠ c) (st : Stp (upd G dl (.lst vs)) H' G2 H2) (hta : G2 ta = some (.tup ts)) :
    StS [s, l, c] G0 H0 (upd G ta (.tup ts)) (upd H2 dl o) ∧ Wd (upd G ta (.tup ts)) (upd H2 dl o) s l c T ∧ Ex G (upd G ta (.tup ts)) ∧ (upd G ta (.tup ts)) dl = none := by
  have gdl2 : G2 dl = some (.lst vs) := st.g _ _ upd_same
  have tad : ta ≠ dl := fun z => by rw [z, gdl2] at hta; cases hta
  have GK : Ex G (upd G dl (.lst vs)) := .new gd
  have wk := wd.know hd (by simp [nd.1, nd.2.1, nd.2.2])
  have wd2 := wk.stp st
  have gx : Ex G (upd G ta (.tup ts)) := fun b u e => by
    by_cases q : b = ta
    · rw [q, upd_same]; rw [q] at e
      have := st.g _ _ (GK _ _ e)
      rw [hta] at this; exact this
    · rw [upd_ne q]; exact e
  have nt : ∀ b, G2 b = none → b ≠ ta := fun b e z => by rw [z, hta] at e; cases e
  have ex2 : Ex (upd G ta (.tup ts)) H2 := fun b u e => by
    by_cases q : b = ta
    · rw [q, upd_same] at e; rw [q, ← e]; exact st.w _ _ hta
    · rw [upd_ne q] at e; exact st.w _ _ (st.g _ _ (GK _ _ e))
  have nodl : (upd G ta (.tup ts)) dl = none := by rw [upd_ne tad.symm]; exact gd
  have wN : Wd (upd G ta (.tup ts)) H2 s l c T := ⟨ex2, wd2.st, by rw [upd_ne (nt _ wd2.gs)]; exact wd.gs, by rw [upd_ne (nt _ wd2.gl)]; exact wd.gl, by rw [upd_ne (nt _ wd2.gc)]; exact wd.gc⟩
  refine ⟨⟨ss.g.trans gx, fun b u hb e => ?_, fun b hb e => ?_, fun b u e => ?_, fun b e1 e2 e3 => ?_⟩, wN.mut nodl nd.1 nd.2.1 nd.2.2, gx, nodl⟩
  · have : b ≠ dl := fun z => by rw [z, h0] at e; cases e
    rw [upd_ne this]; exact st.h _ _ (ss.h b u hb e)
  · have q : b ≠ dl := fun z => e (by rw [z]; exact h0)
    rw [upd_ne q]
    have k1 := ss.k b hb e
    refine ⟨fun z => ?_, fun m => ?_⟩
    · cases r : H' b with
      | none => exact k1.1 r
      | some u => rw [st.h _ _ r] at z; cases z
    · exact (kept_mut st.h k1.1 (k1.2 m)).2
  · have : b ≠ dl := fun z => by rw [z, nodl] at e; cases e
    rw [upd_ne this]; exact ex2 _ _ e
  · have g1 := ss.n b e1 e2 e3
    by_cases q : b = ta
    · have hb := ss.keep e2 e3
      have := st.n b (by rw [upd_ne (by rw [q]; exact tad)]; exact g1) hb.1 hb.2
      rw [q, hta] at this; cases this
    · rw [upd_ne q]; exact g1
def SpRow : Sp := fun vs H Q _ => ∃ (G : Hp) (s l c : Addr) (T : Int) (v1 : V) (n : List Int), vs = [.ref s, v1] ∧ Dq G v1 (dI n) ∧ n ∈ fewD ∧ Wd G H s l c T ∧ T < 1000000000 ∧
  ∀ v R G' H', MovesOk n R → isAsc R = true → Wd G' H' s l c (T + 60) → StS [s, l, c] G H G' H' → Dq G' v (dT R) → Q v H'
def RowInv (n : List Int) (G H : Hp) (s l c : Addr) (T : Int) (v1 : V) (σ' : L2.St) (H' : Hp) : Prop := ∃ (vm : V) (B : Rows) (G' : Hp), σ' = [some (.ref s), some v1, some (.int (prod n)), some vm, none, none] ∧ B ≠ [] ∧ B.length ≤ 1000 ∧ (∀ p ∈ B, p ∈ placesOf n) ∧ Dq G' vm (dL B) ∧ Dq G' v1 (dI n) ∧ Wd G' H' s l c T ∧ StS [s, l, c] G H G' H'
section
variable {P : Program} {w : World} {mg : Str → Option Value} {base : Heap} {K : PySem.W.Frag}
end
end Mv


namespace Mv
open PySem L2 Evl
section
variable {n : List Int} {B : Bg}
/-- what all hold, the last one led -/
def wholeB (n : List Int) (B : Bg) (last : List Int) : Rows := (placesOf n).map fun p => match atKeyB B p with
  | some q => q.2
  | none => last
theorem zeros_inP (hn : n ∈ fewD) : InP (zeros n) n := by
  have okd := okB_ok (List.all_eq_true.mp few_ok n hn)
  have : ∀ m : List Int, (∀ s ∈ m, 2 ≤ s) → InP (zeros m) m := fun m => by
    induction m with
    | nil => intro _; exact .nil
    | cons s m ih =>
      intro h
      have := h s (List.mem_cons_self ..)
      exact .cons (Int.le_refl _) (by omega) (ih fun x hx => h x (List.mem_cons_of_mem _ hx))
  exact this n fun s hs => (okd.sz s hs).1
theorem addUp_inP (hn : n ∈ fewD) {L : Rows} (h : ∀ p ∈ L, InP p n) : InP (addUp n L) n := by
  have : ∀ (L : Rows) (z : List Int), InP z n → (∀ p ∈ L, InP p n) → InP (L.foldl (fun a b => addP n a b) z) n := fun L => by
    induction L with
    | nil => intro z hz _; exact hz
    | cons p L ih =>
      intro z hz h
      exact ih _ (addP_inP hz (h p (List.mem_cons_self ..))) fun q hq => h q (List.mem_cons_of_mem _ hq)
  exact this L _ (zeros_inP hn) h
theorem last_ok (hn : n ∈ fewD) (b : BgOk n B) (h : B.length + 1 = (placesOf n).length) : ∃ p0 e0, freeOf n B = [p0] ∧ emptyOf n B = [e0] ∧ InP p0 n ∧ InP e0 n ∧
    DealOk n (wholeB n B (takeP n e0 p0)) ∧ (wholeB n B (takeP n e0 p0)).Perm (B.map (·.2) ++ [takeP n e0 p0]) ∧ takeP n e0 p0 = takeP n (zeros n) (addUp n (B.map (·.2))) := by
  have fl := free_len hn b
  have el := empty_len hn b
  obtain ⟨p0, ef⟩ : ∃ p0, freeOf n B = [p0] := by
    cases e : freeOf n B with
    | nil => rw [e] at fl; simp at fl; omega
    | cons x r => cases r with
      | nil => exact ⟨x, rfl⟩
      | cons y r => rw [e] at fl; simp at fl; omega
  obtain ⟨e0, ee⟩ : ∃ e0, emptyOf n B = [e0] := by
    cases e : emptyOf n B with
    | nil => rw [e] at el; simp at el; omega
    | cons x r => cases r with
      | nil => exact ⟨x, rfl⟩
      | cons y r => rw [e] at el; simp at el; omega
  have m0 : p0 ∈ freeOf n B := by rw [ef]; simp
  have i0 : InP p0 n := few_inP hn (List.mem_filter.mp m0).1
  have n0 : p0 ∉ B.map (·.1) := of_decide_eq_true (List.mem_filter.mp m0).2
  have me0 : e0 ∈ emptyOf n B := by rw [ee]; simp
  have ie : InP e0 n := few_inP hn (List.mem_filter.mp me0).1
  obtain ⟨g1, _⟩ := goals_ok hn b h
  refine ⟨p0, e0, ef, ee, i0, ie, ?_⟩
  obtain ⟨last, elast⟩ : ∃ last, last = takeP n e0 p0 := ⟨_, rfl⟩
  rw [← elast]
  have il : InP last n := by rw [elast]; exact takeP_inP ie i0
  have sp : (placesOf n).Perm (B.map (·.1) ++ [p0]) := by
    have := perm_split b.keys (few_nodup hn) (keys_in b)
    rw [show ((placesOf n).filter fun x => decide (x ∉ B.map (·.1))) = freeOf n B from rfl, ef] at this
    exact this
  have back : ∀ q ∈ B, takeP n (endB n q) q.1 = q.2 := fun q hq => by
    have iq := b.inH q hq
    have ia := addP_inP iq.1 iq.2
    exact addP_cancel (takeP_inP ia iq.1) iq.2 iq.1.len (add_take iq.1 ia)
  have gl : wholeB n B last = ledBy n (placesOf n) (goalsOf n B) := by
    have all : ∀ P : Rows, (∀ p ∈ P, p ∈ placesOf n) → (P.map fun p => match atKeyB B p with | some q => q.2 | none => last) = ledBy n P (P.flatMap (goalF n B)) := fun P => by
      induction P with
      | nil => intro _; rfl
      | cons p P ih =>
        intro hP
        have ih := ih fun x hx => hP x (List.mem_cons_of_mem _ hx)
        have hp := hP p (List.mem_cons_self ..)
        rw [List.map_cons, List.flatMap_cons, ih]
        cases e : atKeyB B p with
        | some q =>
          have hq : q ∈ B := List.mem_of_find?_eq_some e
          have e1 : q.1 = p := by have := List.find?_some e; simpa using this
          have gp : goalF n B p = [endB n q] := by unfold goalF; rw [e]
          rw [gp]
          show q.2 :: _ = takeP n (endB n q) p :: _
          rw [← e1, back q hq]; rfl
        | none =>
          have gp : goalF n B p = [e0] := by unfold goalF; rw [e]; exact ee
          have np : p ∉ B.map (·.1) := fun z => by
            obtain ⟨q, hq, e1⟩ := List.mem_map.mp z
            rw [← e1, at_key b.keys hq] at e; cases e
          have : p ∈ freeOf n B := List.mem_filter.mpr ⟨hp, decide_eq_true np⟩
          rw [ef] at this
          have ep := List.mem_singleton.mp this
          rw [gp]
          show last :: _ = takeP n e0 p :: _
          rw [ep, elast]; rfl
    exact all (placesOf n) fun _ h => h
  have dk : DealOk n (wholeB n B last) := ⟨_, g1, gl⟩
  have pm : (wholeB n B last).Perm (B.map (·.2) ++ [last]) := by
    unfold wholeB
    refine (sp.map _).trans ?_
    rw [List.map_append, List.map_map]
    have : B.map ((fun p : List Int => match atKeyB B p with | some q => q.2 | none => last) ∘ (fun q : List Int × List Int => q.1)) = B.map (fun q : List Int × List Int => q.2) := List.map_congr_left fun q hq => by
      show (match atKeyB B q.1 with | some x => x.2 | none => last) = q.2
      rw [at_key b.keys hq]
    rw [this]
    show (B.map (fun q : List Int × List Int => q.2) ++ [match atKeyB B p0 with | some q => q.2 | none => last]).Perm _
    rw [at_keyN n0]
  refine ⟨dk, pm, ?_⟩
  have sum := dk.sum hn
  have sp2 : (sortR (wholeB n B last)).Perm (B.map (·.2) ++ [last]) := (isort_perm _).trans pm
  rw [addUp_perm sp2] at sum
  have e1 : ∀ x, addUp n (B.map (·.2) ++ [x]) = addP n (addUp n (B.map (·.2))) x := fun x => by unfold addUp; rw [List.foldl_append]; rfl
  rw [e1] at sum
  have iv : InP (addUp n (B.map (·.2))) n := addUp_inP hn fun p hp => by
    obtain ⟨q, hq, rfl⟩ := (List.mem_map.mp hp)
    exact (b.inH q hq).2
  exact addP_cancel il (takeP_inP (zeros_inP hn) iv) iv.len (sum.trans (add_take iv (zeros_inP hn)).symm)
end
/-! ### statements -/
section
variable {K : PySem.W.Frag} {σ : L2.St} {G H : Hp} {te ta tb td : TE} {tl : TA} {t : TT} {D' : Ends} {tu tz : TS}
/-- for i, x in enumerate of a list that is known, with any invariant -/
theorem q_forEW {i j : Nat} {as : List D} (h : EvS tl σ G [sq true as]) (w : Ex G H) (Iv : Hp → Nat → L2.St → Hp → Prop) (h0 : ∀ G1 H1, Stp G H G1 H1 → Iv G1 0 σ H1) (hx : ∀ G1 i σ' H', Iv G1 i σ' H' → Ex G1 H')
    (hs : ∀ G1 H1, Stp G H G1 H1 → ∀ (m : Nat) v d σ' H2 T, as[m]? = some d → Dq G1 v d → Iv G1 m σ' H2 → H2 T = none → tu { D' with nx := Iv G1 (m + 1), ct := Iv G1 (m + 1), bk := tz D' } ((σ'.set i (some (.int (m : Int)))).set j (some v)) (upd H2 T (.tup [.int (m : Nat), v])))
    (hd : ∀ G1 H1, Stp G H G1 H1 → ∀ σ' H2, Iv G1 as.length σ' H2 → tz D' σ' H2) : tSeq (tFor (iEnumK K true tl) (gT2 K i j) tu) tz D' σ H := h G H (.refl G) w _ fun us G1 H1 s hv => by
  cases hv with
  | cons hv hn =>
    cases hn
    obtain ⟨a, xs, rfl, hxs, qa⟩ := sq_at (K := K) hv
    refine ⟨a, xs, rfl, qa _ s.w, ?_⟩
    have l1 := hxs.len
    refine ⟨fun n m σ' H' => m = as.length - n ∧ n ≤ as.length ∧ Iv G1 n σ' H', ⟨as.length, rfl, Nat.zero_le _, h0 G1 H1 s⟩, ?_⟩
    rintro n m σ' H' ⟨rfl, hn, iv⟩
    have qa' := qa H' (hx _ _ _ _ iv)
    by_cases hlt : n < as.length
    · have ex : xs[n]? = some (xs[n]'(by omega)) := List.getElem?_eq_getElem _
      refine .inr ⟨⟨xs, _, qa', ex⟩, Iv G1 (n + 1), fun σ2 H2 m' => ⟨as.length - (n + 1), by omega, rfl, hlt, m'⟩, ?_⟩
      rintro v H2 ⟨T, y', rfl, hT, rfl, f2⟩
      obtain ⟨dy, hdy, qy⟩ := hxs.get (f2 xs qa')
      exact ⟨T, [.int (n : Nat), y'], rfl, SqT.of upd_same, rfl, .int (n : Nat), _, rfl, y', _, rfl, rfl, hs G1 H1 s n y' dy σ' H' T hdy qy iv hT⟩
    · have e : n = as.length := by omega
      subst e
      exact .inl ⟨⟨xs, qa', by omega⟩, hd G1 H1 s σ' H' iv⟩
theorem if_cps {r : R2} {c : V} {g : TG} (h : te σ H fun v H' => tSeq (tAsg (tIf (tTest (tOp r (tGivenE v) (tC c))) ta tb) g) tz D' σ H') : tSeq (tAsg (tIf (tTest (tOp r te (tC c))) ta tb) g) tz D' σ H := h
theorem q_ifK {i : Nat} {b : Bool} (I : V → Hp → Prop) (h : EvB t σ G b) (w : Ex G H) (k : ∀ v H', I v H' → tz D' (σ.set i (some v)) H') (h1 : b = true → ∀ G1 H1, Stp G H G1 H1 → ∀ Q : VK, (∀ v H', I v H' → Q v H') → ta σ H1 Q) (h2 : b = false → ∀ G1 H1, Stp G H G1 H1 → ∀ Q : VK, (∀ v H', I v H' → Q v H') → tb σ H1 Q) :
    tSeq (tAsg (tIf t ta tb) (gName i)) tz D' σ H := h G H (.refl G) w _ fun G1 H1 s => by
  cases b with
  | true => exact iteT (h1 rfl G1 H1 s _ k)
  | false => exact iteF (h2 rfl G1 H1 s _ k)
theorem slQ {ro : R2} {c : V} {Q : VK} (h : te σ H fun v H1 => td σ H1 fun u H2 => tSl (rSlL K) (tGivenE v) tNoPart (tPart (tOp ro (tC c) (tGivenE u))) σ H2 Q) : tSl (rSlL K) te tNoPart (tPart (tOp ro (tC c) td)) σ H Q := h
end
end Mv


namespace Mv
open PySem L2 LamX Evl
section
variable {K : PySem.W.Frag} {G : Hp} {σ : L2.St} {td ty tx : TE} {es : List (KK × D)} {k : KK}
theorem d_dget2 {dz : D} (h : EvD td σ G (dctD es)) (hk : EvD ty σ G (kD k)) (hz : EvD tx σ G dz) : EvD (tDGet2 td ty tx) σ G ((lkD es k).getD dz) := fun G1 H1 x w Q q => h G1 H1 x w _ fun v G2 H2 s hv => by
  obtain ⟨a, o, kvs, rfl, ha, hp⟩ := hv.dict
  refine ⟨a, rfl, .inr ⟨kvs, .inr ⟨o, s.w _ _ ha⟩⟩, ?_⟩
  refine hk G2 H2 (x.trans s.g) s.w _ fun u G3 H3 s3 hu => hz G3 H3 ((x.trans s.g).trans s3.g) s3.w _ fun y G4 H4 s4 hy => ?_
  obtain ⟨b, rfl, hb⟩ := hu.key
  have s34 := s3.trans s4
  refine ⟨valV kvs k, .inr ⟨kvs, k, b, .inr ⟨o, s4.w _ _ (s34.g _ _ ha)⟩, rfl, s4.h _ _ (s3.w _ _ hb), rfl⟩, ?_⟩
  cases l : lkD es k with
  | none => rw [hp.noval l]; exact q _ G4 H4 (s.trans s34) (by rw [l]; exact hy)
  | some d =>
    obtain ⟨z, hz, hq⟩ := hp.val l
    rw [hz]; exact q z G4 H4 (s.trans s34) (by rw [l]; exact hq.mono s34.g)
end
theorem asg_tupR {ta tl : TA} {g g2 : TG} {tt : TT} {te : TE} {ws : List Nat} {σ : L2.St} {H : Hp} {tz : TS} {D' : Ends} (h : ta σ H fun us H1 => tSeq (tAsg (tTup (tCons (tLc (iRng1 (tGiven us)) g tt te ws) tl)) g2) tz D' σ H1) : tSeq (tAsg (tTup (tCons (tLc (iRng1 ta) g tt te ws) tl)) g2) tz D' σ H := h
theorem rows_of {P : Rows} {bs : List D} (h : ∀ b ∈ bs, b ∈ P.map dI) : ∃ B : Rows, bs = B.map dI ∧ ∀ p ∈ B, p ∈ P := by
  induction bs with
  | nil => exact ⟨[], rfl, fun _ h => by cases h⟩
  | cons b bs ih =>
    obtain ⟨B, rfl, hB⟩ := ih fun x hx => h x (List.mem_cons_of_mem _ hx)
    obtain ⟨p, hp, rfl⟩ := List.mem_map.mp (h b (List.mem_cons_self ..))
    exact ⟨p :: B, rfl, fun q hq => by rcases List.mem_cons.mp hq with rfl | hq; exact hp; exact hB q hq⟩
theorem rows_perm {A B : Rows} (h : (A.map dI).Perm (B.map dI)) : A.Perm B := by
  have := h.map rowD
  rw [rowsD_dI, rowsD_dI] at this
  exact this
theorem cut_to (B : Rows) (k : Nat) : cutD (B.map dI) none (some ((k : Nat) : Int)) = (B.take k).map dI := by
  unfold cutD
  rw [HT.sIx_none, HT.sIx_nat, Nat.sub_zero, List.drop_zero, List.map_take, List.length_map]
  by_cases h : k ≤ B.length
  · rw [Nat.min_eq_left h]
  · rw [Nat.min_eq_right (by omega), List.take_of_length_le (by rw [List.length_map]; omega), List.take_of_length_le (by rw [List.length_map]; omega)]
theorem whole_made {n : List Int} {B : Bg} {last : List Int} : made (fun _ => true) (fun d => (lkD (enc B) (kI (rowD d))).getD (dI last)) ((placesOf n).map dI) = (wholeB n B last).map dI := by
  unfold made wholeB
  rw [List.filter_eq_self.mpr (fun _ _ => rfl), List.map_map, List.map_map]
  refine List.map_congr_left fun p _ => ?_
  show (lkD (enc B) (kI (rowD (dI p)))).getD (dI last) = dI (match atKeyB B p with | some q => q.2 | none => last)
  rw [rowD_dI, lk_enc]
  cases atKeyB B p <;> rfl
theorem ends_made {n : List Int} {B : Bg} : made (fun _ => true) (fun e : KK × D => dI (addP n (pOf e.1) (rowD e.2))) (enc B) = (B.map (endB n)).map dI := by
  unfold made enc
  rw [List.filter_eq_self.mpr (fun _ _ => rfl), List.map_map, List.map_map]
  refine List.map_congr_left fun q _ => ?_
  show dI (addP n (pOf (kI q.1)) (rowD (dI q.2))) = dI (addP n q.1 q.2)
  rw [pOf_kI, rowD_dI]
theorem eqv_dLr (A B : Rows) : PyData.eqv (dL A) (dL B) = decide (A = B) := by
  unfold dL; rw [PyData.eqv]; exact eqv_rows A B
theorem empty_made {n : List Int} {B : Bg} : made (fun d : D => !((B.map (endB n)).any fun c => decide (c = rowD d))) id ((placesOf n).map dI) = (emptyOf n B).map dI := by
  rw [made_rows (fun r => !((B.map (endB n)).any fun c => decide (c = r)))]
  congr 1
  unfold emptyOf
  refine List.filter_congr fun p _ => ?_
  by_cases h : p ∈ B.map (endB n)
  · rw [decide_eq_false (fun z => z h), List.any_eq_true.mpr ⟨p, h, decide_eq_true rfl⟩]; rfl
  · rw [decide_eq_true h]
    have : ((B.map (endB n)).any fun c => decide (c = p)) = false := by
      cases e : (B.map (endB n)).any fun c => decide (c = p) with
      | false => rfl
      | true =>
        obtain ⟨c, hc, e2⟩ := List.any_eq_true.mp e
        exact absurd (by rw [← of_decide_eq_true e2]; exact hc) h
    rw [this]; rfl
section
variable {G : Hp}
theorem opd_isnB {i j : Bool} : OpD (fun x y H Q => ∃ a b, x = .bl a ∧ y = .bl b ∧ Q (.bl (!decide (a = b))) H) G (.bool i) (.bool j) (.bool (!decide (i = j))) := fun x y G1 H1 a b hx hy Q q => by
  cases hx
  cases hy
  exact ⟨i, j, rfl, rfl, q _ G1 H1 (.refl b) (.bl _)⟩
theorem opd_neNi (i j : Int) : OpD rNe G (.int i) (.int j) (.bool (!decide (i = j))) := fun x y G1 H1 a b hx hy Q q => by
  cases hx
  cases hy
  refine ⟨rfl, ?_⟩
  have e : decide (V.int i = V.int j) = decide (i = j) := by rw [dec_int, Bool.eq_iff_iff]; simp
  rw [e]
  exact q _ G1 H1 (.refl b) (.bl _)
end
theorem vals_enc (B : Bg) : (enc B).map (·.2) = (B.map (·.2)).map dI := by
  unfold enc
  rw [List.map_map, List.map_map]; rfl
section
variable {P : Program} {w : World} {mg : Str → Option Value} {base : Heap} {K : PySem.W.Frag}
theorem d_free {σ : L2.St} {G : Hp} {n : List Int} {B : Bg} {tm td : TE} {j : Nat} {vs : List Nat} (b : BgOk n B) (hn : n ∈ fewD) (hm : EvD tm σ G (dL (placesOf n))) (hw : ∀ x, wipe ((wipe σ vs).set j (some x)) vs = wipe σ vs)
    (hd : ∀ v G1, Ex G G1 → EvD td ((wipe σ vs).set j (some v)) G1 (dctD (enc B))) (hv : ∀ v : V, ((wipe σ vs).set j (some v))[j]? = some (some v)) :
    EvD (tLc (iList K tm) (gName j) (tB (tDNotIn (tVar j) td)) (tVar j) vs) σ G (dL (freeOf n B)) := by
  have pl24 := few24 hn
  refine (d_lcL (as := (placesOf n).map dI) (fun d : D => decide (rowD d ∉ B.map (·.1))) id hm (by rw [List.length_map]; omega) hw (fun z a G5 x5 ha hz => ?_) (fun z a G5 x5 ha hz _ => d_var (hv z) hz)).is (by rw [made_rows (fun r => decide (r ∉ B.map (·.1)))]; rfl)
  obtain ⟨p, hp, rfl⟩ := List.mem_map.mp ha
  rw [rowD_dI]
  refine (b_B (d_dnotin (es := enc B) (k := kI p) (hd z G5 x5) (by rw [kD_kI]; exact d_var (hv z) hz))).is ?_
  rw [lk_enc]
  by_cases hmem : p ∈ B.map (·.1)
  · obtain ⟨q, hq, e⟩ := List.mem_map.mp hmem
    rw [← e, at_key b.keys hq, decide_eq_false (fun z => z (List.mem_map.mpr ⟨q, hq, rfl⟩))]; rfl
  · rw [at_keyN hmem, decide_eq_true hmem]; rfl
abbrev s_law : Stmt := top 61
theorem law_run {f C1 C2 C6 : Addr} {oc kV doc pm cd ct : Value} {od an : Option Addr} {osl : Array (Option Value)} (Z : Zs mg)
    (C__law_begun : Cal P w K mg base CX0 1 "_law_begun" ["script"] (SpBegun K)) (C__law_dials : Cal P w K mg base CX0 3 "_law_dials" ["state", "most"] SpDials) (C__law_pick : Cal P w K mg base CX0 2 "_law_pick" ["state", "several"] SpPick) (C__law_draw : Cal P w K mg base CX0 1 "_law_draw" ["state", "size_here"] SpDraw) (C__law_mixed : Cal P w K mg base CX0 2 "_law_mixed" ["state", "several"] SpMix)
    (C__law_places : Cal P w K mg base CX0 1 "_law_places" ["dials_here"] (SpR R_all_places)) (C__law_plus : Cal P w K mg base CX0 1 "_law_plus" ["dials_here", "one", "other"] (SpR R_add)) (C__law_less : Cal P w K mg base CX0 1 "_law_less" ["dials_here", "one", "other"] (SpR R_take))
    (C__law_nothing : Cal P w K mg base CX0 1 "_law_nothing" ["dials_here"] (SpR R_nothing_of)) (C__law_total : Cal P w K mg base CX0 2 "_law_total" ["dials_here", "several"] (SpR R_add_upE))
    (C_passing : Cal P w K mg base (L2.CX P w) 7 "passing" ["dials", "begun", "first", "second", "move"] (SpE R_okPass)) (C_is_dealing : Cal P w K mg base (L2.CX P w) 7 "is_dealing" ["dials", "thing"] (SpE (R_is_dealing C1))) (C_row_of : Cal P w K mg base (L2.CX P w) 8 "row_of" ["dials", "dealing"] (SpE (R_row_of C1 C6))) (C_dealing : Cal P w K mg base (L2.CX P w) 8 "dealing" ["dials", "row"] (SpE (R_dealing C1 C2)))
    (Z_sorted : mg "sorted" = none) (Z_enumerate : mg "enumerate" = none)
    (lk : K.lookup f = some ⟨oc, od, .func (PySem.W.fnOf "law" "law" (defArgs s_law) (defBody s_law) (defScope s_law) .none kV doc pm an cd ct), osl⟩) (hcd : PySem.W.codeIn K cd "law" = true)
    {sh : Shared} {H : Hp} {args : Args} {u : Value} {a : Addr} {ns : List Int} {Q : VK} {E : XK} (e0 : Env0 P w K mg base callerA [] sh H) (hb : BindsTo sh (PySem.W.fnOf "law" "law" (defArgs s_law) (defBody s_law) (defScope s_law) .none kV doc pm an cd ct) args [("script", u)])
    (hrel : RelV (.ref a) u) (hroom : Room 30 callerA) (hS : SqL K H a (ns.map V.int)) (hlen : ns.length ≤ 63) (hQ : ∀ H', Q (.bl true) H') :
    codeAny (model P w) callerA (.call (.ref f) args) (CR CX0 [] P w H sh Q E) sh := by
  have sc : FnScope ["script", "state", "turn", "dials_here", "menu", "some", "moves_here", "begun_here", "lap", "many", "move_here", "free", "item", "there", "empty", "last", "whole_here", "row_here", "again"] ["script"] (defScope s_law) := ⟨rfl, rfl, rfl, by decide +kernel, rfl, by decide +kernel, by decide +kernel⟩
  refine run_ofS (k := 29) (N := ["script", "state", "turn", "dials_here", "menu", "some", "moves_here", "begun_here", "lap", "many", "move_here", "free", "item", "there", "empty", "last", "whole_here", "row_here", "again"]) (ps := ["script"]) (us := [u]) (vs := [.ref a]) lk hcd sc hroom e0 hb (.cons hrel .nil) rfl fun hr => ?_
  suffices hh : ∃ t, PSs (cxOf CX0 P w K mg base ["script", "state", "turn", "dials_here", "menu", "some", "moves_here", "begun_here", "lap", "many", "move_here", "free", "item", "there", "empty", "last", "whole_here", "row_here", "again"] "law" (defScope s_law) f cd callerA [] sh H E).nox (defBody s_law) t ∧ t { nx := fun _ H' => Q .non H', rt := Q } (L2.start ["script", "state", "turn", "dials_here", "menu", "some", "moves_here", "begun_here", "lap", "many", "move_here", "free", "item", "there", "empty", "last", "whole_here", "row_here", "again"] [.ref a]) H from
    hh.elim fun t h => ⟨t, h.1.nox, h.2⟩
  have hu := hu_of hr
  refine ⟨_, (pss_cons (ps_set (i := 1) sc.nd rfl (Or.inr rfl) (pe_cal C__law_begun (hr.mono (by decide)) pass0 (pa_cons (pv 0) pa_nil))) (pss_cons (ps_for PassesOwn.never rfl (pi_range1 (by rfl) Z.range (pa_cons (pe_op op_add pe_int (pe_callB (call_min2 (by rfl)) (by rfl) Z.min (by decide +kernel) (pa_cons (pe_callB (r := rLenA K) call_len_seq (by rfl) Z.len PySem.boot_len (pa_cons (pv 0) pa_nil)) (pa_cons pe_int pa_nil)))) pa_nil)) (pg_name (i := 2) sc.nd rfl (Or.inl rfl)) (pss_cons (ps_set (i := 3) sc.nd rfl (Or.inr rfl) (pe_cal C__law_dials (hr.mono (by decide)) pass0 (pa_cons (pv 1) (pa_cons pe_int pa_nil)))) (pss_cons (ps_set (i := 4) sc.nd rfl (Or.inl rfl) (pe_cal C__law_places (hr.mono (by decide)) pass0 (pa_cons (pv 3) pa_nil))) (pss_cons (ps_set (i := 5) sc.nd rfl (Or.inr rfl) (pe_ifExp (pt_cmpR op_eq (pe_cal C__law_draw (hr.mono (by decide)) pass0 (pa_cons (pv 1) (pa_cons pe_int pa_nil))) pe_int (nomark _)) (pv 4) (pe_slice (r := rSlL K) sl_list (pe_cal C__law_mixed (hr.mono (by decide)) pass0 (pa_cons (pv 1) (pa_cons (pv 4) pa_nil))) po_none (po_some (pe_op op_add pe_int (pe_cal C__law_draw (hr.mono (by decide)) pass0 (pa_cons (pv 1) (pa_cons pe_int pa_nil)))))))) (pss_cons (ps_asg (pe_tup (pa_cons (pe_lc (own := [("lap", 8)]) (g := gName 8) (tt := tYes) (by rfl) sc.nd (pi_range1 (by rfl) Z.range (pa_cons (pe_op op_sub (pe_callB (r := rLenA K) call_len_seq (by rfl) Z.len PySem.boot_len (pa_cons (pv 4) pa_nil)) pe_int) pa_nil)) (blkOk_by (N := ["script", "state", "turn", "dials_here", "menu", "some", "moves_here", "begun_here", "lap", "many", "move_here", "free", "item", "there", "empty", "last", "whole_here", "row_here", "again"]) (sc := defScope s_law) (by decide +kernel)) (fun _ _ _ _ _ => (pg_name (i := 8) sc.nd rfl (Or.inl rfl))) (fun _ _ _ _ _ => pts_nil) (fun _ _ _ _ _ => (pe_cal C__law_pick (hr.mono (by decide)) pass0 (pa_cons (pv 1) (pa_cons (pv 5) pa_nil))))) (pa_cons (pe_fix pe_dnewT) pa_nil))) (pg_tup rfl (pgs_cons (pg_name (i := 6) sc.nd rfl (Or.inl rfl)) (pgs_cons (pg_name (i := 7) sc.nd rfl (Or.inr rfl)) pgs_nil)))) (pss_cons (ps_for PassesOwn.never rfl (pi_enumk true (by rfl) Z_enumerate (pa_cons (pv 6) pa_nil)) (pg_tup rfl (pgs_cons (pg_name (i := 9) sc.nd rfl (Or.inl rfl)) (pgs_cons (pg_name (i := 10) sc.nd rfl (Or.inl rfl)) pgs_nil))) (pss_cons (ps_set (i := 11) sc.nd rfl (Or.inl rfl) (pe_cal C__law_mixed (hr.mono (by decide)) pass0 (pa_cons (pv 1) (pa_cons (pe_lc (own := [("item", 12)]) (g := gName 12) (tt := _) (by rfl) sc.nd (pi_list (pv 4)) (blkOk_by (N := ["script", "state", "turn", "dials_here", "menu", "some", "moves_here", "begun_here", "lap", "many", "move_here", "free", "item", "there", "empty", "last", "whole_here", "row_here", "again"]) (sc := defScope s_law) (by decide +kernel)) (fun _ _ _ _ _ => (pg_name (i := 12) sc.nd rfl (Or.inl rfl))) (fun _ _ _ _ _ => (pts_one (pt_cmp (pc_dnotin hu (pv 12) (pv 7))))) (fun _ _ _ _ _ => (pv 12))) pa_nil)))) (pss_cons (ps_set (i := 7) sc.nd rfl (Or.inr rfl) (pe_ix (r := rIxT K) ix_tup (pe_cal C_passing (hr.mono (by decide)) passF (pa_cons (pv 3) (pa_cons (pv 7) (pa_cons (pe_ix (r := rIxL K) ix_list (pv 11) pe_int (fun _ _ => rfl)) (pa_cons (pe_ix (r := rIxL K) ix_list (pv 11) pe_int (fun _ _ => rfl)) (pa_cons (pv 10) pa_nil)))))) pe_int (fun _ _ => rfl))) (pss_one (ps_if (pt_cmpR (r := rNeD K) (op_neD hr.units) (pe_callB (r := rSortD K) (call_sortD hr.units) (by rfl) Z_sorted (by decide +kernel) (pa_cons (pe_callTy (r := rListV) (call_listV (by rfl)) (by rfl) Z.list (by decide +kernel) (pa_cons (pe_vals (pv 7)) pa_nil)) pa_nil)) (pe_callB (r := rSortD K) (call_sortD hr.units) (by rfl) Z_sorted (by decide +kernel) (pa_cons (pe_slice (r := rSlL K) sl_list (pv 6) po_none (po_some (pe_op op_add (pv 9) pe_int))) pa_nil)) (nomark _)) (pss_one (ps_ret pe_bl)) pss_nil))))) (pss_cons (ps_set (i := 13) sc.nd rfl (Or.inr rfl) (pe_lc (own := [("item", 12)]) (g := gName 12) (tt := tYes) (by rfl) sc.nd (pi_keys (pv 7)) (blkOk_by (N := ["script", "state", "turn", "dials_here", "menu", "some", "moves_here", "begun_here", "lap", "many", "move_here", "free", "item", "there", "empty", "last", "whole_here", "row_here", "again"]) (sc := defScope s_law) (by decide +kernel)) (fun _ _ _ _ _ => (pg_name (i := 12) sc.nd rfl (Or.inl rfl))) (fun _ _ _ _ _ => pts_nil) (fun _ _ _ _ _ => (pe_cal C__law_plus (hr.mono (by decide)) pass0 (pa_cons (pv 3) (pa_cons (pv 12) (pa_cons (pe_dget hu (pv 7) (pv 12) (fun _ _ => rfl)) pa_nil))))))) (pss_cons (ps_par (i := 11) (j := 14) (by rfl) sc.nd rfl rfl (by decide) rfl rfl (pa_cons (pe_lc (own := [("item", 12)]) (g := gName 12) (tt := _) (by rfl) sc.nd (pi_list (pv 4)) (blkOk_by (N := ["script", "state", "turn", "dials_here", "menu", "some", "moves_here", "begun_here", "lap", "many", "move_here", "free", "item", "there", "empty", "last", "whole_here", "row_here", "again"]) (sc := defScope s_law) (by decide +kernel)) (fun _ _ _ _ _ => (pg_name (i := 12) sc.nd rfl (Or.inl rfl))) (fun _ _ _ _ _ => (pts_one (pt_cmp (pc_dnotin hu (pv 12) (pv 7))))) (fun _ _ _ _ _ => (pv 12))) (pa_cons (pe_lc (own := [("item", 12)]) (g := gName 12) (tt := _) (by rfl) sc.nd (pi_list (pv 4)) (blkOk_by (N := ["script", "state", "turn", "dials_here", "menu", "some", "moves_here", "begun_here", "lap", "many", "move_here", "free", "item", "there", "empty", "last", "whole_here", "row_here", "again"]) (sc := defScope s_law) (by decide +kernel)) (fun _ _ _ _ _ => (pg_name (i := 12) sc.nd rfl (Or.inl rfl))) (fun _ _ _ _ _ => (pts_one (pt_cmpR (r := rInA K true) (op_notInA (room65 hr)) (pv 12) (pv 13) (by rfl)))) (fun _ _ _ _ _ => (pv 12))) pa_nil)) (by rfl)) (pss_cons (ps_if (PW.pt (pw_or (pt_cmpR op_ne (pe_callB (r := rLenA K) call_len_seq (by rfl) Z.len PySem.boot_len (pa_cons (pv 11) pa_nil)) pe_int (nomark _)) (pw_or1 (pt_cmpR op_ne (pe_callB (r := rLenA K) call_len_seq (by rfl) Z.len PySem.boot_len (pa_cons (pv 14) pa_nil)) pe_int (nomark _))))) (pss_one (ps_ret pe_bl)) pss_nil) (pss_cons (ps_set (i := 15) sc.nd rfl (Or.inr rfl) (pe_cal C__law_less (hr.mono (by decide)) pass0 (pa_cons (pv 3) (pa_cons (pe_ix (r := rIxL K) ix_list (pv 14) pe_int (fun _ _ => rfl)) (pa_cons (pe_ix (r := rIxL K) ix_list (pv 11) pe_int (fun _ _ => rfl)) pa_nil))))) (pss_cons (ps_if (pt_cmpR (r := rNeD K) (op_neD hr.units) (pv 15) (pe_cal C__law_less (hr.mono (by decide)) pass0 (pa_cons (pv 3) (pa_cons (pe_cal C__law_nothing (hr.mono (by decide)) pass0 (pa_cons (pv 3) pa_nil)) (pa_cons (pe_cal C__law_total (hr.mono (by decide)) pass0 (pa_cons (pv 3) (pa_cons (pv 6) pa_nil))) pa_nil)))) (nomark _)) (pss_one (ps_ret pe_bl)) pss_nil) (pss_cons (ps_set (i := 16) sc.nd rfl (Or.inl rfl) (pe_callTy (r := rTupOf K) call_tuple_of (by rfl) Z.tuple (by decide +kernel) (pa_cons (pe_lc (own := [("item", 12)]) (g := gName 12) (tt := tYes) (by rfl) sc.nd (pi_list (pv 4)) (blkOk_by (N := ["script", "state", "turn", "dials_here", "menu", "some", "moves_here", "begun_here", "lap", "many", "move_here", "free", "item", "there", "empty", "last", "whole_here", "row_here", "again"]) (sc := defScope s_law) (by decide +kernel)) (fun _ _ _ _ _ => (pg_name (i := 12) sc.nd rfl (Or.inl rfl))) (fun _ _ _ _ _ => pts_nil) (fun _ _ _ _ _ => (pe_dget2 hu (pv 7) (pv 12) (pv 15) ⟨rfl, rfl, rfl, rfl⟩))) pa_nil))) (pss_cons (ps_if (pt_cmpR op_isnot_bl (pe_cal C_is_dealing (hr.mono (by decide)) passF (pa_cons (pv 3) (pa_cons (pv 16) pa_nil))) pe_bl (nomark _)) (pss_one (ps_ret pe_bl)) pss_nil) (pss_cons (ps_set (i := 17) sc.nd rfl (Or.inl rfl) (pe_cal C_row_of (hr.mono (by decide)) passF (pa_cons (pv 3) (pa_cons (pv 16) pa_nil)))) (pss_cons (ps_set (i := 18) sc.nd rfl (Or.inl rfl) (pe_cal C_dealing (hr.mono (by decide)) passF (pa_cons (pv 3) (pa_cons (pv 17) pa_nil)))) (pss_one (ps_if (PW.pt (pw_or (pt_cmpR (r := rNeD K) (op_neD hr.units) (pv 17) (pe_callTy (r := rTupOf K) call_tuple_of (by rfl) Z.tuple (by decide +kernel) (pa_cons (pe_callB (r := rSortD K) (call_sortD hr.units) (by rfl) Z_sorted (by decide +kernel) (pa_cons (pe_op op_cat (pv 6) (pe_lst (pa_cons (pv 15) pa_nil))) pa_nil)) pa_nil)) (nomark _)) (pw_or (pt_cmpR op_isN (pv 18) pe_non (nomark _)) (pw_or1 (pt_cmpR (r := rNeD K) (op_neD hr.units) (pe_callTy (r := rTupOf K) call_tuple_of (by rfl) Z.tuple (by decide +kernel) (pa_cons (pe_callB (r := rSortD K) (call_sortD hr.units) (by rfl) Z_sorted (by decide +kernel) (pa_cons (pv 18) pa_nil)) pa_nil)) (pv 17) (nomark _)))))) (pss_one (ps_ret pe_bl)) pss_nil))))))))))))))))) (pss_one (ps_ret pe_bl)))), ?_⟩
  refine ⟨.ref a, rfl, only H a, a, ns, rfl, only_ex, hS, by omega, fun s l c' H1 wd1 e1 => ?_⟩
  dsimp only [gName]
  have seqG : ∀ H', Ex (only H a) H' → SqL K H' a (ns.map V.int) := fun H' e => by
    have g : only H a a = H a := if_pos rfl
    rcases hS with (z | ⟨o, z⟩) | z
    · exact .inl (.inl (e _ _ (g.trans z)))
    · exact .inl (.inr ⟨o, e _ _ (g.trans z)⟩)
    · exact .inr z
  obtain ⟨G0, hG0⟩ : ∃ G0 : Hp, G0 = only H a := ⟨_, rfl⟩
  rw [← hG0] at wd1 seqG
  obtain ⟨n0, hn0⟩ : ∃ n0 : Nat, (n0 : Int) = 1 + (if (5 : Int) < (((ns.map V.int).length : Nat) : Int) then (5 : Int) else (((ns.map V.int).length : Nat) : Int)) := ⟨(1 + (if (5 : Int) < (((ns.map V.int).length : Nat) : Int) then (5 : Int) else (((ns.map V.int).length : Nat) : Int))).toNat, by rw [List.length_map]; split <;> omega⟩
  have hn10 : n0 ≤ 6 := by rw [List.length_map] at hn0; split at hn0 <;> omega
  refine q_forRW (G := G0) (n := n0) (a_cons ((d_op (d_c (.int 1)) (d_cb (a_cons (d_lenS rfl seqG) (a_cons (d_c (.int 5)) a_nil)) cad_min2) (opd_I0 fun _ => .int _)).is (by rw [hn0])) a_nil) (by omega) wd1.w
    (fun i σ' H' => Wd G0 H' s l c' ((i : Int) * 50000) ∧ ∃ o2 o3 o4 o5 o6 o7 o8 o9 o10 o11 o12 o13 o14 o15 o16 o17 o18, σ' = [some (.ref a), some (.ref s), o2, o3, o4, o5, o6, o7, o8, o9, o10, o11, o12, o13, o14, o15, o16, o17, o18]) (fun G2 H2 s2 => ⟨(wd1.stp s2).low s2.g (by omega), none, none, none, none, none, none, none, none, none, none, none, none, none, none, none, none, none, rfl⟩) ?_ ?_
  · rintro i σ' H2 hi ⟨wd2, o2, o3, o4, o5, o6, o7, o8, o9, o10, o11, o12, o13, o14, o15, o16, o17, o18, rfl⟩
    obtain ⟨T0, hT0⟩ : ∃ T : Int, T = (i : Int) * 50000 := ⟨_, rfl⟩
    have hT : T0 ≤ 300000 := by omega
    rw [← hT0] at wd2
    refine ⟨.ref s, rfl, G0, s, l, c', _, rfl, wd2, by omega, fun v3 n G3 H3 hm wd3 ss3 hv3 => ?_⟩
    dsimp only [gName]
    have hn : n ∈ fewD := hm
    have okd := okB_ok (List.all_eq_true.mp few_ok n hn)
    have l1 := okd.lo
    have l2 := okd.hi
    have pos : ∀ s ∈ n, 0 < s := fun s hs => by have := okd.sz s hs; omega
    have pl24 := few24 hn
    have two : 2 ≤ (placesOf n).length := by have := List.all_eq_true.mp few_two n hn; simpa using this
    refine q_asg (i := 4) (G := G3) (d := dL (placesOf n)) (d_cal (a_cons (d_var rfl hv3) a_nil) ⟨n, rfl, okd, rfl⟩) wd3.w fun v4 G4 H4 s4 h4 => ?_
    have wd4 := wd3.stp s4
    have hv4 := hv3.mono s4.g
    refine if_cps ?_
    refine ⟨.ref s, rfl, G4, s, l, c', _, 2, rfl, wd4, by decide, by omega, by omega, fun r H5 r0 r1 wd5 ss5 => ?_⟩
    refine q_ifK (i := 5) (fun v H' => ∃ (Bs : Rows) (G' : Hp), Bs ≠ [] ∧ Bs.length ≤ 24 ∧ (∀ p ∈ Bs, p ∈ placesOf n) ∧ Dq G' v (dL Bs) ∧ Ex G4 G' ∧ Wd G' H' s l c' (T0 + 1000)) (G := G4) (b := decide (r = 0)) (b_test (d_op (d_given (.int r)) (d_c (.int 0)) (opd_eqN _ _))) wd5.w ?h_rest ?h_a ?h_b
    case h_a =>
      intro _ G6 H6 s6 Q k
      exact ⟨v4, rfl, k v4 H6 ⟨placesOf n, G6, List.ne_nil_of_length_pos (by omega), pl24, fun _ h => h, h4.mono s6.g, s6.g, (wd5.stp s6).low (Ex.refl _) (by omega)⟩⟩
    case h_b =>
      intro _ G6 H6 s6 Q k
      have wd6 := wd5.stp s6
      have h46 := h4.mono s6.g
      refine slQ ?_
      refine ⟨.ref s, rfl, v4, rfl, G6, s, l, c', _, v4, (placesOf n).map dI, rfl, h46, shaped_rowsL _, flat_rows _, by rw [List.length_map]; omega, wd6, by rw [List.length_map]; omega, fun vx bs G7 H7 hbs hlen hpm wd7 ss7 hx => ?_⟩
      rw [List.length_map] at hlen wd7
      refine ⟨.ref s, rfl, G7, s, l, c', _, 3, rfl, wd7, by decide, by omega, by omega, fun r2 H8 r3 r4 wd8 ss8 => ?_⟩
      obtain ⟨i2, rfl⟩ := Int.eq_ofNat_of_zero_le r3
      have ev := d_slL (K := K) (σ := [some (.ref a), some (.ref s), some (.int (i : Int)), some v3, some v4, o5, o6, o7, o8, o9, o10, o11, o12, o13, o14, o15, o16, o17, o18]) (d_given hx) o_none (o_some (d_op (d_c (.int 1)) (d_given (.int (i2 : Int))) (opd_I0 (g := fun a b => V.int (a + b)) fun _ => .int _)))
      refine ev G7 H8 (.refl _) wd8.w _ fun vy G9 H9 s9 hy => ?_
      obtain ⟨Bp, rfl, hBp⟩ := rows_of hbs
      rw [List.length_map] at hlen
      rw [show (1 + (i2 : Int)) = ((1 + i2 : Nat) : Int) from by omega, cut_to] at hy
      exact k vy H9 ⟨Bp.take (1 + i2), G9, List.ne_nil_of_length_pos (by rw [List.length_take]; omega), by rw [List.length_take]; omega, fun p hp => hBp p (List.mem_of_mem_take hp), hy, (s6.g.trans ss7.g).trans s9.g, (wd8.stp s9).low (Ex.refl _) (by omega)⟩
    case h_rest =>
      rintro v5 H5' ⟨Bs, G5, hB0, hBl, hB, hB5, g45, wd5'⟩
      have hv5 := hv4.mono g45
      have h45 := h4.mono g45
      have g05 : Ex G0 G5 := (ss3.g.trans s4.g).trans g45
      have evR : EvS (tCons (tOp (rI0 fun i j => V.int (i - j)) (tCB (rLenA K) (tCons (tVar 4) tNil)) (tC (V.int 1))) tNil) [some (.ref a), some (.ref s), some (.int (i : Int)), some v3, some v4, some v5, o6, o7, o8, o9, o10, o11, o12, o13, o14, o15, o16, o17, o18] G5 [.int (((placesOf n).length - 1 : Nat) : Int)] := a_cons ((d_op (d_cb (a_cons (d_var rfl h45) a_nil) cad_lenL) (d_c (.int 1)) (opd_I0 (g := fun a b => V.int (a - b)) fun _ => .int _)).is (by rw [List.length_map, show ((((placesOf n).length : Nat) : Int) - 1) = (((placesOf n).length - 1 : Nat) : Int) from by omega])) a_nil
      refine asg_tupR ?_
      refine evR G5 H5' (.refl _) wd5'.w _ fun us G6 H6 s6 hus => ?_
      have wd6 := wd5'.stp s6
      have hB6 := hB5.mono s6.g
      have hv6 := hv5.mono s6.g
      have h46 := h45.mono s6.g
      cases hus with
      | cons hu1 hn1 =>
      cases hn1
      cases hu1
      refine ⟨(((placesOf n).length - 1 : Nat) : Int), rfl, by omega, by omega, fun dl hdl => ?_⟩
      have gq : G6 dl = none := fresh_back wd6.w hdl
      obtain ⟨⟨q1, e1, _⟩, ⟨q2, e2, _⟩, q3, e3, _⟩ := wd6.st.at
      have qs : dl ≠ s ∧ dl ≠ l ∧ dl ≠ c' := ⟨(ne_of_none e1 hdl).symm, (ne_of_none e2 hdl).symm, (ne_of_none e3 hdl).symm⟩
      rw [show ((((placesOf n).length - 1 : Nat) : Int)).toNat = (placesOf n).length - 1 from by omega]
      refine lc_range (lo := 0) (n := (placesOf n).length - 1) (fun i H' => StS [s, l, c'] G6 H6 G6 H' ∧ Wd G6 H' s l c' (T0 + 1000 + (i : Int)) ∧ ∃ (ps : Rows) (vs : List V), (∀ p ∈ ps, p ∈ placesOf n) ∧ ps.length = i ∧ DqA G6 vs (ps.map dI) ∧ H' dl = some (.lst vs)) ?_ (fun i H' hi m => ⟨rfl, ?_⟩) (fun H' m => ?_)
      · refine ⟨(StS.refl wd6.w).mut hdl gq, ?_, [], [], (fun p hp => by cases hp), rfl, .nil, upd_same⟩
        have := wd6.mut (o := .lst []) gq qs.1 qs.2.1 qs.2.2
        simpa using this
      · obtain ⟨ss, wd', ps, vs, hps, hpn, hvs, hd⟩ := m
        refine t_yes ?_
        rw [if_pos rfl]
        refine ⟨.ref s, rfl, v5, rfl, G6, s, l, c', _, v5, _, rfl, hB6, by simpa using hB0, by rw [List.length_map]; omega, wd', by omega, fun v d H7 hd' hq wd7 ss7 => ?_⟩
        have hd7 := ss7.h dl _ (by simp [qs.1, qs.2.1, qs.2.2]) hd
        obtain ⟨p, hp, rfl⟩ := List.mem_map.mp hd'
        have vl := hvs.len
        rw [List.length_map] at vl
        refine ⟨vs, hd7, by rw [sizeLine_eq]; omega, (ss.trans ss7).mut hdl gq, ?_, ps ++ [p], vs ++ [v], ?_, ?_, ?_, upd_same⟩
        · have := wd7.mut (o := .lst (vs ++ [v])) gq qs.1 qs.2.1 qs.2.2
          have e : T0 + 1000 + ((i + 1 : Nat) : Int) = T0 + 1000 + (i : Int) + 1 := by omega
          rw [e]; exact this
        · intro x hx
          rcases List.mem_append.mp hx with h | h
          · exact hps x h
          · rw [List.mem_singleton.mp h]; exact hB p hp
        · rw [List.length_append, hpn]; rfl
        · rw [List.map_append]
          exact hvs.app (.cons hq .nil)
      · obtain ⟨ss, wd', M, vs, hM, hMn, hvs, hd⟩ := m
        have wdK := wd'.know hd (by simp [qs.1, qs.2.1, qs.2.2])
        obtain ⟨G7, eG7⟩ : ∃ G7, G7 = upd G6 dl (.lst vs) := ⟨_, rfl⟩
        rw [← eG7] at wdK
        have x67 : Ex G6 G7 := by rw [eG7]; exact .new gq
        have hM7 : Dq G7 (.ref dl) (dL M) := .lst (by rw [eG7]; exact upd_same) (hvs.mono x67)
        refine d_dnew G7 H' (.refl _) wdK.w _ fun v7 G8 H8 s8 h78 => ?_
        have wd8 := wdK.stp s8
        refine ⟨by show 2 ≤ sizeLine; decide, fun q2 hq2 => ⟨q2, _, rfl, SqT.of upd_same, rfl, _, _, rfl, _, _, rfl, rfl, ?_⟩⟩
        have wd9 := wd8.stp (Stp.old wd8.w (show Ex H8 (upd H8 q2 (.tup [.ref dl, v7])) from .new hq2))
        obtain ⟨H9, eH9⟩ : ∃ H9, H9 = upd H8 q2 (.tup [.ref dl, v7]) := ⟨_, rfl⟩
        rw [← eH9] at wd9 ⊢
        dsimp only
        have hM8 := hM7.mono s8.g
        have hv8 := hv6.mono (x67.trans s8.g)
        have h48 := h46.mono (x67.trans s8.g)
        have g08 : Ex G0 G8 := ((g05.trans s6.g).trans x67).trans s8.g
        have iM : ∀ p ∈ M, InP p n := fun p hp => few_inP hn (hM p hp)
        obtain ⟨T1, hT1⟩ : ∃ T : Int, T = T0 + 2000 := ⟨_, rfl⟩
        have wd9' : Wd G8 H9 s l c' T1 := wd9.low (Ex.refl _) (by omega)
        have lM : M.length ≤ 24 := by omega
        refine q_forEW (G := G8) (as := M.map dI) (a_cons (d_var rfl hM8) a_nil) wd9'.w (fun G1 m σ' H' => ∃ (G' : Hp) (v7 : V) (B : Bg) (p9 p10 p11 : Option V), σ' = [some (.ref a), some (.ref s), some (.int (i : Int)), some v3, some v4, some v5, some (.ref dl), some v7, o8, p9, p10, p11, o12, o13, o14, o15, o16, o17, o18] ∧ BgOk n B ∧ B.length = m ∧ (B.map (·.2)).Perm (M.take m) ∧ Dq G' v7 (dctD (enc B)) ∧ Wd G' H' s l c' (T1 + (m : Int) * 100) ∧ Ex G8 G' ∧ Ex G1 G')
          (fun G10 H10 s10 => ⟨G10, v7, [], o9, o10, o11, rfl, bg_nil, rfl, List.Perm.refl _, h78.mono s10.g, (wd9'.stp s10).low (Ex.refl _) (by omega), s10.g, Ex.refl _⟩)
          (fun G1 m σ' H' iv => by obtain ⟨G', _, _, _, _, _, _, _, _, _, _, wd, _, x⟩ := iv; exact x.trans wd.w) ?_ ?_
        · rintro G10 H10 s10 m vm dm σ' H11 T hmi hqm ⟨G11, v7', B, p9, p10, p11, rfl, bk, bl, bp, h7, wd11, x8, x10⟩ hT
          rw [List.getElem?_map] at hmi
          obtain ⟨mv, hmv, rfl⟩ := Option.map_eq_some_iff.mp hmi
          have hm24 : m < M.length := (List.getElem?_eq_some_iff.mp hmv).1
          have imv := iM mv (List.mem_of_getElem? hmv)
          have wd12 := wd11.stp (Stp.old wd11.w (show Ex H11 (upd H11 T (.tup [.int (m : Nat), vm])) from .new hT))
          obtain ⟨H12, eH12⟩ : ∃ H12, H12 = upd H11 T (.tup [.int (m : Nat), vm]) := ⟨_, rfl⟩
          rw [← eH12] at wd12 ⊢
          have hv11 := hv8.mono x8
          have h411 := h48.mono x8
          have hM11 := hM8.mono x8
          have hqm11 := hqm.mono x10
          have fl := free_len hn bk
          have evF : EvD (tLc (iList K (tVar 4)) (gName 12) (tB (tDNotIn (tVar 12) (tVar 7))) (tVar 12) [12]) [some (.ref a), some (.ref s), some (.int (i : Int)), some v3, some v4, some v5, some (.ref dl), some v7', o8, some (.int (m : Int)), some vm, p11, o12, o13, o14, o15, o16, o17, o18] G11 (dL (freeOf n B)) := d_free bk hn (d_var rfl h411) (fun _ => rfl) (fun v G1 x => d_var rfl (h7.mono x)) (fun _ => rfl)
          refine ⟨.ref s, rfl, ?_⟩
          refine evF G11 H12 (.refl _) wd12.w _ fun vf G13 H13 s13 hf' => ?_
          have wd13 := wd12.stp s13
          refine ⟨G13, s, l, c', _, vf, (freeOf n B).map dI, rfl, hf', shaped_rowsL _, flat_rows _, by rw [List.length_map]; omega, wd13, by rw [List.length_map]; omega, fun vx bs G14 H14 hbs hlen hpm wd14 ss14 hx => ?_⟩
          dsimp only [gName]
          rw [List.length_map] at wd14
          obtain ⟨F, rfl, hF⟩ := rows_of hbs
          have pF := rows_perm hpm
          obtain ⟨x, y, r, eF⟩ : ∃ x y r, F = x :: y :: r := by
            have e := pF.length_eq
            cases F with
            | nil => simp at e; omega
            | cons x F => cases F with
              | nil => simp at e; omega
              | cons y r => exact ⟨x, y, r, rfl⟩
          have inF : ∀ p ∈ F, InP p n ∧ p ∉ B.map (·.1) := fun p hp => by
            obtain ⟨h1, h2⟩ := List.mem_filter.mp (pF.mem_iff.mp hp)
            exact ⟨few_inP hn h1, of_decide_eq_true h2⟩
          have ndF : F.Nodup := pF.nodup_iff.mpr ((few_nodup hn).filter _)
          rw [eF] at inF ndF hx
          obtain ⟨ix, fx⟩ := inF x (by simp)
          obtain ⟨iy, fy⟩ := inF y (by simp)
          have ne : x ≠ y := fun e => by rw [e] at ndF; simp at ndF
          obtain ⟨b2, bl2, bp2⟩ := passB_ok (m := mv) hn bk ix iy imv fx fy ne
          have g1114 := s13.g.trans ss14.g
          refine q_asg (i := 7) (G := G14) (d := dctD (enc (passB n B x y mv).2)) (d_op (d_calE (a_cons (d_var rfl (hv11.mono g1114)) (a_cons (d_var rfl (h7.mono g1114)) (a_cons (d_op (z := dI x) (d_var rfl hx) (d_c (.int 0)) (opd_ixL (j := 0) rfl)) (a_cons (d_op (z := dI y) (d_var rfl hx) (d_c (.int 1)) (opd_ixL (j := 1) rfl)) (a_cons (d_var rfl (hqm11.mono g1114)) a_nil))))) ⟨_, ⟨n, B, x, y, mv, rfl, hn, bk, ix, iy, imv, fx, fy, ne, rfl⟩, rfl⟩) (d_c (.int 1)) (opd_ixT (j := 1) rfl)) wd14.w fun v7n G15 H15 s15 h7n => ?_
          have wd15 := wd14.stp s15
          have g1115 := g1114.trans s15.g
          have bpn : ((passB n B x y mv).2.map (·.2)).Perm (M.take (m + 1)) := by rw [take_more hmv]; exact bp2.trans (bp.append_right [mv])
          have ok1 : SortOk ((enc (passB n B x y mv).2).map (·.2)) := by
            rw [vals_enc]
            refine sortOk_rows fun p hp => ?_
            obtain ⟨q, hq, rfl⟩ := (List.mem_map.mp hp)
            have := (b2.inH q hq).2.len
            omega
          have ok2 : SortOk ((M.take (m + 1)).map dI) := sortOk_rows fun p hp => by
            have := (iM p (List.mem_of_mem_take hp)).len
            omega
          refine s_when (G := G15) (b := false) (b_test ((d_op (d := dL (sortR ((passB n B x y mv).2.map (·.2)))) (e := dL (sortR (M.take (m + 1)))) ((d_cb (a_cons (d_listV (d_var rfl h7n)) a_nil) (cad_sortL ok1)).is (by rw [vals_enc, sort_rows]; rfl)) ((d_cb (a_cons ((d_slL (d_var rfl (hM11.mono g1115)) o_none (o_some (d_op (d_var rfl (.int (m : Int))) (d_c (.int 1)) (opd_I0 (g := fun a b => V.int (a + b)) fun _ => .int _)))).is (by rw [show ((m : Int) + 1) = ((m + 1 : Nat) : Int) from by omega, cut_to])) a_nil) (cad_sortL ok2)).is (by rw [sort_rows]; rfl)) (opd_ne (flat_rows _) (flat_rows _) (shaped_rowsL _) (shaped_rowsL _))).is (by rw [eqv_dLr, sort_perm bpn]; simp))) wd15.w (fun z => by cases z) fun _ G16 H16 s16 => ⟨G16, v7n, _, _, _, _, rfl, b2, by rw [bl2, bl], bpn, h7n.mono s16.g, (wd15.stp s16).low (Ex.refl _) (by omega), x8.trans (g1115.trans s16.g), x10.trans (g1115.trans s16.g)⟩
        · rintro G10 H10 s10 σ' H11 ⟨G11, v7', B, p9, p10, p11, rfl, bk, bl, bp, h7, wd11, x8, x10⟩
          rw [List.length_map] at bl bp wd11
          rw [List.take_length] at bp
          have hv11 := hv8.mono x8
          have h411 := h48.mono x8
          have hM11 := hM8.mono x8
          have lB : B.length ≤ 24 := by omega
          obtain ⟨p0, e0', ef, ee, i0, ie, dk, pmw, elast⟩ := last_ok hn bk (by omega)
          obtain ⟨last, hlast⟩ : ∃ last, last = takeP n e0' p0 := ⟨_, rfl⟩
          rw [← hlast] at dk pmw elast
          have vM : addUp n (B.map (·.2)) = addUp n M := addUp_perm bp
          rw [vM] at elast
          have mo := dk.ok hn
          refine q_asg (i := 13) (G := G11) (d := dL (B.map (endB n))) ((d_lcK (es := enc B) (fun _ => true) (fun e : KK × D => dI (addP n (pOf e.1) (rowD e.2))) (d_var rfl h7) (by unfold enc; rw [List.length_map]; omega) (fun _ => rfl) (fun _ _ _ _ _ _ => b_yes) (fun v e G3 x3 he hq _ => ?c13)).is (by rw [ends_made]; rfl)) wd11.w fun v13 G12 H12 s12 h13 => ?_
          case c13 =>
            obtain ⟨q, hqB, rfl⟩ := List.mem_map.mp he
            obtain ⟨i1, i2⟩ := bk.inH q hqB
            dsimp only
            rw [pOf_kI, rowD_dI]
            rw [kD_kI] at hq
            exact d_cal (a_cons (d_var rfl (hv11.mono x3)) (a_cons (d_var rfl hq) (a_cons (d_dget (es := enc B) (k := kI q.1) (d_var rfl (h7.mono x3)) (by rw [kD_kI]; exact d_var rfl hq) (at_keyD bk.keys hqB)) a_nil))) ⟨n, q.1, q.2, rfl, i1.len, i2.len, by omega, pos, rfl⟩
          have wd12 := wd11.stp s12
          have hv12 := hv11.mono s12.g
          have h412 := h411.mono s12.g
          have hM12 := hM11.mono s12.g
          have h712 := h7.mono s12.g
          refine q_par (i := 11) (j := 14) (G := G12) (d := dL (freeOf n B)) (e := dL (emptyOf n B)) (d_free bk hn (d_var rfl h412) (fun _ => rfl) (fun v G1 x => d_var rfl (h712.mono x)) (fun _ => rfl))
            ((d_lcL (as := (placesOf n).map dI) (fun d : D => !((B.map (endB n)).any fun c => decide (c = rowD d))) id (d_var rfl h412) (by rw [List.length_map]; omega) (fun _ => rfl) (fun z a G5 x5 ha hz => ?c14) (fun z a G5 x5 ha hz _ => d_var rfl hz)).is (by rw [empty_made]; rfl)) wd12.w fun v11 v14 G13 H13 s13 h11 h14 => ?_
          case c14 =>
            obtain ⟨p, hp, rfl⟩ := List.mem_map.mp ha
            rw [rowD_dI]
            exact b_test (d_inL (neg := true) (d_var rfl hz) (d_var rfl (h13.mono x5)))
          rw [ef] at h11
          rw [ee] at h14
          have wd13 := wd12.stp s13
          have hv13 := hv12.mono s13.g
          have h413 := h412.mono s13.g
          have hM13 := hM12.mono s13.g
          have h713 := h712.mono s13.g
          refine q_when (G := G13) (b := false) (b_or (a := false) (b := false) (b_test ((d_op (d_cb (a_cons (d_var rfl h11) a_nil) cad_lenL) (d_c (.int 1)) (opd_neNi _ _)).is rfl)) fun _ => b_test ((d_op (d_cb (a_cons (d_var rfl h14) a_nil) cad_lenL) (d_c (.int 1)) (opd_neNi _ _)).is rfl)) wd13.w (fun z => by cases z) fun _ G14 H14 s14 => ?_
          have wd14 := wd13.stp s14
          have hv14 := hv13.mono s14.g
          have hM14 := hM13.mono s14.g
          refine q_asg (i := 15) (G := G14) (d := dI last) ((d_cal (a_cons (d_var rfl hv14) (a_cons (d_op (z := dI e0') (d_var rfl (h14.mono s14.g)) (d_c (.int 0)) (opd_ixL (j := 0) rfl)) (a_cons (d_op (z := dI p0) (d_var rfl (h11.mono s14.g)) (d_c (.int 0)) (opd_ixL (j := 0) rfl)) a_nil))) ⟨n, e0', p0, rfl, ie.len, i0.len, by omega, pos, rfl⟩).is (by rw [hlast])) wd14.w fun v15 G15 H15 s15 h15 => ?_
          have wd15 := wd14.stp s15
          have hv15 := hv14.mono s15.g
          have hM15 := hM14.mono s15.g
          have lenM : ∀ p ∈ M, p.length = n.length := fun p hp => (iM p hp).len
          refine q_when (G := G15) (b := false) (b_test ((d_op (d := dI last) (e := dI last) (d_var rfl h15) ((d_cal (a_cons (d_var rfl hv15) (a_cons (d_cal (z := dI (zeros n)) (a_cons (d_var rfl hv15) a_nil) ⟨n, rfl, l1, by omega, rfl⟩) (a_cons (d_cal (z := dI (addUp n M)) (a_cons (d_var rfl hv15) (a_cons (d_var rfl hM15) a_nil)) ⟨n, M, dL M, rfl, .inl rfl, l1, by omega, pos, lenM, rfl⟩) a_nil))) ⟨n, zeros n, addUp n M, rfl, zeros_len n, addUp_len lenM, by omega, pos, rfl⟩).is (by rw [← elast])) (opd_neI _ _)).is (by rw [eqv_dI]; simp))) wd15.w (fun z => by cases z) fun _ G16 H16 s16 => ?_
          have wd16 := wd15.stp s16
          have g1316 := (s14.g.trans s15.g).trans s16.g
          have h416 := h413.mono g1316
          have h716 := h713.mono g1316
          have h1516 := h15.mono s16.g
          refine q_asg (i := 16) (G := G16) (d := dT (wholeB n B last)) ((d_cb (a_cons ((d_lcL (as := (placesOf n).map dI) (fun _ => true) (fun d => (lkD (enc B) (kI (rowD d))).getD (dI last)) (d_var rfl h416) (by rw [List.length_map]; omega) (fun _ => rfl) (fun _ _ _ _ _ _ => b_yes) (fun z a G5 x5 ha hz _ => ?c16)).is (by rw [whole_made])) a_nil) cad_tuple).is rfl) wd16.w fun v16 G17 H17 s17 h16 => ?_
          case c16 =>
            obtain ⟨p, hp, rfl⟩ := List.mem_map.mp ha
            rw [rowD_dI]
            exact d_dget2 (d_var rfl (h716.mono x5)) (by rw [kD_kI]; exact d_var rfl hz) (d_var rfl (h1516.mono x5))
          have wd17 := wd16.stp s17
          have hv17 := hv15.mono (s16.g.trans s17.g)
          refine q_when (G := G17) (b := false) (b_test (d_op (d := .bool true) (e := .bool true) (d_calE (a_cons (d_var rfl hv17) (a_cons (d_var rfl h16) a_nil)) ⟨_, _, rfl, .inl ⟨n, rfl, hn, by show ((wholeB n B last).map dI).length ≤ 1000; rw [List.length_map, mo.len]; omega, by rw [dk.dealt hn]⟩⟩) (d_c (.bl true)) opd_isnB)) wd17.w (fun z => by cases z) fun _ G18 H18 s18 => ?_
          have wd18 := wd17.stp s18
          have hv18 := hv17.mono s18.g
          refine q_asg (i := 17) (G := G18) (d := dT (sortR (wholeB n B last))) (d_calE (a_cons (d_var rfl hv18) (a_cons (d_var rfl (h16.mono s18.g)) a_nil)) ⟨_, _, rfl, .inl ⟨n, wholeB n B last, rfl, rfl, hn, mo, dk.dealt hn, rfl⟩⟩) wd18.w fun v17 G19 H19 s19 h17 => ?_
          have wd19 := wd18.stp s19
          have hv19 := hv18.mono s19.g
          have oS := sort_ok mo
          have sum0 := dk.sum hn
          obtain ⟨R, eR⟩ : ∃ R, R = sortR (wholeB n B last) := ⟨_, rfl⟩
          have aR : isAsc R = true := by rw [eR]; exact asc_sort _
          rw [← eR] at h17 oS sum0
          have isR : isRow n (dT R) = true := by rw [row_T hn oS]; exact aR
          have eD : dealD n R = dT (dealF n R) := by unfold dealD; rw [if_pos sum0]
          obtain ⟨_, dk2, pm2⟩ := deal_ok hn oS
          have mo2 := dk2.ok hn
          refine q_asg (i := 18) (G := G19) (d := dT (dealF n R)) ((d_calE (z := dealD n R) (a_cons (d_var rfl hv19) (a_cons (d_var rfl h17) a_nil)) ⟨_, _, rfl, .inl ⟨n, R, rfl, rfl, hn, oS, isR, rfl⟩⟩).is eD) wd19.w fun v18 G20 H20 s20 h18 => ?_
          have wd20 := wd19.stp s20
          have h1720 := h17.mono s20.g
          have g1520 := (((s16.g.trans s17.g).trans s18.g).trans s19.g).trans s20.g
          have sameR : R = sortR (M ++ [last]) := by rw [eR]; exact sort_perm (pmw.trans (bp.append_right [last]))
          have il : InP last n := by rw [hlast]; exact takeP_inP ie i0
          have ok3 : SortOk ((M ++ [last]).map dI) := sortOk_rows fun p hp => by
            rcases (List.mem_append.mp hp) with h | h
            · have := (iM p h).len; omega
            · rw [List.mem_singleton.mp h]; have := il.len; omega
          refine s_when (G := G20) (b := false) (b_or (a := false) (b := false) (b_test ((d_op (d := dT R) (e := dT R) (d_var rfl h1720) ((d_cb (a_cons (d_cb (a_cons ((d_op (d_var rfl (hM15.mono g1520)) (d_lst (a_cons (d_var rfl (h15.mono g1520)) a_nil) (by show 1 ≤ sizeLine; decide)) (opd_cat (by rw [List.length_map, sizeLine_eq]; show _ + 1 ≤ _; omega))).is (show _ = PyData.list ((M ++ [last]).map dI) from by rw [List.map_append]; rfl)) a_nil) (cad_sortL ok3)) a_nil) cad_tuple).is (by rw [sort_rows, sameR]; rfl)) (opd_ne (flat_dT _) (flat_dT _) (shaped_dT _) (shaped_dT _))).is (by rw [eqv_dT]; simp))) fun _ => b_or (a := false) (b := false) (b_test ((d_op (d_var rfl h18) (d_c .non) opd_isN).is rfl)) fun _ => b_test ((d_op (d_tupSort hn mo2 (d_var rfl h18)) (d_var rfl h1720) (opd_ne (flat_dT _) (flat_dT _) (shaped_dT _) (shaped_dT _))).is (by rw [eqv_dT, sort_perm (pm2 sum0), asc_is aR]; simp))) wd20.w (fun z => by cases z) fun _ G21 H21 s21 => ?_
          have g021 : Ex G0 G21 := ((((g08.trans x8).trans s12.g).trans s13.g).trans (s14.g.trans s15.g)).trans (g1520.trans s21.g)
          exact ⟨(wd20.stp s21).low g021 (by omega), _, _, _, _, _, _, _, _, _, _, _, _, _, _, _, _, _, rfl⟩
  · rintro σ' H2 ⟨wd2, o2, o3, o4, o5, o6, o7, o8, o9, o10, o11, o12, o13, o14, o15, o16, o17, o18, rfl⟩
    exact s_ret (G := G0) (d := .bool true) (d_c (.bl true)) wd2.w fun v G3 H3 s3 hv => by cases hv; exact hQ H3
end
end Mv


namespace Mv
open PySem LamX L2 PyProof.Rows PySem.Spec
section
variable {P : Program} {w : World} {K : PySem.W.Frag} {mg mb : Str → Option Value} {fa a : Addr} {s₁ : Shared} {vs : List Value} {ns : List Int}
/-- what a law without lambdas starts from: the script alone -/
def startS (K : PySem.W.Frag) (a : Addr) (vs : List Value) (ns : List Int) : Hp := fun b =>
  if b = a ∧ K.lookup a = none then some (.frz { cls := .type "list", data := .seq vs.toArray } (.lst (ns.map V.int))) else none
theorem startS_some {b : Addr} {u : HO} (h : startS K a vs ns b = some u) : b = a ∧ K.lookup a = none ∧ u = .frz { cls := .type "list", data := .seq vs.toArray } (.lst (ns.map V.int)) := by
  unfold startS at h
  by_cases h2 : b = a ∧ K.lookup a = none
  · rw [if_pos h2] at h
    exact ⟨h2.1, h2.2, (Option.some.inj h).symm⟩
  · rw [if_neg h2] at h
    cases h
theorem call_atS (KX : K.In s₁.heap) (nsG : s₁.heap.Ns mainGlobals mg) (hb : s₁.heap.Ns builtinsNs mb) (boots : ∀ x : Str, x ≠ "__name__" → mb x = bootBuiltins x) (lims : s₁.heap.NoLimit) (hg : s₁.gens = #[])
    (ha : s₁.heap.get? a = some { cls := .type "list", data := .seq vs.toArray }) (hi : IntsAre vs ns) (hl : ns.length ≤ sizeLine)
    (F : ∀ base : Heap, K.In base → base.Ns mainGlobals mg → ∀ H : Hp, Env0 P w K mg base callerA [] s₁ H → SqL K H a (ns.map V.int) →
      codeAny (model P w) callerA (.call (.ref fa) ⟨[.ref a], []⟩) (CR CX0 [] P w H s₁ (fun v _ => v = .bl true) fun _ _ _ => False) s₁) :
    codeAny (model P w) callerA (.call (.ref fa) ⟨[.ref a], []⟩)
      (fun r z => r = .ok (.ret (.bool true)) ∧ OldK s₁.heap z.heap ∧ z.os = s₁.os ∧ AllBare z.gens) s₁ := by
  obtain ⟨H, hH⟩ : ∃ H : Hp, H = startS K a vs ns := ⟨_, rfl⟩
  have rel := vals_ints hi
  have len := hi.length
  have is_ : ∀ {b : Addr} {u : HO}, H b = some u → b = a ∧ K.lookup a = none ∧ u = .frz { cls := .type "list", data := .seq vs.toArray } (.lst (ns.map V.int)) := fun h => startS_some (by rw [← hH]; exact h)
  have seq : SqL K H a (ns.map V.int) := by
    cases q : K.lookup a with
    | none =>
      refine .inl (.inr ⟨{ cls := .type "list", data := .seq vs.toArray }, ?_⟩)
      rw [hH]
      exact if_pos ⟨rfl, q⟩
    | some o =>
      have e := KX a o q
      rw [ha] at e
      cases e
      exact .inr ⟨_, vs.toArray, _, q, rfl, rfl, rfl, by rw [List.size_toArray, len]; exact hl, by simpa using rel⟩
  have good : HOk P w H s₁.heap := fun b u e => by
    rcases is_ e with ⟨rfl, _, rfl⟩
    exact ⟨ha, by rw [List.length_map]; exact hl, vs, _, rel, ha⟩
  have bare : ∀ {b : Addr} {o : Obj}, s₁.heap.get? b = some o → (∀ us n, o.data ≠ .seq us n) → H b = none := fun {b o} e h1 => by
    cases q : H b with
    | none => rfl
    | some u =>
      rcases is_ q with ⟨z, _⟩
      rw [z, ha] at e; cases e; exact (h1 _ _ rfl).elim
  have below : ∀ {b : Addr} {o : Obj}, s₁.heap.get? b = some o → (∀ us n, o.data ≠ .seq us n) → (hidT s₁.heap H).get? b = some o := fun e h1 => hidT_get e (bare e h1)
  have space : ∀ {b : Addr} {m : Str → Option Value}, s₁.heap.Ns b m → (hidT s₁.heap H).Ns b m := fun ⟨o, es, ep, e, d, r⟩ => ⟨o, es, ep, below e (fun us n z => by rw [d] at z; cases z), d, r⟩
  have Kb : K.In (hidT s₁.heap H) := fun b o e => hidT_get (KX b o e) (by
    cases q : H b with
    | none => rfl
    | some u =>
      rcases is_ q with ⟨z, k, _⟩
      rw [z, k] at e; cases e)
  have env : Env0 P w K mg (hidT s₁.heap H) callerA [] s₁ H :=
    ⟨rfl, ⟨Kb, space nsG, ⟨mb, space hb, boots⟩, lims.elim fun m h => ⟨m, space h.1, h.2⟩⟩, fun b o e => of_hidT e, Nat.le_of_eq (hidT_size _ _), trivial, fun b z => absurd (show b ∈ ([] : List Addr) from z) List.not_mem_nil, good, .of_eq hg⟩
  refine codeAny_mono (F _ Kb (space nsG) H env seq) fun r s' h => ?_
  cases r with
  | error e => exact h.elim
  | ok fl =>
    cases fl with
    | next => exact False.elim h
    | brk => exact False.elim h
    | cont => exact False.elim h
    | ret u =>
      obtain ⟨v, H', os, bareG, un, ok', rv, q⟩ := h
      obtain rfl : v = .bl true := q
      obtain rfl : u = Value.bool true := rv
      have stays : ∀ b o, s₁.heap.get? b = some o → s'.heap.get? b = some o := fun b o e => by
        cases q : H b with
        | none => exact un.keep b o e q (fun z => absurd (show b ∈ ([] : List Addr) from z) List.not_mem_nil) List.not_mem_nil
        | some u =>
          rcases is_ q with ⟨z, _, hu⟩
          rw [hu] at q
          obtain ⟨e1, _⟩ := good b _ q
          obtain ⟨e2, _⟩ := ok' b _ (un.frzs b _ _ q)
          rw [e] at e1
          cases e1
          exact e2
      exact ⟨rfl, ⟨fun b o e => .inl (stays b o e), fun b o e => ⟨o, stays b o e⟩⟩, os, bareG⟩
end
/-- what such a law's walk asks -/
theorem walk_atS {l : PySem.W.OpenLaw} {n : Nat} {q : Program} {loose : List Str} {XP : (Str → Option Value) → Heap → Prop} {YP : World → Heap → Prop} {d : DefRec} {K : Params → PySem.W.Frag} (hn : l.most = some n) (hn2 : n ≤ sizeLine) (hdf : d.params.defaults = [])
    (hY : ∀ (w : World) (h : Heap), YP w h → (K w.params).In h)
    (F : ∀ (w : World) (mg : Str → Option Value) (fa : Addr) (h : Heap), YP w h → (K w.params).In h → h.Ns mainGlobals mg → mg d.name = some (.ref fa) →
      ∀ base : Heap, (K w.params).In base → base.Ns mainGlobals mg → ∀ (s : Shared) (H : Hp) (a : Addr) (ns : List Int), ns.length ≤ n → Env0 l.prog w (K w.params) mg base callerA [] s H → SqL (K w.params) H a (ns.map V.int) →
        codeAny (model l.prog w) callerA (.call (.ref fa) ⟨[.ref a], []⟩) (CR CX0 [] l.prog w H s (fun v _ => v = .bl true) fun _ _ _ => False) s) :
    PySem.W.WalkO q loose XP YP l.row.toRowW d []
      (fun g us => PySem.call g us) := by
  refine Att.attach_callB hn hdf fun w s₀ s₁ mg mb fa o pm cd doc a vs ns G Y _ _ _ hmg hobj hints hlen _ hg => ?_
  have KX := hY w _ Y
  exact call_atS KX G.T.g G.T.b G.T.builtins G.T.nolimit hg hobj hints (Nat.le_trans hlen hn2) fun base k1 k2 H k4 k5 => F w mg fa _ Y KX G.T.g hmg base k1 k2 s₁ H a ns hlen k4 k5
end Mv


namespace Mv
open PySem L2 LamX
theorem all_mk {P : Program} {w : World} {K : PySem.W.Frag} {h : Heap} {mg : Str → Option Value} {fa : Addr} {f0 f1 f2 f3 f4 f5 f6 f7 f8 f9 f10 f11 f12 f13 f14 f15 f16 f17 f18 f19 f20 f21 f22 f23 f24 f25 f26 f27 f28 f29 f30 f31 f32 f33 f34 f35 f36 f37 f38 f39 f40 f41 f42 f43 f44 f45 f46 C1 C2 C3 C4 C5 C6 : Addr}
  {od0 an0 od1 an1 od2 an2 od3 an3 od4 an4 od5 an5 od6 an6 od7 an7 od8 an8 od9 an9 od10 an10 od11 an11 od12 an12 od13 an13 od14 an14 od15 an15 od16 an16 od17 an17 od18 an18 od19 an19 od20 an20 od21 an21 od22 an22 od23 an23 od24 an24 od25 an25 od26 an26 od27 an27 od28 an28 od29 an29 od30 an30 od31 an31 od32 an32 od33 an33 od34 an34 od35 an35 od36 an36 od37 an37 od38 an38 od39 an39 od40 an40 od41 an41 od42 an42 od43 an43 od44 an44 od45 an45 od46 an46 : Option Addr}
  {sl0 sl1 sl2 sl3 sl4 sl5 sl6 sl7 sl8 sl9 sl10 sl11 sl12 sl13 sl14 sl15 sl16 sl17 sl18 sl19 sl20 sl21 sl22 sl23 sl24 sl25 sl26 sl27 sl28 sl29 sl30 sl31 sl32 sl33 sl34 sl35 sl36 sl37 sl38 sl39 sl40 sl41 sl42 sl43 sl44 sl45 sl46 : Array (Option Value)}
  {oc0 kV0 dc0 pm0 cd0 ct0 oc1 kV1 dc1 pm1 cd1 ct1 oc2 kV2 dc2 pm2 cd2 ct2 oc3 kV3 dc3 pm3 cd3 ct3 oc4 kV4 dc4 pm4 cd4 ct4 oc5 kV5 dc5 pm5 cd5 ct5 oc6 kV6 dc6 pm6 cd6 ct6 oc7 kV7 dc7 pm7 cd7 ct7 oc8 kV8 dc8 pm8 cd8 ct8 oc9 kV9 dc9 pm9 cd9 ct9 oc10 kV10 dc10 pm10 cd10 ct10 oc11 kV11 dc11 pm11 cd11 ct11 oc12 kV12 dc12 pm12 cd12 ct12 oc13 kV13 dc13 pm13 cd13 ct13 oc14 kV14 dc14 pm14 cd14 ct14 oc15 kV15 dc15 pm15 cd15 ct15 oc16 kV16 dc16 pm16 cd16 ct16 oc17 kV17 dc17 pm17 cd17 ct17 oc18 kV18 dc18 pm18 cd18 ct18 oc19 kV19 dc19 pm19 cd19 ct19 oc20 kV20 dc20 pm20 cd20 ct20 oc21 kV21 dc21 pm21 cd21 ct21 oc22 kV22 dc22 pm22 cd22 ct22 oc23 kV23 dc23 pm23 cd23 ct23 oc24 kV24 dc24 pm24 cd24 ct24 oc25 kV25 dc25 pm25 cd25 ct25 oc26 kV26 dc26 pm26 cd26 ct26 oc27 kV27 dc27 pm27 cd27 ct27 oc28 kV28 dc28 pm28 cd28 ct28 oc29 kV29 dc29 pm29 cd29 ct29 oc30 kV30 dc30 pm30 cd30 ct30 oc31 kV31 dc31 pm31 cd31 ct31 oc32 kV32 dc32 pm32 cd32 ct32 oc33 kV33 dc33 pm33 cd33 ct33 oc34 kV34 dc34 pm34 cd34 ct34 oc35 kV35 dc35 pm35 cd35 ct35 oc36 kV36 dc36 pm36 cd36 ct36 oc37 kV37 dc37 pm37 cd37 ct37 oc38 kV38 dc38 pm38 cd38 ct38 oc39 kV39 dc39 pm39 cd39 ct39 oc40 kV40 dc40 pm40 cd40 ct40 oc41 kV41 dc41 pm41 cd41 ct41 oc42 kV42 dc42 pm42 cd42 ct42 oc43 kV43 dc43 pm43 cd43 ct43 oc44 kV44 dc44 pm44 cd44 ct44 oc45 kV45 dc45 pm45 cd45 ct45 oc46 kV46 dc46 pm46 cd46 ct46 : Value} (KX : K.In h) (G : h.Ns mainGlobals mg) (hfa : mg "law" = some (.ref fa))
  (a0 : PySem.W.nsIn K mainGlobals "place_count" = some (some (.ref f0))) (l0 : K.lookup f0 = some ⟨oc0, od0, .func (PySem.W.fnOf "place_count" "place_count" (defArgs s_place_count) (defBody s_place_count) (defScope s_place_count) .none kV0 dc0 pm0 an0 cd0 ct0), sl0⟩) (c0 : PySem.W.codeIn K cd0 "place_count" = true) (k0 : PySem.W.keepIn K (.ref f0) = true)
  (a1 : PySem.W.nsIn K mainGlobals "all_places" = some (some (.ref f1))) (l1 : K.lookup f1 = some ⟨oc1, od1, .func (PySem.W.fnOf "all_places" "all_places" (defArgs s_all_places) (defBody s_all_places) (defScope s_all_places) .none kV1 dc1 pm1 an1 cd1 ct1), sl1⟩) (c1 : PySem.W.codeIn K cd1 "all_places" = true) (k1 : PySem.W.keepIn K (.ref f1) = true)
  (a2 : PySem.W.nsIn K mainGlobals "nothing_of" = some (some (.ref f2))) (l2 : K.lookup f2 = some ⟨oc2, od2, .func (PySem.W.fnOf "nothing_of" "nothing_of" (defArgs s_nothing_of) (defBody s_nothing_of) (defScope s_nothing_of) .none kV2 dc2 pm2 an2 cd2 ct2), sl2⟩) (c2 : PySem.W.codeIn K cd2 "nothing_of" = true) (k2 : PySem.W.keepIn K (.ref f2) = true)
  (a3 : PySem.W.nsIn K mainGlobals "add" = some (some (.ref f3))) (l3 : K.lookup f3 = some ⟨oc3, od3, .func (PySem.W.fnOf "add" "add" (defArgs s_add) (defBody s_add) (defScope s_add) .none kV3 dc3 pm3 an3 cd3 ct3), sl3⟩) (c3 : PySem.W.codeIn K cd3 "add" = true) (k3 : PySem.W.keepIn K (.ref f3) = true)
  (a4 : PySem.W.nsIn K mainGlobals "take_off" = some (some (.ref f4))) (l4 : K.lookup f4 = some ⟨oc4, od4, .func (PySem.W.fnOf "take_off" "take_off" (defArgs s_take_off) (defBody s_take_off) (defScope s_take_off) .none kV4 dc4 pm4 an4 cd4 ct4), sl4⟩) (c4 : PySem.W.codeIn K cd4 "take_off" = true) (k4 : PySem.W.keepIn K (.ref f4) = true)
  (a5 : PySem.W.nsIn K mainGlobals "add_up" = some (some (.ref f5))) (l5 : K.lookup f5 = some ⟨oc5, od5, .func (PySem.W.fnOf "add_up" "add_up" (defArgs s_add_up) (defBody s_add_up) (defScope s_add_up) .none kV5 dc5 pm5 an5 cd5 ct5), sl5⟩) (c5 : PySem.W.codeIn K cd5 "add_up" = true) (k5 : PySem.W.keepIn K (.ref f5) = true)
  (a6 : PySem.W.nsIn K mainGlobals "reached" = some (some (.ref f6))) (l6 : K.lookup f6 = some ⟨oc6, od6, .func (PySem.W.fnOf "reached" "reached" (defArgs s_reached) (defBody s_reached) (defScope s_reached) .none kV6 dc6 pm6 an6 cd6 ct6), sl6⟩) (c6 : PySem.W.codeIn K cd6 "reached" = true) (k6 : PySem.W.keepIn K (.ref f6) = true)
  (a7 : PySem.W.nsIn K mainGlobals "moves_to" = some (some (.ref f7))) (l7 : K.lookup f7 = some ⟨oc7, od7, .func (PySem.W.fnOf "moves_to" "moves_to" (defArgs s_moves_to) (defBody s_moves_to) (defScope s_moves_to) .none kV7 dc7 pm7 an7 cd7 ct7), sl7⟩) (c7 : PySem.W.codeIn K cd7 "moves_to" = true) (k7 : PySem.W.keepIn K (.ref f7) = true)
  (a8 : PySem.W.nsIn K mainGlobals "is_number" = some (some (.ref f8))) (l8 : K.lookup f8 = some ⟨oc8, od8, .func (PySem.W.fnOf "is_number" "is_number" (defArgs s_is_number) (defBody s_is_number) (defScope s_is_number) .none kV8 dc8 pm8 an8 cd8 ct8), sl8⟩) (c8 : PySem.W.codeIn K cd8 "is_number" = true) (k8 : PySem.W.keepIn K (.ref f8) = true)
  (a9 : PySem.W.nsIn K mainGlobals "is_between" = some (some (.ref f9))) (l9 : K.lookup f9 = some ⟨oc9, od9, .func (PySem.W.fnOf "is_between" "is_between" (defArgs s_is_between) (defBody s_is_between) (defScope s_is_between) .none kV9 dc9 pm9 an9 cd9 ct9), sl9⟩) (c9 : PySem.W.codeIn K cd9 "is_between" = true) (k9 : PySem.W.keepIn K (.ref f9) = true)
  (a10 : PySem.W.nsIn K mainGlobals "is_listed" = some (some (.ref f10))) (l10 : K.lookup f10 = some ⟨oc10, od10, .func (PySem.W.fnOf "is_listed" "is_listed" (defArgs s_is_listed) (defBody s_is_listed) (defScope s_is_listed) .none kV10 dc10 pm10 an10 cd10 ct10), sl10⟩) (c10 : PySem.W.codeIn K cd10 "is_listed" = true) (k10 : PySem.W.keepIn K (.ref f10) = true)
  (a11 : PySem.W.nsIn K mainGlobals "is_tuple_of" = some (some (.ref f11))) (l11 : K.lookup f11 = some ⟨oc11, od11, .func (PySem.W.fnOf "is_tuple_of" "is_tuple_of" (defArgs s_is_tuple_of) (defBody s_is_tuple_of) (defScope s_is_tuple_of) .none kV11 dc11 pm11 an11 cd11 ct11), sl11⟩) (c11 : PySem.W.codeIn K cd11 "is_tuple_of" = true) (k11 : PySem.W.keepIn K (.ref f11) = true)
  (a12 : PySem.W.nsIn K mainGlobals "is_ascending" = some (some (.ref f12))) (l12 : K.lookup f12 = some ⟨oc12, od12, .func (PySem.W.fnOf "is_ascending" "is_ascending" (defArgs s_is_ascending) (defBody s_is_ascending) (defScope s_is_ascending) .none kV12 dc12 pm12 an12 cd12 ct12), sl12⟩) (c12 : PySem.W.codeIn K cd12 "is_ascending" = true) (k12 : PySem.W.keepIn K (.ref f12) = true)
  (a13 : PySem.W.nsIn K mainGlobals "is_all_different" = some (some (.ref f13))) (l13 : K.lookup f13 = some ⟨oc13, od13, .func (PySem.W.fnOf "is_all_different" "is_all_different" (defArgs s_is_all_different) (defBody s_is_all_different) (defScope s_is_all_different) .none kV13 dc13 pm13 an13 cd13 ct13), sl13⟩) (c13 : PySem.W.codeIn K cd13 "is_all_different" = true) (k13 : PySem.W.keepIn K (.ref f13) = true)
  (a14 : PySem.W.nsIn K mainGlobals "is_dials" = some (some (.ref f14))) (l14 : K.lookup f14 = some ⟨oc14, od14, .func (PySem.W.fnOf "is_dials" "is_dials" (defArgs s_is_dials) (defBody s_is_dials) (defScope s_is_dials) .none kV14 dc14 pm14 an14 cd14 ct14), sl14⟩) (c14 : PySem.W.codeIn K cd14 "is_dials" = true) (k14 : PySem.W.keepIn K (.ref f14) = true)
  (a15 : PySem.W.nsIn K mainGlobals "is_place" = some (some (.ref f15))) (l15 : K.lookup f15 = some ⟨oc15, od15, .func (PySem.W.fnOf "is_place" "is_place" (defArgs s_is_place) (defBody s_is_place) (defScope s_is_place) .none kV15 dc15 pm15 an15 cd15 ct15), sl15⟩) (c15 : PySem.W.codeIn K cd15 "is_place" = true) (k15 : PySem.W.keepIn K (.ref f15) = true)
  (a16 : PySem.W.nsIn K mainGlobals "are_places" = some (some (.ref f16))) (l16 : K.lookup f16 = some ⟨oc16, od16, .func (PySem.W.fnOf "are_places" "are_places" (defArgs s_are_places) (defBody s_are_places) (defScope s_are_places) .none kV16 dc16 pm16 an16 cd16 ct16), sl16⟩) (c16 : PySem.W.codeIn K cd16 "are_places" = true) (k16 : PySem.W.keepIn K (.ref f16) = true)
  (a17 : PySem.W.nsIn K mainGlobals "is_moves" = some (some (.ref f17))) (l17 : K.lookup f17 = some ⟨oc17, od17, .func (PySem.W.fnOf "is_moves" "is_moves" (defArgs s_is_moves) (defBody s_is_moves) (defScope s_is_moves) .none kV17 dc17 pm17 an17 cd17 ct17), sl17⟩) (c17 : PySem.W.codeIn K cd17 "is_moves" = true) (k17 : PySem.W.keepIn K (.ref f17) = true)
  (a18 : PySem.W.nsIn K mainGlobals "is_row_of_moves" = some (some (.ref f18))) (l18 : K.lookup f18 = some ⟨oc18, od18, .func (PySem.W.fnOf "is_row_of_moves" "is_row_of_moves" (defArgs s_is_row_of_moves) (defBody s_is_row_of_moves) (defScope s_is_row_of_moves) .none kV18 dc18 pm18 an18 cd18 ct18), sl18⟩) (c18 : PySem.W.codeIn K cd18 "is_row_of_moves" = true) (k18 : PySem.W.keepIn K (.ref f18) = true)
  (a19 : PySem.W.nsIn K mainGlobals "is_dealt" = some (some (.ref f19))) (l19 : K.lookup f19 = some ⟨oc19, od19, .func (PySem.W.fnOf "is_dealt" "is_dealt" (defArgs s_is_dealt) (defBody s_is_dealt) (defScope s_is_dealt) .none kV19 dc19 pm19 an19 cd19 ct19), sl19⟩) (c19 : PySem.W.codeIn K cd19 "is_dealt" = true) (k19 : PySem.W.keepIn K (.ref f19) = true)
  (a20 : PySem.W.nsIn K mainGlobals "is_partly_dealt" = some (some (.ref f20))) (l20 : K.lookup f20 = some ⟨oc20, od20, .func (PySem.W.fnOf "is_partly_dealt" "is_partly_dealt" (defArgs s_is_partly_dealt) (defBody s_is_partly_dealt) (defScope s_is_partly_dealt) .none kV20 dc20 pm20 an20 cd20 ct20), sl20⟩) (c20 : PySem.W.codeIn K cd20 "is_partly_dealt" = true) (k20 : PySem.W.keepIn K (.ref f20) = true)
  (a21 : PySem.W.nsIn K mainGlobals "check_dials" = some (some (.ref f21))) (l21 : K.lookup f21 = some ⟨oc21, od21, .func (PySem.W.fnOf "check_dials" "check_dials" (defArgs s_check_dials) (defBody s_check_dials) (defScope s_check_dials) .none kV21 dc21 pm21 an21 cd21 ct21), sl21⟩) (c21 : PySem.W.codeIn K cd21 "check_dials" = true) (k21 : PySem.W.keepIn K (.ref f21) = true)
  (a22 : PySem.W.nsIn K mainGlobals "check_move" = some (some (.ref f22))) (l22 : K.lookup f22 = some ⟨oc22, od22, .func (PySem.W.fnOf "check_move" "check_move" (defArgs s_check_move) (defBody s_check_move) (defScope s_check_move) .none kV22 dc22 pm22 an22 cd22 ct22), sl22⟩) (c22 : PySem.W.codeIn K cd22 "check_move" = true) (k22 : PySem.W.keepIn K (.ref f22) = true)
  (a23 : PySem.W.nsIn K mainGlobals "check_row" = some (some (.ref f23))) (l23 : K.lookup f23 = some ⟨oc23, od23, .func (PySem.W.fnOf "check_row" "check_row" (defArgs s_check_row) (defBody s_check_row) (defScope s_check_row) .none kV23 dc23 pm23 an23 cd23 ct23), sl23⟩) (c23 : PySem.W.codeIn K cd23 "check_row" = true) (k23 : PySem.W.keepIn K (.ref f23) = true)
  (a24 : PySem.W.nsIn K mainGlobals "check_dealing" = some (some (.ref f24))) (l24 : K.lookup f24 = some ⟨oc24, od24, .func (PySem.W.fnOf "check_dealing" "check_dealing" (defArgs s_check_dealing) (defBody s_check_dealing) (defScope s_check_dealing) .none kV24 dc24 pm24 an24 cd24 ct24), sl24⟩) (c24 : PySem.W.codeIn K cd24 "check_dealing" = true) (k24 : PySem.W.keepIn K (.ref f24) = true)
  (a25 : PySem.W.nsIn K mainGlobals "pass_on" = some (some (.ref f25))) (l25 : K.lookup f25 = some ⟨oc25, od25, .func (PySem.W.fnOf "pass_on" "pass_on" (defArgs s_pass_on) (defBody s_pass_on) (defScope s_pass_on) .none kV25 dc25 pm25 an25 cd25 ct25), sl25⟩) (c25 : PySem.W.codeIn K cd25 "pass_on" = true) (k25 : PySem.W.keepIn K (.ref f25) = true)
  (a26 : PySem.W.nsIn K mainGlobals "finished" = some (some (.ref f26))) (l26 : K.lookup f26 = some ⟨oc26, od26, .func (PySem.W.fnOf "finished" "finished" (defArgs s_finished) (defBody s_finished) (defScope s_finished) .none kV26 dc26 pm26 an26 cd26 ct26), sl26⟩) (c26 : PySem.W.codeIn K cd26 "finished" = true) (k26 : PySem.W.keepIn K (.ref f26) = true)
  (a27 : PySem.W.nsIn K mainGlobals "hand_all" = some (some (.ref f27))) (l27 : K.lookup f27 = some ⟨oc27, od27, .func (PySem.W.fnOf "hand_all" "hand_all" (defArgs s_hand_all) (defBody s_hand_all) (defScope s_hand_all) .none kV27 dc27 pm27 an27 cd27 ct27), sl27⟩) (c27 : PySem.W.codeIn K cd27 "hand_all" = true) (k27 : PySem.W.keepIn K (.ref f27) = true)
  (a28 : PySem.W.nsIn K mainGlobals "deal" = some (some (.ref f28))) (l28 : K.lookup f28 = some ⟨oc28, od28, .func (PySem.W.fnOf "deal" "deal" (defArgs s_deal) (defBody s_deal) (defScope s_deal) .none kV28 dc28 pm28 an28 cd28 ct28), sl28⟩) (c28 : PySem.W.codeIn K cd28 "deal" = true) (k28 : PySem.W.keepIn K (.ref f28) = true)
  (a29 : PySem.W.nsIn K mainGlobals "is_begun" = some (some (.ref f29))) (l29 : K.lookup f29 = some ⟨oc29, od29, .func (PySem.W.fnOf "is_begun" "is_begun" (defArgs s_is_begun) (defBody s_is_begun) (defScope s_is_begun) .none kV29 dc29 pm29 an29 cd29 ct29), sl29⟩) (c29 : PySem.W.codeIn K cd29 "is_begun" = true) (k29 : PySem.W.keepIn K (.ref f29) = true)
  (a30 : PySem.W.nsIn K mainGlobals "check_two_free" = some (some (.ref f30))) (l30 : K.lookup f30 = some ⟨oc30, od30, .func (PySem.W.fnOf "check_two_free" "check_two_free" (defArgs s_check_two_free) (defBody s_check_two_free) (defScope s_check_two_free) .none kV30 dc30 pm30 an30 cd30 ct30), sl30⟩) (c30 : PySem.W.codeIn K cd30 "check_two_free" = true) (k30 : PySem.W.keepIn K (.ref f30) = true)
  (a31 : PySem.W.nsIn K mainGlobals "passing" = some (some (.ref f31))) (l31 : K.lookup f31 = some ⟨oc31, od31, .func (PySem.W.fnOf "passing" "passing" (defArgs s_passing) (defBody s_passing) (defScope s_passing) .none kV31 dc31 pm31 an31 cd31 ct31), sl31⟩) (c31 : PySem.W.codeIn K cd31 "passing" = true) (k31 : PySem.W.keepIn K (.ref f31) = true)
  (a32 : PySem.W.nsIn K mainGlobals "is_dealing" = some (some (.ref f32))) (l32 : K.lookup f32 = some ⟨oc32, od32, .func (PySem.W.fnOf "is_dealing" "is_dealing" (defArgs s_is_dealing) (defBody s_is_dealing) (defScope s_is_dealing) .none kV32 dc32 pm32 an32 cd32 ct32), sl32⟩) (c32 : PySem.W.codeIn K cd32 "is_dealing" = true) (k32 : PySem.W.keepIn K (.ref f32) = true)
  (a33 : PySem.W.nsIn K mainGlobals "row_of" = some (some (.ref f33))) (l33 : K.lookup f33 = some ⟨oc33, od33, .func (PySem.W.fnOf "row_of" "row_of" (defArgs s_row_of) (defBody s_row_of) (defScope s_row_of) .none kV33 dc33 pm33 an33 cd33 ct33), sl33⟩) (c33 : PySem.W.codeIn K cd33 "row_of" = true) (k33 : PySem.W.keepIn K (.ref f33) = true)
  (a34 : PySem.W.nsIn K mainGlobals "dealing" = some (some (.ref f34))) (l34 : K.lookup f34 = some ⟨oc34, od34, .func (PySem.W.fnOf "dealing" "dealing" (defArgs s_dealing) (defBody s_dealing) (defScope s_dealing) .none kV34 dc34 pm34 an34 cd34 ct34), sl34⟩) (c34 : PySem.W.codeIn K cd34 "dealing" = true) (k34 : PySem.W.keepIn K (.ref f34) = true)
  (a35 : PySem.W.nsIn K mainGlobals "_law_begun" = some (some (.ref f35))) (l35 : K.lookup f35 = some ⟨oc35, od35, .func (PySem.W.fnOf "_law_begun" "_law_begun" (defArgs s__law_begun) (defBody s__law_begun) (defScope s__law_begun) .none kV35 dc35 pm35 an35 cd35 ct35), sl35⟩) (c35 : PySem.W.codeIn K cd35 "_law_begun" = true) (k35 : PySem.W.keepIn K (.ref f35) = true)
  (a36 : PySem.W.nsIn K mainGlobals "_law_draw" = some (some (.ref f36))) (l36 : K.lookup f36 = some ⟨oc36, od36, .func (PySem.W.fnOf "_law_draw" "_law_draw" (defArgs s__law_draw) (defBody s__law_draw) (defScope s__law_draw) .none kV36 dc36 pm36 an36 cd36 ct36), sl36⟩) (c36 : PySem.W.codeIn K cd36 "_law_draw" = true) (k36 : PySem.W.keepIn K (.ref f36) = true)
  (a37 : PySem.W.nsIn K mainGlobals "_law_pick" = some (some (.ref f37))) (l37 : K.lookup f37 = some ⟨oc37, od37, .func (PySem.W.fnOf "_law_pick" "_law_pick" (defArgs s__law_pick) (defBody s__law_pick) (defScope s__law_pick) .none kV37 dc37 pm37 an37 cd37 ct37), sl37⟩) (c37 : PySem.W.codeIn K cd37 "_law_pick" = true) (k37 : PySem.W.keepIn K (.ref f37) = true)
  (a38 : PySem.W.nsIn K mainGlobals "_law_mixed" = some (some (.ref f38))) (l38 : K.lookup f38 = some ⟨oc38, od38, .func (PySem.W.fnOf "_law_mixed" "_law_mixed" (defArgs s__law_mixed) (defBody s__law_mixed) (defScope s__law_mixed) .none kV38 dc38 pm38 an38 cd38 ct38), sl38⟩) (c38 : PySem.W.codeIn K cd38 "_law_mixed" = true) (k38 : PySem.W.keepIn K (.ref f38) = true)
  (a39 : PySem.W.nsIn K mainGlobals "_law_count" = some (some (.ref f39))) (l39 : K.lookup f39 = some ⟨oc39, od39, .func (PySem.W.fnOf "_law_count" "_law_count" (defArgs s__law_count) (defBody s__law_count) (defScope s__law_count) .none kV39 dc39 pm39 an39 cd39 ct39), sl39⟩) (c39 : PySem.W.codeIn K cd39 "_law_count" = true) (k39 : PySem.W.keepIn K (.ref f39) = true)
  (a40 : PySem.W.nsIn K mainGlobals "_law_dials" = some (some (.ref f40))) (l40 : K.lookup f40 = some ⟨oc40, od40, .func (PySem.W.fnOf "_law_dials" "_law_dials" (defArgs s__law_dials) (defBody s__law_dials) (defScope s__law_dials) .none kV40 dc40 pm40 an40 cd40 ct40), sl40⟩) (c40 : PySem.W.codeIn K cd40 "_law_dials" = true) (k40 : PySem.W.keepIn K (.ref f40) = true)
  (a41 : PySem.W.nsIn K mainGlobals "_law_places" = some (some (.ref f41))) (l41 : K.lookup f41 = some ⟨oc41, od41, .func (PySem.W.fnOf "_law_places" "_law_places" (defArgs s__law_places) (defBody s__law_places) (defScope s__law_places) .none kV41 dc41 pm41 an41 cd41 ct41), sl41⟩) (c41 : PySem.W.codeIn K cd41 "_law_places" = true) (k41 : PySem.W.keepIn K (.ref f41) = true)
  (a42 : PySem.W.nsIn K mainGlobals "_law_plus" = some (some (.ref f42))) (l42 : K.lookup f42 = some ⟨oc42, od42, .func (PySem.W.fnOf "_law_plus" "_law_plus" (defArgs s__law_plus) (defBody s__law_plus) (defScope s__law_plus) .none kV42 dc42 pm42 an42 cd42 ct42), sl42⟩) (c42 : PySem.W.codeIn K cd42 "_law_plus" = true) (k42 : PySem.W.keepIn K (.ref f42) = true)
  (a43 : PySem.W.nsIn K mainGlobals "_law_less" = some (some (.ref f43))) (l43 : K.lookup f43 = some ⟨oc43, od43, .func (PySem.W.fnOf "_law_less" "_law_less" (defArgs s__law_less) (defBody s__law_less) (defScope s__law_less) .none kV43 dc43 pm43 an43 cd43 ct43), sl43⟩) (c43 : PySem.W.codeIn K cd43 "_law_less" = true) (k43 : PySem.W.keepIn K (.ref f43) = true)
  (a44 : PySem.W.nsIn K mainGlobals "_law_nothing" = some (some (.ref f44))) (l44 : K.lookup f44 = some ⟨oc44, od44, .func (PySem.W.fnOf "_law_nothing" "_law_nothing" (defArgs s__law_nothing) (defBody s__law_nothing) (defScope s__law_nothing) .none kV44 dc44 pm44 an44 cd44 ct44), sl44⟩) (c44 : PySem.W.codeIn K cd44 "_law_nothing" = true) (k44 : PySem.W.keepIn K (.ref f44) = true)
  (a45 : PySem.W.nsIn K mainGlobals "_law_total" = some (some (.ref f45))) (l45 : K.lookup f45 = some ⟨oc45, od45, .func (PySem.W.fnOf "_law_total" "_law_total" (defArgs s__law_total) (defBody s__law_total) (defScope s__law_total) .none kV45 dc45 pm45 an45 cd45 ct45), sl45⟩) (c45 : PySem.W.codeIn K cd45 "_law_total" = true) (k45 : PySem.W.keepIn K (.ref f45) = true)
  (a46 : PySem.W.nsIn K mainGlobals "law" = some (some (.ref f46))) (l46 : K.lookup f46 = some ⟨oc46, od46, .func (PySem.W.fnOf "law" "law" (defArgs s_law) (defBody s_law) (defScope s_law) .none kV46 dc46 pm46 an46 cd46 ct46), sl46⟩) (c46 : PySem.W.codeIn K cd46 "law" = true) (k46 : PySem.W.keepIn K (.ref f46) = true)
  (z_len : PySem.W.nsIn K mainGlobals "len" = some none)
  (z_zip : PySem.W.nsIn K mainGlobals "zip" = some none)
  (z_tuple : PySem.W.nsIn K mainGlobals "tuple" = some none)
  (z_list : PySem.W.nsIn K mainGlobals "list" = some none)
  (z_range : PySem.W.nsIn K mainGlobals "range" = some none)
  (z_all : PySem.W.nsIn K mainGlobals "all" = some none)
  (z_int : PySem.W.nsIn K mainGlobals "int" = some none)
  (z_bool : PySem.W.nsIn K mainGlobals "bool" = some none)
  (z_isinstance : PySem.W.nsIn K mainGlobals "isinstance" = some none)
  (z_abs : PySem.W.nsIn K mainGlobals "abs" = some none)
  (z_min : PySem.W.nsIn K mainGlobals "min" = some none)
  (z_repr : PySem.W.nsIn K mainGlobals "repr" = some none)
  (z_enumerate : PySem.W.nsIn K mainGlobals "enumerate" = some none)
  (z_sorted : PySem.W.nsIn K mainGlobals "sorted" = some none)
  (z_set : PySem.W.nsIn K mainGlobals "set" = some none)
  (z_dict : PySem.W.nsIn K mainGlobals "dict" = some none)
  (ac1 : PySem.W.nsIn K mainGlobals "BadDials" = some (some (.ref C1)))
  (ac2 : PySem.W.nsIn K mainGlobals "BadRow" = some (some (.ref C2)))
  (ac3 : PySem.W.nsIn K mainGlobals "BadBegun" = some (some (.ref C3)))
  (ac4 : PySem.W.nsIn K mainGlobals "BadPerson" = some (some (.ref C4)))
  (ac5 : PySem.W.nsIn K mainGlobals "BadMove" = some (some (.ref C5)))
  (ac6 : PySem.W.nsIn K mainGlobals "BadDealing" = some (some (.ref C6)))
  (kc1 : PySem.W.keepIn K (.ref C1) = true)
  (xc1 : PySem.W.excIn K C1 [.type "ValueError", .type "Exception", .type "BaseException", .type "object"] "ValueError.__new__" = true)
  (bc1 : PySem.W.subIn K (.ref C1) (.type "BaseException") = some true)
  (tc1 : PySem.W.typeIn K (.ref C1) = some (.type "type"))
  (kc2 : PySem.W.keepIn K (.ref C2) = true)
  (xc2 : PySem.W.excIn K C2 [.type "ValueError", .type "Exception", .type "BaseException", .type "object"] "ValueError.__new__" = true)
  (bc2 : PySem.W.subIn K (.ref C2) (.type "BaseException") = some true)
  (tc2 : PySem.W.typeIn K (.ref C2) = some (.type "type"))
  (kc3 : PySem.W.keepIn K (.ref C3) = true)
  (xc3 : PySem.W.excIn K C3 [.type "ValueError", .type "Exception", .type "BaseException", .type "object"] "ValueError.__new__" = true)
  (bc3 : PySem.W.subIn K (.ref C3) (.type "BaseException") = some true)
  (tc3 : PySem.W.typeIn K (.ref C3) = some (.type "type"))
  (kc4 : PySem.W.keepIn K (.ref C4) = true)
  (xc4 : PySem.W.excIn K C4 [.type "ValueError", .type "Exception", .type "BaseException", .type "object"] "ValueError.__new__" = true)
  (bc4 : PySem.W.subIn K (.ref C4) (.type "BaseException") = some true)
  (tc4 : PySem.W.typeIn K (.ref C4) = some (.type "type"))
  (kc5 : PySem.W.keepIn K (.ref C5) = true)
  (xc5 : PySem.W.excIn K C5 [.type "ValueError", .type "Exception", .type "BaseException", .type "object"] "ValueError.__new__" = true)
  (bc5 : PySem.W.subIn K (.ref C5) (.type "BaseException") = some true)
  (tc5 : PySem.W.typeIn K (.ref C5) = some (.type "type"))
  (kc6 : PySem.W.keepIn K (.ref C6) = true)
  (xc6 : PySem.W.excIn K C6 [.type "ValueError", .type "Exception", .type "BaseException", .type "object"] "ValueError.__new__" = true)
  (bc6 : PySem.W.subIn K (.ref C6) (.type "BaseException") = some true)
  (tc6 : PySem.W.typeIn K (.ref C6) = some (.type "type"))
  : ∀ base : Heap, K.In base → base.Ns mainGlobals mg → ∀ (s : Shared) (H : Hp) (a : Addr) (ns : List Int), ns.length ≤ 63 → Env0 P w K mg base callerA [] s H → SqL K H a (ns.map V.int) →
        codeAny (model P w) callerA (.call (.ref fa) ⟨[.ref a], []⟩) (CR CX0 [] P w H s (fun v _ => v = .bl true) fun _ _ _ => False) s := by
  intro base kb gb s H a ns hl e0 hS
  have Z : Zs mg := ⟨PySem.W.mg_none_of KX G z_len, PySem.W.mg_none_of KX G z_zip, PySem.W.mg_none_of KX G z_tuple, PySem.W.mg_none_of KX G z_list, PySem.W.mg_none_of KX G z_range, PySem.W.mg_none_of KX G z_all, PySem.W.mg_none_of KX G z_int, PySem.W.mg_none_of KX G z_bool, PySem.W.mg_none_of KX G z_isinstance, PySem.W.mg_none_of KX G z_abs, PySem.W.mg_none_of KX G z_min, PySem.W.mg_none_of KX G z_repr⟩
  have B1 : ExcC K mg "BadDials" C1 := ⟨xc1, PySem.W.mg_of KX G ac1, kc1, bc1, tc1⟩
  have B2 : ExcC K mg "BadRow" C2 := ⟨xc2, PySem.W.mg_of KX G ac2, kc2, bc2, tc2⟩
  have B3 : ExcC K mg "BadBegun" C3 := ⟨xc3, PySem.W.mg_of KX G ac3, kc3, bc3, tc3⟩
  have B4 : ExcC K mg "BadPerson" C4 := ⟨xc4, PySem.W.mg_of KX G ac4, kc4, bc4, tc4⟩
  have B5 : ExcC K mg "BadMove" C5 := ⟨xc5, PySem.W.mg_of KX G ac5, kc5, bc5, tc5⟩
  have B6 : ExcC K mg "BadDealing" C6 := ⟨xc6, PySem.W.mg_of KX G ac6, kc6, bc6, tc6⟩
  have Z_enumerate := PySem.W.mg_none_of KX G z_enumerate
  have Z_sorted := PySem.W.mg_none_of KX G z_sorted
  have Z_set := PySem.W.mg_none_of KX G z_set
  have Z_dict := PySem.W.mg_none_of KX G z_dict
  have F0 := fun_mk (x := "place_count") (qual := "place_count") (st := s_place_count) l0 c0 k0
  have C_place_count : Cal P w K mg base CX0 1 "place_count" ["dials"] (SpR R_place_count) := ⟨f0, _, ok_place_count F0, PySem.W.mg_of KX G a0, k0, F0.binds (fun _ _ _ _ _ _ us hl => match us, hl with | [_], _ => rfl)⟩
  have F1 := fun_mk (x := "all_places") (qual := "all_places") (st := s_all_places) l1 c1 k1
  have C_all_places : Cal P w K mg base CX0 1 "all_places" ["dials"] (SpR R_all_places) := ⟨f1, _, ok_all_places Z F1, PySem.W.mg_of KX G a1, k1, F1.binds (fun _ _ _ _ _ _ us hl => match us, hl with | [_], _ => rfl)⟩
  have F2 := fun_mk (x := "nothing_of") (qual := "nothing_of") (st := s_nothing_of) l2 c2 k2
  have C_nothing_of : Cal P w K mg base CX0 1 "nothing_of" ["dials"] (SpR R_nothing_of) := ⟨f2, _, ok_nothing_of Z F2, PySem.W.mg_of KX G a2, k2, F2.binds (fun _ _ _ _ _ _ us hl => match us, hl with | [_], _ => rfl)⟩
  have F3 := fun_mk (x := "add") (qual := "add") (st := s_add) l3 c3 k3
  have C_add : Cal P w K mg base CX0 1 "add" ["dials", "one", "other"] (SpR R_add) := ⟨f3, _, ok_add Z F3, PySem.W.mg_of KX G a3, k3, F3.binds (fun _ _ _ _ _ _ us hl => match us, hl with | [_, _, _], _ => rfl)⟩
  have F4 := fun_mk (x := "take_off") (qual := "take_off") (st := s_take_off) l4 c4 k4
  have C_take_off : Cal P w K mg base CX0 1 "take_off" ["dials", "one", "other"] (SpR R_take) := ⟨f4, _, ok_take_off Z F4, PySem.W.mg_of KX G a4, k4, F4.binds (fun _ _ _ _ _ _ us hl => match us, hl with | [_, _, _], _ => rfl)⟩
  have F5 := fun_mk (x := "add_up") (qual := "add_up") (st := s_add_up) l5 c5 k5
  have C_add_up : Cal P w K mg base CX0 2 "add_up" ["dials", "several"] (SpR R_add_upT) := ⟨f5, _, ok_add_upT C_nothing_of C_add F5, PySem.W.mg_of KX G a5, k5, F5.binds (fun _ _ _ _ _ _ us hl => match us, hl with | [_, _], _ => rfl)⟩
  have F6 := fun_mk (x := "reached") (qual := "reached") (st := s_reached) l6 c6 k6
  have C_reached : Cal P w K mg base CX0 2 "reached" ["dials", "moves"] (SpR R_reached) := ⟨f6, _, ok_reached Z C_all_places C_add F6, PySem.W.mg_of KX G a6, k6, F6.binds (fun _ _ _ _ _ _ us hl => match us, hl with | [_, _], _ => rfl)⟩
  have F7 := fun_mk (x := "moves_to") (qual := "moves_to") (st := s_moves_to) l7 c7 k7
  have C_moves_to : Cal P w K mg base CX0 2 "moves_to" ["dials", "goals"] (SpR R_moves_to) := ⟨f7, _, ok_moves_to Z C_all_places C_take_off F7, PySem.W.mg_of KX G a7, k7, F7.binds (fun _ _ _ _ _ _ us hl => match us, hl with | [_, _], _ => rfl)⟩
  have F8 := fun_mk (x := "is_number") (qual := "is_number") (st := s_is_number) l8 c8 k8
  have C_is_number : Cal P w K mg base CX0 1 "is_number" ["thing"] (SpR R_is_number) := ⟨f8, _, ok_is_number Z F8, PySem.W.mg_of KX G a8, k8, F8.binds (fun _ _ _ _ _ _ us hl => match us, hl with | [_], _ => rfl)⟩
  have F9 := fun_mk (x := "is_between") (qual := "is_between") (st := s_is_between) l9 c9 k9
  have C_is_between : Cal P w K mg base CX0 2 "is_between" ["thing", "low", "high"] (SpR R_is_between) := ⟨f9, _, ok_is_between C_is_number F9, PySem.W.mg_of KX G a9, k9, F9.binds (fun _ _ _ _ _ _ us hl => match us, hl with | [_, _, _], _ => rfl)⟩
  have F10 := fun_mk (x := "is_listed") (qual := "is_listed") (st := s_is_listed) l10 c10 k10
  have C_is_listed : Cal P w K mg base CX0 1 "is_listed" ["thing"] (SpR R_is_listed) := ⟨f10, _, ok_is_listed Z F10, PySem.W.mg_of KX G a10, k10, F10.binds (fun _ _ _ _ _ _ us hl => match us, hl with | [_], _ => rfl)⟩
  have F11 := fun_mk (x := "is_tuple_of") (qual := "is_tuple_of") (st := s_is_tuple_of) l11 c11 k11
  have C_is_tuple_of : Cal P w K mg base CX0 1 "is_tuple_of" ["thing", "many"] (SpR R_is_tuple_of) := ⟨f11, _, ok_is_tuple_of Z F11, PySem.W.mg_of KX G a11, k11, F11.binds (fun _ _ _ _ _ _ us hl => match us, hl with | [_, _], _ => rfl)⟩
  have F12 := fun_mk (x := "is_ascending") (qual := "is_ascending") (st := s_is_ascending) l12 c12 k12
  have C_is_ascending : Cal P w K mg base CX0 1 "is_ascending" ["items"] (SpR R_is_ascending) := ⟨f12, _, ok_is_ascending Z F12, PySem.W.mg_of KX G a12, k12, F12.binds (fun _ _ _ _ _ _ us hl => match us, hl with | [_], _ => rfl)⟩
  have F13 := fun_mk (x := "is_all_different") (qual := "is_all_different") (st := s_is_all_different) l13 c13 k13
  have C_is_all_different : Cal P w K mg base CX0 1 "is_all_different" ["items"] (SpR R_all_different) := ⟨f13, _, ok_is_all_different Z Z_set F13, PySem.W.mg_of KX G a13, k13, F13.binds (fun _ _ _ _ _ _ us hl => match us, hl with | [_], _ => rfl)⟩
  have F14 := fun_mk (x := "is_dials") (qual := "is_dials") (st := s_is_dials) l14 c14 k14
  have C_is_dials : Cal P w K mg base CX0 3 "is_dials" ["thing"] (SpR R_is_dials) := ⟨f14, _, ok_is_dials Z C_is_between C_place_count F14, PySem.W.mg_of KX G a14, k14, F14.binds (fun _ _ _ _ _ _ us hl => match us, hl with | [_], _ => rfl)⟩
  have F15 := fun_mk (x := "is_place") (qual := "is_place") (st := s_is_place) l15 c15 k15
  have C_is_place : Cal P w K mg base CX0 3 "is_place" ["dials", "thing"] (SpR R_is_place) := ⟨f15, _, ok_is_place Z C_is_tuple_of C_is_between F15, PySem.W.mg_of KX G a15, k15, F15.binds (fun _ _ _ _ _ _ us hl => match us, hl with | [_, _], _ => rfl)⟩
  have F16 := fun_mk (x := "are_places") (qual := "are_places") (st := s_are_places) l16 c16 k16
  have C_are_places : Cal P w K mg base CX0 4 "are_places" ["dials", "thing"] (SpR R_are_places) := ⟨f16, _, ok_are_places Z C_is_listed C_is_place F16, PySem.W.mg_of KX G a16, k16, F16.binds (fun _ _ _ _ _ _ us hl => match us, hl with | [_, _], _ => rfl)⟩
  have F17 := fun_mk (x := "is_moves") (qual := "is_moves") (st := s_is_moves) l17 c17 k17
  have C_is_moves : Cal P w K mg base CX0 5 "is_moves" ["dials", "thing"] (SpR R_is_moves) := ⟨f17, _, ok_is_moves C_is_tuple_of C_place_count C_are_places F17, PySem.W.mg_of KX G a17, k17, F17.binds (fun _ _ _ _ _ _ us hl => match us, hl with | [_, _], _ => rfl)⟩
  have F18 := fun_mk (x := "is_row_of_moves") (qual := "is_row_of_moves") (st := s_is_row_of_moves) l18 c18 k18
  have C_is_row_of_moves : Cal P w K mg base CX0 6 "is_row_of_moves" ["dials", "thing"] (SpR R_is_row) := ⟨f18, _, ok_is_row_of_moves C_is_moves C_is_ascending F18, PySem.W.mg_of KX G a18, k18, F18.binds (fun _ _ _ _ _ _ us hl => match us, hl with | [_, _], _ => rfl)⟩
  have F19 := fun_mk (x := "is_dealt") (qual := "is_dealt") (st := s_is_dealt) l19 c19 k19
  have C_is_dealt : Cal P w K mg base CX0 6 "is_dealt" ["dials", "thing"] (SpR R_is_dealt) := ⟨f19, _, ok_is_dealt C_is_moves C_is_all_different C_reached F19, PySem.W.mg_of KX G a19, k19, F19.binds (fun _ _ _ _ _ _ us hl => match us, hl with | [_, _], _ => rfl)⟩
  have F20 := fun_mk (x := "is_partly_dealt") (qual := "is_partly_dealt") (st := s_is_partly_dealt) l20 c20 k20
  have C_is_partly_dealt : Cal P w K mg base CX0 5 "is_partly_dealt" ["dials", "thing"] (SpR R_goodB) := ⟨f20, _, ok_is_partly_dealt Z Z_dict C_are_places F20, PySem.W.mg_of KX G a20, k20, F20.binds (fun _ _ _ _ _ _ us hl => match us, hl with | [_, _], _ => rfl)⟩
  have F21 := fun_mk (x := "check_dials") (qual := "check_dials") (st := s_check_dials) l21 c21 k21
  have C_check_dials : Cal P w K mg base (L2.CX P w) 4 "check_dials" ["dials"] (SpE (R_check_dials C1)) := ⟨f21, _, ok_check_dials B1 C_is_dials F21, PySem.W.mg_of KX G a21, k21, F21.binds (fun _ _ _ _ _ _ us hl => match us, hl with | [_], _ => rfl)⟩
  have F22 := fun_mk (x := "check_move") (qual := "check_move") (st := s_check_move) l22 c22 k22
  have C_check_move : Cal P w K mg base (L2.CX P w) 4 "check_move" ["dials", "move"] (SpE R_okMove) := ⟨f22, _, ok_check_move B5 C_is_place F22, PySem.W.mg_of KX G a22, k22, F22.binds (fun _ _ _ _ _ _ us hl => match us, hl with | [_, _], _ => rfl)⟩
  have F23 := fun_mk (x := "check_row") (qual := "check_row") (st := s_check_row) l23 c23 k23
  have C_check_row : Cal P w K mg base (L2.CX P w) 7 "check_row" ["dials", "row"] (SpE (R_check_row C2)) := ⟨f23, _, ok_check_row B2 C_is_row_of_moves F23, PySem.W.mg_of KX G a23, k23, F23.binds (fun _ _ _ _ _ _ us hl => match us, hl with | [_, _], _ => rfl)⟩
  have F24 := fun_mk (x := "check_dealing") (qual := "check_dealing") (st := s_check_dealing) l24 c24 k24
  have C_check_dealing : Cal P w K mg base (L2.CX P w) 7 "check_dealing" ["dials", "moves"] (SpE (R_check_dealing C6)) := ⟨f24, _, ok_check_dealing B6 C_is_dealt F24, PySem.W.mg_of KX G a24, k24, F24.binds (fun _ _ _ _ _ _ us hl => match us, hl with | [_, _], _ => rfl)⟩
  have F25 := fun_mk (x := "pass_on") (qual := "pass_on") (st := s_pass_on) l25 c25 k25
  have C_pass_on : Cal P w K mg base CX0 2 "pass_on" ["dials", "begun", "first", "second", "move"] (SpR R_pass_on) := ⟨f25, _, ok_pass_on Z Z_sorted C_add F25, PySem.W.mg_of KX G a25, k25, F25.binds (fun _ _ _ _ _ _ us hl => match us, hl with | [_, _, _, _, _], _ => rfl)⟩
  have F26 := fun_mk (x := "finished") (qual := "finished") (st := s_finished) l26 c26 k26
  have C_finished : Cal P w K mg base CX0 3 "finished" ["dials", "held"] (SpR R_finished) := ⟨f26, _, ok_finished Z C_all_places C_add C_moves_to F26, PySem.W.mg_of KX G a26, k26, F26.binds (fun _ _ _ _ _ _ us hl => match us, hl with | [_, _], _ => rfl)⟩
  have F27 := fun_mk (x := "hand_all") (qual := "hand_all") (st := s_hand_all) l27 c27 k27
  have C_hand_all : Cal P w K mg base CX0 3 "hand_all" ["dials", "persons", "moves"] (SpR R_hand_all) := ⟨f27, _, ok_hand_all Z C_pass_on F27, PySem.W.mg_of KX G a27, k27, F27.binds (fun _ _ _ _ _ _ us hl => match us, hl with | [_, _, _], _ => rfl)⟩
  have F28 := fun_mk (x := "deal") (qual := "deal") (st := s_deal) l28 c28 k28
  have C_deal : Cal P w K mg base CX0 4 "deal" ["dials", "row"] (SpR R_deal) := ⟨f28, _, ok_deal Z C_all_places C_nothing_of C_add_up C_hand_all C_finished F28, PySem.W.mg_of KX G a28, k28, F28.binds (fun _ _ _ _ _ _ us hl => match us, hl with | [_, _], _ => rfl)⟩
  have F29 := fun_mk (x := "is_begun") (qual := "is_begun") (st := s_is_begun) l29 c29 k29
  have C_is_begun : Cal P w K mg base CX0 6 "is_begun" ["dials", "thing"] (SpR R_goodB) := ⟨f29, _, ok_is_begun Z C_is_partly_dealt C_is_all_different C_add F29, PySem.W.mg_of KX G a29, k29, F29.binds (fun _ _ _ _ _ _ us hl => match us, hl with | [_, _], _ => rfl)⟩
  have F30 := fun_mk (x := "check_two_free") (qual := "check_two_free") (st := s_check_two_free) l30 c30 k30
  have C_check_two_free : Cal P w K mg base (L2.CX P w) 4 "check_two_free" ["dials", "begun", "first", "second"] (SpE R_okFree) := ⟨f30, _, ok_check_two_free B4 C_is_place F30, PySem.W.mg_of KX G a30, k30, F30.binds (fun _ _ _ _ _ _ us hl => match us, hl with | [_, _, _, _], _ => rfl)⟩
  have F31 := fun_mk (x := "passing") (qual := "passing") (st := s_passing) l31 c31 k31
  have C_passing : Cal P w K mg base (L2.CX P w) 7 "passing" ["dials", "begun", "first", "second", "move"] (SpE R_okPass) := ⟨f31, _, ok_passing B3 C_check_dials C_is_begun C_check_two_free C_check_move C_pass_on F31, PySem.W.mg_of KX G a31, k31, F31.binds (fun _ _ _ _ _ _ us hl => match us, hl with | [_, _, _, _, _], _ => rfl)⟩
  have F32 := fun_mk (x := "is_dealing") (qual := "is_dealing") (st := s_is_dealing) l32 c32 k32
  have C_is_dealing : Cal P w K mg base (L2.CX P w) 7 "is_dealing" ["dials", "thing"] (SpE (R_is_dealing C1)) := ⟨f32, _, ok_is_dealing C_check_dials C_is_dealt F32, PySem.W.mg_of KX G a32, k32, F32.binds (fun _ _ _ _ _ _ us hl => match us, hl with | [_, _], _ => rfl)⟩
  have F33 := fun_mk (x := "row_of") (qual := "row_of") (st := s_row_of) l33 c33 k33
  have C_row_of : Cal P w K mg base (L2.CX P w) 8 "row_of" ["dials", "dealing"] (SpE (R_row_of C1 C6)) := ⟨f33, _, ok_row_of Z Z_sorted C_check_dials C_check_dealing F33, PySem.W.mg_of KX G a33, k33, F33.binds (fun _ _ _ _ _ _ us hl => match us, hl with | [_, _], _ => rfl)⟩
  have F34 := fun_mk (x := "dealing") (qual := "dealing") (st := s_dealing) l34 c34 k34
  have C_dealing : Cal P w K mg base (L2.CX P w) 8 "dealing" ["dials", "row"] (SpE (R_dealing C1 C2)) := ⟨f34, _, ok_dealing C_check_dials C_check_row C_deal F34, PySem.W.mg_of KX G a34, k34, F34.binds (fun _ _ _ _ _ _ us hl => match us, hl with | [_, _], _ => rfl)⟩
  have F35 := fun_mk (x := "_law_begun") (qual := "_law_begun") (st := s__law_begun) l35 c35 k35
  have C__law_begun : Cal P w K mg base CX0 1 "_law_begun" ["script"] (SpBegun K) := ⟨f35, _, ok__law_begun Z F35, PySem.W.mg_of KX G a35, k35, F35.binds (fun _ _ _ _ _ _ us hl => match us, hl with | [_], _ => rfl)⟩
  have F36 := fun_mk (x := "_law_draw") (qual := "_law_draw") (st := s__law_draw) l36 c36 k36
  have C__law_draw : Cal P w K mg base CX0 1 "_law_draw" ["state", "size_here"] SpDraw := ⟨f36, _, ok__law_draw Z F36, PySem.W.mg_of KX G a36, k36, F36.binds (fun _ _ _ _ _ _ us hl => match us, hl with | [_, _], _ => rfl)⟩
  have F37 := fun_mk (x := "_law_pick") (qual := "_law_pick") (st := s__law_pick) l37 c37 k37
  have C__law_pick : Cal P w K mg base CX0 2 "_law_pick" ["state", "several"] SpPick := ⟨f37, _, ok__law_pick Z C__law_draw F37, PySem.W.mg_of KX G a37, k37, F37.binds (fun _ _ _ _ _ _ us hl => match us, hl with | [_, _], _ => rfl)⟩
  have F38 := fun_mk (x := "_law_mixed") (qual := "_law_mixed") (st := s__law_mixed) l38 c38 k38
  have C__law_mixed : Cal P w K mg base CX0 2 "_law_mixed" ["state", "several"] SpMix := ⟨f38, _, ok__law_mixed Z C__law_draw F38, PySem.W.mg_of KX G a38, k38, F38.binds (fun _ _ _ _ _ _ us hl => match us, hl with | [_, _], _ => rfl)⟩
  have F39 := fun_mk (x := "_law_count") (qual := "_law_count") (st := s__law_count) l39 c39 k39
  have C__law_count : Cal P w K mg base CX0 1 "_law_count" ["dials_here"] (SpR R_place_count) := ⟨f39, _, ok__law_count F39, PySem.W.mg_of KX G a39, k39, F39.binds (fun _ _ _ _ _ _ us hl => match us, hl with | [_], _ => rfl)⟩
  have F40 := fun_mk (x := "_law_dials") (qual := "_law_dials") (st := s__law_dials) l40 c40 k40
  have C__law_dials : Cal P w K mg base CX0 3 "_law_dials" ["state", "most"] SpDials := ⟨f40, _, ok__law_dials C__law_count C__law_pick F40, PySem.W.mg_of KX G a40, k40, F40.binds (fun _ _ _ _ _ _ us hl => match us, hl with | [_, _], _ => rfl)⟩
  have F41 := fun_mk (x := "_law_places") (qual := "_law_places") (st := s__law_places) l41 c41 k41
  have C__law_places : Cal P w K mg base CX0 1 "_law_places" ["dials_here"] (SpR R_all_places) := ⟨f41, _, ok__law_places Z F41, PySem.W.mg_of KX G a41, k41, F41.binds (fun _ _ _ _ _ _ us hl => match us, hl with | [_], _ => rfl)⟩
  have F42 := fun_mk (x := "_law_plus") (qual := "_law_plus") (st := s__law_plus) l42 c42 k42
  have C__law_plus : Cal P w K mg base CX0 1 "_law_plus" ["dials_here", "one", "other"] (SpR R_add) := ⟨f42, _, ok__law_plus Z F42, PySem.W.mg_of KX G a42, k42, F42.binds (fun _ _ _ _ _ _ us hl => match us, hl with | [_, _, _], _ => rfl)⟩
  have F43 := fun_mk (x := "_law_less") (qual := "_law_less") (st := s__law_less) l43 c43 k43
  have C__law_less : Cal P w K mg base CX0 1 "_law_less" ["dials_here", "one", "other"] (SpR R_take) := ⟨f43, _, ok__law_less Z F43, PySem.W.mg_of KX G a43, k43, F43.binds (fun _ _ _ _ _ _ us hl => match us, hl with | [_, _, _], _ => rfl)⟩
  have F44 := fun_mk (x := "_law_nothing") (qual := "_law_nothing") (st := s__law_nothing) l44 c44 k44
  have C__law_nothing : Cal P w K mg base CX0 1 "_law_nothing" ["dials_here"] (SpR R_nothing_of) := ⟨f44, _, ok__law_nothing Z F44, PySem.W.mg_of KX G a44, k44, F44.binds (fun _ _ _ _ _ _ us hl => match us, hl with | [_], _ => rfl)⟩
  have F45 := fun_mk (x := "_law_total") (qual := "_law_total") (st := s__law_total) l45 c45 k45
  have C__law_total : Cal P w K mg base CX0 2 "_law_total" ["dials_here", "several"] (SpR R_add_upE) := ⟨f45, _, ok__law_total C__law_nothing C__law_plus F45, PySem.W.mg_of KX G a45, k45, F45.binds (fun _ _ _ _ _ _ us hl => match us, hl with | [_, _], _ => rfl)⟩
  have mgL := PySem.W.mg_of KX G a46
  rw [hfa] at mgL
  cases mgL
  exact law_run Z C__law_begun C__law_dials C__law_pick C__law_draw C__law_mixed C__law_places C__law_plus C__law_less C__law_nothing C__law_total C_passing C_is_dealing C_row_of C_dealing Z_sorted Z_enumerate l46 c46 e0 (.of_eq rfl) rfl ⟨rfl, by decide, by decide⟩ hS hl fun _ => rfl
end Mv
open PySem PyProof.Rows PySem.W
set_option maxRecDepth 99999 in
set_option maxHeartbeats 0 in
theorem PySem.Challenge.cw_movedround_k19_whole_the_last_person_is_holds : PySem.Challenge.rw_movedround_k19_whole_the_last_person_is.Holds := by
  w_on; o_law; k_head; (case hw => w_witness2)
  k_fill
  refine Mv.walk_atS (n := 63) rfl (by decide) rfl (fun w h Y => PySem.W.kIn_of Y) ?F
  case F =>
    intro w mg fa h Y KX G hmg
    refine' Mv.all_mk KX G hmg ?a0 ?l0 ?c0 ?k0 ?a1 ?l1 ?c1 ?k1 ?a2 ?l2 ?c2 ?k2 ?a3 ?l3 ?c3 ?k3 ?a4 ?l4 ?c4 ?k4 ?a5 ?l5 ?c5 ?k5 ?a6 ?l6 ?c6 ?k6 ?a7 ?l7 ?c7 ?k7 ?a8 ?l8 ?c8 ?k8 ?a9 ?l9 ?c9 ?k9 ?a10 ?l10 ?c10 ?k10 ?a11 ?l11 ?c11 ?k11 ?a12 ?l12 ?c12 ?k12 ?a13 ?l13 ?c13 ?k13 ?a14 ?l14 ?c14 ?k14 ?a15 ?l15 ?c15 ?k15 ?a16 ?l16 ?c16 ?k16 ?a17 ?l17 ?c17 ?k17 ?a18 ?l18 ?c18 ?k18 ?a19 ?l19 ?c19 ?k19 ?a20 ?l20 ?c20 ?k20 ?a21 ?l21 ?c21 ?k21 ?a22 ?l22 ?c22 ?k22 ?a23 ?l23 ?c23 ?k23 ?a24 ?l24 ?c24 ?k24 ?a25 ?l25 ?c25 ?k25 ?a26 ?l26 ?c26 ?k26 ?a27 ?l27 ?c27 ?k27 ?a28 ?l28 ?c28 ?k28 ?a29 ?l29 ?c29 ?k29 ?a30 ?l30 ?c30 ?k30 ?a31 ?l31 ?c31 ?k31 ?a32 ?l32 ?c32 ?k32 ?a33 ?l33 ?c33 ?k33 ?a34 ?l34 ?c34 ?k34 ?a35 ?l35 ?c35 ?k35 ?a36 ?l36 ?c36 ?k36 ?a37 ?l37 ?c37 ?k37 ?a38 ?l38 ?c38 ?k38 ?a39 ?l39 ?c39 ?k39 ?a40 ?l40 ?c40 ?k40 ?a41 ?l41 ?c41 ?k41 ?a42 ?l42 ?c42 ?k42 ?a43 ?l43 ?c43 ?k43 ?a44 ?l44 ?c44 ?k44 ?a45 ?l45 ?c45 ?k45 ?a46 ?l46 ?c46 ?k46 ?z_len ?z_zip ?z_tuple ?z_list ?z_range ?z_all ?z_int ?z_bool ?z_isinstance ?z_abs ?z_min ?z_repr ?z_enumerate ?z_sorted ?z_set ?z_dict ?ac1 ?ac2 ?ac3 ?ac4 ?ac5 ?ac6 ?kc1 ?xc1 ?bc1 ?tc1 ?kc2 ?xc2 ?bc2 ?tc2 ?kc3 ?xc3 ?bc3 ?tc3 ?kc4 ?xc4 ?bc4 ?tc4 ?kc5 ?xc5 ?bc5 ?tc5 ?kc6 ?xc6 ?bc6 ?tc6
    (case a0 => k_is)
    (case l0 => k_is)
    (case c0 => k_is)
    (case k0 => k_is)
    (case a1 => k_is)
    (case l1 => k_is)
    (case c1 => k_is)
    (case k1 => k_is)
    (case a2 => k_is)
    (case l2 => k_is)
    (case c2 => k_is)
    (case k2 => k_is)
    (case a3 => k_is)
    (case l3 => k_is)
    (case c3 => k_is)
    (case k3 => k_is)
    (case a4 => k_is)
    (case l4 => k_is)
    (case c4 => k_is)
    (case k4 => k_is)
    (case a5 => k_is)
    (case l5 => k_is)
    (case c5 => k_is)
    (case k5 => k_is)
    (case a6 => k_is)
    (case l6 => k_is)
    (case c6 => k_is)
    (case k6 => k_is)
    (case a7 => k_is)
    (case l7 => k_is)
    (case c7 => k_is)
    (case k7 => k_is)
    (case a8 => k_is)
    (case l8 => k_is)
    (case c8 => k_is)
    (case k8 => k_is)
    (case a9 => k_is)
    (case l9 => k_is)
    (case c9 => k_is)
    (case k9 => k_is)
    (case a10 => k_is)
    (case l10 => k_is)
    (case c10 => k_is)
    (case k10 => k_is)
    (case a11 => k_is)
    (case l11 => k_is)
    (case c11 => k_is)
    (case k11 => k_is)
    (case a12 => k_is)
    (case l12 => k_is)
    (case c12 => k_is)
    (case k12 => k_is)
    (case a13 => k_is)
    (case l13 => k_is)
    (case c13 => k_is)
    (case k13 => k_is)
    (case a14 => k_is)
    (case l14 => k_is)
    (case c14 => k_is)
    (case k14 => k_is)
    (case a15 => k_is)
    (case l15 => k_is)
    (case c15 => k_is)
    (case k15 => k_is)
    (case a16 => k_is)
    (case l16 => k_is)
    (case c16 => k_is)
    (case k16 => k_is)
    (case a17 => k_is)
    (case l17 => k_is)
    (case c17 => k_is)
    (case k17 => k_is)
    (case a18 => k_is)
    (case l18 => k_is)
    (case c18 => k_is)
    (case k18 => k_is)
    (case a19 => k_is)
    (case l19 => k_is)
    (case c19 => k_is)
    (case k19 => k_is)
    (case a20 => k_is)
    (case l20 => k_is)
    (case c20 => k_is)
    (case k20 => k_is)
    (case a21 => k_is)
    (case l21 => k_is)
    (case c21 => k_is)
    (case k21 => k_is)
    (case a22 => k_is)
    (case l22 => k_is)
    (case c22 => k_is)
    (case k22 => k_is)
    (case a23 => k_is)
    (case l23 => k_is)
    (case c23 => k_is)
    (case k23 => k_is)
    (case a24 => k_is)
    (case l24 => k_is)
    (case c24 => k_is)
    (case k24 => k_is)
    (case a25 => k_is)
    (case l25 => k_is)
    (case c25 => k_is)
    (case k25 => k_is)
    (case a26 => k_is)
    (case l26 => k_is)
    (case c26 => k_is)
    (case k26 => k_is)
    (case a27 => k_is)
    (case l27 => k_is)
    (case c27 => k_is)
    (case k27 => k_is)
    (case a28 => k_is)
    (case l28 => k_is)
    (case c28 => k_is)
    (case k28 => k_is)
    (case a29 => k_is)
    (case l29 => k_is)
    (case c29 => k_is)
    (case k29 => k_is)
    (case a30 => k_is)
    (case l30 => k_is)
    (case c30 => k_is)
    (case k30 => k_is)
    (case a31 => k_is)
    (case l31 => k_is)
    (case c31 => k_is)
    (case k31 => k_is)
    (case a32 => k_is)
    (case l32 => k_is)
    (case c32 => k_is)
    (case k32 => k_is)
    (case a33 => k_is)
    (case l33 => k_is)
    (case c33 => k_is)
    (case k33 => k_is)
    (case a34 => k_is)
    (case l34 => k_is)
    (case c34 => k_is)
    (case k34 => k_is)
    (case a35 => k_is)
    (case l35 => k_is)
    (case c35 => k_is)
    (case k35 => k_is)
    (case a36 => k_is)
    (case l36 => k_is)
    (case c36 => k_is)
    (case k36 => k_is)
    (case a37 => k_is)
    (case l37 => k_is)
    (case c37 => k_is)
    (case k37 => k_is)
    (case a38 => k_is)
    (case l38 => k_is)
    (case c38 => k_is)
    (case k38 => k_is)
    (case a39 => k_is)
    (case l39 => k_is)
    (case c39 => k_is)
    (case k39 => k_is)
    (case a40 => k_is)
    (case l40 => k_is)
    (case c40 => k_is)
    (case k40 => k_is)
    (case a41 => k_is)
    (case l41 => k_is)
    (case c41 => k_is)
    (case k41 => k_is)
    (case a42 => k_is)
    (case l42 => k_is)
    (case c42 => k_is)
    (case k42 => k_is)
    (case a43 => k_is)
    (case l43 => k_is)
    (case c43 => k_is)
    (case k43 => k_is)
    (case a44 => k_is)
    (case l44 => k_is)
    (case c44 => k_is)
    (case k44 => k_is)
    (case a45 => k_is)
    (case l45 => k_is)
    (case c45 => k_is)
    (case k45 => k_is)
    (case a46 => k_is)
    (case l46 => k_is)
    (case c46 => k_is)
    (case k46 => k_is)
    (case z_len => k_is)
    (case z_zip => k_is)
    (case z_tuple => k_is)
    (case z_list => k_is)
    (case z_range => k_is)
    (case z_all => k_is)
    (case z_int => k_is)
    (case z_bool => k_is)
    (case z_isinstance => k_is)
    (case z_abs => k_is)
    (case z_min => k_is)
    (case z_repr => k_is)
    (case z_enumerate => k_is)
    (case z_sorted => k_is)
    (case z_set => k_is)
    (case z_dict => k_is)
    (case ac1 => k_is)
    (case ac2 => k_is)
    (case ac3 => k_is)
    (case ac4 => k_is)
    (case ac5 => k_is)
    (case ac6 => k_is)
    (case kc1 => k_is)
    (case xc1 => k_exc)
    (case bc1 => k_is)
    (case tc1 => k_is)
    (case kc2 => k_is)
    (case xc2 => k_exc)
    (case bc2 => k_is)
    (case tc2 => k_is)
    (case kc3 => k_is)
    (case xc3 => k_exc)
    (case bc3 => k_is)
    (case tc3 => k_is)
    (case kc4 => k_is)
    (case xc4 => k_exc)
    (case bc4 => k_is)
    (case tc4 => k_is)
    (case kc5 => k_is)
    (case xc5 => k_exc)
    (case bc5 => k_is)
    (case tc5 => k_is)
    (case kc6 => k_is)
    (case xc6 => k_exc)
    (case bc6 => k_is)
    (case tc6 => k_is)

