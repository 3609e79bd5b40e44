import PyProof.Rows.All
import Wide.All
import OpenK.AllK
import Wide.FinOn
import HandS.ForMost
import HandS.ForExc
import HandS.IsInst
import HandS.TupAny
import HandS.TupMul
import HandS.Style
import HandS.ExcInit
import HandS.TryMany
import HandS.ExcField
import HandS.CallLocal
import HandS.More
import HandS.Steps
import PyProof.MaxThree
import HandS.Rev
import HandS.Zip
import KE.GoesEnum
import HandS.Iter
import HandS.Comp
import HandS.RevRange
import HandS.Conv
import HandS.DictComp
import KE.KIndexOf
import PyProof.CallFns
import KE.SortKeyHeap
import HandS.Lambda
import HandS.SortKw
import HandS.SortInts
import HandS.Deep
import KE.KDictPairs
import HandS.ListItems
import PyProof.TupleOfSeq
import KE.KDictItemsList
import KE.KDictExact
import PyProof.ZipIter
import KE.KTupSum
import PyProof.WalkInts
import HandS.TryOnly
import HandS.Wide
import HandS.SetKeys
import PySem.Challenge.RW_hillrooms_k06_values_by_a_plain_walk
set_option Elab.async false
set_option linter.all false
set_option maxRecDepth 100000
set_option maxHeartbeats 4000000
/-! ### Kit -/
namespace Mine
open PySem PySem.Spec L2

/-! ## heaps -/
/-- what stood stands, but at a -/
def SB (a : Addr) (H H' : Hp) : Prop := ∀ b o, b ≠ a → H b = some o → H' b = some o
/-- what was a tuple is one -/
def Ext (K : PySem.W.Frag) (H H' : Hp) : Prop := ∀ a xs, SqT K H a xs → SqT K H' a xs
theorem SB.refl {a : Addr} {H : Hp} : SB a H H := fun _ _ _ h => h
theorem SB.trans {a : Addr} {H H1 H2 : Hp} (x : SB a H H1) (y : SB a H1 H2) : SB a H H2 := fun b o n h => y b o n (x b o n h)
theorem SB.of_same {a : Addr} {H H' : Hp} (s : Same H H') : SB a H H' := fun b o _ h => s b o h
theorem SB.upd {a : Addr} {H : Hp} {o : HO} : SB a H (upd H a o) := fun b u n h => by rw [upd_ne n]; exact h
theorem SB.new {a p : Addr} {H H' : Hp} {o : HO} (s : SB a H H') (hp : H' p = none) : SB a H (L2.upd H' p o) := fun b u n h => by
  have q := s b u n h
  rw [upd_ne (ne_of_none q hp)]; exact q
theorem SB.set {a : Addr} {H H' : Hp} {o : HO} (s : SB a H H') : SB a H (L2.upd H' a o) := fun b u n h => by
  rw [upd_ne n]; exact s b u n h
theorem Same.new {p : Addr} {H H' : Hp} {o : HO} (s : Same H H') (hp : H' p = none) : Same H (L2.upd H' p o) := fun b u h => by
  have q := s b u h
  rw [upd_ne (ne_of_none q hp)]; exact q
theorem same_new {H : Hp} {p : Addr} (h : H p = none) (o : HO) : Same H (upd H p o) := fun b u q => by rw [upd_ne (ne_of_none q h)]; exact q
theorem Ext.refl {K : PySem.W.Frag} {H : Hp} : Ext K H H := fun _ _ h => h
theorem Ext.trans {K : PySem.W.Frag} {H H1 H2 : Hp} (x : Ext K H H1) (y : Ext K H1 H2) : Ext K H H2 := fun a xs h => y a xs (x a xs h)
theorem Ext.of_same {K : PySem.W.Frag} {H H' : Hp} (s : Same H H') : Ext K H H' := fun a xs h => by
  rcases h with (h | ⟨o, h⟩) | h
  · exact .inl (.inl (s _ _ h))
  · exact .inl (.inr ⟨o, s _ _ h⟩)
  · exact .inr h
/-- an object that is no tuple is no known tuple -/
def noTup : HO → Prop
  | .tup _ => False
  | .frz _ _ => False
  | _ => True
theorem Ext.of_SB {K : PySem.W.Frag} {a : Addr} {H H' : Hp} {o : HO} (s : SB a H H') (h : H a = some o) (hn : noTup o) : Ext K H H' := fun b xs q => by
  rcases q with (q | ⟨u, q⟩) | q
  · have ne : b ≠ a := fun e => by subst e; rw [h] at q; cases q; exact hn
    exact .inl (.inl (s _ _ ne q))
  · have ne : b ≠ a := fun e => by subst e; rw [h] at q; cases q; exact hn
    exact .inl (.inr ⟨u, s _ _ ne q⟩)
  · exact .inr q
theorem Ext.set {K : PySem.W.Frag} {a : Addr} {H : Hp} {o u : HO} (h : H a = some o) (hn : noTup o) : Ext K H (upd H a u) := Ext.of_SB SB.upd h hn
theorem Ext.new {K : PySem.W.Frag} {p : Addr} {H : Hp} {o : HO} (h : H p = none) : Ext K H (upd H p o) := Ext.of_same (same_new h o)

/-! ## data without lists -/
mutual
inductive Rp (K : PySem.W.Frag) (H : Hp) : V → PyData → Prop
  | non : Rp K H .non .none
  | bl (b : Bool) : Rp K H (.bl b) (.bool b)
  | int (i : Int) : Rp K H (.int i) (.int i)
  | str (x : Str) : Rp K H (.str x) (.str x)
  | tup {a : Addr} {xs : List V} {ds : List PyData} : SqT K H a xs → Rps K H xs ds → Rp K H (.ref a) (.tuple ds)
inductive Rps (K : PySem.W.Frag) (H : Hp) : List V → List PyData → Prop
  | nil : Rps K H [] []
  | cons {v : V} {vs : List V} {d : PyData} {ds : List PyData} : Rp K H v d → Rps K H vs ds → Rps K H (v :: vs) (d :: ds)
end
mutual
theorem Rp.mono {K : PySem.W.Frag} {H H' : Hp} (e : Ext K H H') : ∀ (d : PyData) (v : V), Rp K H v d → Rp K H' v d
  | .none, _, h => by cases h; exact .non
  | .bool b, _, h => by cases h; exact .bl b
  | .int i, _, h => by cases h; exact .int i
  | .str x, _, h => by cases h; exact .str x
  | .tuple ds, _, h => by
    cases h with
    | tup hs hr => exact .tup (e _ _ hs) (Rps.mono e ds _ hr)
  | .list _, _, h => nomatch h
  | .dict _, _, h => nomatch h
theorem Rps.mono {K : PySem.W.Frag} {H H' : Hp} (e : Ext K H H') : ∀ (ds : List PyData) (vs : List V), Rps K H vs ds → Rps K H' vs ds
  | [], _, h => by cases h; exact .nil
  | d :: ds, _, h => by
    cases h with
    | cons h1 h2 => exact .cons (Rp.mono e d _ h1) (Rps.mono e ds _ h2)
end
mutual
theorem Rp.dp {K : PySem.W.Frag} {H : Hp} : ∀ (d : PyData) (v : V), Rp K H v d → Dp K H v d
  | .none, _, h => by cases h; exact .non
  | .bool b, _, h => by cases h; exact .bl b
  | .int i, _, h => by cases h; exact .int i
  | .str x, _, h => by cases h; exact .str x
  | .tuple ds, _, h => by
    cases h with
    | tup hs hr => exact .tup hs (Rps.dp ds _ hr)
  | .list _, _, h => nomatch h
  | .dict _, _, h => nomatch h
theorem Rps.dp {K : PySem.W.Frag} {H : Hp} : ∀ (ds : List PyData) (vs : List V), Rps K H vs ds → DpAll K H vs ds
  | [], _, h => by cases h; exact .nil
  | d :: ds, _, h => by
    cases h with
    | cons h1 h2 => exact .cons (Rp.dp d _ h1) (Rps.dp ds _ h2)
end
theorem Rps.length {K : PySem.W.Frag} {H : Hp} : ∀ {vs : List V} {ds : List PyData}, Rps K H vs ds → vs.length = ds.length
  | _, _, .nil => rfl
  | _, _, .cons _ t => by rw [List.length_cons, List.length_cons, Rps.length t]
theorem Rps.get {K : PySem.W.Frag} {H : Hp} : ∀ {vs : List V} {ds : List PyData} {i : Nat} {d : PyData}, Rps K H vs ds → ds[i]? = some d → ∃ v, vs[i]? = some v ∧ Rp K H v d
  | _, _, _, _, .nil, e => by simp at e
  | _, _, 0, d, .cons h _, e => by simp at e; subst e; exact ⟨_, rfl, h⟩
  | _, _, i + 1, d, .cons _ t, e => by
    obtain ⟨v, h1, h2⟩ := Rps.get (i := i) (d := d) t (by simpa using e)
    exact ⟨v, by simpa using h1, h2⟩
theorem Rps.getV {K : PySem.W.Frag} {H : Hp} : ∀ {vs : List V} {ds : List PyData} {i : Nat} {v : V}, Rps K H vs ds → vs[i]? = some v → ∃ d, ds[i]? = some d ∧ Rp K H v d
  | _, _, _, _, .nil, e => by simp at e
  | _, _, 0, d, .cons h _, e => by simp at e; subst e; exact ⟨_, rfl, h⟩
  | _, _, i + 1, v, .cons _ t, e => by
    obtain ⟨d, h1, h2⟩ := Rps.getV (i := i) (v := v) t (by simpa using e)
    exact ⟨d, by simpa using h1, h2⟩
theorem Rps.append {K : PySem.W.Frag} {H : Hp} : ∀ {vs ws : List V} {ds es : List PyData}, Rps K H vs ds → Rps K H ws es → Rps K H (vs ++ ws) (ds ++ es)
  | _, _, _, _, .nil, s => s
  | _, _, _, _, .cons r t, s => .cons r (Rps.append t s)
theorem Rps.one {K : PySem.W.Frag} {H : Hp} {v : V} {d : PyData} (h : Rp K H v d) : Rps K H [v] [d] := .cons h .nil
theorem Rps.reverse {K : PySem.W.Frag} {H : Hp} : ∀ {vs : List V} {ds : List PyData}, Rps K H vs ds → Rps K H vs.reverse ds.reverse
  | _, _, .nil => .nil
  | _, _, .cons r t => by
    rw [List.reverse_cons, List.reverse_cons]
    exact (Rps.reverse t).append (.one r)
theorem Rps.dropLast {K : PySem.W.Frag} {H : Hp} : ∀ {vs : List V} {ds : List PyData}, Rps K H vs ds → Rps K H vs.dropLast ds.dropLast
  | _, _, .nil => .nil
  | _, _, .cons r .nil => .nil
  | _, _, .cons r (.cons r2 t) => .cons r (Rps.dropLast (.cons r2 t))
theorem Rps.drop {K : PySem.W.Frag} {H : Hp} : ∀ (n : Nat) {vs : List V} {ds : List PyData}, Rps K H vs ds → Rps K H (vs.drop n) (ds.drop n)
  | 0, _, _, r => r
  | _ + 1, _, _, .nil => .nil
  | n + 1, _, _, .cons _ t => Rps.drop n t
theorem Rps.take {K : PySem.W.Frag} {H : Hp} : ∀ (n : Nat) {vs : List V} {ds : List PyData}, Rps K H vs ds → Rps K H (vs.take n) (ds.take n)
  | 0, _, _, _ => .nil
  | _ + 1, _, _, .nil => .nil
  | n + 1, _, _, .cons r t => .cons r (Rps.take n t)
theorem Rps.ints {K : PySem.W.Frag} {H : Hp} : ∀ (ns : List Int), Rps K H (ns.map V.int) (ns.map PyData.int)
  | [] => .nil
  | n :: r => .cons (.int n) (Rps.ints r)

/-! ## readings, one step each -/
section
variable {σ : St} {H : Hp} {Q : VK} {D : Ends} {ta tb tc te : TE} {t u : TS} {tt tt' : TT} {i : Nat} {K : PySem.W.Frag}
theorem rd_var {v : V} (e : σ[i]? = some (some v)) (h : Q v H) : tVar i σ H Q := ⟨v, e, h⟩
theorem rd_c {v : V} (h : Q v H) : tC v σ H Q := h
theorem rd_seq {n bk ct : St → Hp → Prop} {rt : VK} (h : t ⟨u ⟨n, rt, bk, ct⟩, rt, bk, ct⟩ σ H) : tSeq t u ⟨n, rt, bk, ct⟩ σ H := h
theorem rd_next {n bk ct : St → Hp → Prop} {rt : VK} (h : n σ H) : tNext ⟨n, rt, bk, ct⟩ σ H := h
theorem rd_brk {n bk ct : St → Hp → Prop} {rt : VK} (h : bk σ H) : tBreak ⟨n, rt, bk, ct⟩ σ H := h
theorem rd_ct {n bk ct : St → Hp → Prop} {rt : VK} (h : ct σ H) : tCont ⟨n, rt, bk, ct⟩ σ H := h
theorem rd_ret {n bk ct : St → Hp → Prop} {rt : VK} (h : te σ H rt) : tRet te ⟨n, rt, bk, ct⟩ σ H := h
theorem rd_retN {n bk ct : St → Hp → Prop} {rt : VK} (h : rt .non H) : tRetN ⟨n, rt, bk, ct⟩ σ H := h
theorem rd_asg {g : TG} {n bk ct : St → Hp → Prop} {rt : VK} (h : te σ H fun x H1 => g x σ H1 n) : tAsg te g ⟨n, rt, bk, ct⟩ σ H := h
theorem rd_drop {n bk ct : St → Hp → Prop} {rt : VK} (h : te σ H fun _ H1 => n σ H1) : tDrop te ⟨n, rt, bk, ct⟩ σ H := h
theorem rd_gname {v : V} {R : St → Hp → Prop} (h : R (σ.set i (some v)) H) : gName i v σ H R := h
theorem rd_par {i j : Nat} {ta : TA} {n bk ct : St → Hp → Prop} {rt : VK} (h : ta σ H fun vs H1 => ∃ v w, vs = [v, w] ∧ n ((σ.set i (some v)).set j (some w)) H1) : tPar i j ta ⟨n, rt, bk, ct⟩ σ H := h
theorem rd_par3 {i j l : Nat} {ta : TA} {n bk ct : St → Hp → Prop} {rt : VK} (h : ta σ H fun vs H1 => ∃ u v w, vs = [u, v, w] ∧ n (((σ.set i (some u)).set j (some v)).set l (some w)) H1) : tPar3 i j l ta ⟨n, rt, bk, ct⟩ σ H := h
theorem rd_par3_end {i j l : Nat} {u v w : V} {N : St → Hp → Prop} (h : N (((σ.set i (some u)).set j (some v)).set l (some w)) H) : ∃ u' v' w', [u, v, w] = [u', v', w'] ∧ N (((σ.set i (some u')).set j (some v')).set l (some w')) H := ⟨u, v, w, rfl, h⟩
theorem rd_split {p A B : Prop} [Decidable p] (h1 : p → A) (h2 : ¬ p → B) : if decide p = true then A else B := by
  by_cases c : p
  · rw [decide_eq_true c, if_pos rfl]; exact h1 c
  · rw [decide_eq_false c, if_neg Bool.false_ne_true]; exact h2 c
theorem rd_splitN {p A B : Prop} [Decidable p] (h1 : ¬ p → A) (h2 : p → B) : if (!decide p) = true then A else B := by
  by_cases c : p
  · rw [decide_eq_true c]; exact h2 c
  · rw [decide_eq_false c]; exact h1 c
theorem rd_splitB {b : Bool} {A B : Prop} (h1 : b = true → A) (h2 : b = false → B) : if b = true then A else B := by
  cases b with
  | true => exact h1 rfl
  | false => exact h2 rfl
theorem rd_aug {te : TE} {ti : TIp} {n bk ct : St → Hp → Prop} {rt : VK} {x : V} (e : σ[i]? = some (some x)) (h : te σ H fun y H1 => ti x y H1 fun z H2 => n (σ.set i (some z)) H2) : tAug i te ti ⟨n, rt, bk, ct⟩ σ H := ⟨x, e, h⟩
theorem rd_ipI {f : Int → Int → Int} {x y : Int} (h : Q (.int (f x y)) H) : ipI f (.int x) (.int y) H Q := ⟨x, y, rfl, rfl, h⟩
theorem rd_par_end {i j : Nat} {v w : V} {N : St → Hp → Prop} (h : N ((σ.set i (some v)).set j (some w)) H) : ∃ v' w', [v, w] = [v', w'] ∧ N ((σ.set i (some v')).set j (some w')) H := ⟨v, w, rfl, h⟩
theorem rd_if (h : tt σ H fun b H1 => if b = true then t D σ H1 else u D σ H1) : tIfS tt t u D σ H := h
theorem rd_ife (h : tt σ H fun b H1 => if b = true then ta σ H1 Q else tb σ H1 Q) : tIf tt ta tb σ H Q := h
theorem rd_op {r : R2} (h : ta σ H fun x H1 => tb σ H1 fun y H2 => r x y H2 Q) : tOp r ta tb σ H Q := h
theorem rd_un {r : V → Hp → VK → Prop} (h : ta σ H fun x H1 => r x H1 Q) : tUn r ta σ H Q := h
theorem rd_nil {R : List V → Hp → Prop} (h : R [] H) : tNil σ H R := h
theorem rd_cons {tr : TA} {R : List V → Hp → Prop} (h : ta σ H fun x H1 => tr σ H1 fun xs H2 => R (x :: xs) H2) : tCons ta tr σ H R := h
theorem rd_tup {a : TA} (h : a σ H fun xs H1 => xs.length ≤ sizeLine ∧ ∀ p, H1 p = none → Q (.ref p) (upd H1 p (.tup xs))) : tTup a σ H Q := h
theorem rd_lst {a : TA} (h : a σ H fun xs H1 => xs.length ≤ sizeLine ∧ ∀ p, H1 p = none → Q (.ref p) (upd H1 p (.lst xs))) : tLst a σ H Q := h
theorem rd_call {sp : Sp} {E : XK} {a : TA} (h : a σ H fun vs H1 => sp vs H1 Q E) : tCall sp [] E a σ H Q := by
  show a σ H fun vs H1 => sp (vs ++ []) H1 Q E
  have e : (fun vs H1 => sp (vs ++ []) H1 Q E) = fun vs H1 => sp vs H1 Q E := by
    funext vs H1; rw [List.append_nil]
  rw [e]; exact h
theorem rd_cb {r : List V → Hp → VK → Prop} {a : TA} (h : a σ H fun vs H1 => r vs H1 Q) : tCB r a σ H Q := h
theorem rd_test {R : Bool → Hp → Prop} (h : te σ H fun x H' => ∃ k, x = .bl k ∧ R k H') : tTest te σ H R := h
theorem rd_tB {R : Bool → Hp → Prop} (h : te σ H fun x H' => ∃ k, x = .bl k ∧ R k H') : tB te σ H R := h
theorem rd_bl {k : Bool} {R : Bool → Prop} (h : R k) : ∃ k', V.bl k = .bl k' ∧ R k' := ⟨k, rfl, h⟩
theorem rd_and {R : Bool → Hp → Prop} (h : tt σ H fun c H1 => if c = true then tt' σ H1 R else R false H1) : tAnd tt tt' σ H R := h
theorem rd_or {R : Bool → Hp → Prop} (h : tt σ H fun c H1 => if c = true then R true H1 else tt' σ H1 R) : tOr tt tt' σ H R := h
theorem rd_not {R : Bool → Hp → Prop} (h : tt σ H fun c H1 => R (!c) H1) : tNot tt σ H R := h
theorem rd_andV (h : ta σ H fun x H1 => ∃ c, x = .bl c ∧ if c = true then tb σ H1 Q else Q (.bl false) H1) : tAndV ta tb σ H Q := h
theorem rd_orV (h : ta σ H fun x H1 => ∃ c, x = .bl c ∧ if c = true then Q (.bl true) H1 else tb σ H1 Q) : tOrV ta tb σ H Q := h
theorem rd_notV (h : ta σ H fun x H1 => ∃ c, x = .bl c ∧ Q (.bl (!c)) H1) : tNotV ta σ H Q := h
theorem rd_chain {r r' : R2} (h : ta σ H fun x H1 => tb σ H1 fun y H2 => r x y H2 fun z H3 => ∃ k, z = .bl k ∧ if k = true then tc σ H3 fun w H4 => r' y w H4 Q else Q (.bl false) H3) : tChain r r' ta tb tc σ H Q := h
end
end Mine

/-! ### Kit2 -/
namespace Mine
open PySem PySem.Spec L2

/-! ## defs of the text, and their promises -/
def HasF (P : Program) (w : World) (K : PySem.W.Frag) (mg : Str → Option Value) (base : Heap) (CX : CXT) (k : Nat) (x : Str) (ps : List Str) (sp : Sp) : Prop :=
  ∃ (f : Addr) (fd : FuncData), FnOk P w K mg base CX k f fd ps sp ∧ mg x = some (.ref f) ∧ PySem.W.keepIn K (.ref f) = true ∧ Binds K fd ps []
def OwnF (K : PySem.W.Frag) (mg : Str → Option Value) (x : Str) (st : Stmt) : Prop := ∃ (f : Addr) (fd : FuncData), Fun K x x st f fd ∧ mg x = some (.ref f)
section
variable {P : Program} {w : World} {K : PySem.W.Frag} {mg : Str → Option Value} {base : Heap} {CX : CXT}
theorem HasF.mono {j k : Nat} {x : Str} {ps : List Str} {sp : Sp} (h : HasF P w K mg base CX j x ps sp) (l : j ≤ k) : HasF P w K mg base CX k x ps sp := by
  obtain ⟨f, fd, F, m, kp, b⟩ := h
  exact ⟨f, fd, F.mono l, m, kp, b⟩
theorem HasF.imp {k : Nat} {x : Str} {ps : List Str} {sp sp' : Sp} (h : HasF P w K mg base CX k x ps sp) (i : ∀ vs H Q E, sp' vs H Q E → sp vs H Q E) : HasF P w K mg base CX k x ps sp' := by
  obtain ⟨f, fd, F, m, kp, b⟩ := h
  exact ⟨f, fd, F.imp i, m, kp, b⟩
/-- a def that lets nothing out -/
theorem has0 {x : Str} {st : Stmt} {N ps : List Str} {k : Nat} {sp : Sp} (O : OwnF K mg x st) (S : FnScope N ps (defScope st))
    (hb : ∀ (kV doc pm : Value) (an : Option Addr) (cdv ct : Value) (us : List Value), us.length = ps.length → bindArgs (PySem.W.fnOf x x (defArgs st) (defBody st) (defScope st) .none kV doc pm an cdv ct) ⟨us, []⟩ = pure (ps.zip us))
    (len : ∀ vs H Q E, sp vs H Q E → vs.length = ps.length)
    (body : ∀ (f : Addr) (cdv : Value) (A : Around) (outer : List Env) (s : Shared) (H : Hp) (vs : List V) (Q : VK) (E : XK), Room k (A.deeper (PyProof.Rows.envOfC x (defScope st) s.heap.objs.size f cdv)) → sp vs H Q E →
      ∃ t, PSs (cxOf CX0 P w K mg base N x (defScope st) f cdv A outer s H E).nox (defBody st) t ∧ t { nx := fun _ H' => Q .non H', rt := Q } (start N vs) H) :
    HasF P w K mg base CX0 (k + 1) x ps sp := by
  obtain ⟨f, fd, F, m⟩ := O
  exact ⟨f, fd, F.ok S len (fun cdv A outer s H vs Q E hr h => body f cdv A outer s H vs Q E hr h), m, F.kp, F.binds hb⟩
/-- a def that may raise -/
theorem hasX {x : Str} {st : Stmt} {N ps : List Str} {k : Nat} {sp : Sp} (O : OwnF K mg x st) (S : FnScope N ps (defScope st))
    (hb : ∀ (kV doc pm : Value) (an : Option Addr) (cdv ct : Value) (us : List Value), us.length = ps.length → bindArgs (PySem.W.fnOf x x (defArgs st) (defBody st) (defScope st) .none kV doc pm an cdv ct) ⟨us, []⟩ = pure (ps.zip us))
    (len : ∀ vs H Q E, sp vs H Q E → vs.length = ps.length)
    (body : ∀ (f : Addr) (cdv : Value) (A : Around) (outer : List Env) (s : Shared) (H : Hp) (vs : List V) (Q : VK) (E : XK), Room k (A.deeper (PyProof.Rows.envOfC x (defScope st) s.heap.objs.size f cdv)) → sp vs H Q E →
      ∃ t, PSs (cxOf (L2.CX P w) P w K mg base N x (defScope st) f cdv A outer s H E) (defBody st) t ∧ t { nx := fun _ H' => Q .non H', rt := Q } (start N vs) H) :
    HasF P w K mg base (L2.CX P w) (k + 1) x ps sp := by
  obtain ⟨f, fd, F, m⟩ := O
  exact ⟨f, fd, F.okX S len (fun cdv A outer s H vs Q E hr h => body f cdv A outer s H vs Q E hr h), m, F.kp, F.binds hb⟩
end
section
variable {X : Cx} {CX : CXT} {k : Nat} {ps : List Str} {sp : Sp} {E : XK} {x : Str} {p pos : Pos} {e : Expr} {es : List Expr} {t : TA}
theorem pe_callH (h : HasF X.prog X.w X.K X.mg X.base CX k x ps sp) (hr : Room k X.A) (hg : Gl X x) (hx : Passes CX X E) (ha : PA X (e :: es) t)
    (hdb : (x == ("__debug__" : Str)) = false := by decide) (he : starEach (e :: es) X.env = (false, eval e X.env) :: starEach es X.env := by rfl) (hpl : (backTo pos (starEach es X.env)).any (·.1) = false := by rfl) :
    PE X (.Call (.Name x p) (e :: es) [] pos) (tCall sp [] E t) := by
  obtain ⟨f, fd, F, m, kp, b⟩ := h
  exact pe_call F hr hg m kp b .nil hx ha hdb he hpl
/-- within a try, or where a raise leaves -/
theorem pe_callHS {E : St → XK} (h : HasF X.prog X.w X.K X.mg X.base CX k x ps sp) (hr : Room k X.A) (hg : Gl X x) (hx : ∀ σ, PassesAt CX X σ (E σ)) (ha : PA X (e :: es) t)
    (hdb : (x == ("__debug__" : Str)) = false := by decide) (he : starEach (e :: es) X.env = (false, eval e X.env) :: starEach es X.env := by rfl) (hpl : (backTo pos (starEach es X.env)).any (·.1) = false := by rfl) :
    PE X (.Call (.Name x p) (e :: es) [] pos) (tCallS sp E t) := by
  obtain ⟨f, fd, F, m, kp, b⟩ := h
  exact pe_callS F hr hg m kp b hx ha hdb he hpl
theorem rd_callS {σ : St} {H : Hp} {Q : VK} {E : St → XK} (h : t σ H fun vs H1 => sp vs H1 Q (E σ)) : tCallS sp E t σ H Q := h
/-- the module's ints and texts -/
theorem pe_globI {i : Int} (h : ∃ t, X.mg x = some (.int i t)) (hg : Gl X x) (hd : (x == ("__debug__" : Str)) = false := by decide) : PE X (.Name x pos) (tC (.int i)) := by
  obtain ⟨t, h⟩ := h
  exact pe_glob hg h ⟨t, rfl⟩ hd
theorem pe_globS {z : Str} (h : ∃ t, X.mg x = some (.str z t)) (hg : Gl X x) (hd : (x == ("__debug__" : Str)) = false := by decide) : PE X (.Name x pos) (tC (.str z)) := by
  obtain ⟨t, h⟩ := h
  exact pe_glob hg h ⟨t, rfl⟩ hd
theorem pe_globR {a : Addr} (h : X.mg x = some (.ref a)) (hg : Gl X x) (hd : (x == ("__debug__" : Str)) = false := by decide) : PE X (.Name x pos) (tC (.ref a)) := pe_glob hg h rfl hd
end

/-! ## operators of any kind of operands -/
section
variable {X : Cx}
def rAddU (K : PySem.W.Frag) : R2 := fun x y H Q => (∃ i j, x = .int i ∧ y = .int j ∧ Q (.int (i + j)) H) ∨ (∃ i j, x = .str i ∧ y = .str j ∧ i.length + j.length ≤ sizeLine ∧ Q (.str (i ++ j)) H) ∨ rCat x y H Q ∨ rCatA K x y H Q
theorem addU : OpR X (binaryOp .Add) (rAddU X.K) := op_add.or (op_add_str.or (op_cat.or op_catA))
def rMulU (K : PySem.W.Frag) : R2 := fun x y H Q => (∃ i j, x = .int i ∧ y = .int j ∧ CMul i j ∧ Q (.int (i * j)) H) ∨ rRep x y H Q ∨ rRepT K x y H Q
theorem mulU : OpR X (binaryOp .Mult) (rMulU X.K) := op_mul.or (op_rep.or op_repT)
def rSubU : R2 := fun x y H Q => ∃ i j, x = .int i ∧ y = .int j ∧ Q (.int (i - j)) H
theorem subU : OpR X (binaryOp .Sub) rSubU := op_sub
def rModU : R2 := fun x y H Q => ∃ i j, x = .int i ∧ y = .int j ∧ 0 < j ∧ Q (.int (i % j)) H
theorem modU : OpR X (binaryOp .Mod) rModU := op_mod
def rDivU : R2 := fun x y H Q => ∃ i j, x = .int i ∧ y = .int j ∧ CDiv i j ∧ Q (.int (i / j)) H
theorem divU : OpR X (binaryOp .FloorDiv) rDivU := op_fdiv
def rPowU : R2 := fun x y H Q => ∃ i j, x = .int i ∧ y = .int j ∧ CPow i j ∧ Q (.int (i ^ j.toNat)) H
theorem powU : OpR X (binaryOp .Pow) rPowU := op_pow
def rLtU : R2 := fun x y H Q => ∃ i j, x = .int i ∧ y = .int j ∧ Q (.bl (decide (i < j))) H
theorem ltU : OpR X (compareOp .Lt) rLtU := op_lt
def rLeU : R2 := fun x y H Q => ∃ i j, x = .int i ∧ y = .int j ∧ Q (.bl (decide (i ≤ j))) H
theorem leU : OpR X (compareOp .LtE) rLeU := op_le
def rGtU : R2 := fun x y H Q => ∃ i j, x = .int i ∧ y = .int j ∧ Q (.bl (decide (j < i))) H
theorem gtU : OpR X (compareOp .Gt) rGtU := op_gt
def rGeU : R2 := fun x y H Q => ∃ i j, x = .int i ∧ y = .int j ∧ Q (.bl (decide (j ≤ i))) H
theorem geU : OpR X (compareOp .GtE) rGeU := op_ge
def rEqU (K : PySem.W.Frag) : R2 := fun x y H Q => (scal x y = true ∧ Q (.bl (decide (x = y))) H) ∨ rEqD K x y H Q
theorem eqU (hu : X.A.units + 64 < cLine) : OpR X (compareOp .Eq) (rEqU X.K) := op_eq.or (op_eqD hu)
def rNeU (K : PySem.W.Frag) : R2 := fun x y H Q => (scal x y = true ∧ Q (.bl (!decide (x = y))) H) ∨ rNeD K x y H Q
theorem neU (hu : X.A.units + 64 < cLine) : OpR X (compareOp .NotEq) (rNeU X.K) := op_ne.or (op_neD hu)
def rInU (K : PySem.W.Frag) : R2 := fun x y H Q => rIn K false x y H Q ∨ rInS x y H Q
theorem op_inS' : OpR X (compareOp .In) rInS := op_in_sign
theorem op_notInS' : OpR X (compareOp .NotIn) rNotInS := op_notIn_sign
theorem inU : OpR X (compareOp .In) (rInU X.K) := op_in_seq.or op_inS'
def rNotInU (K : PySem.W.Frag) : R2 := fun x y H Q => rIn K true x y H Q ∨ rNotInS x y H Q
theorem notInU : OpR X (compareOp .NotIn) (rNotInU X.K) := op_notIn_seq.or op_notInS'
def rSlU (K : PySem.W.Frag) : V → Option Int → Option Int → Hp → VK → Prop := fun x lo hi H Q => rSlL K x lo hi H Q ∨ rSlA K x lo hi H Q
theorem slU : SlR X (rSlU X.K) := sl_list.or sl_tupA
def rLenU (K : PySem.W.Frag) : List V → Hp → VK → Prop := fun xs H Q => (∃ p ys, xs = [.ref p] ∧ (SqL K H p ys ∨ SqT K H p ys) ∧ Q (.int ys.length) H) ∨ (∃ z : Str, xs = [.str z] ∧ z.length ≤ sizeLine ∧ Q (.int z.length) H)
theorem lenU : CallR X (.builtin "len") (rLenU X.K) := call_len_seq.or call_len_str
def rIntU : List V → Hp → VK → Prop := fun xs H Q => (∃ i, xs = [.int i] ∧ Q (.int i) H) ∨ ∃ k, xs = [.bl k] ∧ Q (.int (if k then 1 else 0)) H
theorem intU : CallR X (.type "int") rIntU := call_int1
def rMax2 : List V → Hp → VK → Prop := fun xs H Q => ∃ i j, xs = [.int i, .int j] ∧ Q (.int (if j > i then j else i)) H
theorem max2U (hc : X.calm = true) : CallR X (.builtin "max") rMax2 := call_max2 hc
def rMin2 : List V → Hp → VK → Prop := fun xs H Q => ∃ i j, xs = [.int i, .int j] ∧ Q (.int (if j < i then j else i)) H
theorem min2U (hc : X.calm = true) : CallR X (.builtin "min") rMin2 := call_min2 hc
def rTupU (K : PySem.W.Frag) : List V → Hp → VK → Prop := fun xs H Q => ∃ p ys, xs = [.ref p] ∧ ((SqL K H p ys ∧ ∀ l, H l = none → Q (.ref l) (upd H l (.tup ys))) ∨ (SqT K H p ys ∧ Q (.ref p) H))
theorem tupU : CallR X (.type "tuple") (rTupU X.K) := call_tuple_of
end
section
variable {K : PySem.W.Frag} {H : Hp} {Q : VK} {i j : Int} {a b p : Addr} {xs ys : List V} {z z' : Str}
theorem u_add (h : Q (.int (i + j)) H) : rAddU K (.int i) (.int j) H Q := .inl ⟨i, j, rfl, rfl, h⟩
theorem u_addS (l : z.length + z'.length ≤ sizeLine) (h : Q (.str (z ++ z')) H) : rAddU K (.str z) (.str z') H Q := .inr (.inl ⟨z, z', rfl, rfl, l, h⟩)
theorem u_addL (ha : H a = some (.lst xs)) (hb : H b = some (.lst ys)) (l : xs.length + ys.length ≤ sizeLine) (h : ∀ p, H p = none → Q (.ref p) (upd H p (.lst (xs ++ ys)))) : rAddU K (.ref a) (.ref b) H Q :=
  .inr (.inr (.inl ⟨a, b, xs, ys, rfl, rfl, ha, hb, l, h⟩))
theorem u_mul (c : CMul i j) (h : Q (.int (i * j)) H) : rMulU K (.int i) (.int j) H Q := .inl ⟨i, j, rfl, rfl, c, h⟩
theorem u_sub (h : Q (.int (i - j)) H) : rSubU (.int i) (.int j) H Q := ⟨i, j, rfl, rfl, h⟩
theorem u_mod (c : 0 < j) (h : Q (.int (i % j)) H) : rModU (.int i) (.int j) H Q := ⟨i, j, rfl, rfl, c, h⟩
theorem u_div (c : 0 < j ∧ j < 1073741824) (h : Q (.int (i / j)) H) : rDivU (.int i) (.int j) H Q := ⟨i, j, rfl, rfl, c, h⟩
theorem u_pow (c : CPow i j) (h : Q (.int (i ^ j.toNat)) H) : rPowU (.int i) (.int j) H Q := ⟨i, j, rfl, rfl, c, h⟩
theorem u_lt (h : Q (.bl (decide (i < j))) H) : rLtU (.int i) (.int j) H Q := ⟨i, j, rfl, rfl, h⟩
theorem u_le (h : Q (.bl (decide (i ≤ j))) H) : rLeU (.int i) (.int j) H Q := ⟨i, j, rfl, rfl, h⟩
theorem u_gt (h : Q (.bl (decide (j < i))) H) : rGtU (.int i) (.int j) H Q := ⟨i, j, rfl, rfl, h⟩
theorem u_ge (h : Q (.bl (decide (j ≤ i))) H) : rGeU (.int i) (.int j) H Q := ⟨i, j, rfl, rfl, h⟩
theorem u_eqI (h : Q (.bl (decide (i = j))) H) : rEqU K (.int i) (.int j) H Q := .inl ⟨rfl, by
  have e : decide (V.int i = V.int j) = decide (i = j) := by
    by_cases c : i = j
    · rw [decide_eq_true c, decide_eq_true (congrArg V.int c)]
    · rw [decide_eq_false c, decide_eq_false (fun q => c (V.int.inj q))]
  rw [e]; exact h⟩
theorem u_eqS (h : Q (.bl (decide (z = z'))) H) : rEqU K (.str z) (.str z') H Q := .inl ⟨rfl, by
  have e : decide (V.str z = V.str z') = decide (z = z') := by
    by_cases c : z = z'
    · rw [decide_eq_true c, decide_eq_true (congrArg V.str c)]
    · rw [decide_eq_false c, decide_eq_false (fun q => c (V.str.inj q))]
  rw [e]; exact h⟩
theorem u_neI (h : Q (.bl (!decide (i = j))) H) : rNeU K (.int i) (.int j) H Q := .inl ⟨rfl, by
  have e : decide (V.int i = V.int j) = decide (i = j) := by
    by_cases c : i = j
    · rw [decide_eq_true c, decide_eq_true (congrArg V.int c)]
    · rw [decide_eq_false c, decide_eq_false (fun q => c (V.int.inj q))]
  rw [e]; exact h⟩
theorem u_neB {x y : Bool} (h : Q (.bl (!decide (x = y))) H) : rNeU K (.bl x) (.bl y) H Q := .inl ⟨rfl, by
  have e : decide (V.bl x = V.bl y) = decide (x = y) := by cases x <;> cases y <;> rfl
  rw [e]; exact h⟩
theorem u_ixL {v : V} (s : SqL K H p xs) (e : atI xs i = some v) (h : Q v H) : rIx K (.ref p) (.int i) H Q := .inl ⟨p, xs, i, v, rfl, rfl, s, e, h⟩
theorem u_ixT {v : V} (s : SqT K H p xs) (e : atI xs i = some v) (h : Q v H) : rIx K (.ref p) (.int i) H Q := .inr (.inl ⟨p, xs, i, v, rfl, rfl, s, e, h⟩)
theorem u_ixS {c : Nat} (l : z.length ≤ sizeLine) (e : atI z.cps.toList i = some c) (h : Q (.str ⟨#[c]⟩) H) : rIx K (.str z) (.int i) H Q := .inr (.inr ⟨z, i, c, rfl, rfl, l, e, h⟩)
theorem u_lenL (s : SqL K H p xs) (h : Q (.int xs.length) H) : rLenU K [.ref p] H Q := .inl ⟨p, xs, rfl, .inl s, h⟩
theorem u_lenT (s : SqT K H p xs) (h : Q (.int xs.length) H) : rLenU K [.ref p] H Q := .inl ⟨p, xs, rfl, .inr s, h⟩
theorem u_lenS (l : z.length ≤ sizeLine) (h : Q (.int z.length) H) : rLenU K [.str z] H Q := .inr ⟨z, rfl, l, h⟩
theorem u_int (h : Q (.int i) H) : rIntU [.int i] H Q := .inl ⟨i, rfl, h⟩
theorem u_intB {c : Bool} (h : Q (.int (if c then 1 else 0)) H) : rIntU [.bl c] H Q := .inr ⟨c, rfl, h⟩
theorem u_max (h : Q (.int (if j > i then j else i)) H) : rMax2 [.int i, .int j] H Q := ⟨i, j, rfl, h⟩
theorem u_min (h : Q (.int (if j < i then j else i)) H) : rMin2 [.int i, .int j] H Q := ⟨i, j, rfl, h⟩
theorem u_tupL (s : SqL K H p xs) (h : ∀ l, H l = none → Q (.ref l) (upd H l (.tup xs))) : rTupU K [.ref p] H Q := ⟨p, xs, rfl, .inl ⟨s, h⟩⟩
theorem u_setL {v : V} {n : Nat} {R : Hp → Prop} (h : H p = some (.lst xs)) (e : ixN xs.length i = some n) (q : R (upd H p (.lst (xs.set n v)))) : rSetL (.ref p) (.int i) v H R := ⟨p, xs, i, n, rfl, rfl, h, e, q⟩
theorem u_neg (h : Q (.int (-i)) H) : rU (fun i => .int (-i)) (.int i) H Q := ⟨i, rfl, h⟩
theorem rd_gsub {σ : St} {to ti : TE} {t : TSet} {v : V} {R : St → Hp → Prop} (h : to σ H fun o H1 => ti σ H1 fun i H2 => t o i v H2 fun H3 => R σ H3) : gSub to ti t v σ H R := h
end
end Mine

/-! ### Kit3 -/
namespace HT
open PySem PySem.Spec PyProof.Rows
theorem adjust_rev (n : Nat) : Builtin.Slice.sliceAdjust none none (-1) (n : Int) = ((n : Int) - 1, -1) := by
  unfold Builtin.Slice.sliceAdjust
  simp
theorem places_rev (n : Nat) : Builtin.Slice.slicePlaces ((n : Int) - 1) (-1) (-1) = n := by
  unfold Builtin.Slice.slicePlaces
  have h1 : ¬ ((-1 : Int) > 0) := by omega
  simp only [h1, if_false]
  by_cases h : (n : Int) - 1 > -1
  · rw [if_pos h]
    have e : (-(-1 : Int)) = 1 := by omega
    rw [e, Int.ediv_one]
    omega
  · rw [if_neg h]; omega
theorem pick_rev (xs : Array Value) : ((List.range xs.size).filterMap fun (m : Nat) => xs[((xs.size : Int) - 1 + (m : Int) * (-1)).toNat]?).toArray = xs.toList.reverse.toArray := by
  congr 1
  have e : ∀ l : List Nat, (∀ m ∈ l, m < xs.size) → l.filterMap (fun (m : Nat) => xs[((xs.size : Int) - 1 + (m : Int) * (-1)).toNat]?) = l.map (fun m => xs.getD (xs.size - 1 - m) .none) := by
    intro l
    induction l with
    | nil => intro _; rfl
    | cons m r ih =>
      intro h
      have hm' : m < xs.size := h m List.mem_cons_self
      have e1 : ((xs.size : Int) - 1 + (m : Int) * (-1)).toNat = xs.size - 1 - m := by omega
      have h2 : xs.size - 1 - m < xs.size := by omega
      have e2 : xs[((xs.size : Int) - 1 + (m : Int) * (-1)).toNat]? = some (xs.getD (xs.size - 1 - m) .none) := by
        rw [e1]
        simp [Array.getD, h2]
      rw [List.filterMap_cons, e2, List.map_cons, ih fun q hq => h q (List.mem_cons_of_mem _ hq)]
  rw [e _ fun m hm => List.mem_range.mp hm]
  apply List.ext_getElem?
  intro i
  rw [List.getElem?_map]
  by_cases hi : i < xs.size
  · rw [List.getElem?_range hi]
    rw [List.getElem?_reverse (by simpa using hi)]
    have h2 : xs.size - 1 - i < xs.size := by omega
    simp [Array.getD, h2]
  · have h1 : (List.range xs.size)[i]? = none := by simp; omega
    have h2 : xs.toList.reverse[i]? = none := by simp; omega
    rw [h1, h2]; rfl
theorem extend_tupW (l : Addr) (items : Array Value) (n : Nat) (b : Addr) (items2 : Array Value) (n2 : Nat) (dd : Option Addr) (sl : Array (Option Value)) (hs0 : ¬(!items.isEmpty && Builtin.List.listTooLong (items.size + items2.size)) = true) (hs1 : items.size ≤ sizeLine) (hs2 : items.size + items2.size ≤ sizeLine + 1) :
    Meets (Builtin.«list.extend» ⟨[.ref l, .ref b], []⟩) (fun _ R s => s.heap.get? l = some { cls := .type "list", dict := none, data := .seq items n, slots := #[] } ∧ s.heap.get? b = some { cls := .type "tuple", dict := dd, data := .seq items2 n2, slots := sl } ∧ R (.ok (.ret Value.none)) { s with heap := s.heap.update l (Obj.mapSeq fun x => x ++ items2), toks := s.toks }) :=
  .of_wp fun prog w A R s h => by
    obtain ⟨hp, g, d, tk, os⟩ := s; obtain ⟨hl, hb, h⟩ := h; have f1 := AutoSeq1.idx_int; have f2 := AutoSeq1.sub_tuple_tuple; have f3 := AutoSeq1.sub_list_list; have f4 := AutoSeq1.sub_tuple_list; have f5 := AutoSeq1.sub_list_tuple;
    have hz' : (items ++ items2).size ≤ sizeLine + 1 := by rw [Array.size_append]; exact hs2
    wp_walk using (wpAny_updateSeq hl rfl (hz := hs1) (_hz' := hz')), AutoSeq1.wpAny_loadPart' hl, AutoSeq1.wpAny_loadPart' hb; exact ⟨_, rfl, h⟩
variable {prog : Program} {w : World} {A : Around} {E : Value → Shared → Prop} {s : Shared}
theorem sliceApplied_rev {sl : Addr} {vl vu vs : Value} {n : Nat} {Q : Int × Int × Nat → Shared → Prop} (hs : s.heap.IsSliceOf sl vl vu vs) (pl : IsPart vl none) (pu : IsPart vu none) (ps : IsPart vs (some (-1)))
    (h : Q ((n : Int) - 1, -1, n) s) : wpAny (model prog w) A (Builtin.Slice.sliceApplied (.ref sl) (pure (n : Int))) Q E s := by
  obtain ⟨os, hos, hcs, hds⟩ := id hs
  unfold Builtin.Slice.sliceApplied Builtin.Slice.sliceFields
  refine wpAny_bind (wpAny_bind (wpAny_field hos hds (x := vl) rfl (wpAny_bind (wpAny_field hos hds (x := vu) rfl (wpAny_bind (wpAny_field hos hds (x := vs) rfl (wpAny_pure ?_)))))))
  refine wpAny_bind (slicePart_ ps ?_)
  show wpAny _ _ (if ((-1 : Int) == 0) = true then _ else _) _ _ s
  rw [if_neg (by decide)]
  refine wpAny_bind (slicePart_ pl (wpAny_bind (slicePart_ pu (wpAny_bind (wpAny_pure ?_)))))
  show wpAny _ _ (match Builtin.Slice.sliceAdjust none none (-1) (n : Int) with | (lo, hi) => pure (lo, (-1 : Int), Builtin.Slice.slicePlaces lo hi (-1))) _ _ s
  rw [adjust_rev n]
  show wpAny _ _ (pure ((n : Int) - 1, (-1 : Int), Builtin.Slice.slicePlaces ((n : Int) - 1) (-1) (-1))) _ _ s
  rw [places_rev]
  exact wpAny_pure h
theorem getItem_tuple_rev {t sl : Addr} {items : Array Value} {vl vu vs : Value} {Q : Value → Shared → Prop} (ht : IsTup s.heap t items) (hs : s.heap.IsSliceOf sl vl vu vs) (pl : IsPart vl none) (pu : IsPart vu none) (ps : IsPart vs (some (-1)))
    (h : Q (.ref s.heap.objs.size) { s with heap := s.heap.push { cls := .type "tuple", data := .seq items.toList.reverse.toArray } })
    (hsz : items.size ≤ sizeLine) : wpAny (model prog w) A (getItem (.ref t) (.ref sl)) Q E s := by
  have htake : sizeOk (.seq items.toList.reverse.toArray) := by
    show items.toList.reverse.toArray.size ≤ sizeLine
    rw [List.size_toArray, List.length_reverse, Array.length_toList]
    omega
  obtain ⟨os, hos, hcs, hds⟩ := id hs
  have hTs : s.TypeIs (.ref sl) "slice" := ⟨os, hos, hcs⟩
  unfold getItem
  try with_reducible refine wpAny_holding ?_
  first | refine wpAny_bind (wpAny_pure ?_) | skip
  refine wpAny_bind (wpAny_sequenceKey ht.typeIs (by decide) ?_)
  refine wpAny_bind (wpAny_callSpecial?_slot (name := Str.ofString "__getitem__") ht.typeIs PyProof.Rows.slot_tuple_getitem
    (wpAny_call_entry PyProof.Rows.slot_tuple_getitem ht.typeIs entry_tuple_getitem ?_ (args_tuple_getitem _ _)))
  show wpAny _ _ (Builtin.Tuple.tupleItemsOf (.ref t) >>= _) _ _ s
  refine wpAny_bind (tupleItemsOf_ ht ?_)
  refine wpAny_bind (wpAny_typeOf hTs ?_)
  rw [if_pos (by decide)]
  refine wpAny_bind (sliceApplied_rev (n := items.size) hs pl pu ps ?_)
  have hno : ¬ ((((items.size : Int) - 1) == 0 && (-1 : Int) == 1 && items.size == items.size) = true) := by
    intro q
    rw [Bool.and_eq_true, Bool.and_eq_true] at q
    exact absurd (eq_of_beq q.1.2) (by decide)
  show wpAny _ _ (if (((items.size : Int) - 1) == 0 && (-1 : Int) == 1 && items.size == items.size) = true then _ else _) _ _ s
  rw [if_neg hno, pick_rev]
  first
    | exact wpAny_bind (m := Builtin.Tuple.tupleExact _) (wpAny_newObj_type (wpAny_pure ⟨_, rfl, wpAny_pure h⟩) htake)
    | exact wpAny_bind (m := Builtin.Tuple.tupleExact _) (wpAny_newObj_type (wpAny_bind (wpAny_pure (wpAny_pure ⟨_, rfl, wpAny_pure h⟩))) htake)
    | exact wpAny_bind (wpAny_bind (m := Builtin.Tuple.tupleExact _) (wpAny_newObj_type (wpAny_pure (wpAny_pure ⟨_, rfl, wpAny_pure h⟩)) htake))
    | exact wpAny_bind (wpAny_bind (m := Builtin.Tuple.tupleExact _) (wpAny_newObj_type (wpAny_pure ⟨_, rfl, wpAny_pure h⟩) htake))
end HT
namespace Mine
open PySem PySem.Spec PyProof.Rows L2
section
variable {X : Cx}
/-- e[::-1], a list or a tuple -/
def tRevU (K : PySem.W.Frag) (te : TE) : TE := fun σ H Q => te σ H fun x H1 => ∃ a xs, x = .ref a ∧ ((SqL K H1 a xs ∧ ∀ p, H1 p = none → Q (.ref p) (upd H1 p (.lst xs.reverse))) ∨ (SqT K H1 a xs ∧ ∀ p, H1 p = none → Q (.ref p) (upd H1 p (.tup xs.reverse))))
theorem pe_revU {e : Expr} {te : TE} {k : Nat} {p1 p2 p3 pos : Pos} (he : PE X e te) : PE X (.Subscript e (.Slice none none (some (.UnaryOp .USub (.Constant (.int 1) k p1) p2)) p3) pos) (tRevU X.K te) := by
  refine ⟨fun pins s σ H Q I h => ?_⟩
  refine Subscript_ (thn (he.run pins s σ H _ I h) fun v s1 ⟨x, H1, I1, r1, q1⟩ => ?_)
  obtain ⟨a, xs, ex, q⟩ := q1
  subst ex
  cases r1
  have hst : PO X (some (.UnaryOp .USub (.Constant (.int 1) k p1) p2)) (tPart (tUn (rU fun i => .int (-i)) (tC (.int 1)))) := po_some (pe_un un_neg pe_int)
  refine wpAny_Slice (thn (po_none.run pins s1 σ H1 (fun o H2 => o = none ∧ H2 = H1) I1 ⟨rfl, rfl⟩) fun vl s2 ⟨l, H2, I2, pl, el, e2⟩ => ?_)
  subst el e2
  refine thn (po_none.run pins s2 σ H2 (fun o H3 => o = none ∧ H3 = H2) I2 ⟨rfl, rfl⟩) fun vu s3 ⟨u, H3, I3, pu, eu, e3⟩ => ?_
  subst eu e3
  refine thn (hst.run pins s3 σ H3 (fun o H4 => o = some (-1) ∧ H4 = H3) I3 ⟨1, rfl, -1, rfl, rfl, rfl⟩) fun vs s4 ⟨o, H4, I4, ps, eo, e4⟩ => ?_
  subst eo e4
  have I5 : Inv X pins σ H4 { s4 with heap := s4.heap.push { cls := .type "slice", data := .fields #[vl, vu, vs] } } := I4.kept (t' := s4.toks) fun b ob q => Heap.get?_push_of_some _ q
  show wpAny (model X.prog X.w) X.A (subscriptTail e (.Slice none none (some (.UnaryOp .USub (.Constant (.int 1) k p1) p2)) p3) (.ref a) (.ref s4.heap.objs.size)) (EP X pins σ Q) X.xe { s4 with heap := s4.heap.push { cls := .type "slice", data := .fields #[vl, vu, vs] } }
  rcases q with ⟨hx, q⟩ | ⟨hx, q⟩
  · obtain ⟨its, r, ht, hz⟩ := I5.list hx
    have hlen := r.length
    refine tail_any (ops := [.ref a, .ref s4.heap.objs.size]) ht.isList.typeIs (PySem.slot_list_getitem.lookup) ?_ (by with_unfolding_all rfl)
    refine wpAny_getItem_list_slice ht.isList (Heap.IsSliceOf.new _ vl vu vs) pl pu ps (by decide) ?_ (by rw [List.size_toArray]; omega)
    rw [PySem.W.krv_pick]
    refine ⟨.ref _, _, I5.laid (t' := s4.toks) (o := .lst xs.reverse) (fun b ob q => Heap.get?_push_of_some _ q) (Nat.le_refl _) ?_, rfl, q _ (I5.hok.fresh (Nat.le_refl _))⟩
    exact ⟨by rw [List.length_reverse]; exact hz, _, 0, r.reverse, Heap.get?_push_size _ rfl⟩
  · obtain ⟨its, r, ht, hz⟩ := I5.tuple hx
    have hlen := r.length
    refine tail_any (ops := [.ref a, .ref s4.heap.objs.size]) ht.typeIs (PyProof.Rows.slot_tuple_getitem.lookup) ?_ (by with_unfolding_all rfl)
    refine HT.getItem_tuple_rev ht (Heap.IsSliceOf.new _ vl vu vs) pl pu ps ?_ (by rw [List.size_toArray]; omega)
    refine ⟨.ref _, _, I5.laid (t' := s4.toks) (o := .tup xs.reverse) (fun b ob q => Heap.get?_push_of_some _ q) (Nat.le_refl _) ?_, rfl, q _ (I5.hok.fresh (Nat.le_refl _))⟩
    refine ⟨by rw [List.length_reverse]; exact hz, its.reverse, r.reverse, _, Heap.get?_push_size _ rfl, rfl, 0, rfl⟩
/-- xs.extend(e), e a list or a tuple -/
def rExtT (K : PySem.W.Frag) : V → List V → Hp → VK → Prop := fun x vs H Q => ∃ l b xs zs, x = .ref l ∧ vs = [.ref b] ∧ H l = some (.lst xs) ∧ SqT K H b zs ∧ xs.length + zs.length ≤ sizeLine ∧ Q .non (upd H l (.lst (xs ++ zs)))
theorem mt_extT : MtM X "list.extend" (rExtT X.K) := by
  intro pins s σ H x vs v us Q I rx rv h
  obtain ⟨l, b, xs, zs, rfl, rfl, hH, hB, hz, q⟩ := h
  cases rx
  obtain ⟨u, rfl, ru⟩ := rv.one
  cases ru
  obtain ⟨z, its, n, r, hl, e⟩ := I.lstM hH
  obtain ⟨its2, r2, ⟨⟨cls, dd, data, sl⟩, ho, hc, n2, hd⟩, hs⟩ := I.tuple hB
  simp only at hc hd
  subst hc hd
  have hl2 := r2.length
  have hsz : its.toArray.size + its2.toArray.size ≤ sizeLine := by rw [List.size_toArray, List.size_toArray]; omega
  have hlong : ¬ (!its.toArray.isEmpty && Builtin.List.listTooLong (its.toArray.size + its2.toArray.size)) = true := by
    rw [notLongL hsz, Bool.and_false]
    exact Bool.false_ne_true
  refine call_meets F.slot_list_extend ⟨_, e, rfl⟩ F.entry_list_extend (F.args_list_extend_2 _ _)
    (HT.extend_tupW l its.toArray n b its2.toArray n2 dd sl hlong (by rw [List.size_toArray]; omega) (by omega)) ⟨e, ho, ?_⟩
  refine ⟨.non, _, I.lset (its' := its ++ its2) hH e (by simp) (r.append r2) ?_, rfl, q⟩
  rw [List.length_append]
  omega
def rExtU (K : PySem.W.Frag) : V → List V → Hp → VK → Prop := fun x vs H Q => rExtend x vs H Q ∨ rExtT K x vs H Q
theorem mt_extU : MtR X "list.extend" (rExtU X.K) := MtR.or mt_extend mt_extT
end
end Mine

/-! ### Kit4 -/
namespace Mine
open PySem PySem.Spec L2
section
variable {X : Cx} (K : PySem.W.Frag)
theorem kAdd (h : X.K = K := by rfl) : OpR X (binaryOp .Add) (rAddU K) := by subst h; exact addU
theorem kMul (h : X.K = K := by rfl) : OpR X (binaryOp .Mult) (rMulU K) := by subst h; exact mulU
theorem kEq (hu : X.A.units + 64 < cLine) (h : X.K = K := by rfl) : OpR X (compareOp .Eq) (rEqU K) := by subst h; exact eqU hu
theorem kNe (hu : X.A.units + 64 < cLine) (h : X.K = K := by rfl) : OpR X (compareOp .NotEq) (rNeU K) := by subst h; exact neU hu
theorem kIn (h : X.K = K := by rfl) : OpR X (compareOp .In) (rInU K) := by subst h; exact inU
theorem kNotIn (h : X.K = K := by rfl) : OpR X (compareOp .NotIn) (rNotInU K) := by subst h; exact notInU
theorem kSl (h : X.K = K := by rfl) : SlR X (rSlU K) := by subst h; exact slU
theorem kLen (h : X.K = K := by rfl) : CallR X (.builtin "len") (rLenU K) := by subst h; exact lenU
theorem kTup (h : X.K = K := by rfl) : CallR X (.type "tuple") (rTupU K) := by subst h; exact tupU
theorem kIx (h : X.K = K := by rfl) : IxR X (rIx K) := by subst h; exact ix_seq
theorem kIsi (h : X.K = K := by rfl) : CallR X (.builtin "isinstance") (rIsi K) := by subst h; exact call_isi
theorem kExt (h : X.K = K := by rfl) : MtR X "list.extend" (rExtU K) := by subst h; exact mt_extU
theorem kSum (hc : X.calm = true) (h : X.K = K := by rfl) : CallR X (.builtin "sum") (rSum K) := by subst h; exact cr_sum hc
def rListU (K : PySem.W.Frag) : List V → Hp → VK → Prop := fun xs H Q => ∃ p ys, xs = [.ref p] ∧ (SqL K H p ys ∨ SqT K H p ys) ∧ ∀ l, H l = none → Q (.ref l) (upd H l (.lst ys))
theorem kList (h : X.K = K := by rfl) : CallR X (.type "list") (rListU K) := by subst h; exact call_list_of
variable {e o : Expr} {es : List Expr} {te to : TE} {ta t : TA} {tg : Expr}
theorem pe_revK {k : Nat} {p1 p2 p3 pos : Pos} (he : PE X e te) (h : X.K = K := by rfl) : PE X (.Subscript e (.Slice none none (some (.UnaryOp .USub (.Constant (.int 1) k p1) p2)) p3) pos) (tRevU K te) := by subst h; exact pe_revU he
theorem pi_listK (he : PE X e te) (h : X.K = K := by rfl) : PI X tg e (iList K te) := by subst h; exact pi_list he
theorem pi_tupK (he : PE X e te) (h : X.K = K := by rfl) : PI X tg e (iTup K te) := by subst h; exact pi_tup he
theorem pi_enumK {p pos tpos : Pos} {elts : List Expr} {kk : Nat} (hg : Gl X "enumerate") (hm : X.mg "enumerate" = none) (ha : PA X [e] ta) (h : X.K = K := by rfl) (hs : starEach [e] X.env = [(false, eval e X.env)] := by rfl) :
    PI X (.Tuple elts kk tpos) (.Call (.Name "enumerate" p) [e] [] pos) (iEnum K ta) := by subst h; exact pi_enum hg hm ha hs
theorem pi_zipK {e2 : Expr} {p pos tpos : Pos} {elts : List Expr} {kk : Nat} (hg : Gl X "zip") (hm : X.mg "zip" = none) (ha : PA X [e, e2] ta) (h : X.K = K := by rfl)
    (hs : starEach [e, e2] X.env = (false, eval e X.env) :: starEach [e2] X.env := by rfl) (hpl : (backTo pos (starEach [e2] X.env)).any (·.1) = false := by rfl) :
    PI X (.Tuple elts kk tpos) (.Call (.Name "zip" p) [e, e2] [] pos) (RZ.iZipA K ta) := by subst h; exact RZ.pi_zipA hg hm ha hs hpl
theorem pi_revK {p pos : Pos} (hg : Gl X "reversed") (hm : X.mg "reversed" = none) (he : PE X e te) (h : X.K = K := by rfl) (hs : starEach [e] X.env = (false, eval e X.env) :: starEach [] X.env := by rfl) : PI X tg (.Call (.Name "reversed" p) [e] [] pos) (RT.iRevA K te) := by
  subst h; exact RT.pi_revA hg hm he hs
theorem pg_tupK {es : List Expr} {k : Nat} {t : TGs} {n : Nat} {pos : Pos} (hc : X.calm = true) (hp : PGs X es t) (h : X.K = K := by rfl)
    (hn : (assignEach es X.env).length = n := by rfl) (hst : (assignEach es X.env).findIdx? (·.1) = none := by rfl) : PG X (.Tuple es k pos) (gTup K n t) := by subst h; exact pg_tup hc hp hn hst
/-- a test by truth -/
def tTruU (K : PySem.W.Frag) (ta : TE) : TT := fun σ H Q => ta σ H fun x H' => ∃ k, TruV K x H' k ∧ Q k H'
theorem pt_truthK (ha : PE X e te) (he : ∀ whole, isTrue e X.env whole = (do let v ← whole; standAt e.pos; holding [v] (truthy v))) (h : X.K = K := by rfl) : PT X e (tTruU K te) := by subst h; exact pt_truth ha he
variable {name : Str} {apos cpos : Pos} {T id : String} {r : V → List V → Hp → VK → Prop}
theorem pe_bm0K (pa : PlainAttrs T) (slot : Slot T name id) (hty : typeOf (.builtin id) = pure (.type "method_descriptor")) (hm : MtR X id r) (ho : PE X o to) (h : X.K = K := by rfl)
    (hbase : attributeBase o name X.env (eval o X.env) = eval o X.env := by rfl) (hline : (apos.endLine == cpos.line) = true := by rfl) : PE X (.Call (.Attribute o name apos) [] [] cpos) (tBM0 K T r to) := by
  subst h; exact pe_bm0 pa slot hty hm ho hbase hline
theorem pe_bmK (pa : PlainAttrs T) (slot : Slot T name id) (hty : typeOf (.builtin id) = pure (.type "method_descriptor")) (hm : MtR X id r) (ho : PE X o to) (ha : PA X (e :: es) t) (h : X.K = K := by rfl)
    (hbase : attributeBase o name X.env (eval o X.env) = eval o X.env := by rfl)
    (hfew : ((backTo cpos (starEach (e :: es) X.env)).all (fun x => !x.1) && (backToKw cpos (keywordEach [] X.env)).all (fun x => x.1.isSome)
      && decide ((e :: es).length + ([] : List Keyword).length + (if ([] : List Keyword).isEmpty then 0 else 1) < 30)) = true := by rfl)
    (hline : (apos.endLine == cpos.line) = true := by rfl) (hs : starEach (e :: es) X.env = (false, eval e X.env) :: starEach es X.env := by rfl) (hplain : (backTo cpos (starEach es X.env)).any (·.1) = false := by rfl) :
    PE X (.Call (.Attribute o name apos) (e :: es) [] cpos) (tBM K T r to t) := by subst h; exact pe_bm pa slot hty hm ho ha hbase hfew hline hs hplain
end
section
variable {X : Cx}
def rMin3 : List V → Hp → VK → Prop := fun xs H Q => ∃ a b c, xs = [.int a, .int b, .int c] ∧ Q (.int (if b < a then (if c < b then c else b) else (if c < a then c else a))) H
theorem min3U (hc : X.calm = true) : CallR X (.builtin "min") rMin3 := by
  intro pins s σ H xs us Q I r h
  obtain ⟨a, b, c, rfl, q⟩ := h
  cases r with
  | cons r1 r =>
    cases r with
    | cons r2 r =>
      cases r with
      | cons r3 r =>
        cases r
        obtain ⟨t1, rfl⟩ := r1
        obtain ⟨t2, rfl⟩ := r2
        obtain ⟨t3, rfl⟩ := r3
        refine min_three_ints (I.ok.hd hc) fun h' tk k => ⟨_, H, I.kept k, ?_, q⟩
        by_cases h1 : b < a
        · simp only [if_pos h1]
          by_cases h2 : c < b
          · simp only [if_pos h2]; exact ⟨_, rfl⟩
          · simp only [if_neg h2]; exact ⟨_, rfl⟩
        · simp only [if_neg h1]
          by_cases h2 : c < a
          · simp only [if_pos h2]; exact ⟨_, rfl⟩
          · simp only [if_neg h2]; exact ⟨_, rfl⟩
theorem u_min3 {H : Hp} {Q : VK} {a b c : Int} (h : Q (.int (if b < a then (if c < b then c else b) else (if c < a then c else a))) H) : rMin3 [.int a, .int b, .int c] H Q := ⟨a, b, c, rfl, h⟩
/-- a < b < c < d -/
def tChain3 (r r' r'' : R2) (ta tb tc td : TE) : TE := fun σ H Q => ta σ H fun x H1 => tb σ H1 fun y H2 => r x y H2 fun z H3 => ∃ k, z = .bl k ∧
  (if k = true then tc σ H3 fun w H4 => r' y w H4 fun z2 H5 => ∃ k2, z2 = .bl k2 ∧ (if k2 = true then td σ H5 fun v H6 => r'' w v H6 Q else Q (.bl false) H5) else Q (.bl false) H3)
theorem pe_chain3 {a b c d : Expr} {pos : Pos} {ta tb tc td : TE} {op op' op'' : CmpOp} {r r' r'' : R2} (ho : OpR X (compareOp op) r) (ho' : OpR X (compareOp op') r') (ho'' : OpR X (compareOp op'') r'') (ha : PE X a ta) (hb : PE X b tb) (hc : PE X c tc) (hd : PE X d td)
    (hm : lastMarks [op, op', op''] [b, c, d] = false := by with_unfolding_all rfl) : PE X (.Compare a [op, op', op''] [b, c, d] pos) (tChain3 r r' r'' ta tb tc td) := by
  refine ⟨fun pins s σ H Q I h => ?_⟩
  refine PyProof.Rows.Compare_chain (thn (ha.run pins s σ H _ I h) fun v s1 ⟨x, H1, I1, r1, q1⟩ => PyProof.Rows.chain_link (thn (hb.run pins s1 σ H1 _ I1 q1) fun u s2 ⟨y, H2, I2, r2, q2⟩ =>
    thn (ho pins s2 σ H2 x y v u _ I2 r1 r2 q2) fun d s3 ⟨z, H3, I3, r3, k, e, q3⟩ => ?_)) hm
  subst e
  cases r3
  refine wpAny_truthy_bool ?_
  cases k with
  | false => exact PyProof.Rows.ite_ff ⟨.bl false, H3, I3, rfl, q3⟩
  | true =>
    refine PyProof.Rows.ite_tt (PyProof.Rows.chain_link (thn (hc.run pins s3 σ H3 _ I3 q3) fun w' s4 ⟨z', H4, I4, r4, q4⟩ => thn (ho' pins s4 σ H4 y z' u w' _ I4 r2 r4 q4) fun d2 s5 ⟨z5, H5, I5, r5, k5, e5, q5⟩ => ?_))
    subst e5
    cases r5
    refine wpAny_truthy_bool ?_
    cases k5 with
    | false => exact PyProof.Rows.ite_ff ⟨.bl false, H5, I5, rfl, q5⟩
    | true => exact PyProof.Rows.ite_tt (PyProof.Rows.chain_last (thn (hd.run pins s5 σ H5 _ I5 q5) fun w2 s6 ⟨z6, H6, I6, r6, q6⟩ => ho'' pins s6 σ H6 z' z6 w' w2 Q I6 r4 r6 q6))
end
section
variable {σ : St} {H : Hp} {Q : VK} {D : Ends} {ta tb tc td te : TE} {K : PySem.W.Frag}
theorem rd_chain3 {r r' r'' : R2} (h : ta σ H fun x H1 => tb σ H1 fun y H2 => r x y H2 fun z H3 => ∃ k, z = .bl k ∧
  (if k = true then tc σ H3 fun w H4 => r' y w H4 fun z2 H5 => ∃ k2, z2 = .bl k2 ∧ (if k2 = true then td σ H5 fun v H6 => r'' w v H6 Q else Q (.bl false) H5) else Q (.bl false) H3)) : tChain3 r r' r'' ta tb tc td σ H Q := h
theorem rd_tru {R : Bool → Hp → Prop} (h : te σ H fun x H' => ∃ k, TruV K x H' k ∧ R k H') : tTruU K te σ H R := h
theorem rd_truL {a : Addr} {xs : List V} {R : Bool → Prop} (s : SqL K H a xs) (h : R (!xs.isEmpty)) : ∃ k, TruV K (.ref a) H k ∧ R k := ⟨_, .inl ⟨xs, s, rfl⟩, h⟩
theorem rd_truB {b : Bool} {R : Bool → Prop} (h : R b) : ∃ k, TruV K (.bl b) H k ∧ R k := ⟨b, rfl, h⟩
theorem rd_rev (h : te σ H fun x H1 => ∃ a xs, x = .ref a ∧ ((SqL K H1 a xs ∧ ∀ p, H1 p = none → Q (.ref p) (upd H1 p (.lst xs.reverse))) ∨ (SqT K H1 a xs ∧ ∀ p, H1 p = none → Q (.ref p) (upd H1 p (.tup xs.reverse))))) : tRevU K te σ H Q := h
theorem rd_revT {a : Addr} {xs : List V} {R1 R2 : Addr → List V → Prop} (s : SqT K H a xs) (h : R2 a xs) : ∃ a' xs', V.ref a = .ref a' ∧ ((SqL K H a' xs' ∧ R1 a' xs') ∨ (SqT K H a' xs' ∧ R2 a' xs')) := ⟨a, xs, rfl, .inr ⟨s, h⟩⟩
theorem rd_revL {a : Addr} {xs : List V} {R1 R2 : Addr → List V → Prop} (s : SqL K H a xs) (h : R1 a xs) : ∃ a' xs', V.ref a = .ref a' ∧ ((SqL K H a' xs' ∧ R1 a' xs') ∨ (SqT K H a' xs' ∧ R2 a' xs')) := ⟨a, xs, rfl, .inl ⟨s, h⟩⟩
theorem rd_bm {T : String} {r : V → List V → Hp → VK → Prop} {t : TA} (h : te σ H fun x H1 => tyV K T x H1 ∧ t σ H1 fun xs H2 => r x xs H2 Q) : tBM K T r te t σ H Q := h
theorem rd_bm0 {T : String} {r : V → List V → Hp → VK → Prop} (h : te σ H fun x H1 => tyV K T x H1 ∧ r x [] H1 Q) : tBM0 K T r te σ H Q := h
theorem rd_tyL {a : Addr} {xs : List V} {R : Prop} (s : SqL K H a xs) (h : R) : tyV K "list" (.ref a) H ∧ R := ⟨.inl ⟨rfl, xs, s⟩, h⟩
theorem u_app {a : Addr} {xs : List V} {y : V} (e : H a = some (.lst xs)) (l : xs.length < sizeLine) (h : Q .non (upd H a (.lst (xs ++ [y])))) : rAppend (.ref a) [y] H Q := ⟨a, xs, y, rfl, rfl, e, l, h⟩
theorem u_pop {a : Addr} {xs : List V} {y : V} (e : H a = some (.lst xs)) (l : xs[xs.length - 1]? = some y) (h : Q y (upd H a (.lst xs.dropLast))) : rPop (.ref a) [] H Q := ⟨a, xs, y, rfl, rfl, e, l, h⟩
theorem u_extT {a b : Addr} {xs ys : List V} (e : H a = some (.lst xs)) (s : SqT K H b ys) (l : xs.length + ys.length ≤ sizeLine) (h : Q .non (upd H a (.lst (xs ++ ys)))) : rExtU K (.ref a) [.ref b] H Q := .inr ⟨a, b, xs, ys, rfl, rfl, e, s, l, h⟩
theorem rd_for {wi : TI} {g : TG} {tb : TS} {n bk ct : St → Hp → Prop} {rt : VK} (h : wi σ H fun J H1 => ∃ W : Nat → Nat → St → Hp → Prop, (∃ m, W 0 m σ H1) ∧ ∀ i m σ H, W i m σ H →
  (J.stop i H ∧ n σ H) ∨ (J.go i H ∧ ∃ N : St → Hp → Prop, (∀ σ' H', N σ' H' → ∃ m', m' < m ∧ W (i + 1) m' σ' H') ∧ ∀ x H', J.yld i H x H' → g x σ H' fun σ2 H2 => tb ⟨N, rt, n, N⟩ σ2 H2)) : tFor wi g tb ⟨n, rt, bk, ct⟩ σ H := h
theorem rd_iList {R : It → Hp → Prop} (h : te σ H fun x H1 => ∃ a, x = .ref a ∧ (∃ xs, SqL K H1 a xs) ∧ R (Itl K a) H1) : iList K te σ H R := h
theorem rd_iTup {R : It → Hp → Prop} (h : te σ H fun x H1 => ∃ a, x = .ref a ∧ (∃ xs, SqT K H1 a xs) ∧ R (Itt K a) H1) : iTup K te σ H R := h
theorem rd_itL {a : Addr} {xs : List V} {R : Addr → Prop} (s : SqL K H a xs) (h : R a) : ∃ a', V.ref a = .ref a' ∧ (∃ xs, SqL K H a' xs) ∧ R a' := ⟨a, rfl, ⟨xs, s⟩, h⟩
theorem rd_itT {a : Addr} {xs : List V} {R : Addr → Prop} (s : SqT K H a xs) (h : R a) : ∃ a', V.ref a = .ref a' ∧ (∃ xs, SqT K H a' xs) ∧ R a' := ⟨a, rfl, ⟨xs, s⟩, h⟩
theorem rd_rng1 {t : TA} {R : It → Hp → Prop} (h : t σ H fun vs H1 => ∃ j : Int, vs = [.int j] ∧ -(2 ^ 62) ≤ j ∧ j < 2 ^ 62 ∧ R (Itr 0 j.toNat) H1) : iRng1 t σ H R := h
theorem rd_rng2 {t : TA} {R : It → Hp → Prop} (h : t σ H fun vs H1 => ∃ i j : Int, vs = [.int i, .int j] ∧ (-(2 ^ 62) ≤ i ∧ i < 2 ^ 62 ∧ -(2 ^ 62) ≤ j ∧ j < 2 ^ 62) ∧ R (Itr i (j - i).toNat) H1) : iRng2 t σ H R := h
theorem rd_rng1e {i : Int} {R : Int → Prop} (h1 : -(2 ^ 62) ≤ i) (h2 : i < 2 ^ 62) (h : R i) : ∃ j : Int, [V.int i] = [.int j] ∧ -(2 ^ 62) ≤ j ∧ j < 2 ^ 62 ∧ R j := ⟨i, rfl, h1, h2, h⟩
theorem rd_rng2e {i j : Int} {R : Int → Int → Prop} (h1 : -(2 ^ 62) ≤ i ∧ i < 2 ^ 62 ∧ -(2 ^ 62) ≤ j ∧ j < 2 ^ 62) (h : R i j) : ∃ i' j' : Int, [V.int i, V.int j] = [.int i', .int j'] ∧ (-(2 ^ 62) ≤ i' ∧ i' < 2 ^ 62 ∧ -(2 ^ 62) ≤ j' ∧ j' < 2 ^ 62) ∧ R i' j' := ⟨i, j, rfl, h1, h⟩
theorem rd_gtup {n : Nat} {t : TGs} {a : Addr} {xs : List V} {R : St → Hp → Prop} (s : SqT K H a xs) (l : xs.length = n) (h : t xs σ H R) : gTup K n t (.ref a) σ H R := ⟨a, xs, rfl, s, l, h⟩
theorem rd_gcons {t : TG} {u : TGs} {v : V} {r : List V} {R : St → Hp → Prop} (h : t v σ H fun σ' H' => u r σ' H' R) : gCons t u (v :: r) σ H R := ⟨v, r, rfl, h⟩
theorem rd_gnil {R : St → Hp → Prop} (h : R σ H) : gNil [] σ H R := ⟨rfl, h⟩
theorem st0 {N : List Str} {vs : List V} {t : TS} (σ : St) (e : L2.start N vs = σ) (h : t D σ H) : t D (L2.start N vs) H := by rw [e]; exact h
end
end Mine
namespace Mine
open PySem PySem.Spec L2
section
variable {g : TG} {tb : TS} {n : St → Hp → Prop} {rt : VK} {σ : St} {H : Hp} {K : PySem.W.Frag} {a : Addr} {xs : List V}
theorem forR {lo : Int} {m : Nat} (Pv : Nat → St → Hp → Prop) (h0 : Pv 0 σ H)
    (hs : ∀ i σ H, i < m → Pv i σ H → g (.int (lo + i)) σ H fun σ2 H2 => tb ⟨Pv (i + 1), rt, n, Pv (i + 1)⟩ σ2 H2) (hd : ∀ σ H, Pv m σ H → n σ H) :
    ∃ W : Nat → Nat → St → Hp → Prop, (∃ m, W 0 m σ H) ∧ ∀ i m' σ H, W i m' σ H →
      ((Itr lo m).stop i H ∧ n σ H) ∨ ((Itr lo m).go i H ∧ ∃ N : St → Hp → Prop, (∀ σ' H', N σ' H' → ∃ m'', m'' < m' ∧ W (i + 1) m'' σ' H') ∧ ∀ x H', (Itr lo m).yld i H x H' → g x σ H' fun σ2 H2 => tb ⟨N, rt, n, N⟩ σ2 H2) :=
  for_range (D := ⟨n, rt, fun _ _ => False, fun _ _ => False⟩) Pv h0 hs hd
theorem forL (Pv : Nat → St → Hp → Prop) (h0 : Pv 0 σ H) (hl : ∀ i σ H, i ≤ xs.length → Pv i σ H → SqL K H a xs)
    (hs : ∀ i x σ H, xs[i]? = some x → Pv i σ H → g x σ H fun σ2 H2 => tb ⟨Pv (i + 1), rt, n, Pv (i + 1)⟩ σ2 H2) (hd : ∀ σ H, Pv xs.length σ H → n σ H) :
    ∃ W : Nat → Nat → St → Hp → Prop, (∃ m, W 0 m σ H) ∧ ∀ i m σ H, W i m σ H →
      ((Itl K a).stop i H ∧ n σ H) ∨ ((Itl K a).go i H ∧ ∃ N : St → Hp → Prop, (∀ σ' H', N σ' H' → ∃ m', m' < m ∧ W (i + 1) m' σ' H') ∧ ∀ x H', (Itl K a).yld i H x H' → g x σ H' fun σ2 H2 => tb ⟨N, rt, n, N⟩ σ2 H2) :=
  for_list (D := ⟨n, rt, fun _ _ => False, fun _ _ => False⟩) Pv h0 hl hs hd
theorem forT (Pv : Nat → St → Hp → Prop) (h0 : Pv 0 σ H) (hl : ∀ i σ H, i ≤ xs.length → Pv i σ H → SqT K H a xs)
    (hs : ∀ i x σ H, xs[i]? = some x → Pv i σ H → g x σ H fun σ2 H2 => tb ⟨Pv (i + 1), rt, n, Pv (i + 1)⟩ σ2 H2) (hd : ∀ σ H, Pv xs.length σ H → n σ H) :
    ∃ W : Nat → Nat → St → Hp → Prop, (∃ m, W 0 m σ H) ∧ ∀ i m σ H, W i m σ H →
      ((Itt K a).stop i H ∧ n σ H) ∨ ((Itt K a).go i H ∧ ∃ N : St → Hp → Prop, (∀ σ' H', N σ' H' → ∃ m', m' < m ∧ W (i + 1) m' σ' H') ∧ ∀ x H', (Itt K a).yld i H x H' → g x σ H' fun σ2 H2 => tb ⟨N, rt, n, N⟩ σ2 H2) :=
  for_tup (D := ⟨n, rt, fun _ _ => False, fun _ _ => False⟩) Pv h0 hl hs hd
theorem rd_lc {wi : TI} {tt : TT} {te : TE} {vs : List Nat} {Q : VK} (h : wi σ H fun J H1 => ∀ D, H1 D = none → ∃ W : Nat → Nat → Hp → Prop, (∃ m, W 0 m (upd H1 D (.lst []))) ∧ ∀ i m H, W i m H →
  (J.stop i H ∧ Q (.ref D) H) ∨ (J.go i H ∧ ∃ Nx : Hp → Prop, (∀ H', Nx H' → ∃ m', m' < m ∧ W (i + 1) m' H') ∧ ∀ x H', J.yld i H x H' → g x (wipe σ vs) H' fun σ2 H2 => wipe σ2 vs = wipe σ vs ∧ tt σ2 H2 fun b H3 =>
    if b = true then te σ2 H3 fun y H4 => ∃ acc, H4 D = some (.lst acc) ∧ acc.length < sizeLine ∧ Nx (upd H4 D (.lst (acc ++ [y]))) else Nx H3)) : tLc wi g tt te vs σ H Q := h
theorem rd_yes {R : Bool → Hp → Prop} (h : R true H) : tYes σ H R := h
/-- a while -/
theorem rd_while {c : TT} {bk ct : St → Hp → Prop} (Pv : Nat → St → Hp → Prop) (m0 : Nat) (h0 : Pv m0 σ H)
    (hs : ∀ m σ H, Pv m σ H → c σ H fun b H1 => if b = true then (∃ N : St → Hp → Prop, (∀ σ' H', N σ' H' → ∃ m', m' < m ∧ Pv m' σ' H') ∧ tb ⟨N, rt, n, N⟩ σ H1) else n σ H1) :
    tWhile c tb ⟨n, rt, bk, ct⟩ σ H := ⟨Pv, ⟨m0, h0⟩, hs⟩
end
end Mine

/-! ### Kit5 -/
namespace Mine
open PySem PySem.Spec L2
/-! ## a list or a tuple that is walked -/
section
variable {X : Cx} (K : PySem.W.Frag) {tg e : Expr} {te : TE}
def iSeq (K : PySem.W.Frag) (tl : TE) : TI := fun σ H R => tl σ H fun x H1 => ∃ a, x = .ref a ∧ (((∃ xs, SqL K H1 a xs) ∧ R (Itl K a) H1) ∨ ((∃ xs, SqT K H1 a xs) ∧ R (Itt K a) H1))
theorem pi_seqK (he : PE X e te) (h : X.K = K := by rfl) : PI X tg e (iSeq K te) := by
  subst h
  refine ⟨fun pins s σ H R I h => ?_⟩
  refine thn (he.run pins s σ H _ I h) fun v s1 ⟨x, H1, I1, r1, a, ex, q⟩ => ?_
  subst ex
  cases r1
  have it : ∀ b, b ∈ [s1.heap.objs.size] → FpOk X pins H1 b := fun b hb => by
    obtain rfl : b = s1.heap.objs.size := by simpa using hb
    exact I1.fpOk (Nat.le_refl _) (I1.hok.fresh (Nat.le_refl _))
  rcases q with ⟨⟨xs, hx⟩, q⟩ | ⟨⟨xs, hx⟩, q⟩
  · obtain ⟨its, rv, p, hz⟩ := I1.list hx
    exact wpAny_pyIter_list p.isList ⟨s1.heap.objs.size, [s1.heap.objs.size], _, _, H1, rfl, I1.kept (t' := s1.toks) fun b o e => Heap.get?_push_of_some _ e, turn_list a _, ⟨_, Heap.get?_push_size _ rfl, rfl, rfl⟩, it, q⟩
  · obtain ⟨its, rv, p, hz⟩ := I1.tuple hx
    exact wpAny_pyIter_tuple (show s1.heap.IsTuple a its.toArray from p) ⟨s1.heap.objs.size, [s1.heap.objs.size], _, _, H1, rfl, I1.kept (t' := s1.toks) fun b o e => Heap.get?_push_of_some _ e, turn_tuple a _, ⟨_, Heap.get?_push_size _ rfl, rfl, rfl⟩, it, q⟩
theorem kAll (hc : X.calm = true) (h : X.K = K := by rfl) : CallR X (.builtin "all") (rAll K) := by subst h; exact cr_all hc
theorem kAny (hc : X.calm = true) (h : X.K = K := by rfl) : CallR X (.builtin "any") (rAny K) := by subst h; exact cr_any hc
end
section
variable {K : PySem.W.Frag} {σ : St} {H : Hp} {Q : VK} {te : TE} {a : Addr} {xs : List V}
theorem rd_iSeq {R : It → Hp → Prop} (h : te σ H fun x H1 => ∃ a, x = .ref a ∧ (((∃ xs, SqL K H1 a xs) ∧ R (Itl K a) H1) ∨ ((∃ xs, SqT K H1 a xs) ∧ R (Itt K a) H1))) : iSeq K te σ H R := h
theorem rd_seqL {R1 R2 : Addr → Prop} (s : SqL K H a xs) (h : R1 a) : ∃ a', V.ref a = .ref a' ∧ (((∃ xs, SqL K H a' xs) ∧ R1 a') ∨ ((∃ xs, SqT K H a' xs) ∧ R2 a')) := ⟨a, rfl, .inl ⟨⟨xs, s⟩, h⟩⟩
theorem rd_seqT {R1 R2 : Addr → Prop} (s : SqT K H a xs) (h : R2 a) : ∃ a', V.ref a = .ref a' ∧ (((∃ xs, SqL K H a' xs) ∧ R1 a') ∨ ((∃ xs, SqT K H a' xs) ∧ R2 a')) := ⟨a, rfl, .inr ⟨⟨xs, s⟩, h⟩⟩
theorem rd_istr {R : It → Hp → Prop} (h : te σ H fun v H1 => ∃ x, v = .str x ∧ R (Its x) H1) : iStr te σ H R := h
theorem rd_istrE {z : Str} {R : Str → Prop} (h : R z) : ∃ x, V.str z = .str x ∧ R x := ⟨z, rfl, h⟩
theorem u_all {bs : List Bool} (s : SqL K H a (bs.map V.bl)) (h : Q (.bl (bs.all id)) H) : rAll K [.ref a] H Q := ⟨a, bs, rfl, s, h⟩
end
/-- a text walked in a comprehension -/
theorem lcS {x : Str} {g : TG} {tt : TT} {te : TE} {vs : List Nat} {σ : St} {H1 : Hp} {D : Addr} {Qd : Hp → Prop} (Pv : Nat → Hp → Prop) (h0 : Pv 0 (upd H1 D (.lst [])))
    (hs : ∀ i c H, x.cps[i]? = some c → Pv i H → g (.str ⟨#[c]⟩) (wipe σ vs) H fun σ2 H2 => wipe σ2 vs = wipe σ vs ∧ tt σ2 H2 fun b H3 =>
      if b = true then te σ2 H3 fun y H4 => ∃ acc, H4 D = some (.lst acc) ∧ acc.length < sizeLine ∧ Pv (i + 1) (upd H4 D (.lst (acc ++ [y]))) else Pv (i + 1) H3) (hd : ∀ H, Pv x.cps.size H → Qd H) :
    ∃ W : Nat → Nat → Hp → Prop, (∃ m, W 0 m (upd H1 D (.lst []))) ∧ ∀ i m H, W i m H →
      ((Its x).stop i H ∧ Qd H) ∨ ((Its x).go i H ∧ ∃ Nx : Hp → Prop, (∀ H', Nx H' → ∃ m', m' < m ∧ W (i + 1) m' H') ∧ ∀ v H', (Its x).yld i H v H' → g v (wipe σ vs) H' fun σ2 H2 => wipe σ2 vs = wipe σ vs ∧ tt σ2 H2 fun b H3 =>
        if b = true then te σ2 H3 fun y H4 => ∃ acc, H4 D = some (.lst acc) ∧ acc.length < sizeLine ∧ Nx (upd H4 D (.lst (acc ++ [y]))) else Nx H3) := by
  refine ⟨fun i m H => m = x.cps.size - i ∧ i ≤ x.cps.size ∧ Pv i H, ⟨x.cps.size, by simp, Nat.zero_le _, h0⟩, ?_⟩
  rintro i m H ⟨rfl, hi, p⟩
  by_cases hlt : i < x.cps.size
  · refine .inr ⟨hlt, Pv (i + 1), fun H' p' => ⟨x.cps.size - (i + 1), by omega, rfl, hlt, p'⟩, fun v H' y => ?_⟩
    obtain ⟨e, c, hc, ev⟩ := y
    subst e ev
    exact hs i c _ hc p
  · obtain rfl : i = x.cps.size := by omega
    exact .inl ⟨Nat.le_refl _, hd H p⟩
/-! ## isinstance of data -/
def isT (n : String) : PyData → Bool
  | .none => n == "NoneType"
  | .bool _ => n == "bool" || n == "int"
  | .int _ => n == "int"
  | .str _ => n == "str"
  | .tuple _ => n == "tuple"
  | _ => false
theorem tyx_tup {K : PySem.W.Frag} {H : Hp} {a : Addr} {xs : List V} (h : SqT K H a xs) : TyX K H (.ref a) (.type "tuple") := by
  rcases h with (h | ⟨o, h⟩) | ⟨o, its, n, e, c, _⟩
  · exact .base (.tup h)
  · exact .fTuple h
  · exact .kTuple e c
theorem u_isi {K : PySem.W.Frag} {H : Hp} {Q : VK} {v : V} {d : PyData} {n : String} (hn : n = "int" ∨ n = "str" ∨ n = "tuple" ∨ n = "bool") (r : Rp K H v d) (h : Q (.bl (isT n d)) H) : rIsi K [v, .ty n] H Q := by
  cases r with
  | non => rcases hn with rfl | rfl | rfl | rfl <;> exact ⟨_, _, _, _, _, rfl, .ty _, .base .non, kit_ty (by simp only [isT]; decide +kernel), h⟩
  | bl b => rcases hn with rfl | rfl | rfl | rfl <;> exact ⟨_, _, _, _, _, rfl, .ty _, .base (.bl b), kit_ty (by simp only [isT]; decide +kernel), h⟩
  | int i => rcases hn with rfl | rfl | rfl | rfl <;> exact ⟨_, _, _, _, _, rfl, .ty _, .base (.int i), kit_ty (by simp only [isT]; decide +kernel), h⟩
  | str z => rcases hn with rfl | rfl | rfl | rfl <;> exact ⟨_, _, _, _, _, rfl, .ty _, .base (.str z), kit_ty (by simp only [isT]; decide +kernel), h⟩
  | tup s _ => rcases hn with rfl | rfl | rfl | rfl <;> exact ⟨_, _, _, _, _, rfl, .ty _, tyx_tup s, kit_ty (by simp only [isT]; decide +kernel), h⟩
end Mine

/-! ### Kit6 -/
namespace L2
open PySem PySem.Spec PyProof.Rows
/-! ## several except clauses, with names or without -/
abbrev Cl := Value × Option Nat × (Addr → Value → Option Addr → TS)
def endsAt (D : Ends) : Option Nat → Ends
  | none => D
  | some i => { nx := fun σ' H' => D.nx (σ'.set i none) H', rt := D.rt, bk := fun σ' H' => D.bk (σ'.set i none) H', ct := fun σ' H' => D.ct (σ'.set i none) H' }
def stAt (σ : St) (a : Addr) : Option Nat → St
  | none => σ
  | some i => σ.set i (some (.ref a))
def wMix (K : PySem.W.Frag) (Wout : WX) (D : Ends) : List Cl → WX
  | [] => Wout
  | (c, o, ts) :: r => fun cls d σ H => ∃ b, PySem.W.exmOne K cls c = some b ∧ (b = true → ∀ a, H a = none → ts a cls d (endsAt D o) (stAt σ a o) H) ∧ (b = false → wMix K Wout D r cls d σ H)
inductive Hds (X : Cx) : List ExceptHandler → List Cl → Prop
  | nil : Hds X [] []
  | plain {x : Str} {c : Value} {ts : Addr → Value → Option Addr → TS} {b₀ : Stmt} {suite : List Stmt} {np pos' : Pos} {hds : List ExceptHandler} {l : List Cl} (hc : Names X x c)
      (hsu : ∀ (a : Addr) (oe : Obj) (cls : Value) (d : Option Addr) (pn : List (Addr × Obj)), Zc cls d oe → (∃ vs, oe.data = .fields vs) → PSs (X.suite a ((a, oe) :: pn)) (b₀ :: suite) (ts a cls d)) (r : Hds X hds l) :
      Hds X (.ExceptHandler (some (.Name x np)) none (b₀ :: suite) pos' :: hds) ((c, none, ts) :: l)
  | named {x n : Str} {i : Nat} {c : Value} {ts : Addr → Value → Option Addr → TS} {b₀ : Stmt} {suite : List Stmt} {np pos' : Pos} {hds : List ExceptHandler} {l : List Cl} (hc : Names X x c) (hN : X.N.Nodup) (hi : X.N[i]? = some n) (hln : X.env.kindOf n = some .local)
      (hsu : ∀ (a : Addr) (oe : Obj) (cls : Value) (d : Option Addr) (pn : List (Addr × Obj)), Zc cls d oe → (∃ vs, oe.data = .fields vs) → PSs (X.suite a ((a, oe) :: pn)) (b₀ :: suite) (ts a cls d)) (r : Hds X hds l) :
      Hds X (.ExceptHandler (some (.Name x np)) (some n) (b₀ :: suite) pos' :: hds) ((c, some i, ts) :: l)
section
variable {X : Cx} {body : List Stmt} {h₀ : ExceptHandler} {hds : List ExceptHandler} {l : List Cl} {pos : Pos} {tb : WX → TS} {Wout : WX}
theorem ps_try_mix (hs : X.stack = X.env :: X.outer) (hf : X.env.frame = some X.env.locals) (tk : Takes X Wout)
    (hb : ∀ (W : WX) (pn : List (Addr × Obj)) (xe : Value → Shared → Prop), Takes (X.tr pn xe) W → PassesOwn (model X.prog X.w) X.A X.env xe → PSs (X.tr pn xe) body (tb W))
    (K : PySem.W.Frag) (hK : X.K = K) (hh : Hds X (h₀ :: hds) l) : PS X (.Try body (h₀ :: hds) [] [] pos) (fun D σ H => tb (wMix K Wout D l) D σ H) := by
  subst hK
  refine ⟨fun pins s σ H D I h => ?_⟩
  have ok := I.ok
  have hfr : X.A.frames = some (X.env :: X.outer) := by rw [ok.frames, hs]
  refine wpAny_Try_except ?_
  refine wpAny_mono ((hb (wMix X.K Wout D l) (X.pn ++ pins) (fun e s₁ => wpAny (model X.prog X.w) X.A (noteFrame e X.env) (fun _ s₂ => wpAny (model X.prog X.w) X.A (setFlight e none) (fun _ s₃ =>
    wpAny (model X.prog X.w) X.A (handleBy e X.env (h₀ :: hds)) (SP X pins D) X.xe s₃) X.xe s₂) X.xe s₁) (fun u s' xx => ?_) PassesOwn.looking).run [] s σ H D (I.toTry _) h) (fun f s1 hsp => ?_) (fun e s1 he => he)
  · obtain ⟨a, B, sI, pins', σ', H', cls, d, rfl, J', nb, up, sky, na, os, ag, w⟩ := xx
    have J : Inv X pins σ' H' sI := J'.ofTry ok
    have sky' : Sky B (X.env :: X.outer) a (Zc cls d) X.env.locals s'.heap := by rw [← hs]; exact sky
    show wpAny (model X.prog X.w) X.A (noteFrame (.ref a) X.env) _ _ _
    refine Sky.land Zc.steady hfr hf sky' fun h3 fl3 up3 => ?_
    have J3 : Inv X pins σ' H' { s' with heap := h3 } := J.landed nb fl3.1 (up.trans up3) os ag
    obtain ⟨oe3, vs3, he3, hz3, hd3⟩ := fl3.there
    have notFr : ∀ {h : Heap} {o : Obj} {vs : Array Value}, h.FunFrames B (X.env :: X.outer) → h.get? a = some o → o.data = .fields vs → a ∉ frs (X.env :: X.outer) := fun {h o vs} ff e dd hm => by
      obtain ⟨_, o', e', hnf⟩ := ff.mem hm
      rw [e] at e'; cases e'
      exact hnf _ dd
    have nfr := notFr fl3.2.2.1 he3 hd3
    have nL : a ≠ X.env.locals := fun z => nfr (List.mem_filterMap.mpr ⟨X.env, List.mem_cons_self, by rw [hf, z]⟩)
    have nF : a ∉ X.fs := fun hm => by
      obtain ⟨e, he, q⟩ := List.mem_filterMap.mp hm
      exact nfr (List.mem_filterMap.mpr ⟨e, List.mem_cons_of_mem _ he, q⟩)
    have S3 := J3.suite he3 hd3 na nL nF
    have LT : PySem.W.Looks (model X.prog X.w) h3 (typeOf (.ref a)) cls := fun A Q E s k q => wpAny_typeOf_ref (k _ _ he3) (by rw [hz3.1]; exact q)
    have test : ∀ {x : Str} {c : Value} {np : Pos}, Names X x c → ∀ {Q : Value → Shared → Prop} {E : Value → Shared → Prop}, Q c { s' with heap := h3 } → wpAny (model X.prog X.w) (X.A.mark (some (.ref a))) (eval (.Name x np) X.env) Q E { s' with heap := h3 } := fun {x c np} hc {Q E} q => by
      obtain ⟨hg, hdbg, hm | ⟨hm, hv, hnn⟩⟩ := hc
      · exact ld_glob (X := X.suite a ((a, oe3) :: (X.pn ++ pins))) S3 hg hm q hdbg
      · exact ld_blt (X := X.suite a ((a, oe3) :: (X.pn ++ pins))) S3 hg hm hv q hnn hdbg
    have go : ∀ {hds' : List ExceptHandler} {l' : List Cl}, Hds X hds' l' → wMix X.K Wout D l' cls d σ' H' →
        wpAny (model X.prog X.w) X.A (handleBy (.ref a) X.env hds') (SP X pins D) X.xe { s' with heap := h3 } := by
      intro hds' l' hk
      induction hk with
      | nil =>
        intro w
        refine wpAny_handleBy_nil ?_
        obtain ⟨k1, k2, k3, oe, vs, T, oT, ts', he, hz, hd, h1, hr⟩ := id fl3
        unfold PySem.passOn
        refine wpAny_bind (wpAny_field he hd h1 ?_)
        rw [if_neg (show ¬ ((Value.ref T == Value.none) = true) from by simp)]
        have fin : wpAny (model X.prog X.w) X.A (setFlight (.ref a) X.env.frame) (fun _ s4 => wpAny (model X.prog X.w) X.A (throw (.ref a) : Sem Flow) (SP X pins D) X.xe s4) X.xe { s' with heap := h3 } := by
          rw [hf]
          refine HandSPX.setFlight_upZ fl3 fun h4 hh4 up4 => wpAny_throw (tk _ _ ?_)
          exact ⟨a, B, sI, pins, σ', H', cls, d, rfl, J, nb, (up.trans up3).trans up4, .inr (.inr (by rw [hs]; exact hh4)), na, os, ag, w⟩
        first
          | exact wpAny_bind (wpAny_pure (wpAny_bind fin))
          | exact wpAny_bind fin
      | @plain x c ts b₀ suite np pos' hds2 l2 hc hsu r ih =>
        intro w
        obtain ⟨b, hb1, hyes, hno⟩ := w
        have LM := PySem.W.exm_one (M := model X.prog X.w) (J3.kIn) LT hb1
        refine wpAny_handleBy_cons (codeAny_handlers_test ?_) (by intro q; cases q)
        refine test hc (LM.here ?_)
        cases b with
        | true =>
          refine codeAny_handlers_suite ?_
          refine HandSPX.lands_againZ fl3 fun h4 fl4 up4 => ?_
          have J4 : Inv X pins σ' H' { s' with heap := h4 } := J.landed nb fl4.1 ((up.trans up3).trans up4) os ag
          obtain ⟨oe4, vs4, he4, hz4, hd4⟩ := fl4.there
          have S4 := J4.suite he4 hd4 na nL nF
          refine wpAny_mono ((hsu a oe4 cls d (X.pn ++ pins) hz4 ⟨_, hd4⟩).run [] _ _ H' _ S4 (hyes rfl a na)) (fun f s6 hsp => ?_) (fun _ _ z => False.elim z)
          cases f with
          | next =>
            obtain ⟨σ6, H6, S6, q6⟩ := hsp
            exact ⟨_, _, S6.unsuite ok, q6⟩
          | brk =>
            obtain ⟨σ6, H6, S6, q6⟩ := hsp
            exact ⟨_, _, S6.unsuite ok, q6⟩
          | cont =>
            obtain ⟨σ6, H6, S6, q6⟩ := hsp
            exact ⟨_, _, S6.unsuite ok, q6⟩
          | ret u =>
            obtain ⟨v6, σ6, H6, S6, r6, q6⟩ := hsp
            exact ⟨_, _, _, S6.unsuite ok, r6, q6⟩
        | false =>
          show wpAny _ X.A (handleBy (.ref a) X.env hds2) _ _ _
          exact ih (hno rfl)
      | @named x n i c ts b₀ suite np pos' hds2 l2 hc hN hi hln hsu r ih =>
        intro w
        obtain ⟨b, hb1, hyes, hno⟩ := w
        have LM := PySem.W.exm_one (M := model X.prog X.w) (J3.kIn) LT hb1
        have hloc : Loc X.env.scope n := .inl hln
        refine wpAny_handleBy_cons (codeAny_handlers_test ?_) (by intro q; cases q)
        refine test hc (LM.here ?_)
        cases b with
        | true =>
          refine codeAny_handlers_suite_as ?_
          refine HandSPX.lands_againZ fl3 fun h4 fl4 up4 => ?_
          have J4 : Inv X pins σ' H' { s' with heap := h4 } := J.landed nb fl4.1 ((up.trans up3).trans up4) os ag
          obtain ⟨oe4, vs4, he4, hz4, hd4⟩ := fl4.there
          have S4 := J4.suite he4 hd4 na nL nF
          refine store_ok (X := X.suite a ((a, oe4) :: (X.pn ++ pins))) (v := .ref a) S4 hN hi hloc rfl (fun s5 S5 => ?_) (.inr hln)
          refine wpAny_mono ((hsu a oe4 cls d (X.pn ++ pins) hz4 ⟨_, hd4⟩).run [] s5 _ H' _ S5 (hyes rfl a na)) (fun f s6 hsp => ?_) (fun _ _ z => False.elim z)
          have end_ : ∀ {σ6 : St} {H6 : Hp} {Q : Shared → Prop}, Inv (X.suite a ((a, oe4) :: (X.pn ++ pins))) [] σ6 H6 s6 → (∀ s7, Inv X pins (σ6.set i none) H6 s7 → Q s7) →
              wpAny (model X.prog X.w) X.A (do bindName X.env n .none; unbindBehindTheSuite X.env n pos') (fun _ s7 => Q s7) X.xe s6 := fun {σ6 H6 Q} S6 hq => gone_ok (S6.unsuite ok) hN hi hln hq
          cases f with
          | next =>
            obtain ⟨σ6, H6, S6, q6⟩ := hsp
            exact end_ S6 fun s7 J7 => ⟨_, _, J7, q6⟩
          | brk =>
            obtain ⟨σ6, H6, S6, q6⟩ := hsp
            exact end_ S6 fun s7 J7 => ⟨_, _, J7, q6⟩
          | cont =>
            obtain ⟨σ6, H6, S6, q6⟩ := hsp
            exact end_ S6 fun s7 J7 => ⟨_, _, J7, q6⟩
          | ret u =>
            obtain ⟨v6, σ6, H6, S6, r6, q6⟩ := hsp
            exact end_ S6 fun s7 J7 => ⟨_, _, _, J7, r6, q6⟩
        | false =>
          show wpAny _ X.A (handleBy (.ref a) X.env hds2) _ _ _
          exact ih (hno rfl)
    exact go hh w
  · cases f with
    | next =>
      obtain ⟨σ', H', J', q⟩ := hsp
      exact wpAny_execs_nil ⟨σ', H', J'.ofTry ok, q⟩
    | brk =>
      obtain ⟨σ', H', J', q⟩ := hsp
      exact ⟨σ', H', J'.ofTry ok, q⟩
    | cont =>
      obtain ⟨σ', H', J', q⟩ := hsp
      exact ⟨σ', H', J'.ofTry ok, q⟩
    | ret u =>
      obtain ⟨v, σ', H', J', r, q⟩ := hsp
      exact ⟨v, σ', H', J'.ofTry ok, r, q⟩
end
end L2

/-! ### Kit7 -/
namespace Mine
open PySem PySem.Spec L2
/-! ## own errors over ValueError, made by the __init__ of their root: self.what = what -/
def spInit (K : PySem.W.Frag) : Sp := fun vs H Q _ => ∃ (a C : Addr) (v : V), vs = [.ref a, v] ∧ OexC K C ∧ PySem.W.findIn K (.ref C) "what" = some none ∧ H a = some (exo a C none) ∧
  ∀ dx, H dx = none → dx ≠ a → Q .non (upd (upd H dx (exd dx [("what", v)])) a (exo a C (some dx)))
/-- what the written part says of the error class of the name x -/
structure ErrC (K : PySem.W.Frag) (mg : Str → Option Value) (fI : Addr) (x : Str) (C : Addr) : Prop where
  g : mg x = some (.ref C)
  c : OexC K C
  n : PySem.W.findIn K (.ref C) "what" = some none
  i : PySem.W.findIn K (.ref C) "__init__" = some (some (.ref fI))
  f : XfC K C
/-- the root's __init__ -/
def InitF (P : Program) (w : World) (K : PySem.W.Frag) (mg : Str → Option Value) (base : Heap) (fI : Addr) : Prop :=
  PySem.W.typeIn K (.ref fI) = some (.type "function") ∧ ∃ fd : FuncData, FnOk P w K mg base CX0 1 fI fd ["self", "what"] (spInit K) ∧ Binds K fd ["self", "what"] []
theorem has_init {P : Program} {w : World} {K : PySem.W.Frag} {mg : Str → Option Value} {base : Heap} {fI : Addr} {fd : FuncData} {st : Stmt} {qual : Str} (F : Fun K "__init__" qual st fI fd) (hS : FnScope ["self", "what"] ["self", "what"] (defScope st))
    (hb : ∀ (kV doc pm : Value) (an : Option Addr) (cdv ct : Value) (us : List Value), us.length = 2 → bindArgs (PySem.W.fnOf "__init__" qual (defArgs st) (defBody st) (defScope st) .none kV doc pm an cdv ct) ⟨us, []⟩ = pure ((["self", "what"] : List Str).zip us))
    (ht : PySem.W.typeIn K (.ref fI) = some (.type "function"))
    (body : ∀ (cdv : Value) (A : Around) (outer : List Env) (s : Shared) (H : Hp) (E : XK), PSs (cxOf CX0 P w K mg base ["self", "what"] qual (defScope st) fI cdv A outer s H E).nox (defBody st) (tOst K "what" (tVar 0) (tVar 1))) :
    InitF P w K mg base fI := by
  refine ⟨ht, fd, ?_, F.binds hb⟩
  refine F.ok (k := 0) hS (fun vs H Q E h => ?_) (fun cdv A outer s H vs Q E hr h => ⟨_, body cdv A outer s H E, ?_⟩)
  · obtain ⟨a, C, v, rfl, _⟩ := h
    rfl
  obtain ⟨a, C, v, rfl, hc, hn, ha, q⟩ := h
  exact ⟨v, rfl, .ref a, rfl, a, C, rfl, hc, hn, .inl ⟨ha, q⟩⟩
section
variable {X : Cx} {W : WX}
/-- what the making of x(v) asks -/
def RaiseAt (K : PySem.W.Frag) (C : Addr) (W : WX) (σ : St) (v : V) (H1 : Hp) : Prop := [v].length ≤ 1000 ∧ ∀ a, H1 a = none → spInit K (.ref a :: ([v] ++ [])) (upd H1 a (exo a C none))
  (fun u H2 => u = .non ∧ ∃ (d : Addr) (fs : List (Str × V)), H2 a = some (exo a C (some d)) ∧ H2 d = some (exd d fs) ∧ H1 d = none ∧ W (.ref C) (some d) σ (upd (del H2 a) d (.xd fs))) (fun _ _ _ => False)
def tRaiseE (K : PySem.W.Frag) (C : Addr) (W : WX) (te : TE) : TS := fun _ σ H => te σ H fun v H1 => RaiseAt K C W σ v H1
theorem ps_raiseE {fI C : Addr} {x : Str} {p pos pos2 : Pos} {e : Expr} {te : TE} (K : PySem.W.Frag) (hI : InitF X.prog X.w X.K X.mg X.base fI) (M : ErrC X.K X.mg fI x C) (hc : X.calm = true) (hr : Room 2 X.A) (tk : Takes X W) (he : PE X e te) (hg : Gl X x) (hK : X.K = K := by rfl)
    (hs : starEach [e] X.env = (false, eval e X.env) :: starEach [] X.env := by rfl) (hpl : (backTo pos (starEach [] X.env)).any (·.1) = false := by rfl) (hdb : (x == ("__debug__" : Str)) = false := by decide) :
    PS X (.Raise (some (.Call (.Name x p) [e] [] pos)) none pos2) (tRaiseE K C W te) := by
  subst hK
  obtain ⟨ht, fd, F, hb⟩ := hI
  exact ps_raise hc tk (pmk_oex (pos := pos) (p := p) (dvs := []) M.c M.i ht F hr hb .nil (fun _ _ _ _ _ _ _ z => z.elim) hg M.g (pa_cons he pa_nil hs) hdb hs hpl) (pos := pos2)
theorem rd_raiseE {K : PySem.W.Frag} {C : Addr} {te : TE} {D : Ends} {σ : St} {H : Hp} (h : te σ H fun v H1 => RaiseAt K C W σ v H1) : tRaiseE K C W te D σ H := h
theorem exd_ne_exo {a d C : Addr} {o : Option Addr} {fs : List (Str × V)} : True := trivial
theorem u_raise {K : PySem.W.Frag} {C : Addr} {σ : St} {v : V} {H : Hp} (c : OexC K C) (n : PySem.W.findIn K (.ref C) "what" = some none) (h : ∀ d, H d = none → W (.ref C) (some d) σ (upd H d (.xd [("what", v)]))) : RaiseAt K C W σ v H := by
  refine ⟨by show 1 ≤ 1000; decide, fun a ha => ⟨a, C, v, rfl, c, n, upd_same, fun dx hdx hne => ⟨rfl, dx, [("what", v)], ?_, ?_, ?_, ?_⟩⟩⟩
  · exact upd_same
  · rw [upd_ne hne, upd_same]
  · rw [upd_ne hne] at hdx; exact hdx
  · have hd : H dx = none := by rw [upd_ne hne] at hdx; exact hdx
    have e : upd (del (upd (upd (upd H a (exo a C none)) dx (exd dx [("what", v)])) a (exo a C (some dx))) a) dx (.xd [("what", v)]) = upd H dx (.xd [("what", v)]) := by
      funext b
      by_cases h1 : b = dx
      · subst h1; rw [upd_same, upd_same]
      · rw [upd_ne h1, upd_ne h1]
        by_cases h2 : b = a
        · subst h2; rw [del_same, ha]
        · rw [del_ne h2, upd_ne h2, upd_ne h1, upd_ne h2]
    rw [e]
    exact h dx hd
end
/-- what leaves a def that may raise -/
theorem tkX {P : Program} {w : World} {K : PySem.W.Frag} {mg : Str → Option Value} {base : Heap} {N : List Str} {qual : Str} {scope : Scope} {f : Addr} {cd : Value} {A : Around} {outer : List Env} {s : Shared} {H : Hp} {E : XK} :
    Takes (cxOf (L2.CX P w) P w K mg base N qual scope f cd A outer s H E) (fun cls d _ H' => E cls d H') := takes_of rfl rfl rfl rfl
theorem poX {P : Program} {w : World} {K : PySem.W.Frag} {mg : Str → Option Value} {base : Heap} {N : List Str} {qual : Str} {scope : Scope} {f : Addr} {cd : Value} {A : Around} {outer : List Env} {s : Shared} {H : Hp} {E : XK} :
    PassesOwn (model P w) (cxOf (L2.CX P w) P w K mg base N qual scope f cd A outer s H E).A (cxOf (L2.CX P w) P w K mg base N qual scope f cd A outer s H E).env (cxOf (L2.CX P w) P w K mg base N qual scope f cd A outer s H E).xe := passes_of (X := cxOf (L2.CX P w) P w K mg base N qual scope f cd A outer s H E) rfl
/-! ## a dict of the module, text keys -/
/-- at x: a dict that tells g of a text -/
structure Tab (w : World) (K : PySem.W.Frag) (mg : Str → Option Value) (x : Str) (a : Addr) (g : Str → Option Value) : Prop where
  m : mg x = some (.ref a)
  d : ∃ es n, KDict K w a es n
  t : ∀ z, PySem.W.nsIn K a z = some (g z)
section
variable {X : Cx}
def rInD (a : Addr) (g : Str → Option Value) : R2 := fun x y H Q => ∃ z, x = .str z ∧ y = .ref a ∧ Q (.bl (g z).isSome) H
def rNotInD (a : Addr) (g : Str → Option Value) : R2 := fun x y H Q => ∃ z, x = .str z ∧ y = .ref a ∧ Q (.bl (!(g z).isSome)) H
theorem op_inD {x : Str} {a : Addr} {g : Str → Option Value} (T : Tab X.w X.K X.mg x a g) : OpR X (compareOp .In) (rInD a g) := by
  obtain ⟨es, n, D⟩ := T.d
  intro pins s σ H u y v v2 Q I rx ry h
  obtain ⟨z, rfl, rfl, q⟩ := h
  exact op_in_kd D pins s σ H _ _ v v2 Q I rx ry ⟨z, _, rfl, rfl, T.t z, q⟩
theorem op_notInD {x : Str} {a : Addr} {g : Str → Option Value} (T : Tab X.w X.K X.mg x a g) : OpR X (compareOp .NotIn) (rNotInD a g) := by
  obtain ⟨es, n, D⟩ := T.d
  intro pins s σ H u y v v2 Q I rx ry h
  obtain ⟨z, rfl, rfl, q⟩ := h
  exact op_notIn_kd D pins s σ H _ _ v v2 Q I rx ry ⟨z, _, rfl, rfl, T.t z, q⟩
def rIxT' (a : Addr) (g : Str → Option Value) : R2 := fun x y H Q => ∃ z u v, x = .ref a ∧ y = .str z ∧ g z = some u ∧ RelV v u ∧ Q v H
theorem ix_tab {x : Str} {a : Addr} {g : Str → Option Value} (T : Tab X.w X.K X.mg x a g) : IxR X (rIxT' a g) := by
  obtain ⟨es, n, D⟩ := T.d
  intro value slice pins s σ H u y v v2 Q I rx ry h hs
  obtain ⟨z, u0, v0, rfl, rfl, e, r, q⟩ := h
  exact ix_kdict value slice pins s σ H _ _ v v2 Q I rx ry ⟨a, z, v0, rfl, rfl, ⟨es, n, u0, D.at_, D.lit, by rw [T.t z, e], r⟩, q⟩ hs
theorem u_inD {a : Addr} {g : Str → Option Value} {z : Str} {H : Hp} {Q : VK} (h : Q (.bl (g z).isSome) H) : rInD a g (.str z) (.ref a) H Q := ⟨z, rfl, rfl, h⟩
theorem u_notInD {a : Addr} {g : Str → Option Value} {z : Str} {H : Hp} {Q : VK} (h : Q (.bl (!(g z).isSome)) H) : rNotInD a g (.str z) (.ref a) H Q := ⟨z, rfl, rfl, h⟩
theorem u_ixTab {a : Addr} {g : Str → Option Value} {z : Str} {u : Value} {v : V} {H : Hp} {Q : VK} (e : g z = some u) (r : RelV v u) (h : Q v H) : rIxT' a g (.ref a) (.str z) H Q := ⟨z, u, v, rfl, rfl, e, r, h⟩
/-- the call of a def that a local name holds -/
def tCallV (P : Program) (w : World) (K : PySem.W.Frag) (mg : Str → Option Value) (base : Heap) (k : Nat) (i : Nat) (t : TA) : TE := fun σ H Q => ∃ f sp, σ[i]? = some (some (.ref f)) ∧ Held P w K mg base k f sp ∧ t σ H fun vs H1 => sp vs H1 Q E0
theorem pe_callV {P : Program} {w : World} {K : PySem.W.Frag} {mg : Str → Option Value} {base : Heap} {k i : Nat} {x : Str} {p pos : Pos} {e : Expr} {es : List Expr} {t : TA} (h1 : X.prog = P) (h2 : X.w = w) (h3 : X.K = K) (h4 : X.mg = mg) (h5 : X.base = base) (hr : Room k X.A) (hN : X.N[i]? = some x) (hv : Vis X.env.scope x) (ha : PA X (e :: es) t)
    (hdb : (x == ("__debug__" : Str)) = false := by decide) (hcd : (x == ("__classdict__" : Str)) = false := by decide)
    (he : starEach (e :: es) X.env = (false, eval e X.env) :: starEach es X.env := by rfl) (hpl : (backTo pos (starEach es X.env)).any (·.1) = false := by rfl) : PE X (.Call (.Name x p) (e :: es) [] pos) (tCallV P w K mg base k i t) := by
  subst h1 h2 h3 h4 h5
  refine ⟨fun pins s σ H Q I h => ?_⟩
  obtain ⟨f, sp, hs, hH, ht⟩ := h
  obtain ⟨fd, ps, F, hk, hb⟩ := hH.ex
  refine (pe_callL (i := i) (f := f) (sp := sp) (dvs := []) (E := fun _ _ _ => False) F hr hN hv hk hb .nil (fun _ _ _ _ _ _ _ z => z.elim) ha hdb hcd he hpl).run pins s σ H Q I ⟨hs, ?_⟩
  have e0 : (fun (vs : List V) (H1 : Hp) => sp (vs ++ []) H1 Q (fun _ _ _ => False)) = fun vs H1 => sp vs H1 Q E0 := by
    funext vs H1; rw [List.append_nil]
  show t σ H (fun vs H1 => sp (vs ++ []) H1 Q (fun _ _ _ => False))
  rw [e0]
  exact ht
theorem rd_callV {P : Program} {w : World} {K : PySem.W.Frag} {mg : Str → Option Value} {base : Heap} {k i : Nat} {t : TA} {σ : St} {H : Hp} {Q : VK} {f : Addr} {sp : Sp} (e : σ[i]? = some (some (.ref f))) (hH : Held P w K mg base k f sp) (h : t σ H fun vs H1 => sp vs H1 Q E0) : tCallV P w K mg base k i t σ H Q := ⟨f, sp, e, hH, h⟩
theorem HasF.held {P : Program} {w : World} {K : PySem.W.Frag} {mg : Str → Option Value} {base : Heap} {k : Nat} {x : Str} {ps : List Str} {sp : Sp} (h : HasF P w K mg base CX0 k x ps sp) : ∃ f, mg x = some (.ref f) ∧ Held P w K mg base k f sp := by
  obtain ⟨f, fd, F, m, kp, b⟩ := h
  exact ⟨f, m, ⟨fd, ps, F, kp, b⟩⟩
theorem u_inS {K : PySem.W.Frag} {c : Nat} {z : Str} {H : Hp} {Q : VK} (h : Q (.bl (decide (c ∈ z.cps.toList))) H) : rInU K (.str ⟨#[c]⟩) (.str z) H Q := .inr ⟨c, z, rfl, rfl, h⟩
theorem u_notInS {K : PySem.W.Frag} {c : Nat} {z : Str} {H : Hp} {Q : VK} (h : Q (.bl (!decide (c ∈ z.cps.toList))) H) : rNotInU K (.str ⟨#[c]⟩) (.str z) H Q := .inr ⟨c, z, rfl, rfl, h⟩
end
section
variable {K : PySem.W.Frag} {H : Hp} {xs : List V} {ds : List PyData}
theorem Rps.none (h : Rps K H xs ds) (l : (xs.length : Int) = 0) : xs = [] ∧ ds = [] := by
  cases h with
  | nil => exact ⟨rfl, rfl⟩
  | cons a r => rw [List.length_cons] at l; omega
theorem Rps.only (h : Rps K H xs ds) (l : (xs.length : Int) = 1) : ∃ x d, xs = [x] ∧ ds = [d] ∧ Rp K H x d := by
  cases h with
  | nil => cases l
  | cons a r =>
    cases r with
    | nil => exact ⟨_, _, rfl, rfl, a⟩
    | cons b r => rw [List.length_cons, List.length_cons] at l; omega
theorem Rps.pair (h : Rps K H xs ds) (l : (xs.length : Int) = 2) : ∃ x y d e, xs = [x, y] ∧ ds = [d, e] ∧ Rp K H x d ∧ Rp K H y e := by
  cases h with
  | nil => cases l
  | cons a r =>
    cases r with
    | nil => cases l
    | cons b r =>
      cases r with
      | nil => exact ⟨_, _, _, _, rfl, rfl, a, b⟩
      | cons c r => rw [List.length_cons, List.length_cons, List.length_cons] at l; omega
theorem Rps.three (h : Rps K H xs ds) (l : (xs.length : Int) = 3) : ∃ x y z d e f, xs = [x, y, z] ∧ ds = [d, e, f] ∧ Rp K H x d ∧ Rp K H y e ∧ Rp K H z f := by
  cases h with
  | nil => cases l
  | cons a r =>
    cases r with
    | nil => cases l
    | cons b r =>
      cases r with
      | nil => cases l
      | cons c r =>
        cases r with
        | nil => exact ⟨_, _, _, _, _, _, rfl, rfl, a, b, c⟩
        | cons c2 r => rw [List.length_cons, List.length_cons, List.length_cons, List.length_cons] at l; omega
end
end Mine
namespace Mine
open PySem PySem.Spec L2
section
variable {σ : St} {H : Hp} {Q : VK} {te : TE}
theorem rd_retE {n bk ct : St → Hp → Prop} {rt : VK} {o : Option Nat} (h : te σ H rt) : tRet te (endsAt ⟨n, rt, bk, ct⟩ o) σ H := by cases o <;> exact h
theorem rd_xf {a C : Addr} {cls : Value} {d : Option Addr} {f : Str} (h : te σ H fun x H1 => x = .ref a ∧ cls = .ref C ∧ ∃ (dd : Addr) (fs : List (Str × V)) (v : V), d = some dd ∧ H1 dd = some (.xd fs) ∧ fs.lookup f = some v ∧ Q v H1) : tXf a cls d C f te σ H Q := h
theorem u_xf {a C dd : Addr} {cls : Value} {v : V} {R : V → Prop} (ec : cls = .ref C) (e : H dd = some (.xd [("what", v)])) (h : R v) : V.ref a = .ref a ∧ cls = .ref C ∧ ∃ (dd' : Addr) (fs : List (Str × V)) (v' : V), some dd = some dd' ∧ H dd' = some (.xd fs) ∧ fs.lookup ("what" : Str) = some v' ∧ R v' :=
  ⟨rfl, ec, dd, [("what", v)], v, rfl, e, by simp [List.lookup], h⟩
end
end Mine

/-! ### Kit8 -/
namespace Mine
open PySem PySem.Spec L2
section
variable {X : Cx}
/-! ## == and != of numbers, texts, data of any depth below 200 -/
def rEqG (K : PySem.W.Frag) : R2 := fun x y H Q => (scal x y = true ∧ Q (.bl (decide (x = y))) H) ∨
  ∃ d e, Dp K H x d ∧ Dp K H y e ∧ d.canLay0 = true ∧ e.canLay0 = true ∧ min d.depth e.depth ≤ 199 ∧ Q (.bl (PyData.eqv d e)) H
def rNeG (K : PySem.W.Frag) : R2 := fun x y H Q => (scal x y = true ∧ Q (.bl (!decide (x = y))) H) ∨
  ∃ d e, Dp K H x d ∧ Dp K H y e ∧ d.canLay0 = true ∧ e.canLay0 = true ∧ min d.depth e.depth ≤ 199 ∧ Q (.bl (!PyData.eqv d e)) H
theorem hU {k : Nat} {A : Around} (r : Room k A) : A.units + 200 < cLine := by have := r.un; omega
theorem kEqG (K : PySem.W.Frag) (hu : X.A.units + 200 < cLine) (h : X.K = K := by rfl) : OpR X (compareOp .Eq) (rEqG K) := by
  subst h
  refine op_eq.or ?_
  intro pins s σ H x y v u Q I rx ry h
  obtain ⟨d, e, hd, he, sd, se, dd, q⟩ := h
  obtain ⟨as, r1⟩ := Dp.reads I d x v hd rx
  obtain ⟨bs, r2⟩ := Dp.reads I e y u he ry
  exact SeqAt.compareEq_reads r1 r2 sd se (by omega) ⟨.bl _, H, I, rfl, q⟩
theorem kNeG (K : PySem.W.Frag) (hu : X.A.units + 200 < cLine) (h : X.K = K := by rfl) : OpR X (compareOp .NotEq) (rNeG K) := by
  subst h
  refine op_ne.or ?_
  intro pins s σ H x y v u Q I rx ry h
  obtain ⟨d, e, hd, he, sd, se, dd, q⟩ := h
  obtain ⟨as, r1⟩ := Dp.reads I d x v hd rx
  obtain ⟨bs, r2⟩ := Dp.reads I e y u he ry
  exact SeqAt.compareNe_reads r1 r2 sd se (by omega) ⟨.bl _, H, I, rfl, q⟩
end
section
variable {K : PySem.W.Frag} {H : Hp} {Q : VK} {i j : Int} {z z' : Str} {x y : V} {d e : PyData} {a : Addr} {xs : List V}
theorem dV_int : decide (V.int i = V.int j) = decide (i = j) := by
  by_cases c : i = j
  · rw [decide_eq_true c, decide_eq_true (congrArg V.int c)]
  · rw [decide_eq_false c, decide_eq_false (fun q => c (V.int.inj q))]
theorem dV_str : decide (V.str z = V.str z') = decide (z = z') := by
  by_cases c : z = z'
  · rw [decide_eq_true c, decide_eq_true (congrArg V.str c)]
  · rw [decide_eq_false c, decide_eq_false (fun q => c (V.str.inj q))]
theorem dV_bl {x y : Bool} : decide (V.bl x = V.bl y) = decide (x = y) := by cases x <;> cases y <;> rfl
theorem g_eqI (h : Q (.bl (decide (i = j))) H) : rEqG K (.int i) (.int j) H Q := .inl ⟨rfl, by rw [dV_int]; exact h⟩
theorem g_eqS (h : Q (.bl (decide (z = z'))) H) : rEqG K (.str z) (.str z') H Q := .inl ⟨rfl, by rw [dV_str]; exact h⟩
theorem g_neI (h : Q (.bl (!decide (i = j))) H) : rNeG K (.int i) (.int j) H Q := .inl ⟨rfl, by rw [dV_int]; exact h⟩
theorem g_neS (h : Q (.bl (!decide (z = z'))) H) : rNeG K (.str z) (.str z') H Q := .inl ⟨rfl, by rw [dV_str]; exact h⟩
theorem g_neB {x y : Bool} (h : Q (.bl (!decide (x = y))) H) : rNeG K (.bl x) (.bl y) H Q := .inl ⟨rfl, by rw [dV_bl]; exact h⟩
theorem g_eqD (hx : Dp K H x d) (hy : Dp K H y e) (c1 : d.canLay0 = true) (c2 : e.canLay0 = true) (dd : min d.depth e.depth ≤ 199) (h : Q (.bl (PyData.eqv d e)) H) : rEqG K x y H Q := .inr ⟨d, e, hx, hy, c1, c2, dd, h⟩
theorem g_neD (hx : Dp K H x d) (hy : Dp K H y e) (c1 : d.canLay0 = true) (c2 : e.canLay0 = true) (dd : min d.depth e.depth ≤ 199) (h : Q (.bl (!PyData.eqv d e)) H) : rNeG K x y H Q := .inr ⟨d, e, hx, hy, c1, c2, dd, h⟩
theorem u_inL (s : SqL K H a xs) (fx : flatV x = true) (fxs : xs.all flatV = true) (h : Q (.bl (inV x xs)) H) : rInU K x (.ref a) H Q := .inl ⟨a, xs, rfl, .inl s, fx, fxs, h⟩
theorem u_inT (s : SqT K H a xs) (fx : flatV x = true) (fxs : xs.all flatV = true) (h : Q (.bl (inV x xs)) H) : rInU K x (.ref a) H Q := .inl ⟨a, xs, rfl, .inr s, fx, fxs, h⟩
end
/-! ## data -/
def okS (z : Str) : Prop := z.length ≤ 1000 ∧ PyData.canLay0 (.str z) = true
mutual
def dat : PyData → Prop
  | .none => True
  | .int _ => True
  | .str z => okS z
  | .tuple ds => ds.length ≤ 1000 ∧ dats ds
  | _ => False
def dats : List PyData → Prop
  | [] => True
  | d :: r => dat d ∧ dats r
end
mutual
theorem dat_lay : ∀ d : PyData, dat d → d.canLay0 = true
  | .none, _ => by simp only [PyData.canLay0]
  | .int _, _ => by simp only [PyData.canLay0]
  | .str z, h => by
    have h' : okS z := by simpa only [dat] using h
    exact h'.2
  | .tuple ds, h => by
    have h' : ds.length ≤ 1000 ∧ dats ds := by simpa only [dat] using h
    simp only [PyData.canLay0]
    exact dats_lay ds h'.2
  | .bool _, h => by simp only [dat] at h
  | .list _, h => by simp only [dat] at h
  | .dict _, h => by simp only [dat] at h
theorem dats_lay : ∀ ds : List PyData, dats ds → PyData.canLayAll0 ds = true
  | [], _ => by simp only [PyData.canLayAll0]
  | d :: r, h => by
    have h' : dat d ∧ dats r := by simpa only [dats] using h
    simp only [PyData.canLayAll0, dat_lay d h'.1, dats_lay r h'.2, Bool.and_self]
end
mutual
theorem eqv_same : ∀ d : PyData, dat d → PyData.eqv d d = true
  | .none, _ => by simp [PyData.eqv]
  | .int _, _ => by simp [PyData.eqv]
  | .str z, _ => by simp [PyData.eqv]
  | .tuple ds, h => by
    have h' : ds.length ≤ 1000 ∧ dats ds := by simpa only [dat] using h
    simp only [PyData.eqv]
    exact eqvs_same ds h'.2
  | .bool _, h => by simp only [dat] at h
  | .list _, h => by simp only [dat] at h
  | .dict _, h => by simp only [dat] at h
theorem eqvs_same : ∀ ds : List PyData, dats ds → PyData.eqvAll ds ds = true
  | [], _ => by simp [PyData.eqvAll]
  | d :: r, h => by
    have h' : dat d ∧ dats r := by simpa only [dats] using h
    simp only [PyData.eqvAll, eqv_same d h'.1, eqvs_same r h'.2, Bool.and_self]
end
end Mine

/-! ### Kit9 -/
/-! ## enumerate of a tuple -/
namespace HE
open PySem PySem.Spec PyProof.Rows L2
/-- one argument, whatever begins -/
theorem meets1 {v : Value} {ob : Obj} {Hb : Heap → Prop} (bg : Begins v ob Hb) : Meets (Builtin.«enumerate.__new__» ⟨[.type "enumerate", v], []⟩) (fun _ Z st => Hb st.heap ∧
    Z (.ok (.ret (.ref (st.heap.push ob).objs.size))) { st with heap := (st.heap.push ob).push { cls := .type "enumerate", data := .fields #[.none, .bool false, .ref st.heap.objs.size, rawInt 0, .none, .none] } }) := by
  refine .of_wp fun pr w2 A2 Z st hst => ?_
  obtain ⟨h0, gg, dd, tt, oo⟩ := st
  obtain ⟨hb, hst⟩ := hst
  have hs1 := sub_enumerate
  have it1 : ∀ {B : Around} {E2 : Value → Shared → Prop} {Q2 : Value → Shared → Prop}, Q2 (.ref h0.objs.size) ⟨h0.push ob, gg, dd, tt, oo⟩ → wpAny (model pr w2) B (pyIter v) Q2 E2 ⟨h0, gg, dd, tt, oo⟩ :=
    fun q2 => bg.iter pr w2 _ _ ⟨h0, gg, dd, tt, oo⟩ _ hb q2
  wp_walk using it1
  refine wpAny_stack_any fun sta => wpAny_pure ?_
  split
  · rename_i cc _ _ _ _ _
    cases (cc == Value.type "enumerate") <;> (wp_walk using it1; exact ⟨_, rfl, hst⟩)
  · wp_walk using it1; exact ⟨_, rfl, hst⟩
section
variable {prog : Program} {w : World} {A : Around} {E : Value → Shared → Prop} {s : Shared}
theorem call1 {a : Addr} {its : Array Value} {Q : Value → Shared → Prop} (ht : s.heap.IsTuple a its)
    (k : ∀ h2, IsEnum h2 (s.heap.objs.size + 1) s.heap.objs.size 0 .none → h2.IsTupleIter s.heap.objs.size a 0 → (∀ c u, s.heap.get? c = some u → h2.get? c = some u) → Q (.ref (s.heap.objs.size + 1)) { s with heap := h2 }) :
    wpAny (model prog w) A (call (.type "enumerate") [.ref a]) Q E s := by
  have bg := begins_tuple a its
  refine callType_new F.called_enumerate (by decide) (F.typeCall_enumerate_1 _) (F.newCall_enumerate_1 _) (fun ob => F.args_object_init_2 ob _) F.entry_enumerate_new (meets1 bg) ⟨ht, ?_⟩
  have sz : (s.heap.push ({ cls := .type "tuple_iterator", data := .fields #[.ref a, .int 0 0] } : Obj)).objs.size = s.heap.objs.size + 1 := Heap.size_push ..
  show _ ∧ _
  rw [sz]
  have en := Heap.get?_push_size (s.heap.push ({ cls := .type "tuple_iterator", data := .fields #[.ref a, .int 0 0] } : Obj)) (o := { cls := .type "enumerate", data := .fields #[.none, .bool false, .ref s.heap.objs.size, rawInt 0, .none, .none] }) rfl
  rw [sz] at en
  exact ⟨⟨_, en, rfl⟩, k _ en ⟨_, Heap.get?_push_of_some _ (Heap.get?_push_size _ rfl), rfl, rfl⟩ fun c u x => Heap.get?_push_of_some _ (Heap.get?_push_of_some _ x)⟩
end
/-- the tuple at a, each item in a new pair -/
def IteT (K : PySem.W.Frag) (a : Addr) : It where
  go := fun i H => ∃ (xs : List V) (x : V), SqT K H a xs ∧ xs[i]? = some x
  yld := fun i H v H' => ∃ t x, v = .ref t ∧ H t = none ∧ H' = upd H t (.tup [.int (i : Nat), x]) ∧ ∀ xs, SqT K H a xs → xs[i]? = some x
  stop := fun i H => ∃ xs : List V, SqT K H a xs ∧ xs.length ≤ i
theorem apartT {h : Heap} {a it : Addr} {i : Nat} {its : Array Value} (ht : h.IsTuple a its) (hi : h.IsTupleIter it a i) : a ≠ it := fun z => by
  obtain ⟨o, e, _, n, d⟩ := ht
  obtain ⟨o2, e2, _, d2⟩ := hi
  rw [z, e2] at e
  cases e
  rw [d2] at d
  cases d
theorem apartE {h : Heap} {a e it : Addr} {i : Int} {old : Value} {its : Array Value} (ht : h.IsTuple a its) (he : IsEnum h e it i old) : e ≠ a := fun z => by
  obtain ⟨o, q, _, n, d⟩ := ht
  rw [← z] at q
  have q2 : h.get? e = some _ := he
  rw [q2] at q
  cases q
  cases d
theorem turn_enT {P : Program} {w : World} {K : PySem.W.Frag} {elts : List Expr} {kk : Nat} {tpos : Pos} (a e it : Addr) :
    Turn P w K (.Tuple elts kk tpos) (IteT K a) [e, it] e (fun i h => (∃ old, IsEnum h e it ((i : Nat) : Int) old) ∧ h.IsTupleIter it a i ∧ e ≠ it) := by
  refine ⟨by simp, fun i h st b hb => ?_, fun i h h' st k => ?_, ?_, ?_, fun A i s Q E st h => ?_⟩
  · obtain ⟨⟨old, he⟩, ⟨o, ho, hc, hd⟩, _⟩ := st
    rcases (by simpa using hb : b = e ∨ b = it) with rfl | rfl
    · exact ⟨_, he, fun v q => nomatch q⟩
    · exact ⟨o, ho, fun v q => by rw [hd] at q; cases q⟩
  · obtain ⟨⟨old, he⟩, hi, hne⟩ := st
    exact ⟨⟨old, k e (by simp) _ he⟩, hi.at fun o q => k it (by simp) o q, hne⟩
  · intro X hP hw hK hc i pins s σ H E I hf st hg
    subst hP hw hK
    obtain ⟨⟨old, he⟩, hit, hne⟩ := st
    obtain ⟨xs, x, hq, hx⟩ := hg
    obtain ⟨its, rv, p, hz⟩ := I.tuple hq
    have p2 : s.heap.IsTuple a its.toArray := p
    obtain ⟨u, hu, ru⟩ := rv.get hx
    have hu2 : its.toArray[i]? = some u := by simpa using hu
    have hel : e < s.heap.objs.size := Heap.lt_size he
    have hil : it < s.heap.objs.size := by obtain ⟨_, q, _⟩ := hit; exact Heap.lt_size q
    have dr := Draws.tuple (prog := X.prog) (w := X.w) (A := X.A.in1) (I.ok.hd hc) it a (apartT p2 hit) its.toArray
    refine wpAny_pyNext_enum_itemD dr he ⟨hit, p2⟩ (by rcases Nat.lt_or_ge i its.toArray.size with g | g; exact g; rw [Array.getElem?_eq_none g] at hu2; cases hu2) hne (fun m => by rcases (by simpa using m : e = it ∨ e = a) with z | z; exact hne z; exact apartE p2 he z) fun u' h2 tk hu' out st2 hT hsz hk => ?_
    have eu : u' = u := Option.some.inj (hu'.symm.trans hu2)
    subst eu
    refine ⟨_, rfl, wpAny_letOwnedTupleGo_enum (s := { s with heap := h2, toks := tk + 1 }) out fun h3 he3 sb => ?_⟩
    have hT3 := (sb.2 _ (Nat.ne_of_gt hel)).trans hT
    have new : ObjOk X.prog X.w (upd H s.heap.objs.size (.tup [.int (i : Nat), x])) h3 s.heap.objs.size (.tup [.int (i : Nat), x]) :=
      ⟨(by decide : 2 ≤ sizeLine), [.int i tk, u'], .cons ⟨_, rfl⟩ (.cons ru .nil), ⟨_, hT3, rfl, _, rfl⟩⟩
    have I2 : Inv X pins σ (upd H s.heap.objs.size (.tup [.int (i : Nat), x])) { s with heap := h3, toks := tk + 1 } :=
      I.turnedNew (ch := [e, it]) (fun b ob hb q => (sb.2 b (fun z => hb (by simp [z]))).trans (hk b ob (fun z => hb (by simp [z])) (fun z => hb (by simp [z])) q)) hf (Nat.le_refl _) new
    refine ⟨.ref s.heap.objs.size, _, I2, rfl, ⟨_, x, rfl, I.hok.fresh (Nat.le_refl _), rfl, fun ys hy => by rw [I.tuple_inj hy hq]; exact hx⟩, ⟨⟨u', ?_⟩, st2.1.at fun o q => (sb.2 it (Ne.symm hne)).trans q, hne⟩, fun b hb => ?_⟩
    · rw [show ((i + 1 : Nat) : Int) = (i : Int) + 1 from by omega]; exact he3
    · have lt : b < s.heap.objs.size := by rcases (by simpa using hb : b = e ∨ b = it) with rfl | rfl <;> assumption
      rw [upd_ne (Nat.ne_of_lt lt)]
      exact (hf b hb).1
  · intro X hP hw hK hc i pins s σ H E I hf st hg
    subst hP hw hK
    obtain ⟨⟨old, he⟩, hit, hne⟩ := st
    obtain ⟨xs, hq, hx⟩ := hg
    obtain ⟨its, rv, p, hz⟩ := I.tuple hq
    have p2 : s.heap.IsTuple a its.toArray := p
    obtain ⟨f0, f1, f2, f3, f4, f5⟩ := hf it (by simp)
    have hl := rv.length
    unfold pyNext
    refine wpAny_bind (wpAny_attempt (wpAny_callSpecial?_slot (name := Str.ofString "__next__") (⟨_, he, rfl⟩ : s.TypeIs (.ref e) "enumerate") F.slot_enumerate_next
      (wpAny_call_entry F.slot_enumerate_next ⟨_, he, rfl⟩ F.entry_enumerate_next ?_ (F.args_enumerate_next_1 _))))
    show wpAny _ _ (field (.ref e) 2 >>= _) _ _ _
    refine wpAny_bind (wpAny_field he rfl (x := .ref it) rfl ?_)
    refine wpAny_bind (wpAny_nextOf_tuple_end (I.ok.hd hc) hit p2 (by simp; omega) fun h2 y eb hy => ?_)
    obtain ⟨o, ho, hc2⟩ := hy
    refine wpAny_bind (wpAny_isInstance (T := "StopIteration") (b := true) ⟨o, ho, hc2⟩ isSubtype_stop (wpAny_pure ?_))
    exact ⟨rfl, I.turned (t' := s.toks) (fun b o hb q => eb b o hb q) f0 f1 f3 f4 f5⟩
  · obtain ⟨⟨_, he⟩, _⟩ := st
    exact wpAny_pyIter_enum he h
/-- what enumerate walks: a list or a tuple -/
def iEnA (K : PySem.W.Frag) (ta : TA) : TI := fun σ H R => ta σ H fun vs H1 => ∃ a xs, vs = [.ref a] ∧ ((SqL K H1 a xs ∧ R (Ite K a) H1) ∨ (SqT K H1 a xs ∧ R (IteT K a) H1))
theorem pi_enA {X : Cx} {e : Expr} {ta : TA} {p pos tpos : Pos} {elts : List Expr} {kk : Nat} (hg : Gl X "enumerate") (hm : X.mg "enumerate" = none) (ha : PA X [e] ta) (hs : starEach [e] X.env = [(false, eval e X.env)] := by rfl) :
    PI X (.Tuple elts kk tpos) (.Call (.Name "enumerate" p) [e] [] pos) (iEnA X.K ta) := by
  refine ⟨fun pins s σ H R I h => ?_⟩
  refine Call_ (ld_blt I hg hm boot_enumerate (PyProof.Rows.callWith_type1 (thn (ha.run pos pins s σ H _ I h) fun us s1 ⟨vs, H1, I1, r1, q1⟩ => ?_) hs rfl))
  obtain ⟨a, xs, ex, q1⟩ := q1
  subst ex
  obtain _ | ⟨ru, rn⟩ := r1
  cases rn
  cases ru
  have fp : ∀ b ∈ [s1.heap.objs.size + 1, s1.heap.objs.size], FpOk X pins H1 b := fun b hb => by
    have le : s1.heap.objs.size ≤ b := by rcases (by simpa using hb : b = s1.heap.objs.size + 1 ∨ b = s1.heap.objs.size) with rfl | rfl <;> omega
    exact I1.fpOk le (I1.hok.fresh le)
  rcases q1 with ⟨hq, q⟩ | ⟨hq, q⟩
  · obtain ⟨its, rv, pl, hz⟩ := I1.list hq
    refine call_enumerate_list pl.isList fun h' he hit hsz hk => wpAny_pyIter_enum he ?_
    exact ⟨s1.heap.objs.size + 1, [s1.heap.objs.size + 1, s1.heap.objs.size], _, _, H1, rfl, I1.kept (t' := s1.toks) hk, turn_enum a _ _, ⟨⟨.none, he⟩, hit, Nat.succ_ne_self _⟩, fp, q⟩
  · obtain ⟨its, rv, pt, hz⟩ := I1.tuple hq
    refine call1 (show s1.heap.IsTuple a its.toArray from pt) fun h' he hit hk => wpAny_pyIter_enum he ?_
    exact ⟨s1.heap.objs.size + 1, [s1.heap.objs.size + 1, s1.heap.objs.size], _, _, H1, rfl, I1.kept (t' := s1.toks) hk, turn_enT a _ _, ⟨⟨.none, he⟩, hit, Nat.succ_ne_self _⟩, fp, q⟩
/-- a loop over enumerate of a tuple -/
theorem forET {K : PySem.W.Frag} {a : Addr} {xs : List V} {g : TG} {tb : TS} {n : L2.St → Hp → Prop} {rt : VK} {σ : L2.St} {H : Hp} (Pv : Nat → L2.St → Hp → Prop) (h0 : Pv 0 σ H) (hq : ∀ i σ H, i ≤ xs.length → Pv i σ H → SqT K H a xs)
    (hs : ∀ (i : Nat) (x : V) (t : Addr) (σ : L2.St) (H : Hp), xs[i]? = some x → Pv i σ H → H t = none → g (.ref t) σ (upd H t (.tup [.int (i : Nat), x])) fun σ2 H2 => tb ⟨Pv (i + 1), rt, n, Pv (i + 1)⟩ σ2 H2) (hd : ∀ σ H, Pv xs.length σ H → n σ H) :
    ∃ W : Nat → Nat → L2.St → Hp → Prop, (∃ m, W 0 m σ H) ∧ ∀ i m σ H, W i m σ H →
      ((IteT K a).stop i H ∧ n σ H) ∨ ((IteT K a).go i H ∧ ∃ N : L2.St → Hp → Prop, (∀ σ' H', N σ' H' → ∃ m', m' < m ∧ W (i + 1) m' σ' H') ∧ ∀ v H', (IteT K a).yld i H v H' → g v σ H' fun σ2 H2 => tb ⟨N, rt, n, N⟩ σ2 H2) := by
  refine ⟨fun i m σ H => m = xs.length - i ∧ i ≤ xs.length ∧ Pv i σ H, ⟨xs.length, by simp, Nat.zero_le _, h0⟩, ?_⟩
  rintro i m σ H ⟨rfl, hi, pv⟩
  have sq := hq i σ H hi pv
  rcases Nat.lt_or_ge i xs.length with hl | hl
  · refine .inr ⟨⟨xs, _, sq, List.getElem?_eq_getElem hl⟩, Pv (i + 1), fun σ' H' p' => ⟨xs.length - (i + 1), by omega, rfl, hl, p'⟩, ?_⟩
    rintro v H' ⟨t, x, rfl, ht, rfl, hx⟩
    exact hs i x t σ H (hx xs sq) pv ht
  · have : i = xs.length := by omega
    subst this
    exact .inl ⟨⟨xs, sq, Nat.le_refl _⟩, hd σ H pv⟩
end HE

/-! ### KitA -/
namespace Mine
open PySem PySem.Spec L2
section
variable {K : PySem.W.Frag} {H : Hp} {Q : VK} {a b : Addr} {xs ys : List V} {lo hi : Option Int}
/-! ## slices and sums of tuples, whatever object stands for them -/
theorem cut_whole (z : HT.sIx xs.length 0 lo = 0 ∧ HT.sIx xs.length xs.length hi = xs.length) : cutV xs lo hi = xs := by
  unfold cutV
  rw [z.1, z.2]
  simp
theorem u_slS (ha : SqT K H a xs) (h : ∀ q H', Same H H' → SqT K H' q (cutV xs lo hi) → Q (.ref q) H') : rSlU K (.ref a) lo hi H Q :=
  .inr ⟨a, xs, rfl, ha, fun z => h a H (Same.refl H) (by rw [cut_whole z]; exact ha), fun _ p hp => h p _ (same_new hp _) (SqT.of upd_same)⟩
theorem u_slL (ha : SqL K H a xs) (h : ∀ p, H p = none → Q (.ref p) (upd H p (.lst (cutV xs lo hi)))) : rSlU K (.ref a) lo hi H Q := .inl ⟨a, xs, rfl, ha, h⟩
theorem u_catS (ha : SqT K H a xs) (hb : SqT K H b ys) (l : xs.length + ys.length ≤ sizeLine) (h : ∀ q H', Same H H' → SqT K H' q (xs ++ ys) → Q (.ref q) H') : rAddU K (.ref a) (.ref b) H Q :=
  .inr (.inr (.inr ⟨a, b, xs, ys, rfl, rfl, ha, hb, l, fun z => h b H (Same.refl H) (by rw [z]; exact hb), fun _ z => h a H (Same.refl H) (by rw [z, List.append_nil]; exact ha), fun _ _ p hp => h p _ (same_new hp _) (SqT.of upd_same)⟩))
theorem cut_from (xs : List V) (i : Nat) : cutV xs (some (i : Int)) none = xs.drop i := by
  unfold cutV
  rw [HT.sIx_nat, HT.sIx_none]
  rcases Nat.le_total i xs.length with h | h
  · rw [Nat.min_eq_left h]
    exact List.take_of_length_le (by rw [List.length_drop]; omega)
  · rw [Nat.min_eq_right h, List.drop_of_length_le (Nat.le_refl _), List.drop_of_length_le h]
    simp
theorem cut_to (xs : List V) (j : Nat) : cutV xs none (some (j : Int)) = xs.take j := by
  unfold cutV
  rw [HT.sIx_nat, HT.sIx_none, List.drop_zero, Nat.sub_zero]
  rcases Nat.le_total j xs.length with h | h
  · rw [Nat.min_eq_left h]
  · rw [Nat.min_eq_right h, List.take_of_length_le (Nat.le_refl _), List.take_of_length_le h]
theorem cut_mid (xs : List V) (i j : Nat) (h : i ≤ xs.length) (k : j ≤ xs.length) : cutV xs (some (i : Int)) (some (j : Int)) = (xs.drop i).take (j - i) := by
  unfold cutV
  rw [HT.sIx_nat, HT.sIx_nat, Nat.min_eq_left h, Nat.min_eq_left k]
end
/-! ## enumerate of a list or a tuple -/
section
variable {X : Cx} (K : PySem.W.Frag) {e : Expr} {ta : TA}
theorem pi_enAK {p pos tpos : Pos} {elts : List Expr} {kk : Nat} (hg : Gl X "enumerate") (hm : X.mg "enumerate" = none) (ha : PA X [e] ta) (h : X.K = K := by rfl) (hs : starEach [e] X.env = [(false, eval e X.env)] := by rfl) :
    PI X (.Tuple elts kk tpos) (.Call (.Name "enumerate" p) [e] [] pos) (HE.iEnA K ta) := by subst h; exact HE.pi_enA hg hm ha hs
end
section
variable {K : PySem.W.Frag} {σ : St} {H : Hp} {ta : TA} {a b : Addr} {xs ys : List V}
theorem rd_enA {R : It → Hp → Prop} (h : ta σ H fun vs H1 => ∃ a xs, vs = [.ref a] ∧ ((SqL K H1 a xs ∧ R (Ite K a) H1) ∨ (SqT K H1 a xs ∧ R (HE.IteT K a) H1))) : HE.iEnA K ta σ H R := h
theorem u_enT {R1 R2 : Addr → Prop} (s : SqT K H a xs) (h : R2 a) : ∃ a' xs', [V.ref a] = [V.ref a'] ∧ ((SqL K H a' xs' ∧ R1 a') ∨ (SqT K H a' xs' ∧ R2 a')) := ⟨a, xs, rfl, .inr ⟨s, h⟩⟩
theorem u_enL {R1 R2 : Addr → Prop} (s : SqL K H a xs) (h : R1 a) : ∃ a' xs', [V.ref a] = [V.ref a'] ∧ ((SqL K H a' xs' ∧ R1 a') ∨ (SqT K H a' xs' ∧ R2 a')) := ⟨a, xs, rfl, .inl ⟨s, h⟩⟩
theorem rd_zip {R : It → Hp → Prop} (h : ta σ H fun vs H1 => ∃ a b xs ys, vs = [.ref a, .ref b] ∧ ((SqL K H1 a xs ∧ SqL K H1 b ys ∧ R (Itz K a b) H1) ∨ (SqT K H1 a xs ∧ SqT K H1 b ys ∧ R (RZ.ItzT K a b) H1))) : RZ.iZipA K ta σ H R := h
theorem u_zipL {R1 R2 : Addr → Addr → Prop} (s : SqL K H a xs) (t : SqL K H b ys) (h : R1 a b) : ∃ a' b' xs' ys', [V.ref a, V.ref b] = [V.ref a', V.ref b'] ∧ ((SqL K H a' xs' ∧ SqL K H b' ys' ∧ R1 a' b') ∨ (SqT K H a' xs' ∧ SqT K H b' ys' ∧ R2 a' b')) := ⟨a, b, xs, ys, rfl, .inl ⟨s, t, h⟩⟩
/-- a loop over zip of two lists of one length -/
theorem forZ {g : TG} {tb : TS} {n : St → Hp → Prop} {rt : VK} (hl : xs.length = ys.length) (Pv : Nat → St → Hp → Prop) (h0 : Pv 0 σ H) (hq : ∀ i σ H, Pv i σ H → SqL K H a xs ∧ SqL K H b ys)
    (hs : ∀ (i : Nat) (x y : V) (T : Addr) (σ : St) (H : Hp), xs[i]? = some x → ys[i]? = some y → Pv i σ H → H T = none → g (.ref T) σ (upd H T (.tup [x, y])) fun σ2 H2 => tb ⟨Pv (i + 1), rt, n, Pv (i + 1)⟩ σ2 H2) (hd : ∀ σ H, Pv xs.length σ H → n σ H) :
    ∃ W : Nat → Nat → St → Hp → Prop, (∃ m, W 0 m σ H) ∧ ∀ i m σ H, W i m σ H →
      ((Itz K a b).stop i H ∧ n σ H) ∨ ((Itz K a b).go i H ∧ ∃ N : St → Hp → Prop, (∀ σ' H', N σ' H' → ∃ m', m' < m ∧ W (i + 1) m' σ' H') ∧ ∀ v H', (Itz K a b).yld i H v H' → g v σ H' fun σ2 H2 => tb ⟨N, rt, n, N⟩ σ2 H2) :=
  RZ.for_zipL (D := ⟨n, rt, fun _ _ => False, fun _ _ => False⟩) hl Pv h0 hq hs hd
/-- a loop over zip of two lists, as long as the shorter -/
theorem forZm {g : TG} {tb : TS} {n : St → Hp → Prop} {rt : VK} {m : Nat} (hm : m = min xs.length ys.length) (Pv : Nat → St → Hp → Prop) (h0 : Pv 0 σ H) (hq : ∀ i σ H, i ≤ m → Pv i σ H → SqL K H a xs ∧ SqL K H b ys)
    (hs : ∀ (i : Nat) (x y : V) (t : Addr) (σ : St) (H : Hp), i < m → xs[i]? = some x → ys[i]? = some y → Pv i σ H → H t = none → g (.ref t) σ (upd H t (.tup [x, y])) fun σ2 H2 => tb ⟨Pv (i + 1), rt, n, Pv (i + 1)⟩ σ2 H2) (hd : ∀ σ H, Pv m σ H → n σ H) :
    ∃ W : Nat → Nat → St → Hp → Prop, (∃ m, W 0 m σ H) ∧ ∀ i m σ H, W i m σ H →
      ((Itz K a b).stop i H ∧ n σ H) ∨ ((Itz K a b).go i H ∧ ∃ N : St → Hp → Prop, (∀ σ' H', N σ' H' → ∃ m', m' < m ∧ W (i + 1) m' σ' H') ∧ ∀ v H', (Itz K a b).yld i H v H' → g v σ H' fun σ2 H2 => tb ⟨N, rt, n, N⟩ σ2 H2) := by
  refine ⟨fun i k σ H => k = m - i ∧ i ≤ m ∧ Pv i σ H, ⟨m, by simp, Nat.zero_le _, h0⟩, ?_⟩
  rintro i k σ H ⟨rfl, hi, pv⟩
  obtain ⟨q1, q2⟩ := hq i σ H hi pv
  rcases Nat.lt_or_ge i m with hl | hl
  · have l1 : i < xs.length := by omega
    have l2 : i < ys.length := by omega
    refine .inr ⟨⟨xs, ys, _, _, q1, q2, List.getElem?_eq_getElem l1, List.getElem?_eq_getElem l2⟩, Pv (i + 1), fun σ' H' p' => ⟨m - (i + 1), by omega, rfl, hl, p'⟩, ?_⟩
    rintro v H' ⟨t, x, y, rfl, ht, rfl, hx, hy⟩
    exact hs i x y t σ H hl (hx xs q1) (hy ys q2) pv ht
  · obtain rfl : i = m := by omega
    exact .inl ⟨⟨xs, ys, q1, q2, by omega⟩, hd σ H pv⟩
/-! ## a comprehension with two for -/
theorem rd_lc2 {wi : TI} {g : TG} {tt : TT} {wi1 : TI} {g1 : TG} {tt1 : TT} {te : TE} {vs vs1 : List Nat} {Q : VK} (h : wi σ H fun J H1 => ∀ D, H1 D = none → ∃ W : Nat → Nat → Hp → Prop, (∃ m, W 0 m (upd H1 D (.lst []))) ∧ ∀ i m H, W i m H →
  (J.stop i H ∧ Q (.ref D) H) ∨ (J.go i H ∧ ∃ Nx : Hp → Prop, (∀ H', Nx H' → ∃ m', m' < m ∧ W (i + 1) m' H') ∧ ∀ x H', J.yld i H x H' → g x (wipe σ vs) H' fun σ2 H2 => wipe σ2 vs = wipe σ vs ∧ tt σ2 H2 fun b H3 =>
    if b = true then wi1 σ2 H3 fun J1 H4 => ∃ W1 : Nat → Nat → Hp → Prop, (∃ m, W1 0 m H4) ∧ ∀ j k H, W1 j k H →
      (J1.stop j H ∧ Nx H) ∨ (J1.go j H ∧ ∃ Nx1 : Hp → Prop, (∀ H', Nx1 H' → ∃ k', k' < k ∧ W1 (j + 1) k' H') ∧ ∀ x H', J1.yld j H x H' → g1 x (wipe σ2 vs1) H' fun σ3 H5 => wipe σ3 vs1 = wipe σ2 vs1 ∧ tt1 σ3 H5 fun b H6 =>
        if b = true then te σ3 H6 fun y H7 => ∃ acc, H7 D = some (.lst acc) ∧ acc.length < sizeLine ∧ Nx1 (upd H7 D (.lst (acc ++ [y]))) else Nx1 H6)
    else Nx H3)) : tLc2 wi g tt wi1 g1 tt1 te vs vs1 σ H Q := h
/-- its outer and its inner walk, both over tuples: BB is what follows the tests -/
theorem lcG {g : TG} {tt : TT} {vs : List Nat} {Qd : Hp → Prop} {BB : (Hp → Prop) → St → Hp → Prop} (Pv : Nat → Hp → Prop) (h0 : Pv 0 H) (hl : ∀ i H, i ≤ xs.length → Pv i H → SqT K H a xs)
    (hs : ∀ i x H, xs[i]? = some x → Pv i H → g x (wipe σ vs) H fun σ2 H2 => wipe σ2 vs = wipe σ vs ∧ tt σ2 H2 fun b H3 => if b = true then BB (Pv (i + 1)) σ2 H3 else Pv (i + 1) H3) (hd : ∀ H, Pv xs.length H → Qd H) :
    ∃ W : Nat → Nat → Hp → Prop, (∃ m, W 0 m H) ∧ ∀ i m H, W i m H →
      ((Itt K a).stop i H ∧ Qd H) ∨ ((Itt K a).go i H ∧ ∃ Nx : Hp → Prop, (∀ H', Nx H' → ∃ m', m' < m ∧ W (i + 1) m' H') ∧ ∀ x H', (Itt K a).yld i H x H' → g x (wipe σ vs) H' fun σ2 H2 => wipe σ2 vs = wipe σ vs ∧ tt σ2 H2 fun b H3 =>
        if b = true then BB Nx σ2 H3 else Nx H3) := by
  refine ⟨fun i m H => m = xs.length - i ∧ i ≤ xs.length ∧ Pv i H, ⟨xs.length, by simp, Nat.zero_le _, h0⟩, ?_⟩
  rintro i m H ⟨rfl, hi, pv⟩
  have sq := hl i H hi pv
  rcases Nat.lt_or_ge i xs.length with hlt | hlt
  · refine .inr ⟨⟨xs, _, sq, List.getElem?_eq_getElem hlt⟩, Pv (i + 1), fun H' p' => ⟨xs.length - (i + 1), by omega, rfl, hlt, p'⟩, fun x H' y => ?_⟩
    obtain ⟨e1, e2⟩ := y
    subst e1
    exact hs i x _ (e2 xs sq) pv
  · obtain rfl : i = xs.length := by omega
    exact .inl ⟨⟨xs, sq, Nat.le_refl _⟩, hd H pv⟩
end
end Mine

/-! ### KitB -/
namespace Mine
open PySem PySem.Spec L2
section
variable {K : PySem.W.Frag} {σ : St} {H : Hp} {Q : VK}
/-- a loop over a range with a step -/
theorem forC {lo c : Int} {m : Nat} {g : TG} {tb : TS} {n : St → Hp → Prop} {rt : VK} (Pv : Nat → St → Hp → Prop) (h0 : Pv 0 σ H)
    (hs : ∀ i σ H, i < m → Pv i σ H → g (.int (lo + (i : Nat) * c)) σ H fun σ2 H2 => tb ⟨Pv (i + 1), rt, n, Pv (i + 1)⟩ σ2 H2) (hd : ∀ σ H, Pv m σ H → n σ H) :
    ∃ W : Nat → Nat → St → Hp → Prop, (∃ m, W 0 m σ H) ∧ ∀ i k σ H, W i k σ H →
      ((Itc lo c m).stop i H ∧ n σ H) ∨ ((Itc lo c m).go i H ∧ ∃ N : St → Hp → Prop, (∀ σ' H', N σ' H' → ∃ m', m' < k ∧ W (i + 1) m' σ' H') ∧ ∀ x H', (Itc lo c m).yld i H x H' → g x σ H' fun σ2 H2 => tb ⟨N, rt, n, N⟩ σ2 H2) :=
  for_rangeC (D := ⟨n, rt, fun _ _ => False, fun _ _ => False⟩) Pv h0 hs hd
theorem rd_revR {tr : St → Hp → (Int → Int → Hp → Prop) → Prop} {R : It → Hp → Prop} (h : tr σ H fun a b H1 => -(2 ^ 62) ≤ a ∧ a < 2 ^ 62 ∧ -(2 ^ 62) ≤ b ∧ b < 2 ^ 62 ∧ R (Itc (a + (((b - a).toNat : Nat) : Int) - 1) (-1) (b - a).toNat) H1) : iRevR tr σ H R := h
theorem rd_rg1 {ta : TE} {R : Int → Int → Hp → Prop} (h : ta σ H fun x H1 => ∃ n, x = .int n ∧ R 0 n H1) : tRg1 ta σ H R := h
theorem rd_rng3 {t : TA} {R : It → Hp → Prop} (h : t σ H fun vs H1 => ∃ (i j c : Int) (n : Nat), vs = [.int i, .int j, .int c] ∧ RgC i j c n ∧ R (Itc i c n) H1) : iRng3 t σ H R := h
theorem rep_one : ∀ (n : Nat) (v : V), (List.replicate n [v]).flatten = List.replicate n v
  | 0, _ => rfl
  | n + 1, v => by rw [List.replicate_succ, List.flatten_cons, rep_one n v] <;> rfl
theorem u_rep1 {l : Addr} {v : V} {n : Nat} (h : H l = some (.lst [v])) (hn : n ≤ 1000) (q : ∀ p, H p = none → Q (.ref p) (upd H p (.lst (List.replicate n v)))) : rMulU K (.ref l) (.int (n : Nat)) H Q := by
  refine .inr (.inl ⟨l, n, [v], rfl, rfl, h, by omega, by omega, ?_, fun p hp => ?_⟩)
  · show 1 * ((n : Int).toNat) ≤ sizeLine
    exact Nat.le_trans (show 1 * ((n : Int).toNat) ≤ 1000000 by omega) (by decide)
  · rw [Int.toNat_natCast, rep_one]
    exact q p hp
end
end Mine

/-! ### KitC -/
/-! ## a tuple once -/
namespace HE
open PySem PySem.Spec PyProof.Rows L2
theorem once (q : Addr) (vs : Array Value) (ep : Nat) (dc : Option Addr) (ss : Array (Option Value)) (tk : Tok) (ne : vs.isEmpty = false) :
    Meets (Builtin.«tuple.__mul__» ⟨[.ref q, .int 1 tk], []⟩) (fun _ Z st => st.heap.get? q = some { cls := .type "tuple", dict := dc, data := .seq vs ep, slots := ss } ∧ Z (.ok (.ret (.ref q))) st) := by
  refine .of_wp fun pr w2 A2 Z st hst => ?_
  obtain ⟨h0, gg, dd, tt, oo⟩ := st
  obtain ⟨hq, hz⟩ := hst
  have ix := AutoSeq1.idx_int
  wp_walk using wpAny_loadPart' hq
  exact ⟨_, rfl, hz⟩
def rRep1 (K : PySem.W.Frag) : R2 := fun x y H Q => ∃ l xs, x = .ref l ∧ y = .int 1 ∧ SqT K H l xs ∧ xs ≠ [] ∧ Q (.ref l) H
theorem op_rep1 {X : Cx} : OpR X (binaryOp .Mult) (rRep1 X.K) := by
  intro pins s σ H x y v u Q I rx ry h
  obtain ⟨l, xs, rfl, rfl, hT, hne, q⟩ := h
  cases rx
  obtain ⟨t, rfl⟩ := ry
  obtain ⟨its, r, ⟨⟨cls, dd, data, sl⟩, ho, hc, n, hd⟩, hs⟩ := I.tuple hT
  simp only at hc hd
  subst hc hd
  have hi : its.toArray.isEmpty = false := by
    cases r with
    | nil => exact absurd rfl hne
    | cons a b => rfl
  exact wpAny_binaryOp_repeat_ref (T := "tuple") (U := "int") (by decide) ⟨_, ho, rfl⟩ (fun s' => typeIs_int s' 1 t) noFill_tuple_mul F.fills_int_mul F.slot_int_rmul repeat_tuple F.slot_int_index.lookup
    (call_meets F.slot_int_rmul (typeIs_int s 1 t) F.entry_int_rmul (F.args_int_rmul_2 _ _) (int_rmul_tuple 1 t l its.toArray n dd sl)
      ⟨ho, rfl, ⟨_, ho, rfl⟩, call_meets F.slot_tuple_mul ⟨_, ho, rfl⟩ F.entry_tuple_mul (F.args_tuple_mul_2 _ _) (once l its.toArray n dd sl t hi) ⟨ho, ⟨.ref l, H, I, rfl, q⟩⟩⟩)
end HE
namespace Mine
open PySem PySem.Spec L2
def rMulV (K : PySem.W.Frag) : R2 := fun x y H Q => rMulU K x y H Q ∨ HE.rRep1 K x y H Q
theorem kMulV {X : Cx} (K : PySem.W.Frag) (h : X.K = K := by rfl) : OpR X (binaryOp .Mult) (rMulV K) := by subst h; exact mulU.or HE.op_rep1
/-- a tuple of one some times -/
theorem u_rowOf {K : PySem.W.Frag} {H : Hp} {Q : VK} {l : Addr} {v : V} {k : Int} (h : SqT K H l [v]) (h1 : 1 ≤ k) (h2 : k ≤ 1000) (q : ∀ p H', Same H H' → SqT K H' p (List.replicate k.toNat v) → Q (.ref p) H') : rMulV K (.ref l) (.int k) H Q := by
  by_cases c : k = 1
  · subst c
    exact .inr ⟨l, [v], rfl, rfl, h, by simp, q l H (Same.refl H) h⟩
  · refine .inl (.inr (.inr ⟨l, k, [v], rfl, rfl, h, by simp, by omega, h2, by simp, fun p hp => q p _ (same_new hp _) ?_⟩))
    rw [rep_one]
    exact SqT.of upd_same
end Mine

/-! ### KitD -/
namespace HE
open PySem PySem.Spec PyProof.Rows L2
section
variable {X : Cx}
/-- xs[i] op= y: what is read of a list -/
theorem get_list : PGet X (rIxL X.K) := by
  intro pins s σ H x y v u Q I rx ry h
  obtain ⟨p, xs, i, z, rfl, rfl, hq, he, q⟩ := h
  cases rx
  obtain ⟨t, rfl⟩ := ry
  obtain ⟨its, r, pl, hz⟩ := I.list hq
  obtain ⟨j, h1, h2, h3, h4, h5⟩ := atI_get he
  obtain ⟨w, ew, rw'⟩ := r.get h2
  have hl := r.length
  have hn := line63
  have fin : EP X pins σ Q w s := ⟨z, H, I, rw', q⟩
  by_cases h0 : 0 ≤ i
  · have hj : i.toNat = j := by
      rw [seqIndex_of h0 h5] at h1
      exact Option.some.inj h1
    exact wpAny_getItem_list pl.isList h0 (by omega) (by rw [hj]; simpa using ew) fin
  · have hj : (i + (its.toArray.size : Int)).toNat = j := by
      rw [seqIndex_neg (by omega) h4] at h1
      rw [List.size_toArray, ← hl]
      exact Option.some.inj h1
    exact wpAny_getItem_list_neg pl.isList (by omega) (by rw [List.size_toArray] <;> omega) (by omega) (by rw [hj]; simpa using ew) fin
theorem kGetL {X : Cx} (K : PySem.W.Frag) (h : X.K = K := by rfl) : PGet X (rIxL K) := by subst h; exact get_list
theorem rd_augS {to ti te : TE} {tget : V → V → Hp → VK → Prop} {tip : TIp} {tset : TSet} {D : Ends} {σ : L2.St} {H : Hp} (h : to σ H fun o H1 => ti σ H1 fun i H2 => tget o i H2 fun x H3 => te σ H3 fun y H4 => tip x y H4 fun z H5 => tset o i z H5 fun H6 => D.nx σ H6) : tAugS to ti te tget tip tset D σ H := h
end
end HE

/-! ### KitE -/
namespace HE
open PySem PySem.Spec PyProof.Rows L2
/-- t.index(i) of a tuple of ints -/
def rTix (K : PySem.W.Frag) : V → List V → Hp → VK → Prop := fun x vs H Q => ∃ (a : Addr) (ns : List Int) (k : Int), x = .ref a ∧ vs = [.int k] ∧ SqT K H a (ns.map V.int) ∧ k ∈ ns ∧ Q (.int (ns.idxOf k : Nat)) H
theorem mt_tix {X : Cx} : MtR X "tuple.index" (rTix X.K) := by
  intro pins s σ H x vs v us Q I rx rv h
  obtain ⟨a, ns, k, rfl, rfl, hs, hk, q⟩ := h
  cases rx
  obtain ⟨u, rfl, ru⟩ := rv.one
  obtain ⟨t, rfl⟩ := ru
  obtain ⟨its, r, pt, hz⟩ := I.tuple hs
  have hT : s.heap.IsTuple a its.toArray := pt
  exact PySem.SeqAt.tuple_index_ints hT r.ints hk ⟨.int _, H, I.kept (t' := s.toks + 1) (fun _ _ e => e), ⟨_, rfl⟩, q⟩
end HE
namespace Mine
open PySem PySem.Spec L2
theorem kTix {X : Cx} (K : PySem.W.Frag) (h : X.K = K := by rfl) : MtR X "tuple.index" (HE.rTix K) := by subst h; exact HE.mt_tix
variable {K : PySem.W.Frag} {σ : St} {H : Hp} {Q : VK} {a : Addr} {xs : List V}
theorem u_tix {ns : List Int} {k : Int} (s : SqT K H a (ns.map V.int)) (hk : k ∈ ns) (h : Q (.int (ns.idxOf k : Nat)) H) : HE.rTix K (.ref a) [.int k] H Q := ⟨a, ns, k, rfl, rfl, s, hk, h⟩
theorem rd_dc {wi : TI} {g : TG} {tt : TT} {tk tv : TE} {vs : List Nat} (h : wi σ H fun J H1 => ∀ D, H1 D = none → ∃ W : Nat → Nat → Hp → Prop, (∃ m, W 0 m (upd H1 D (.dK []))) ∧ ∀ i m H, W i m H →
  (J.stop i H ∧ Q (.ref D) H) ∨ (J.go i H ∧ ∃ Nx : Hp → Prop, (∀ H', Nx H' → ∃ m', m' < m ∧ W (i + 1) m' H') ∧ ∀ x H', J.yld i H x H' → g x (wipe σ vs) H' fun σ2 H2 => wipe σ2 vs = wipe σ vs ∧ tt σ2 H2 fun b H3 =>
    if b = true then tk σ2 H3 fun y H4 => tv σ2 H4 fun z H5 => ∃ kvs k, y = kV k ∧ H5 D = some (.dK kvs) ∧ kvs.length < sizeLine ∧ Nx (upd H5 D (.dK (putK kvs k z))) else Nx H3)) : tDc wi g tt tk tv vs σ H Q := h
/-- a dict comprehension over enumerate of a tuple -/
theorem dcET {g : TG} {tt : TT} {tk tv : TE} {vs : List Nat} {H1 : Hp} {D : Addr} {Qd : Hp → Prop} (Pv : Nat → Hp → Prop) (h0 : Pv 0 (upd H1 D (.dK []))) (hl : ∀ i H, i ≤ xs.length → Pv i H → SqT K H a xs)
    (hs : ∀ (i : Nat) (x : V) (t : Addr) (H : Hp), xs[i]? = some x → Pv i H → H t = none → g (.ref t) (wipe σ vs) (upd H t (.tup [.int (i : Nat), x])) fun σ2 H2 => wipe σ2 vs = wipe σ vs ∧ tt σ2 H2 fun b H3 =>
      if b = true then tk σ2 H3 fun y H4 => tv σ2 H4 fun z H5 => ∃ kvs k, y = kV k ∧ H5 D = some (.dK kvs) ∧ kvs.length < sizeLine ∧ Pv (i + 1) (upd H5 D (.dK (putK kvs k z))) else Pv (i + 1) H3) (hd : ∀ H, Pv xs.length H → Qd H) :
    ∃ W : Nat → Nat → Hp → Prop, (∃ m, W 0 m (upd H1 D (.dK []))) ∧ ∀ i m H, W i m H →
      ((HE.IteT K a).stop i H ∧ Qd H) ∨ ((HE.IteT K a).go i H ∧ ∃ Nx : Hp → Prop, (∀ H', Nx H' → ∃ m', m' < m ∧ W (i + 1) m' H') ∧ ∀ x H', (HE.IteT K a).yld i H x H' → g x (wipe σ vs) H' fun σ2 H2 => wipe σ2 vs = wipe σ vs ∧ tt σ2 H2 fun b H3 =>
        if b = true then tk σ2 H3 fun y H4 => tv σ2 H4 fun z H5 => ∃ kvs k, y = kV k ∧ H5 D = some (.dK kvs) ∧ kvs.length < sizeLine ∧ Nx (upd H5 D (.dK (putK kvs k z))) else Nx H3) := by
  refine ⟨fun i m H => m = xs.length - i ∧ i ≤ xs.length ∧ Pv i H, ⟨xs.length, by simp, Nat.zero_le _, h0⟩, ?_⟩
  rintro i m H ⟨rfl, hi, p⟩
  have q := hl i H hi p
  by_cases hlt : i < xs.length
  · refine .inr ⟨⟨xs, xs[i], q, by simp [hlt]⟩, Pv (i + 1), fun H' p' => ⟨xs.length - (i + 1), by omega, rfl, hlt, p'⟩, ?_⟩
    rintro v H' ⟨t, x, rfl, ht, rfl, hx⟩
    exact hs i x t H (hx xs q) p ht
  · have e : i = xs.length := by omega
    subst e
    exact .inl ⟨⟨xs, q, Nat.le_refl _⟩, hd H p⟩
theorem u_maxL {ns : List Int} (s : SqL K H a (ns.map V.int)) (l : 0 < ns.length) (h : ∀ m, m ∈ ns → (∀ y, y ∈ ns → y ≤ m) → Q (.int m) H) : rMax K [.ref a] H Q := ⟨a, ns, rfl, s, l, h⟩
theorem u_minL {ns : List Int} (s : SqL K H a (ns.map V.int)) (l : 0 < ns.length) (h : ∀ m, m ∈ ns → (∀ y, y ∈ ns → m ≤ y) → Q (.int m) H) : rMin K [.ref a] H Q := ⟨a, ns, rfl, s, l, h⟩
end Mine
namespace HE
open PySem PySem.Spec PyProof.Rows L2
variable {X : Cx}
/-- is, is not: two bools -/
def rIsB : R2 := fun x y H Q => ∃ a b, x = .bl a ∧ y = .bl b ∧ Q (.bl (decide (a = b))) H
def rNotB : R2 := fun x y H Q => ∃ a b, x = .bl a ∧ y = .bl b ∧ Q (.bl (!decide (a = b))) H
theorem op_isB : OpR X (compareOp .Is) rIsB := by
  intro pins s σ H x y v u Q I rx ry h
  obtain ⟨a, b, rfl, rfl, q⟩ := h
  cases rx
  cases ry
  show wpAny _ _ ((isSame (Value.bool a) (Value.bool b)) >>= fun z => pure (Value.bool z)) _ _ s
  exact wpAny_bind (wpAny_isSame_plain rfl (wpAny_pure (fin_bl I q (by cases a <;> cases b <;> rfl))))
theorem op_notB : OpR X (compareOp .IsNot) rNotB := by
  intro pins s σ H x y v u Q I rx ry h
  obtain ⟨a, b, rfl, rfl, q⟩ := h
  cases rx
  cases ry
  show wpAny _ _ ((isSame (Value.bool a) (Value.bool b)) >>= fun z => pure (Value.bool (!z))) _ _ s
  exact wpAny_bind (wpAny_isSame_plain rfl (wpAny_pure (fin_bl I q (by cases a <;> cases b <;> rfl))))
end HE
namespace Mine
open PySem PySem.Spec L2
variable {H : Hp} {Q : VK}
theorem u_isB {a b : Bool} (h : Q (.bl (decide (a = b))) H) : HE.rIsB (.bl a) (.bl b) H Q := ⟨a, b, rfl, rfl, h⟩
theorem u_notB {a b : Bool} (h : Q (.bl (!decide (a = b))) H) : HE.rNotB (.bl a) (.bl b) H Q := ⟨a, b, rfl, rfl, h⟩
end Mine

/-! ## tuples whose object is known -/
namespace HE
open PySem PySem.Spec PyProof.Rows L2
/-- a tuple without a dict -/
def FT (H : Hp) (a : Addr) (xs : List V) : Prop := ∃ o, H a = some (.frz o (.tup xs)) ∧ o.dict = none
theorem FT.sq {K : PySem.W.Frag} {H : Hp} {a : Addr} {xs : List V} (h : FT H a xs) : SqT K H a xs := .inl (.inr ⟨h.choose, h.choose_spec.1⟩)
variable {X : Cx} {e o : Expr} {es : List Expr} {to : TE} {t : TA} {name : Str} {apos cpos pos : Pos} {id : String} {r : V → List V → Hp → VK → Prop}
def tBMt (r : V → List V → Hp → VK → Prop) (to : TE) (t : TA) : TE := fun σ H Q => to σ H fun x H1 => (∃ a xs, x = .ref a ∧ FT H1 a xs) ∧ t σ H1 fun xs H2 => r x xs H2 Q
theorem pe_bmT (pa : PlainAttrs "tuple") (slot : Slot "tuple" name id) (hty : typeOf (.builtin id) = pure (.type "method_descriptor")) (hm : MtR X id r) (ho : PE X o to) (ha : PA X (e :: es) t)
    (hbase : attributeBase o name X.env (eval o X.env) = eval o X.env := by rfl)
    (hfew : ((backTo cpos (starEach (e :: es) X.env)).all (fun x => !x.1) && (backToKw cpos (keywordEach [] X.env)).all (fun x => x.1.isSome)
      && decide ((e :: es).length + ([] : List Keyword).length + (if ([] : List Keyword).isEmpty then 0 else 1) < 30)) = true := by rfl)
    (hline : (apos.endLine == cpos.line) = true := by rfl) (hs : starEach (e :: es) X.env = (false, eval e X.env) :: starEach es X.env := by rfl) (hplain : (backTo cpos (starEach es X.env)).any (·.1) = false := by rfl) :
    PE X (.Call (.Attribute o name apos) (e :: es) [] cpos) (tBMt r to t) := by
  refine ⟨fun pins s σ H Q I h => ?_⟩
  refine wpAny_Call_method_late hbase hfew hline rfl (thn (ho.run pins s σ H _ I h) fun v s1 ⟨x, H1, I1, r1, ty, q1⟩ => ?_)
  obtain ⟨a, xs, rfl, ob, e1, e2⟩ := ty
  cases r1
  obtain ⟨e3, _, its, _, p1⟩ := (show ObjOk X.prog X.w H1 s1.heap a (.frz ob (.tup xs)) from I1.hok a _ e1)
  refine ⟨"tuple", id, pa, slot, hty, IsTup.typeIs p1, (fun a' e' => by cases e'; exact ⟨ob, e3, e2⟩), ?_⟩
  have hA := ha.run cpos pins s1 σ H1 _ I1 q1
  rw [hs] at hA ⊢
  refine Calls.callWith_builtin (by show (false || (backTo cpos (starEach es X.env)).any (·.1)) = false; rw [hplain] <;> rfl) (Calls.evalArgs_plain ?_)
  exact thn hA fun us s2 ⟨vs, H2, I2, r2, q2⟩ => hm pins s2 σ H2 (.ref a) vs _ us Q I2 rfl r2 q2
/-- a display -/
def tTupF (t : TA) : TE := fun σ H Q => t σ H fun xs H1 => xs.length ≤ sizeLine ∧ ∀ p o, H1 p = none → o.dict = none → Q (.ref p) (upd H1 p (.frz o (.tup xs)))
theorem pe_tupF {x1} (h : PA X es t) : PE X (.Tuple es x1 pos) (tTupF t) := by
  refine ⟨fun pins s σ H Q I hq => ?_⟩
  refine wpAny_Tuple_spliced (thn (h.run pos pins s σ H _ I hq) fun us s1 ⟨xs, H1, I1, r, z, q⟩ => ⟨by rw [← r.length]; exact z, ?_⟩)
  have hf : H1 s1.heap.objs.size = none := I1.hok.fresh (Nat.le_refl _)
  refine ⟨.ref s1.heap.objs.size, upd H1 s1.heap.objs.size (.frz { cls := .type "tuple", data := .seq us.toArray } (.tup xs)), I1.laid (t' := s1.toks) (fun b u e => Heap.get?_push_of_some _ e) (Nat.le_refl _) ?_, rfl, q _ _ hf rfl⟩
  exact ⟨Heap.get?_push_size _ rfl, z, us, r, ⟨_, Heap.get?_push_size _ rfl, rfl, _, rfl⟩⟩
/-- tuple(xs) of a list -/
def rTupF (K : PySem.W.Frag) : List V → Hp → VK → Prop := fun xs H Q => ∃ p ys, xs = [.ref p] ∧ SqL K H p ys ∧ ∀ l o, H l = none → o.dict = none → Q (.ref l) (upd H l (.frz o (.tup ys)))
theorem call_tupF : CallR X (.type "tuple") (rTupF X.K) := by
  intro pins s σ H xs us Q I r h
  obtain ⟨p, ys, rfl, hq, q⟩ := h
  obtain ⟨u, rfl, rx⟩ := vals1 r
  cases rx
  obtain ⟨its, r', pl, hz⟩ := I.list hq
  have hlen := r'.length
  refine call_tuple_list pl.isList (fun h' kp => ?_) (by simp only [List.size_toArray] <;> omega)
  have I1 : Inv X pins σ H { s with heap := h' } := I.kept (t' := s.toks) kp
  have I2 : Inv X pins σ (upd H h'.objs.size (.frz { cls := .type "tuple", data := .seq its.toArray } (.tup ys))) { s with heap := h'.push { cls := .type "tuple", data := .seq its.toArray } } :=
    I1.laid (t' := s.toks) (fun b o e => Heap.get?_push_of_some _ e) (Nat.le_refl _) (show ObjOk X.prog X.w _ _ _ (.frz { cls := .type "tuple", data := .seq its.toArray } (.tup ys)) from ⟨Heap.get?_push_size _ rfl, hz, its, r', IsTup.new _ _⟩)
  exact ⟨.ref h'.objs.size, _, I2, rfl, q _ _ (I1.hok.fresh (Nat.le_refl _)) rfl⟩
/-- a + b -/
def rCatF (K : PySem.W.Frag) : R2 := fun x y H Q => ∃ a b xs ys, x = .ref a ∧ y = .ref b ∧ SqT K H a xs ∧ SqT K H b ys ∧ xs.length + ys.length ≤ sizeLine ∧
  (xs = [] → Q (.ref b) H) ∧ (xs ≠ [] → ys = [] → Q (.ref a) H) ∧ (xs ≠ [] → ys ≠ [] → ∀ p o, H p = none → o.dict = none → Q (.ref p) (upd H p (.frz o (.tup (xs ++ ys)))))
theorem op_catF : OpR X (binaryOp .Add) (rCatF X.K) := by
  intro pins s σ H x y v u Q I rx ry h
  obtain ⟨a, b, xs, ys, rfl, rfl, ha, hb, hz, q0, q1, q2⟩ := h
  by_cases hx : xs = []
  · subst hx
    exact op_catA pins s σ H _ _ v u Q I rx ry ⟨a, b, [], ys, rfl, rfl, ha, hb, hz, q0, fun z => absurd rfl z, fun z => absurd rfl z⟩
  cases rx
  cases ry
  obtain ⟨its, r1, p1, _⟩ := I.tuple ha
  obtain ⟨its2, r2, p2, _⟩ := I.tuple hb
  refine HT.cat_tup p1 p2 (fun z => hx (r1.nil_iff.mp z)) (fun z => ⟨.ref a, H, I, rfl, q1 hx (r2.nil_iff.mp z)⟩) (fun z => ?_) (by rw [← r1.length, ← r2.length]; exact hz)
  refine ⟨.ref s.heap.objs.size, _, I.laid (t' := s.toks) (o := .frz { cls := .type "tuple", data := .seq (its ++ its2).toArray } (.tup (xs ++ ys))) (fun b ob q => Heap.get?_push_of_some _ q) (Nat.le_refl _) ?_, rfl, q2 hx (fun w => z (r2.nil_iff.mpr w)) _ _ (I.hok.fresh (Nat.le_refl _)) rfl⟩
  exact ⟨Heap.get?_push_size _ rfl, by rw [List.length_append]; exact hz, _, r1.append r2, IsTup.new _ _⟩
end HE
namespace Mine
open PySem PySem.Spec L2
theorem kTupF {X : Cx} (K : PySem.W.Frag) (h : X.K = K := by rfl) : CallR X (.type "tuple") (HE.rTupF K) := by subst h; exact HE.call_tupF
theorem kCatF {X : Cx} (K : PySem.W.Frag) (h : X.K = K := by rfl) : OpR X (binaryOp .Add) (HE.rCatF K) := by subst h; exact HE.op_catF
variable {K : PySem.W.Frag} {σ : St} {H : Hp} {Q : VK} {a b : Addr} {xs ys : List V}
theorem rd_tupF {t : TA} (h : t σ H fun xs H1 => xs.length ≤ sizeLine ∧ ∀ p o, H1 p = none → o.dict = none → Q (.ref p) (upd H1 p (.frz o (.tup xs)))) : HE.tTupF t σ H Q := h
theorem rd_bmT {r : V → List V → Hp → VK → Prop} {te : TE} {t : TA} (h : te σ H fun x H1 => (∃ a xs, x = .ref a ∧ HE.FT H1 a xs) ∧ t σ H1 fun xs H2 => r x xs H2 Q) : HE.tBMt r te t σ H Q := h
theorem rd_tyF {R : Prop} (s : HE.FT H a xs) (h : R) : (∃ a' xs', V.ref a = .ref a' ∧ HE.FT H a' xs') ∧ R := ⟨⟨a, xs, rfl, s⟩, h⟩
theorem FTmk {o : Obj} (h : o.dict = none) : HE.FT (upd H a (.frz o (.tup xs))) a xs := ⟨o, upd_same, h⟩
theorem FT.same {H' : Hp} (h : HE.FT H a xs) (s : Same H H') : HE.FT H' a xs := by
  obtain ⟨o, e, d⟩ := h
  exact ⟨o, s _ _ e, d⟩
theorem FT.sb {H' : Hp} (h : HE.FT H a xs) (s : SB b H H') (n : a ≠ b) : HE.FT H' a xs := by
  obtain ⟨o, e, d⟩ := h
  exact ⟨o, s _ _ n e, d⟩
theorem u_tupF (s : SqL K H a xs) (h : ∀ q H', Same H H' → HE.FT H' q xs → Q (.ref q) H') : HE.rTupF K [.ref a] H Q := ⟨a, xs, rfl, s, fun l o hl ho => h l _ (same_new hl _) (FTmk ho)⟩
theorem u_catF (ha : SqT K H a xs) (hb : HE.FT H b ys) (n : ys ≠ []) (l : xs.length + ys.length ≤ sizeLine) (h : ∀ q H', Same H H' → HE.FT H' q (xs ++ ys) → Q (.ref q) H') : HE.rCatF K (.ref a) (.ref b) H Q :=
  ⟨a, b, xs, ys, rfl, rfl, ha, hb.sq, l, fun e => h _ _ (Same.refl H) (by rw [e]; exact hb), fun _ e => absurd e n, fun _ _ p o hp ho => h p _ (same_new hp _) (FTmk ho)⟩
theorem u_catG (ha : HE.FT H a xs) (hb : SqT K H b ys) (n : xs ≠ []) (l : xs.length + ys.length ≤ sizeLine) (h : ∀ q H', Same H H' → HE.FT H' q (xs ++ ys) → Q (.ref q) H') : HE.rCatF K (.ref a) (.ref b) H Q :=
  ⟨a, b, xs, ys, rfl, rfl, ha.sq, hb, l, fun e => absurd e n, fun _ e => h _ _ (Same.refl H) (by rw [e, List.append_nil]; exact ha), fun _ _ p o hp ho => h p _ (same_new hp _) (FTmk ho)⟩
end Mine

/-! ### KitF -/
namespace HE
open PySem PySem.Spec PyProof.Rows L2
variable {X : Cx}
/-- repr of a bool -/
def rRepB : List V → Hp → VK → Prop := fun xs H Q => ∃ b, xs = [.bl b] ∧ Q (.str (if b then "True" else "False")) H
theorem call_repr_bool : CallR X (.builtin "repr") rRepB := by
  intro pins s σ H xs us Q I r h
  obtain ⟨b, rfl, q⟩ := h
  obtain ⟨u, rfl, ru⟩ := vals1 r
  cases ru
  exact PySem.P.repr_of_bool ⟨.str _, H, I.tok _, ⟨_, rfl⟩, q⟩
end HE
namespace Mine
open PySem PySem.Spec L2
variable {K : PySem.W.Frag} {H : Hp} {Q : VK} {a : Addr} {xs : List V}
theorem u_repB {b : Bool} (h : Q (.str (if b then "True" else "False")) H) : HE.rRepB [.bl b] H Q := ⟨b, rfl, h⟩
theorem u_ninT {x : V} (s : SqT K H a xs) (fx : flatV x = true) (fxs : xs.all flatV = true) (h : Q (.bl (!inV x xs)) H) : rNotInU K x (.ref a) H Q := .inl ⟨a, xs, rfl, .inr s, fx, fxs, h⟩
theorem u_ninL {x : V} (s : SqL K H a xs) (fx : flatV x = true) (fxs : xs.all flatV = true) (h : Q (.bl (!inV x xs)) H) : rNotInU K x (.ref a) H Q := .inl ⟨a, xs, rfl, .inl s, fx, fxs, h⟩
/-- a list comprehension over enumerate of a list, as a loop -/
theorem forEL {g : TG} {tb : TS} {n : St → Hp → Prop} {rt : VK} {σ : St} (Pv : Nat → St → Hp → Prop) (h0 : Pv 0 σ H) (hq : ∀ i σ H, i ≤ xs.length → Pv i σ H → SqL K H a xs)
    (hs : ∀ (i : Nat) (x : V) (t : Addr) (σ : St) (H : Hp), xs[i]? = some x → Pv i σ H → H t = none → g (.ref t) σ (upd H t (.tup [.int (i : Nat), x])) fun σ2 H2 => tb ⟨Pv (i + 1), rt, n, Pv (i + 1)⟩ σ2 H2) (hd : ∀ σ H, Pv xs.length σ H → n σ H) :
    ∃ W : Nat → Nat → St → Hp → Prop, (∃ m, W 0 m σ H) ∧ ∀ i m σ H, W i m σ H →
      ((Ite K a).stop i H ∧ n σ H) ∨ ((Ite K a).go i H ∧ ∃ N : St → Hp → Prop, (∀ σ' H', N σ' H' → ∃ m', m' < m ∧ W (i + 1) m' σ' H') ∧ ∀ v H', (Ite K a).yld i H v H' → g v σ H' fun σ2 H2 => tb ⟨N, rt, n, N⟩ σ2 H2) := by
  refine ⟨fun i m σ H => m = xs.length - i ∧ i ≤ xs.length ∧ Pv i σ H, ⟨xs.length, by simp, Nat.zero_le _, h0⟩, ?_⟩
  rintro i m σ H ⟨rfl, hi, pv⟩
  have sq := hq i σ H hi pv
  rcases Nat.lt_or_ge i xs.length with hl | hl
  · refine .inr ⟨⟨xs, _, sq, List.getElem?_eq_getElem hl⟩, Pv (i + 1), fun σ' H' p' => ⟨xs.length - (i + 1), by omega, rfl, hl, p'⟩, ?_⟩
    rintro v H' ⟨t, x, rfl, ht, rfl, hx⟩
    exact hs i x t σ H (hx xs sq) pv ht
  · have : i = xs.length := by omega
    subst this
    exact .inl ⟨⟨xs, sq, Nat.le_refl _⟩, hd σ H pv⟩
end Mine

/-! ### KitL -/
set_option maxHeartbeats 2000000
/-! sorted(xs, key=lambda x: x[1] - x[0]) -/
namespace HE
open PySem PySem.Spec PyProof.Rows L2 LamX
/-- x[1] - x[0] -/
def falB (a : Str) (j1 j2 : Nat) (q1 q2 q3 q4 q5 q6 q7 : Pos) : Expr := .BinOp (.Subscript (.Name a q1) (.Constant (.int 1) j1 q2) q3) .Sub (.Subscript (.Name a q4) (.Constant (.int 0) j2 q5) q6) q7
theorem at_tuple {prog : Program} {w : World} {A : Around} {E : Value → Shared → Prop} {s : Shared} {t : Addr} {its : List Value} {v : Value} {i : Int} {k : Tok} {j : Nat} {e1 e2 : Expr} {Q : Value → Shared → Prop} (pl : IsTup s.heap t its.toArray) (hi : i = (j : Int)) (hl : its.length ≤ sizeLine) (hj : its[j]? = some v) (hs : NoSl e2) (h : Q v s) :
    wpAny (model prog w) A (subscriptTail e1 e2 (.ref t) (.int i k)) Q E s := by
  subst hi
  have hn := line63
  have hjl : j < its.length := (List.getElem?_eq_some_iff.mp hj).1
  exact subscriptTail_builtinR (x := v) pl.typeIs slot_tuple_getitem.lookup
    (getItem_tuple (j := j) (Q := fun r s' => r = v ∧ Q r s') pl (by omega) (by omega) (by rw [List.size_toArray]; exact seqIndex_of (by omega) (by omega)) (by simpa using hj) ⟨rfl, h⟩) (hs _ _)
/-- one call of the key -/
theorem key_turn {prog : Program} {w : World} {A : Around} {s : Shared} {f c' t : Addr} {qual a : Str} {params : Arguments} {scope : Scope} {pm ctv : Value} {its : List Value} {u0 u1 : Int} {t0 t1 : Tok} {j1 j2 : Nat} {q1 q2 q3 q4 q5 q6 q7 : Pos}
    (hroom : A.depth < recursionLimit) (of : s.heap.get? f = some (PySem.W.kla_obj "<lambda>" qual params (falB a j1 j2 q1 q2 q3 q4 q5 q6 q7) scope [] pm c' ctv)) (hcd : s.heap.CodeRec (.ref c') qual) (hlim : s.heap.NoLimit)
    (hbind : ∀ v, bindArgs (PySem.W.kla_fn "<lambda>" qual params (falB a j1 j2 q1 q2 q3 q4 q5 q6 q7) scope [] pm (.ref c') ctv) ⟨[v], []⟩ = pure [(a, v)])
    (hk : scope.kind = .function) (hco : scope.isCoroutine = false) (hgen : scope.isGenerator = false) (hn : scope.names = [(a, .local)]) (hda : (a == ("__debug__" : Str)) = false)
    (ht : IsTup s.heap t its.toArray) (hl : its.length ≤ sizeLine) (e0 : its[0]? = some (.int u0 t0)) (e1 : its[1]? = some (.int u1 t1)) :
    wpAny (model prog w) A (call (.ref f) [.ref t]) (PySem.W.KeyPure (.int (u1 - u0)) s) (fun _ _ => False) s := by
  refine wpAny_call ?_
  refine PySem.W.kla_callFunE hroom of rfl hco hgen rfl hcd ?_
  rw [hbind]
  have look : scope.names.lookup a = some .local := by rw [hn]; simp
  refine wpAny_pure (wpAny_newFunctionEnv (fun y hy => by rw [hn] at hy; simp at hy; rw [hy]; exact nofun) (fun y hy => by simp at hy; rw [hy]; exact look) (fun h₁ hns hsb => ⟨hlim.fresh _ hsb, ?_⟩) hk)
  have kp : ∀ b o, s.heap.get? b = some o → h₁.get? b = some o := fun b o e => hsb.extBut b o (Nat.ne_of_lt (Heap.lt_size e)) (Heap.get?_push_of_some _ e)
  have ht1 : IsTup h₁ t its.toArray := by
    obtain ⟨o, h1, h2⟩ := ht
    exact ⟨o, kp _ _ h1, h2⟩
  refine PySem.W.kla_codeExpr ?_
  refine wpAny_BinOp (Subscript_ (wpAny_Name (wpAny_loadName_local (v := .ref t) hk look hns (by simp) (wpAny_Constant_int ?_)) hda))
  refine at_tuple (j := 1) ht1 rfl hl e1 (fun _ _ => rfl) ?_
  refine Subscript_ (wpAny_Name (wpAny_loadName_local (v := .ref t) hk look hns (by simp) (wpAny_Constant_int ?_)) hda)
  refine at_tuple (j := 0) ht1 rfl hl e0 (fun _ _ => rfl) ?_
  refine sub_int ?_
  exact ⟨h₁, _, rfl, kp, .int _ _⟩
/-- segments and their keys -/
def SegK (K : PySem.W.Frag) (H : Hp) (xs : List V) (ks : List Int) : Prop := xs.length = ks.length ∧ ∀ (i : Nat) (v : V), xs[i]? = some v → ∃ (t : Addr) (u0 u1 : Int) (r : List V), v = .ref t ∧ SqT K H t (.int u0 :: .int u1 :: r) ∧ ks[i]? = some (u1 - u0)
theorem SegK.ext {K : PySem.W.Frag} {H H' : Hp} {xs : List V} {ks : List Int} (h : SegK K H xs ks) (e : ∀ a ys, SqT K H a ys → SqT K H' a ys) : SegK K H' xs ks := ⟨h.1, fun i v hv => by
  obtain ⟨t, u0, u1, r, h1, h2, h3⟩ := h.2 i v hv
  exact ⟨t, u0, u1, r, h1, e _ _ h2, h3⟩⟩
theorem ExtN.sqT {K : PySem.W.Frag} {H H' : Hp} {a : Addr} {xs : List V} (e : ExtN H H') (h : SqT K H a xs) : SqT K H' a xs := by
  rcases h with (h | ⟨o, h⟩) | h
  · exact .inl (.inl (e _ _ h (fun ps z => by cases z)))
  · exact .inl (.inr ⟨o, e _ _ h (fun ps z => by cases z)⟩)
  · exact .inr h
theorem ExtN.sqL {K : PySem.W.Frag} {H H' : Hp} {a : Addr} {xs : List V} (e : ExtN H H') (h : SqL K H a xs) : SqL K H' a xs := by
  rcases h with (h | ⟨o, h⟩) | h
  · exact .inl (.inl (e _ _ h (fun ps z => by cases z)))
  · exact .inl (.inr ⟨o, e _ _ h (fun ps z => by cases z)⟩)
  · exact .inr h
theorem each_zip {xs : List V} {its : List Value} (r : Vals xs its) : ∀ {ks : List Int}, xs.length = ks.length → PySem.W.EachIs (fun u (p : V × Int) => RelV p.1 u) its (xs.zip ks) := by
  induction r with
  | nil => intro ks _; exact .nil
  | cons h t ih =>
    intro ks hl
    cases ks with
    | nil => simp at hl
    | cons k ks => exact .cons h (ih (by simpa using hl))
theorem each_vals {out : List Value} {bs : List (V × Int)} (e : PySem.W.EachIs (fun u (p : V × Int) => RelV p.1 u) out bs) : Vals (bs.map (·.1)) out := by
  induction e with
  | nil => exact .nil
  | cons h t ih => exact .cons h ih
/-- sorted by the key, stably -/
def byFall (xs : List V) (ks : List Int) : List V := ((xs.zip ks).mergeSort fun a b => decide (a.2 ≤ b.2)).map (·.1)
def tSortF (T : List (Addr × Str)) (K : PySem.W.Frag) (te : TE) : TE := fun σ H Q => te σ H fun x H1 => Tabs T H1 ∧ ∃ (p : Addr) (xs : List V) (ks : List Int), x = .ref p ∧ SqL K H1 p xs ∧ SegK K H1 xs ks ∧ ∀ (H2 : Hp) (D : Addr), ExtN H1 H2 → Tabs T H2 → H2 D = none → Q (.ref D) (upd H2 D (.lst (byFall xs ks)))
theorem pe_sortF {X : Cx} {T : List (Addr × Str)} {c P : Addr} {a : Str} {e : Expr} {te : TE} {params : Arguments} {scope : Scope} {j1 j2 : Nat} {p lpos kpos pos q1 q2 q3 q4 q5 q6 q7 : Pos}
    (hg : Gl X "sorted") (hm : X.mg "sorted" = none) (ha : PE X e te) (TB : TabB X.base X.mg c P) (hcode : X.env.code = .ref c) (hmT : (P, X.env.qual ++ "<lambda>") ∈ T) (hu : ∀ p ∈ T, p.1 = P → p.2 = X.env.qual ++ "<lambda>")
    (hroom : X.A.depth < recursionLimit) (hunits : X.A.units + 200 < cLine) (hdef : defaultsOf params X.env = ([], [])) (hclo : cloFrom X.env.cells scope.names [] = [])
    (hfree : ∀ y ∈ scope.names, y.2 = .free → ∃ c, X.env.cells.lookup y.1 = some c)
    (hbind : ∀ (q : Str) (pm cv ctv : Value) (v : Value), bindArgs (PySem.W.kla_fn "<lambda>" q params (falB a j1 j2 q1 q2 q3 q4 q5 q6 q7) scope [] pm cv ctv) ⟨[v], []⟩ = pure [(a, v)])
    (hk : scope.kind = .function) (hco : scope.isCoroutine = false) (hgen : scope.isGenerator = false) (hn : scope.names = [(a, .local)]) (hda : (a == ("__debug__" : Str)) = false)
    (he2 : starEach [e] X.env = (false, eval e X.env) :: starEach [] X.env := by rfl) (he : backTo pos (starEach [e] X.env) = (false, eval e X.env) :: backTo pos (starEach [] X.env) := by rfl) (hpl : (backTo pos (starEach [e] X.env)).any (·.1) = false := by rfl)
    (hall : (backToKw pos (keywordEach [⟨some "key", .Lambda params (falB a j1 j2 q1 q2 q3 q4 q5 q6 q7) scope lpos, kpos⟩] X.env)).all (·.1.isSome) = true := by rfl) (hnone : (backToKw pos (keywordEach [⟨some "key", .Lambda params (falB a j1 j2 q1 q2 q3 q4 q5 q6 q7) scope lpos, kpos⟩] X.env)).any (·.1.isNone) = false := by rfl) (hks : (backToKw pos (keywordEach [⟨some "key", .Lambda params (falB a j1 j2 q1 q2 q3 q4 q5 q6 q7) scope lpos, kpos⟩] X.env)).filterMap (·.1) = [Str.ofString "key"] := by rfl) :
    PE X (.Call (.Name "sorted" p) [e] [⟨some "key", .Lambda params (falB a j1 j2 q1 q2 q3 q4 q5 q6 q7) scope lpos, kpos⟩] pos) (tSortF T X.K te) := by
  refine ⟨fun pins s σ H Q I h => ?_⟩
  refine wpAny_Call_Name_kw (ld_blt I hg hm (by rfl) ?_)
  refine PyProof.Rows.callWith_kw (thn ((pa_cons (hs := he2) ha pa_nil).run pos pins s σ H (fun vs H1 => match vs with
    | [x] => Tabs T H1 ∧ ∃ (p : Addr) (xs : List V) (ks : List Int), x = .ref p ∧ SqL X.K H1 p xs ∧ SegK X.K H1 xs ks ∧ ∀ (H2 : Hp) (D : Addr), ExtN H1 H2 → Tabs T H2 → H2 D = none → Q (.ref D) (upd H2 D (.lst (byFall xs ks)))
    | _ => False) I h) fun us s1 ⟨vs, H1, I1, r1, q1⟩ => ?_) he hpl hall hnone
  rw [hks]
  obtain ⟨x, rfl⟩ : ∃ x, vs = [x] := by
    match vs, q1 with
    | [x], _ => exact ⟨x, rfl⟩
  obtain ⟨hT, l, xs, ks, rfl, hx, hs, q⟩ := q1
  obtain ⟨u, rfl, ru⟩ := vals1 r1
  cases ru
  show wpAny _ _ (evalAll ((do let v ← eval (.Lambda params (falB a j1 j2 q1 q2 q3 q4 q5 q6 q7) scope lpos) X.env; standAt pos; pure v) :: [])) _ _ s1
  refine wpAny_evalAll_cons (wpAny_bind (lam_make2 I1 TB hcode hmT hu hT hdef hfree fun f c' pm ctv H2 s2 I2 eN T2 hf hfn hfr hco2 => wpAny_bind (wpAny_standAt (wpAny_pure (wpAny_evalAll_nil ?_)))))
  rw [hclo] at hf
  have hx2 : SqL X.K H2 l xs := ExtN.sqL eN hx
  have hs2 : SegK X.K H2 xs ks := hs.ext fun a ys => ExtN.sqT eN
  obtain ⟨its, rv, pl, hz⟩ := I2.list hx2
  obtain ⟨⟨oc, vs, tk0, hoc, hdc, hvc⟩, _, _⟩ := I2.hok c' _ hco2
  have hl := rv.length
  have eZ := each_zip rv hs2.1
  have lb : (xs.zip ks).length = xs.length := by rw [List.length_zip, hs2.1, Nat.min_self]
  have hkey : ∀ p ∈ xs.zip ks, ∃ (t : Addr) (u0 u1 : Int) (r : List V), p.1 = .ref t ∧ SqT X.K H2 t (.int u0 :: .int u1 :: r) ∧ p.2 = u1 - u0 := fun p hp => by
    obtain ⟨i, hi⟩ := List.getElem?_of_mem hp
    rw [List.getElem?_zip_eq_some] at hi
    obtain ⟨t, u0, u1, r, h1, h2, h3⟩ := hs2.2 i p.1 hi.1
    rw [hi.2, Option.some.injEq] at h3
    exact ⟨t, u0, u1, r, h1, h2, h3⟩
  refine PySem.W.sorted_key_data (vs := its) (bs := xs.zip ks) (R := fun u (p : V × Int) => RelV p.1 u) (fun p => PyData.int p.2) pl.isList eZ (fun d hd d' hd' => ?_) (.inr fun d hd => ?_) (by rw [lb]; exact hz) (fun p _ => ?_) (ksk_s1 _ _) (fun x => ksk_l1 _ _) (fun x => ksk_t1 _ _) (fun v p hR hp h tk kp => ?_) (fun out cc h' tk kp fresh hD lo eo => ?_)
  · obtain ⟨p, _, rfl⟩ := List.mem_map.mp hd
    obtain ⟨p', _, rfl⟩ := List.mem_map.mp hd'
    simp [PySem.W.alike]
  · obtain ⟨p, _, rfl⟩ := List.mem_map.mp hd
    exact ⟨nofun, fun _ => nofun⟩
  · simp only [PyData.depth]
    omega
  · obtain ⟨t, u0, u1, r, h1, h2, h3⟩ := hkey p hp
    rw [h1] at hR
    cases hR
    obtain ⟨its2, rv2, pt, hz2⟩ := I2.tuple h2
    obtain ⟨w0, z0, k0⟩ := rv2.get (i := 0) (x := .int u0) rfl
    obtain ⟨w1, z1, k1⟩ := rv2.get (i := 1) (x := .int u1) rfl
    obtain ⟨t0, rfl⟩ := k0
    obtain ⟨t1, rfl⟩ := k1
    rw [h3]
    refine key_turn (s := { s2 with heap := h, toks := tk }) hroom (kp _ _ hf) ⟨c', oc, vs, tk0, rfl, kp _ _ hoc, hdc, hvc⟩ (I2.nolimit.keeps kp) (fun v => hbind _ _ _ _ v) hk hco hgen hn hda ?_ (by rw [← rv2.length]; exact hz2) z0 z1
    obtain ⟨o, o1, o2⟩ := pt
    exact ⟨o, kp _ _ o1, o2⟩
  · rw [PySem.W.dataLe_int] at eo
    have vo := each_vals eo
    have lout : ((((xs.zip ks).mergeSort fun a b => decide (a.2 ≤ b.2)).map (·.1))).length = xs.length := by rw [List.length_map, List.length_mergeSort, lb]
    refine ⟨.ref (s2.heap.objs.size + 1), _, I2.laid (t' := tk) (a := s2.heap.objs.size + 1) (o := .lst (byFall xs ks)) kp (Nat.le_succ _) ?_, rfl, q H2 _ eN T2 (I2.hok.fresh (Nat.le_succ _))⟩
    exact ⟨by unfold byFall; rw [lout]; exact hz, out, cc, vo, hD⟩
end HE
namespace HE
open PySem PySem.Spec PyProof.Rows L2
/-! sorted(xs) of plain things -/
theorem each_zipD {xs : List V} {its : List Value} (r : Vals xs its) : ∀ {ds : List PyData}, xs.length = ds.length → PySem.W.EachIs (fun u (p : V × PyData) => RelV p.1 u) its (xs.zip ds) := by
  induction r with
  | nil => intro ks _; exact .nil
  | cons h t ih =>
    intro ks hl
    cases ks with
    | nil => simp at hl
    | cons k ks => exact .cons h (ih (by simpa using hl))
theorem each_valsD {out : List Value} {bs : List (V × PyData)} (e : PySem.W.EachIs (fun u (p : V × PyData) => RelV p.1 u) out bs) : Vals (bs.map (·.1)) out := by
  induction e with
  | nil => exact .nil
  | cons h t ih => exact .cons h ih
theorem each_reads {X : Cx} {pins : List (Addr × Obj)} {σ : L2.St} {H : Hp} {s : Shared} (I : Inv X pins σ H s) {xs : List V} {its : List Value} (r : Vals xs its) : ∀ {ds : List PyData}, DpAll X.K H xs ds → PySem.W.EachIs (fun u (p : V × PyData) => ∃ as, Reads s.heap u p.2 as) its (xs.zip ds) := by
  induction r with
  | nil => intro ds h; cases h; exact .nil
  | cons h t ih =>
    intro ds hd
    cases hd with
    | cons d1 d2 => exact .cons (Dp.reads I _ _ _ d1 h) (ih d2)
def byData (xs : List V) (ds : List PyData) : List V := ((xs.zip ds).mergeSort (PySem.W.dataLe false fun p => p.2)).map (·.1)
def rSortD (K : PySem.W.Frag) : List V → Hp → VK → Prop := fun vs H Q => ∃ (a : Addr) (xs : List V) (ds : List PyData), vs = [.ref a] ∧ SqL K H a xs ∧ DpAll K H xs ds ∧ xs.length = ds.length ∧ PySem.W.AllAlike ds ∧ PySem.W.Sortable ds ∧ (∀ d ∈ ds, d.depth ≤ 60) ∧ ∀ D, H D = none → Q (.ref D) (upd H D (.lst (byData xs ds)))
theorem cr_sortD {X : Cx} (hu : X.A.units + 200 < cLine) : CallR X (.builtin "sorted") (rSortD X.K) := by
  intro pins s σ H vs us Q I r h
  obtain ⟨a, xs, ds, rfl, hs, hd, hlen, hal, hso, hdp, q⟩ := h
  obtain ⟨u, rfl, ru⟩ := vals1 r
  cases ru
  obtain ⟨its, rv, pl, hz⟩ := I.list hs
  have lb : (xs.zip ds).length = xs.length := by rw [List.length_zip, hlen, Nat.min_self]
  have em : (xs.zip ds).map (fun p => p.2) = ds := by rw [List.map_snd_zip]; omega
  refine PySem.W.sorted_data (vs := its) (bs := xs.zip ds) (R := fun u (p : V × PyData) => RelV p.1 u) (enc := fun p => p.2) pl.isList (each_zipD rv hlen) (each_reads I rv hd) (by rw [em]; exact hal) (by rw [em]; exact hso) (by rw [lb]; exact hz) (fun p hp => ?_) fun out lo eo => ?_
  · have : p.2 ∈ ds := by rw [← em]; exact List.mem_map_of_mem hp
    have := hdp _ this
    omega
  · obtain ⟨ep, he'⟩ := PyProof.Rows.sortedAll_at s.heap its (List.toArray out)
    have lout : (byData xs ds).length = xs.length := by unfold byData; rw [List.length_map, List.length_mergeSort, lb]
    refine ⟨.ref _, upd H (s.heap.objs.size + 1) (.lst (byData xs ds)), I.laid (t' := s.toks) (fun _ _ => PyProof.Rows.sortedAll_old) (Nat.le_succ _) ⟨by rw [lout]; exact hz, out, ep, each_valsD eo, by simpa using he'⟩, rfl, q _ (I.hok.fresh (Nat.le_succ _))⟩
end HE
namespace Mine
open PySem PySem.Spec PyProof.Rows L2
variable {P : Program} {w : World} {K : PySem.W.Frag} {mg : Str → Option Value} {base : Heap}
/-- a def whose code object's address is known -/
def OwnC (K : PySem.W.Frag) (mg : Str → Option Value) (x : Str) (st : Stmt) (c : Addr) : Prop := ∃ (f : Addr) (oc : Value) (od : Option Addr) (kV doc pm : Value) (an : Option Addr) (ct : Value) (osl : Array (Option Value)),
  K.lookup f = some ⟨oc, od, .func (PySem.W.fnOf x x (defArgs st) (defBody st) (defScope st) .none kV doc pm an (.ref c) ct), osl⟩ ∧ PySem.W.codeIn K (.ref c) x = true ∧ PySem.W.keepIn K (.ref f) = true ∧ mg x = some (.ref f)
theorem has0C {x : Str} {st : Stmt} {N ps : List Str} {k : Nat} {sp : Sp} {c : Addr} (O : OwnC K mg x st c) (S : FnScope N ps (defScope st))
    (hb : ∀ (kV doc pm : Value) (an : Option Addr) (cdv ct : Value) (us : List Value), us.length = ps.length → bindArgs (PySem.W.fnOf x x (defArgs st) (defBody st) (defScope st) .none kV doc pm an cdv ct) ⟨us, []⟩ = pure (ps.zip us))
    (len : ∀ vs H Q E, sp vs H Q E → vs.length = ps.length)
    (body : ∀ (f : Addr) (A : Around) (outer : List Env) (s : Shared) (H : Hp) (vs : List V) (Q : VK) (E : XK), Room k (A.deeper (PyProof.Rows.envOfC x (defScope st) s.heap.objs.size f (.ref c))) → sp vs H Q E →
      ∃ t, PSs (cxOf CX0 P w K mg base N x (defScope st) f (.ref c) A outer s H E).nox (defBody st) t ∧ t { nx := fun _ H' => Q .non H', rt := Q } (start N vs) H) :
    HasF P w K mg base CX0 (k + 1) x ps sp := by
  obtain ⟨f, oc, od, kV, doc, pm, an, ct, osl, lk, hcd, kp, m⟩ := O
  have F : Fun K x x st f (PySem.W.fnOf x x (defArgs st) (defBody st) (defScope st) .none kV doc pm an (.ref c) ct) := fun_mk lk hcd kp
  refine ⟨f, _, ?_, m, kp, F.binds hb⟩
  refine fn_of lk hcd S len fun A outer s H vs Q E hr hsp => ?_
  obtain ⟨t, h, q⟩ := body f A outer s H vs Q E hr hsp
  exact ⟨t, h.nox, q⟩
end Mine

/-! ### KitM -/
/-! sorted(t) of a tuple of ints -/
namespace SrtO
open PySem PyProof.Rows Srt
section
variable {prog : Program} {w : World} {A : Around} {E : Value → Shared → Prop} {s : Shared}
theorem collect_tup {l : Addr} {vs : List Value} {Q : List Value → Shared → Prop} (hl : s.heap.IsTuple l vs.toArray)
    (h : Q vs { s with heap := (s.heap.push (seqObj "list" #[] 0)).update s.heap.objs.size (Obj.mapSeq (· ++ vs.toArray)) }) (hsz : vs.length ≤ sizeLine) :
    wpAny (model prog w) A (collect (.ref l)) Q E s := by
  obtain ⟨o, ho, hc, n, hd⟩ := id hl
  unfold collect
  refine wpAny_bind (wpAny_runValue (codeAny_builtin entry_proto_collect' ?_))
  show wpAny _ _ (do again (.builtin "list.__iadd__" ⟨[← newList [], .ref l], []⟩)) _ _ s
  refine wpAny_bind (wpAny_newList (wpAny_pure ⟨Code.quiet_builtin _ (by decide +kernel), codeAny_builtin entry_list_iadd' ?_⟩))
  show wpAny _ _ (Builtin.List.listExtendWith (.ref s.heap.objs.size) (.ref l) (.ref s.heap.objs.size)) _ _ { s with heap := s.heap.push (seqObj "list" #[] 0) }
  unfold Builtin.List.listExtendWith
  have ho' : (s.heap.push (seqObj "list" #[] 0)).get? l = some o := Heap.get?_push_of_some _ ho
  refine wpAny_bind (wpAny_typeOf (T := "tuple") ⟨o, ho', hc⟩ ?_)
  have ht : (Value.type "tuple" == Value.type "tuple") = true := by rfl
  rw [if_pos (by rw [ht]; simp)]
  refine wpAny_bind (listItems_at ho' hd ?_)
  refine wpAny_bind (listItems_at (xs := #[]) (n := 0) (Heap.get?_push_size _ rfl) rfl ?_)
  rw [if_neg (by simp)]
  refine wpAny_bind (listUpdate_at (xs := #[]) (n := 0) (Heap.get?_push_size _ rfl) rfl ?_ (Nat.zero_le _) (by show (#[] ++ vs.toArray).size ≤ sizeLine + 1; simp only [Array.size_append, List.size_toArray, List.length_nil]; omega))
  refine wpAny_pure ?_
  show wpAny (model prog w) A (do
      let o ← load s.heap.objs.size
      match o.data with
      | .seq xs _ => pure xs.toList
      | _ => unsupported "internal:collect") Q E { s with heap := (s.heap.push (seqObj "list" #[] 0)).update s.heap.objs.size (Obj.mapSeq (· ++ vs.toArray)) }
  refine wpAny_bind (wpAny_load (get?_update_seq (Heap.get?_push_size _ rfl) _) ?_)
  show wpAny _ _ (pure ((#[] : Array Value) ++ vs.toArray).toList) Q E _
  rw [show ((#[] : Array Value) ++ vs.toArray).toList = vs by simp]
  exact wpAny_pure h
theorem sorted_ordT {l : Addr} {vs : List Value} {ltv : Value → Value → Bool} {Q : Value → Shared → Prop} (O : Swo ltv) (hl : s.heap.IsTuple l vs.toArray) (hz : vs.length ≤ sizeLine)
    (hS : 2 ≤ vs.length → ∀ (h₁ : Heap) (a : Addr), h₁.get? a = some (seqObj "list" vs.toArray 0) → (∀ b o, s.heap.get? b = some o → b ≠ a ∧ h₁.get? b = some o) → SortableO prog w A.in1.in1 { s with heap := h₁ } a vs ltv)
    (h : ∀ out : List Value, Srtd ltv out → Stb ltv out vs → Q (.ref (s.heap.objs.size + 1)) { s with heap := sortedAll s.heap vs out.toArray }) :
    wpAny (model prog w) A (call (.builtin "sorted") [.ref l]) Q E s := by
  refine Calls.call_function_entry kind_sorted plain_sorted entry_sorted (args_sorted1 _) ?_
  unfold Builtin.«sorted»
  refine wpAny_bind (m := checkCount "sorted" 1 1 _) (wpAny_pure ?_)
  refine wpAny_bind (collect_tup hl ?_ hz)
  refine wpAny_bind (wpAny_newList ?_ hz)
  have hsz : ((s.heap.push (seqObj "list" #[] 0)).update s.heap.objs.size (Obj.mapSeq (· ++ vs.toArray))).objs.size = s.heap.objs.size + 1 := by
    rw [Heap.size_update, size_push']
  have hoL : (((s.heap.push (seqObj "list" #[] 0)).update s.heap.objs.size (Obj.mapSeq (· ++ vs.toArray))).push (seqObj "list" vs.toArray 0)).get? (s.heap.objs.size + 1) = some (seqObj "list" vs.toArray 0) := by
    rw [← hsz]; exact Heap.get?_push_size _ rfl
  have keep : ∀ b o, s.heap.get? b = some o → b ≠ s.heap.objs.size + 1 ∧ (((s.heap.push (seqObj "list" #[] 0)).update s.heap.objs.size (Obj.mapSeq (· ++ vs.toArray))).push (seqObj "list" vs.toArray 0)).get? b = some o := fun b o q => by
    have hlt : b < s.heap.objs.size := Heap.lt_size q
    refine ⟨Nat.ne_of_lt (Nat.lt_succ_of_lt hlt), Heap.get?_push_of_some _ ?_⟩
    rw [Heap.get?_update_ne _ _ _ _ (Nat.ne_of_lt hlt)]
    exact Heap.get?_push_of_some _ q
  show wpAny _ _ _ _ _ { s with heap := ((s.heap.push (seqObj "list" #[] 0)).update s.heap.objs.size (Obj.mapSeq (· ++ vs.toArray))).push (seqObj "list" vs.toArray 0) }
  rw [hsz]
  refine wpAny_bind (wpAny_holding (wpAny_call_entry slot_list_sort ⟨_, hoL, rfl⟩ entry_list_sort (list_sort_ord O hoL hz (fun h2 => hS h2 _ _ hoL keep) fun out hs hb => ⟨_, rfl, ?_⟩) (args_list_sort _)))
  exact wpAny_pure ⟨_, rfl, h out hs hb⟩
end
end SrtO
namespace HE
open PySem PySem.Spec PyProof.Rows L2
/-- sorted(t) of ints, a new list -/
def rSortTI (K : PySem.W.Frag) : List V → Hp → VK → Prop := fun vs H Q => ∃ (a : Addr) (ns : List Int), vs = [V.ref a] ∧ SqT K H a (ns.map V.int) ∧
  ∀ (ns' : List Int) (p : Addr), ns'.Perm ns → ns'.Pairwise (· ≤ ·) → H p = none → Q (.ref p) (upd H p (.lst (ns'.map V.int)))
theorem cr_sortedTI {X : Cx} : CallR X (.builtin "sorted") (rSortTI X.K) := by
  intro pins s σ H vs us Q I r h
  obtain ⟨a, ns, rfl, hs, q⟩ := h
  obtain ⟨its, rv, pt, hz⟩ := I.tuple hs
  rw [Vals.ref1 r]
  have hi := rv.ints
  refine SrtO.sorted_ordT SrtO.swo_int pt (by rw [← rv.length]; exact hz) (fun h2 h₁ a' _ _ => SrtO.ints_sortable hi h2) fun out h1 h2 => ?_
  obtain ⟨k1, k2, k3⟩ := SrtO.ints_out hi h1 h2
  obtain ⟨ep, he'⟩ := PyProof.Rows.sortedAll_at s.heap its out.toArray
  have hlen : ((out.map SrtO.iv).map V.int).length ≤ sizeLine := by
    rw [List.length_map, k2.length_eq]
    rw [List.length_map] at hz
    exact hz
  exact ⟨.ref _, upd H (s.heap.objs.size + 1) (.lst ((out.map SrtO.iv).map V.int)), I.laid (t' := s.toks) (fun _ _ => PyProof.Rows.sortedAll_old) (Nat.le_succ _) ⟨hlen, out, ep, vals_of_ints k1, he'⟩, rfl, q _ _ k2 k3 (I.hok.fresh (Nat.le_succ _))⟩
theorem kSortTI (K : PySem.W.Frag) {X : Cx} (h : X.K = K := by rfl) : CallR X (.builtin "sorted") (rSortTI K) := by
  subst h
  exact cr_sortedTI
/-- a comprehension over enumerate of a tuple -/
theorem lcET {K : PySem.W.Frag} {a : Addr} {xs : List V} {g : TG} {tt : TT} {te : TE} {vs : List Nat} {σ : L2.St} {H1 : Hp} {D : Addr} {Qd : Hp → Prop} (Pv : Nat → Hp → Prop) (h0 : Pv 0 (upd H1 D (.lst []))) (hl : ∀ i H, i ≤ xs.length → Pv i H → SqT K H a xs)
    (hs : ∀ (i : Nat) (x : V) (t : Addr) (H : Hp), xs[i]? = some x → Pv i H → H t = none → g (.ref t) (wipe σ vs) (upd H t (.tup [.int (i : Nat), x])) fun σ2 H2 => wipe σ2 vs = wipe σ vs ∧ tt σ2 H2 fun b H3 =>
      if b = true then te σ2 H3 fun y H4 => ∃ acc, H4 D = some (.lst acc) ∧ acc.length < sizeLine ∧ Pv (i + 1) (upd H4 D (.lst (acc ++ [y]))) else Pv (i + 1) H3) (hd : ∀ H, Pv xs.length H → Qd H) :
    ∃ W : Nat → Nat → Hp → Prop, (∃ m, W 0 m (upd H1 D (.lst []))) ∧ ∀ i m H, W i m H →
      ((IteT K a).stop i H ∧ Qd H) ∨ ((IteT K a).go i H ∧ ∃ Nx : Hp → Prop, (∀ H', Nx H' → ∃ m', m' < m ∧ W (i + 1) m' H') ∧ ∀ x H', (IteT K a).yld i H x H' → g x (wipe σ vs) H' fun σ2 H2 => wipe σ2 vs = wipe σ vs ∧ tt σ2 H2 fun b H3 =>
        if b = true then te σ2 H3 fun y H4 => ∃ acc, H4 D = some (.lst acc) ∧ acc.length < sizeLine ∧ Nx (upd H4 D (.lst (acc ++ [y]))) else Nx H3) := by
  refine ⟨fun i m H => m = xs.length - i ∧ i ≤ xs.length ∧ Pv i H, ⟨xs.length, by simp, Nat.zero_le _, h0⟩, ?_⟩
  rintro i m H ⟨rfl, hi, pv⟩
  have sq := hl i H hi pv
  rcases Nat.lt_or_ge i xs.length with hlt | hge
  · refine .inr ⟨⟨xs, _, sq, List.getElem?_eq_getElem hlt⟩, Pv (i + 1), fun H' p' => ⟨xs.length - (i + 1), by omega, rfl, hlt, p'⟩, ?_⟩
    rintro v H' ⟨t, x, rfl, ht, rfl, hx⟩
    exact hs i x t H (hx xs sq) pv ht
  · have : i = xs.length := by omega
    subst this
    exact .inl ⟨⟨xs, sq, Nat.le_refl _⟩, hd H pv⟩
end HE

/-! ### KitO -/
namespace Mine
open PySem PySem.Spec L2
/-! ## data: what is alike is the same -/
mutual
theorem eqv_eq : ∀ d e : PyData, dat d → dat e → PyData.eqv d e = true → d = e
  | .none, e, _, he, h => by
    cases e <;> first | rfl | (simp [PyData.eqv] at h) | (simp only [dat] at he)
  | .int a, e, _, he, h => by
    cases e with
    | int b =>
      have : a = b := by simpa [PyData.eqv] using h
      rw [this]
    | bool b => simp only [dat] at he
    | _ => simp [PyData.eqv] at h
  | .str a, e, _, he, h => by
    cases e with
    | str b =>
      have : a = b := by simpa [PyData.eqv] using h
      rw [this]
    | _ => simp [PyData.eqv] at h
  | .tuple xs, e, hd, he, h => by
    cases e with
    | tuple ys =>
      have h1 : xs.length ≤ 1000 ∧ dats xs := by simpa only [dat] using hd
      have h2 : ys.length ≤ 1000 ∧ dats ys := by simpa only [dat] using he
      simp only [PyData.eqv] at h
      rw [eqvs_eq xs ys h1.2 h2.2 h]
    | _ => simp [PyData.eqv] at h
  | .bool _, _, h, _, _ => by simp only [dat] at h
  | .list _, _, h, _, _ => by simp only [dat] at h
  | .dict _, _, h, _, _ => by simp only [dat] at h
theorem eqvs_eq : ∀ xs ys : List PyData, dats xs → dats ys → PyData.eqvAll xs ys = true → xs = ys
  | [], ys, _, _, h => by
    cases ys with
    | nil => rfl
    | cons y r => simp [PyData.eqvAll] at h
  | x :: xs, ys, hx, hy, h => by
    cases ys with
    | nil => simp [PyData.eqvAll] at h
    | cons y r =>
      have h1 : dat x ∧ dats xs := by simpa only [dats] using hx
      have h2 : dat y ∧ dats r := by simpa only [dats] using hy
      simp only [PyData.eqvAll, Bool.and_eq_true] at h
      rw [eqv_eq x y h1.1 h2.1 h.1, eqvs_eq xs r h1.2 h2.2 h.2]
end
theorem eqv_iff {d e : PyData} (hd : dat d) (he : dat e) : PyData.eqv d e = true ↔ d = e := ⟨eqv_eq d e hd he, fun h => by rw [h]; exact eqv_same e he⟩
/-- a thing that may stand in a bent paper -/
structure Bt (K : PySem.W.Frag) (H : Hp) (v : V) (d : PyData) : Prop where
  r : Rp K H v d
  dt : dat d
  dp : d.depth ≤ 60
theorem Bt.mono {K : PySem.W.Frag} {H H' : Hp} {v : V} {d : PyData} (h : Bt K H v d) (e : Ext K H H') : Bt K H' v d := ⟨h.r.mono e _ _, h.dt, h.dp⟩
/-- two things are compared -/
theorem neq_bt {K : PySem.W.Frag} {H : Hp} {x y : V} {d e : PyData} {Q : VK} (h1 : Bt K H x d) (h2 : Bt K H y e) (q : ∀ b : Bool, (b = true ↔ d ≠ e) → Q (.bl b) H) : rNeG K x y H Q := by
  refine g_neD (Rp.dp _ _ h1.r) (Rp.dp _ _ h2.r) (dat_lay _ h1.dt) (dat_lay _ h2.dt) (Nat.le_trans (Nat.min_le_left _ _) (by have := h1.dp; omega)) (q _ ?_)
  have := eqv_iff h1.dt h2.dt
  cases hb : PyData.eqv d e with
  | true => rw [hb] at this; simp [this.mp rfl]
  | false =>
    rw [hb] at this
    simp only [Bool.not_false, true_iff, ne_eq]
    intro z
    exact absurd (this.mpr z) (by simp)
theorem eq_bt {K : PySem.W.Frag} {H : Hp} {x y : V} {d e : PyData} {Q : VK} (h1 : Bt K H x d) (h2 : Bt K H y e) (q : ∀ b : Bool, (b = true ↔ d = e) → Q (.bl b) H) : rEqG K x y H Q := by
  refine g_eqD (Rp.dp _ _ h1.r) (Rp.dp _ _ h2.r) (dat_lay _ h1.dt) (dat_lay _ h2.dt) (Nat.le_trans (Nat.min_le_left _ _) (by have := h1.dp; omega)) (q _ ?_)
  exact eqv_iff h1.dt h2.dt
theorem Bt.shaped {K : PySem.W.Frag} {H : Hp} {v : V} {d : PyData} (h : Bt K H v d) : SeqAt.shaped d = true := by
  show (d.canLay0 && decide (d.depth ≤ 64)) = true
  rw [dat_lay _ h.dt, decide_eq_true (by have := h.dp; omega)] <;> rfl
/-- things of a list -/
structure Bts (K : PySem.W.Frag) (H : Hp) (vs : List V) (ds : List PyData) : Prop where
  r : Rps K H vs ds
  dt : dats ds
  dp : PyData.depthAll ds ≤ 50
theorem dats_all : ∀ {ds : List PyData}, dats ds → ∀ d ∈ ds, dat d
  | [], _, _, z => by cases z
  | x :: r, h, d, z => by
    have h' : dat x ∧ dats r := by simpa only [dats] using h
    rcases List.mem_cons.mp z with rfl | z
    · exact h'.1
    · exact dats_all h'.2 d z
theorem dats_of : ∀ {ds : List PyData}, (∀ d ∈ ds, dat d) → dats ds
  | [], _ => trivial
  | x :: r, h => ⟨h x List.mem_cons_self, dats_of fun d z => h d (List.mem_cons_of_mem _ z)⟩
theorem depth_of : ∀ {ds : List PyData} {n : Nat}, (∀ d ∈ ds, d.depth ≤ n) → PyData.depthAll ds ≤ n
  | [], n, _ => by simp [PyData.depthAll]
  | x :: r, n, h => by
    have h1 := h x List.mem_cons_self
    have h2 := depth_of (ds := r) (n := n) fun d z => h d (List.mem_cons_of_mem _ z)
    simp only [PyData.depthAll]
    omega
theorem Bts.shaped {K : PySem.W.Frag} {H : Hp} {vs : List V} {ds : List PyData} (h : Bts K H vs ds) : SeqAt.shaped (.list ds) = true := by
  have h2 : PyData.depth (.list ds) ≤ 64 := by
    have := h.dp
    simp only [PyData.depth]
    omega
  show (PyData.canLay0 (.list ds) && decide (PyData.depth (.list ds) ≤ 64)) = true
  rw [Bool.and_eq_true]
  exact ⟨by simp only [PyData.canLay0]; exact dats_lay ds h.dt, decide_eq_true h2⟩
theorem Bts.tup {K : PySem.W.Frag} {H : Hp} {a : Addr} {vs : List V} {ds : List PyData} (h : Bts K H vs ds) (s : SqT K H a vs) (hl : ds.length ≤ 1000) : Bt K H (.ref a) (.tuple ds) := by
  refine ⟨.tup s h.r, ?_, ?_⟩
  · simp only [dat]
    exact ⟨hl, h.dt⟩
  · have := h.dp
    simp only [PyData.depth]
    omega
section
variable {X : Cx} (K : PySem.W.Frag)
/-- x in xs, x and the items any things -/
theorem kInD (hu : X.A.units + 200 < cLine) (h : X.K = K := by rfl) : OpR X (compareOp .In) (L2.rInD K) := by subst h; exact L2.op_inD (by omega)
/-- xs.index(x) -/
theorem kIndexD (hu : X.A.units + 200 < cLine) (h : X.K = K := by rfl) : MtR X "list.index" (L2.rIndexD K) := by subst h; exact L2.mt_indexD (by omega)
end
section
variable {K : PySem.W.Frag} {H : Hp} {Q : VK} {a : Addr} {x : V} {d : PyData} {xs : List V} {ds : List PyData}
theorem u_inBt (hx : Bt K H x d) (s : SqL K H a xs) (r : Bts K H xs ds) (q : ∀ b : Bool, (b = true ↔ d ∈ ds) → Q (.bl b) H) : L2.rInD K x (.ref a) H Q := by
  refine ⟨d, ds, Rp.dp _ _ hx.r, .lst s (Rps.dp _ _ r.r), hx.shaped, r.shaped, q _ ?_⟩
  rw [List.any_eq_true]
  constructor
  · rintro ⟨z, hz, e⟩
    rw [← eqv_eq z d (dats_all r.dt z hz) hx.dt e]
    exact hz
  · exact fun hz => ⟨d, hz, eqv_same d hx.dt⟩
theorem u_indexBt {j : Nat} (s : SqL K H a xs) (r : Bts K H xs ds) (hx : Bt K H x d) (hj : ds[j]? = some d) (hn : ∀ m, m < j → ds[m]? ≠ some d) (q : Q (.int (j : Nat)) H) : L2.rIndexD K (.ref a) [x] H Q :=
  ⟨a, x, d, ds, j, d, rfl, rfl, .lst s (Rps.dp _ _ r.r), Rp.dp _ _ hx.r, r.shaped, hx.shaped, hj, eqv_same d hx.dt, fun m z' hm hz => by
    cases e : PyData.eqv z' d with
    | false => rfl
    | true => exact absurd (eqv_eq z' d (dats_all r.dt z' (List.mem_of_getElem? hz)) hx.dt e ▸ hz) (hn m hm), q⟩
end
end Mine

/-! ### KitP -/
/-! dict(t) of a tuple of pairs, tuple(d.items()), list(zip(a, b)), comprehensions over a dict and its items -/
namespace HE
open PySem PySem.Spec PyProof.Rows L2
section
variable {X : Cx}
theorem pairs_at {pins : List (Addr × Obj)} {σ : L2.St} {H : Hp} {s : Shared} (I : Inv X pins σ H s) : ∀ {ps : List Addr} {kvs : List (Key × V)}, Paired (fun p kv => SqT X.K H p [kV kv.1, kv.2]) ps kvs →
    ∃ (prs : List (Key × Value)) (pv : List (Value × Value)), KV kvs prs ∧ prs.length = ps.length ∧ pv.length = ps.length ∧ ∀ (j : Nat) (b : Addr), ps[j]? = some b → ∃ (q : Key × Value) (u : Value), prs[j]? = some q ∧ pv[j]? = some (u, q.2) ∧ s.heap.IsTuple b #[u, q.2] ∧ keyIs q.1 u = true
  | _, _, .nil => ⟨[], [], .nil, rfl, rfl, fun j q e => by simp at e⟩
  | _, _, .cons (a := p) (b := kv) h t => by
    obtain ⟨prs, pv, r, hl, hl2, hp⟩ := pairs_at I t
    obtain ⟨its, rv, ht, _⟩ := I.tuple h
    obtain ⟨u, y, ei, ru, ry⟩ := vals2 rv
    subst ei
    refine ⟨(kv.1, y) :: prs, (u, y) :: pv, .cons ⟨rfl, ry⟩ r, by rw [List.length_cons, List.length_cons, hl], by rw [List.length_cons, List.length_cons, hl2], fun j b e => ?_⟩
    cases j with
    | zero =>
      obtain rfl := Option.some.inj e
      exact ⟨(kv.1, y), u, rfl, rfl, ht, kV_is (P := X.prog) (w := X.w) ru⟩
    | succ j => exact hp j b e
/-- dict(t) of a tuple of pairs -/
def rDictF (K : PySem.W.Frag) : List V → Hp → VK → Prop := fun xs H Q => ∃ (a : Addr) (ps : List Addr) (kvs : List (Key × V)), xs = [.ref a] ∧ FT H a (ps.map V.ref) ∧ Paired (fun p kv => SqT K H p [kV kv.1, kv.2]) ps kvs ∧ ∀ p, H p = none → Q (.ref p) (upd H p (.dK (mergeK [] kvs)))
theorem cr_dictF (hc : X.calm = true) : CallR X (.type "dict") (rDictF X.K) := by
  intro pins s σ H xs us Q I r q
  obtain ⟨a, ps, kvs, rfl, ⟨oa, hq, hdn⟩, hp, q⟩ := q
  obtain ⟨u, rfl, rx⟩ := vals1 r
  cases rx
  obtain ⟨ha, hz, its, rv, o2, ho2, hc2, n2, hd2⟩ := I.hok a _ hq
  rw [ha] at ho2
  obtain rfl := Option.some.inj ho2
  have ei := refs_at rv
  subst ei
  rw [List.length_map] at hz
  obtain ⟨prs, pv, rel, hl, hl2, hpr⟩ := pairs_at I hp
  have okA : PlainSeq "tuple" s.heap a (ps.map Value.ref).toArray ∧ PairItems s.heap (ps.map Value.ref).toArray (fun j => ps.getD j 0) pv := by
    refine ⟨⟨oa, n2, ha, hc2, hdn, hd2⟩, by simp [hl2], fun j k v e => ?_⟩
    obtain ⟨b, hb⟩ : ∃ b, ps[j]? = some b := ⟨_, List.getElem?_eq_getElem (by rw [← hl2]; exact (List.getElem?_eq_some_iff.mp e).1)⟩
    obtain ⟨q1, u1, _, e2, e3, _⟩ := hpr j b hb
    rw [e] at e2
    cases e2
    have eb : ps.getD j 0 = b := by rw [List.getD_eq_getElem?_getD, hb]; rfl
    refine ⟨?_, .inl ?_⟩
    · show (ps.map Value.ref).toArray[j]? = some (.ref (ps.getD j 0))
      rw [eb]
      simp [hb]
    · show s.heap.IsTuple (ps.getD j 0) _
      rw [eb]
      exact e3
  have have_ : PairsHave (mixKind X.prog X.w) pv.length (PairRel pv) prs := by
    refine ⟨by rw [hl, hl2], fun i key v e => ?_⟩
    have e : pv[i]? = some (key, v) := e
    obtain ⟨b, hb⟩ : ∃ b, ps[i]? = some b := ⟨_, List.getElem?_eq_getElem (by rw [← hl2]; exact (List.getElem?_eq_some_iff.mp e).1)⟩
    obtain ⟨q1, u1, e1, e2, _, e4⟩ := hpr i b hb
    rw [e] at e2
    cases e2
    exact ⟨q1.1, e1, e4⟩
  refine PySem.call_dict_pairs (knd := mixKind X.prog X.w) (kvs := prs) (PairArg.tuple a (ps.map Value.ref).toArray (fun j => ps.getD j 0) pv) (I.ok.hd hc) okA have_ (by rw [hl2]; exact hz) fun h' tk hd' k => ?_
  have hm : (s.heap.objs.size == sysModules) = false := beq_eq_false_iff_ne.mpr (Nat.ne_of_gt I.big)
  have hlen : (mergeK [] kvs).length ≤ sizeLine := by
    refine Nat.le_trans (length_mergeK kvs []) ?_
    rw [List.length_nil, Nat.zero_add, rel.length, hl]
    exact hz
  exact ⟨.ref s.heap.objs.size, upd H s.heap.objs.size (.dK (mergeK [] kvs)), I.laid (t' := tk) (fun b o e => k b o (by simp) e) (Nat.le_refl _) (show ObjOk X.prog X.w _ _ _ (.dK (mergeK [] kvs)) from ⟨hlen, hm, merged [] prs, KV.merge rel .nil, hd'⟩), rfl, q _ (I.hok.fresh (Nat.le_refl _))⟩
end
/-- tuple(d.items()): the model's call -/
theorem meets_tuple_view (r d : Addr) (es : Array DictEntry) (ep : Nat) (hn : es.size ≤ sizeLine) :
    Meets (Builtin.«tuple.__new__» ⟨[.type "tuple", .ref r], []⟩) (fun A R s => A.handled = none ∧ s.heap.IsItemsView r d ∧ s.heap.DictRaw d es ep ∧
      ∀ (h' : Heap) (tk : Nat) (as : List Addr), (∀ b o, s.heap.get? b = some o → h'.get? b = some o) → as.length = es.size → PySem.W.DilG es s.heap.objs.size h' as → R (.ok (.ret (.ref h'.objs.size))) { s with heap := h'.push { cls := .type "tuple", data := .seq (as.map Value.ref).toArray }, toks := tk }) :=
  .of_wp fun prog w A R s h => by
    obtain ⟨hp, g, dw, tk, os⟩ := s
    obtain ⟨hh, hv, hm, h⟩ := h
    have hv0 := hv
    obtain ⟨o, ho, hc, hd⟩ := hv0
    have hsub := sub_tuple_self
    have hinit := init_tuple_lookup
    have hmh := madeHere_tuple
    have hT : Shared.TypeIs ⟨hp, g, dw, tk, os⟩ (.ref r) "dict_items" := ⟨o, ho, hc⟩
    wp_walk using wpAny_loadPart' ho, wpAny_typeOf hT, PySem.W.dil_collect (A := A.in1) hh hv hm hn
    intro h' tk1 as hk hl hG
    show wpAny _ _ (Builtin.Tuple.tupleExact (as.map Value.ref).toArray >>= fun v => ret v) _ _ _
    unfold Builtin.Tuple.tupleExact
    refine wpAny_bind (wpAny_newObj_type ?_ (by show (as.map Value.ref).toArray.size ≤ sizeLine; simp [hl]; exact hn))
    exact wpAny_pure ⟨_, rfl, h h' tk1 as hk hl hG⟩
theorem call_tuple_view {prog : Program} {w : World} {A : Around} {E : Value → Shared → Prop} {s : Shared} {r d : Addr} {es : Array DictEntry} {ep : Nat} {Q : Value → Shared → Prop} (hh : A.handled = none) (hv : s.heap.IsItemsView r d) (hm : s.heap.DictRaw d es ep) (hn : es.size ≤ sizeLine)
    (h : ∀ (h' : Heap) (tk : Nat) (as : List Addr), (∀ b o, s.heap.get? b = some o → h'.get? b = some o) → as.length = es.size → PySem.W.DilG es s.heap.objs.size h' as → Q (.ref h'.objs.size) { s with heap := h'.push { cls := .type "tuple", data := .seq (as.map Value.ref).toArray }, toks := tk }) :
    wpAny (model prog w) A (call (.type "tuple") [.ref r]) Q E s :=
  callType_new F.called_tuple (by decide) (F.typeCall_tuple_1 _) (F.newCall_tuple_1 _) (fun obj => F.args_object_init_2 obj _) F.entry_tuple_new
    (meets_tuple_view r d es ep hn) ⟨hh, hv, hm, fun h' tk as hk hl hG => ⟨⟨_, Heap.get?_push_size _ rfl, rfl⟩, h h' tk as hk hl hG⟩⟩
section
variable {X : Cx}
/-- pairs of a dict as new tuples, tracked -/
theorem tups_laid {pins : List (Addr × Obj)} {σ : L2.St} {H : Hp} {s : Shared} {h' : Heap} {tk : Nat} {kvs : List (Key × V)} {vs : List (Key × Value)} {es : Array DictEntry} {as : List Addr} (I : Inv X pins σ H s) (kv : KV kvs vs) (hk : ∀ b o, s.heap.get? b = some o → h'.get? b = some o) (hl : as.length = es.size)
    (hes : es.size = vs.length) (hat : ∀ i (hi : i < es.size) k v, vs[i]? = some (k, v) → keyIs k es[i].key = true ∧ es[i].val = v) (hG : PySem.W.DilG es s.heap.objs.size h' as) :
    ∃ H' : Hp, (∀ b o, H b = some o → H' b = some o) ∧ (∀ t ∈ as, H t = none) ∧ Paired (fun (t : Addr) (q : Key × V) => H' t = some (.tup [kV q.1, q.2])) as kvs ∧ Inv X pins σ H' { s with heap := h', toks := tk } := by
  have lk : kvs.length = vs.length := Paired.length kv
  have nd : as.Nodup := hG.rise.imp fun {a b} (h : a < b) => Nat.ne_of_lt h
  have new : ∀ t ∈ as, H t = none := fun t ht => I.hok.fresh (Nat.le_of_lt (hG.above t ht))
  have atP := LiI.putT_at as kvs H (by omega) nd
  have kp : ∀ b u, H b = some u → (LiI.putT H as kvs) b = some u := fun b u e => by
    rw [LiI.putT_off as kvs H fun z => by rw [new b z] at e; cases e]
    exact e
  refine ⟨LiI.putT H as kvs, kp, new, atP, I.call' (ch := []) rfl ⟨fun b o q _ _ _ => hk b o q, fun b o q _ _ _ => ⟨o.slots, hk b o q⟩, fun b o q n _ => ?_, fun b o q _ => ⟨o, hk b o q⟩, fun b xs q => kp b _ q, fun b o u q => kp b _ q, fun b ps q => ⟨#[], by rw [kp b _ q]; simp⟩⟩ (fun b u q => ?_) I.bare fun b z => by simp at z⟩
  · rw [LiI.putT_off as kvs H fun z => absurd (Heap.lt_size q) (Nat.not_lt.mpr (Nat.le_of_lt (hG.above b z)))]
    exact n
  · by_cases hb : b ∈ as
    · obtain ⟨j, pk, e1, e2, e3⟩ := LiI.paired_ix atP hb
      rw [e3] at q
      cases q
      obtain ⟨hj, f3⟩ := hG.pairs j b e1
      obtain ⟨qv, g1, g2, g3⟩ := LiI.paired_get kv e2
      obtain ⟨k1, k2⟩ := hat j hj qv.1 qv.2 g1
      have rk : RelV (kV pk.1) es[j].key := by
        rw [g2]
        exact relV_key k1
      exact ⟨by show 2 ≤ sizeLine; decide, [es[j].key, es[j].val], .cons rk (.cons (by rw [k2]; exact g3) .nil), ⟨_, f3, rfl, _, rfl⟩⟩
    · rw [LiI.putT_off as kvs H hb] at q
      exact (I.hok b u q).stay (fun d v _ y => hk d v y) (fun d y => kp d _ y) fun d xs y => kp d _ y
def rItemsT2 : V → Hp → VK → Prop := fun x H Q => ∃ (d : Addr) (kvs : List (Key × V)), x = .ref d ∧ H d = some (.dK kvs) ∧
  ∀ (H' : Hp) (p : Addr) (ts : List Addr), (∀ b o, H b = some o → H' b = some o) → H p = none → H' p = none → Paired (fun (t : Addr) (q : Key × V) => H' t = some (.tup [kV q.1, q.2])) ts kvs → ∀ o : Obj, o.dict = none → Q (.ref p) (upd H' p (.frz o (.tup (ts.map V.ref))))
def tTupItems (te : TE) : TE := fun σ H Q => te σ H fun x H1 => rItemsT2 x H1 Q
/-- tuple(e.items()) -/
theorem pe_tupItems {e : Expr} {te : TE} {p apos cpos pos : Pos} (hc : X.calm = true) (he : PE X e te) (hg : Gl X "tuple") (hm : X.mg "tuple" = none) (hv : bootBuiltins "tuple" = some (.type "tuple")) (hbase : attributeBase e "items" X.env (eval e X.env) = eval e X.env := by rfl) (hline : (apos.endLine == cpos.line) = true := by rfl)
    (hs : starEach [.Call (.Attribute e "items" apos) [] [] cpos] X.env = (false, eval (.Call (.Attribute e "items" apos) [] [] cpos) X.env) :: starEach [] X.env := by rfl) :
    PE X (.Call (.Name "tuple" p) [.Call (.Attribute e "items" apos) [] [] cpos] [] pos) (tTupItems te) := by
  refine ⟨fun pins s σ H Q I hq => ?_⟩
  refine wpAny_Call_Name_kw (ld_blt I hg hm hv ?_)
  refine PyProof.Rows.callWith_type1 ?_ hs rfl
  rw [hs]
  show wpAny _ _ (spliced ((false, eval (.Call (.Attribute e "items" apos) [] [] cpos) X.env) :: backTo pos (starEach [] X.env))) _ _ s
  refine Calls.spliced_cons ?_
  refine wpAny_Call_method (T := "dict") (id := "dict.items") hbase rfl hline PySem.F.plainAttrs_dict PySem.F.slot_dict_items PySem.F.type_dict_items (thn (he.run pins s σ H _ I hq) fun u s1 ⟨x, H1, I1, rx, d, kvs, ex, hd, q⟩ => ?_)
  subst ex
  obtain rfl : u = Value.ref d := rx
  obtain ⟨hz, hs0, vs, kv, hdo⟩ := I1.hok d _ hd
  obtain ⟨ep, hat⟩ := hdo.dictAt
  have lk : kvs.length = vs.length := Paired.length kv
  have I2 : Inv X pins σ H1 { s1 with heap := s1.heap.push { cls := .type "dict_items", data := .fields #[.ref d] } } := I1.kept (t' := s1.toks) fun b ob q => Heap.get?_push_of_some _ q
  refine ⟨hdo.typeIs, hdo.mapOf.noDict, ?_⟩
  show wpAny _ _ (callWith cpos (.builtin "dict.items") [.ref d] [] []) _ X.xe s1
  refine method_meetsIn PySem.F.slot_dict_items PySem.F.entry_dict_items rfl (PySem.evalArgs_none ⟨rfl, hdo.typeIs, PySem.F.args_dict_items_1 _, _, meets_dict_items (mixKind X.prog X.w) d hs0, ⟨vs, hdo⟩, ?_⟩)
  refine Calls.spliced_nil ?_
  obtain ⟨es, hraw, hsz, hes⟩ := (hat.push { cls := .type "dict_items", data := .fields #[.ref d] }).raw
  refine call_tuple_view (I1.ok.hd hc) ⟨_, Heap.get?_push_size _ rfl, rfl, rfl⟩ hraw (by omega) fun h' tk as hk hl hG => ?_
  obtain ⟨H', k1, k2, k3, J⟩ := tups_laid (tk := tk) I2 kv hk hl hsz hes hG
  have hp' : H' h'.objs.size = none := J.hok.fresh (Nat.le_refl _)
  have hp : H1 h'.objs.size = none := by
    cases z : H1 h'.objs.size with
    | none => rfl
    | some u =>
      rw [k1 _ _ z] at hp'
      cases hp'
  exact ⟨.ref h'.objs.size, upd H' h'.objs.size (.frz { cls := .type "tuple", data := .seq (as.map Value.ref).toArray } (.tup (as.map V.ref))), J.laid (t' := tk) (fun b o e => Heap.get?_push_of_some _ e) (Nat.le_refl _) (show ObjOk X.prog X.w _ _ _ (.frz _ (.tup _)) from ⟨Heap.get?_push_size _ rfl, by rw [List.length_map]; omega, as.map Value.ref, LiI.vals_refs as, ⟨_, Heap.get?_push_size _ rfl, rfl, _, rfl⟩⟩), rfl, q H' _ as k1 hp hp' k3 _ rfl⟩
end
end HE

/-! ### KitZ -/
/-! list(zip(a, b)) of two lists: the pairs stay, each a tuple of its own -/
namespace ZpL
open PySem
/-- zip, its tuple T out of its hands -/
abbrev IsZo (h : Heap) (z TI TO T : Addr) (f : Bool) : Prop :=
  h.get? z = some { cls := .type "zip", dict := none, data := .fields #[rawInt T, .bool f, .bool false, .ref TI, .ref TO], slots := #[] }
section
variable {prog : Program} {w : World} {A : Around} {E : Value → Shared → Prop} {s : Shared} {z TI TO T i1 i2 l1 l2 : Addr} {f : Bool} {oT : Obj} {k1 k2 : Nat} {xs ys : Array Value} {x y : Value}
/-- up to the draws: the tuple is alive, so a new one is made -/
theorem not_free {α : Type} {k : Bool → Sem α} {Q : α → Shared → Prop} (hz : IsZo s.heap z TI TO T f) (hT : s.heap.get? T = some oT)
    (h : ∀ h1, IsZo h1 z TI TO T true → Heap.SameBut z s.heap h1 → wpAny (model prog w) A (k false) Q E { s with heap := h1 }) :
    wpAny (model prog w) A (Builtin.SmallTypes.ownedTupleIsFree (.ref z) >>= k) Q E s := by
  refine wpAny_bind ?_
  unfold Builtin.SmallTypes.ownedTupleIsFree
  refine wpAny_bind (wpAny_field hz rfl (x := rawInt T) rfl ?_)
  show wpAny _ _ (loadIfAlive ((T : Int).toNat) >>= _) _ _ _
  rw [Int.toNat_natCast]
  refine wpAny_bind (PySem.W.kdx_alive hT ?_)
  simp only [Option.isNone_some, Bool.false_eq_true, if_false]
  refine wpAny_bind (wpAny_field hz rfl (x := .bool f) rfl ?_)
  cases f with
  | true =>
    rw [if_neg (show ¬ ((Value.bool true != Value.bool true) = true) from Bool.false_ne_true)]
    exact wpAny_pure (h s.heap hz (Heap.SameBut.refl _ _))
  | false =>
    rw [if_pos (show (Value.bool false != Value.bool true) = true from rfl)]
    exact wpAny_bind (wpAny_setField_rec hz (by simp) fun h1 hz1 hs1 => wpAny_pure (h h1 hz1 hs1))
theorem kept_item {Q : Value → Shared → Prop} (D : ZipApart z TI TO i1 i2 l1 l2) (hz : IsZo s.heap z TI TO T f) (hT : s.heap.get? T = some oT) (hTI : IsPair s.heap TI (.ref i1) (.ref i2))
    (h1 : s.heap.IsListIter i1 l1 k1) (h2 : s.heap.IsListIter i2 l2 k2) (hl1 : s.heap.IsList l1 xs) (hl2 : s.heap.IsList l2 ys) (hx : xs[k1]? = some x) (hy : ys[k2]? = some y)
    (hQ : ∀ h', IsZo h' z TI TO T true → h'.IsListIter i1 l1 (k1 + 1) → h'.IsListIter i2 l2 (k2 + 1) → IsPair h' s.heap.objs.size x y → h'.objs.size = s.heap.objs.size + 1 →
      (∀ c o, c ≠ z → c ≠ i1 → c ≠ i2 → s.heap.get? c = some o → h'.get? c = some o) → Q (.ref s.heap.objs.size) { s with heap := h' }) :
    wpAny (model prog w) A (Builtin.«zip.__next__» ⟨[.ref z], []⟩) (fun fin s' => ∃ v, fin = .done (.ret v) ∧ Q v s') E s := by
  show wpAny _ _ (field (.ref z) 2 >>= _) _ _ _
  refine wpAny_bind (wpAny_field hz rfl (x := .bool false) rfl ?_)
  show wpAny _ _ (field (.ref z) 3 >>= _) _ _ _
  refine wpAny_bind (wpAny_field hz rfl (x := .ref TI) rfl ?_)
  refine wpAny_bind (wpAny_seqItems hTI rfl ?_)
  show wpAny _ _ (Builtin.SmallTypes.ownedTupleIsFree (.ref z) >>= _) _ _ _
  refine not_free hz hT fun g1 hz1 hs1 => ?_
  simp only [Bool.false_eq_true, if_false]
  refine wpAny_bind ?_
  simp only [List.forIn_toArray, List.forIn_cons, List.forIn_nil]
  refine wpAny_bind (wpAny_bind (wpAny_holding ?_))
  show wpAny _ _ (Builtin.SmallTypes.nextOf (.ref i1) >>= _) _ _ _
  refine wpAny_bind (wpAny_nextOf_list_item (h1.extBut hs1.extBut D.i1z) (hl1.extBut hs1.extBut D.l1z) hx fun g2 a2 hs2 => wpAny_pure (wpAny_pure ?_))
  refine wpAny_bind (wpAny_bind (wpAny_holding ?_))
  show wpAny _ _ (Builtin.SmallTypes.nextOf (.ref i2) >>= _) _ _ _
  refine wpAny_bind (wpAny_nextOf_list_item ((h2.extBut hs1.extBut D.i2z).extBut hs2.extBut D.i12.symm) ((hl2.extBut hs1.extBut D.l2z).extBut hs2.extBut D.l2i1) hy fun g3 a3 hs3 => wpAny_pure (wpAny_pure (wpAny_pure ?_)))
  show wpAny _ _ (newTuple [x, y] >>= fun v => ret v) _ _ _
  refine wpAny_bind (wpAny_newTuple (wpAny_pure ⟨_, rfl, ?_⟩))
  have up : ∀ c o, c ≠ z → c ≠ i1 → c ≠ i2 → s.heap.get? c = some o → g3.get? c = some o := fun c o c1 c2 c3 e => hs3.extBut _ _ c3 (hs2.extBut _ _ c2 (hs1.extBut _ _ c1 e))
  have sz : g3.objs.size = s.heap.objs.size := by rw [hs3.1, hs2.1, hs1.1]
  have e := hQ (g3.push { cls := .type "tuple", data := .seq #[x, y] }) (Heap.get?_push_of_some _ (hs3.extBut _ _ D.i2z.symm (hs2.extBut _ _ D.i1z.symm hz1))) ((a2.extBut hs3.extBut D.i12).at fun o e => Heap.get?_push_of_some _ e) (a3.at fun o e => Heap.get?_push_of_some _ e)
    (by rw [← sz]; exact Heap.get?_push_size _ rfl) (by rw [Heap.size_push, sz]) fun c o c1 c2 c3 e => Heap.get?_push_of_some _ (up c o c1 c2 c3 e)
  show Q (.ref g3.objs.size) _
  rw [sz]
  exact e
/-- it is over -/
theorem kept_end {Q : Fin → Shared → Prop} (hh : A.handled = none) (D : ZipApart z TI TO i1 i2 l1 l2) (hz : IsZo s.heap z TI TO T f) (hT : s.heap.get? T = some oT) (hTI : IsPair s.heap TI (.ref i1) (.ref i2))
    (h1 : s.heap.IsListIter i1 l1 k1) (h2 : s.heap.IsListIter i2 l2 k2) (hl1 : s.heap.IsList l1 xs) (hl2 : s.heap.IsList l2 ys) (hend : xs[k1]? = none ∨ ys[k2]? = none)
    (hE : ∀ h' e, (∀ c o, c ≠ z → c ≠ i1 → c ≠ i2 → s.heap.get? c = some o → h'.get? c = some o) → (∃ o, h'.get? e = some o ∧ o.cls = .type "StopIteration") → E (.ref e) { s with heap := h' }) :
    wpAny (model prog w) A (Builtin.«zip.__next__» ⟨[.ref z], []⟩) Q E s := by
  show wpAny _ _ (field (.ref z) 2 >>= _) _ _ _
  refine wpAny_bind (wpAny_field hz rfl (x := .bool false) rfl ?_)
  show wpAny _ _ (field (.ref z) 3 >>= _) _ _ _
  refine wpAny_bind (wpAny_field hz rfl (x := .ref TI) rfl ?_)
  refine wpAny_bind (wpAny_seqItems hTI rfl ?_)
  show wpAny _ _ (Builtin.SmallTypes.ownedTupleIsFree (.ref z) >>= _) _ _ _
  refine not_free hz hT fun g1 hz1 hs1 => ?_
  simp only [Bool.false_eq_true, if_false]
  refine wpAny_bind ?_
  simp only [List.forIn_toArray, List.forIn_cons, List.forIn_nil]
  refine wpAny_bind (wpAny_bind (wpAny_holding ?_))
  show wpAny _ _ (Builtin.SmallTypes.nextOf (.ref i1) >>= _) _ _ _
  cases hx : xs[k1]? with
  | none => exact wpAny_bind (wpAny_nextOf_list_end hh (h1.extBut hs1.extBut D.i1z) (hl1.extBut hs1.extBut D.l1z) hx fun g2 e hs2 he => hE g2 e (fun c o c1 c2 _ x => hs2 _ _ c2 (hs1.extBut _ _ c1 x)) he)
  | some x =>
    have hy : ys[k2]? = none := by rcases hend with h | h; rw [hx] at h; cases h; exact h
    refine wpAny_bind (wpAny_nextOf_list_item (h1.extBut hs1.extBut D.i1z) (hl1.extBut hs1.extBut D.l1z) hx fun g2 a2 hs2 => wpAny_pure (wpAny_pure ?_))
    refine wpAny_bind (wpAny_bind (wpAny_holding ?_))
    show wpAny _ _ (Builtin.SmallTypes.nextOf (.ref i2) >>= _) _ _ _
    exact wpAny_bind (wpAny_nextOf_list_end hh ((h2.extBut hs1.extBut D.i2z).extBut hs2.extBut D.i12.symm) ((hl2.extBut hs1.extBut D.l2z).extBut hs2.extBut D.l2i1) hy fun g3 e hs3 he => hE g3 e (fun c o c1 c2 c3 x => hs3 _ _ c3 (hs2.extBut _ _ c2 (hs1.extBut _ _ c1 x))) he)
/-- both states of the iterator, ahead of the first pair and behind it -/
def ZSt (h : Heap) (z TI TO i1 i2 l1 l2 S : Addr) (i : Nat) : Prop :=
  IsPair h TI (.ref i1) (.ref i2) ∧ h.IsListIter i1 l1 i ∧ h.IsListIter i2 l2 i ∧ ((i = 0 ∧ IsZip h z TI TO .none ∧ ∃ a b, IsPair h TO a b) ∨ ∃ (T : Addr) (f : Bool) (oT : Obj), IsZo h z TI TO T f ∧ h.get? T = some oT ∧ T ≠ z ∧ T ≠ i1 ∧ T ≠ i2 ∧ T ≠ S)
theorem zst_item {S : Addr} {i : Nat} {Q : Option Value → Shared → Prop} (D : ZipApart z TI TO i1 i2 l1 l2) (st : ZSt s.heap z TI TO i1 i2 l1 l2 S i) (hS : S < s.heap.objs.size) (hTO : TO ≠ S) (hl1 : s.heap.IsList l1 xs) (hl2 : s.heap.IsList l2 ys) (hx : xs[i]? = some x) (hy : ys[i]? = some y)
    (hQ : ∀ h', ZSt h' z TI TO i1 i2 l1 l2 S (i + 1) → IsPair h' s.heap.objs.size x y → h'.objs.size = s.heap.objs.size + 1 → (∀ c o, c ≠ z → c ≠ TO → c ≠ i1 → c ≠ i2 → s.heap.get? c = some o → h'.get? c = some o) → Q (some (.ref s.heap.objs.size)) { s with heap := h' }) :
    wpAny (model prog w) A (pyNext (.ref z)) Q E s := by
  obtain ⟨hTI, h1, h2, ⟨_, hz, a, b, hTOp⟩ | ⟨T, f, oT, hz, hT, t1, t2, t3, t4⟩⟩ := st
  · have lt : ∀ {c o}, s.heap.get? c = some o → s.heap.objs.size ≠ c := fun e => Nat.ne_of_gt (Heap.lt_size e)
    refine wpAny_pyNext_zip_item D hz hTI hTOp h1 h2 hl1 hl2 hx hy fun h' a1 a2 a3 a4 a5 a6 hk => hQ h' ⟨hk _ _ D.TIz D.TITO D.TIi1 D.TIi2 hTI, a3, a4, .inr ⟨_, false, _, a1, a5, lt hz, (by obtain ⟨_, e, _⟩ := h1; exact lt e), (by obtain ⟨_, e, _⟩ := h2; exact lt e), Nat.ne_of_gt hS⟩⟩ a5 a6 hk
  · have hTy : s.TypeIs (.ref z) "zip" := ⟨_, hz, rfl⟩
    unfold pyNext
    exact wpAny_bind (wpAny_attempt (wpAny_callSpecial?_slot (name := Str.ofString "__next__") hTy F.slot_zip_next (wpAny_call_entry F.slot_zip_next hTy F.entry_zip_next
      (kept_item D hz hT hTI h1 h2 hl1 hl2 hx hy fun h' a1 a3 a4 a5 a6 hk => wpAny_pure (hQ h' ⟨hk _ _ D.TIz D.TIi1 D.TIi2 hTI, a3, a4, .inr ⟨T, true, oT, a1, hk _ _ t1 t2 t3 hT, t1, t2, t3, t4⟩⟩ a5 a6 fun c o c1 _ c3 c4 e => hk c o c1 c3 c4 e)) (F.args_zip_next_1 _))))
theorem zst_end {S : Addr} {i : Nat} {Q : Option Value → Shared → Prop} (hh : A.handled = none) (D : ZipApart z TI TO i1 i2 l1 l2) (st : ZSt s.heap z TI TO i1 i2 l1 l2 S i) (hl1 : s.heap.IsList l1 xs) (hl2 : s.heap.IsList l2 ys) (hend : xs[i]? = none ∨ ys[i]? = none)
    (hQ : ∀ h', (∀ c o, c ≠ z → c ≠ TO → c ≠ i1 → c ≠ i2 → s.heap.get? c = some o → h'.get? c = some o) → Q none { s with heap := h' }) : wpAny (model prog w) A (pyNext (.ref z)) Q E s := by
  obtain ⟨hTI, h1, h2, ⟨_, hz, a, b, hTOp⟩ | ⟨T, f, oT, hz, hT, t1, t2, t3, t4⟩⟩ := st
  · exact wpAny_pyNext_zip_end hh D hz hTI hTOp h1 h2 hl1 hl2 hend hQ
  · have hTy : s.TypeIs (.ref z) "zip" := ⟨_, hz, rfl⟩
    unfold pyNext
    refine wpAny_bind (wpAny_attempt (wpAny_callSpecial?_slot (name := Str.ofString "__next__") hTy F.slot_zip_next (wpAny_call_entry F.slot_zip_next hTy F.entry_zip_next
      (kept_end hh D hz hT hTI h1 h2 hl1 hl2 hend fun h' e hk he => ?_) (F.args_zip_next_1 _))))
    obtain ⟨o, ho, hc⟩ := he
    refine wpAny_bind (wpAny_isInstance (T := "StopIteration") (b := true) ⟨o, ho, hc⟩ isSubtype_stop ?_)
    exact wpAny_pure (hQ _ fun c o c1 _ c3 c4 e => hk c o c1 c3 c4 e)
end
theorem ZSt.keep {h h' : Heap} {z TI TO i1 i2 l1 l2 S : Addr} {i : Nat} (x : ZSt h z TI TO i1 i2 l1 l2 S i) (hk : ∀ b o, b ≠ S → h.get? b = some o → h'.get? b = some o) (n1 : z ≠ S) (n2 : TI ≠ S) (n3 : TO ≠ S) (n4 : i1 ≠ S) (n5 : i2 ≠ S) : ZSt h' z TI TO i1 i2 l1 l2 S i := by
  obtain ⟨a, b, c, ⟨d, e, u, v, g⟩ | ⟨T, f, oT, e, g, t1, t2, t3, t4⟩⟩ := x
  · exact ⟨hk _ _ n2 a, b.at fun o e => hk _ o n4 e, c.at fun o e => hk _ o n5 e, .inl ⟨d, hk _ _ n1 e, u, v, hk _ _ n3 g⟩⟩
  · exact ⟨hk _ _ n2 a, b.at fun o e => hk _ o n4 e, c.at fun o e => hk _ o n5 e, .inr ⟨T, f, oT, hk _ _ n1 e, hk _ _ t4 g, t1, t2, t3, t4⟩⟩
/-- the pairs that were made -/
structure ZpG (xs ys : Array Value) (lo : Addr) (h : Heap) (as : List Addr) : Prop where
  rise : as.Pairwise (· < ·)
  above : ∀ a ∈ as, lo < a
  pairs : ∀ (j : Nat) (a : Addr), as[j]? = some a → ∃ x y, xs[j]? = some x ∧ ys[j]? = some y ∧ h.get? a = some { cls := .type "tuple", data := .seq #[x, y] }
theorem ZpG.there {xs ys : Array Value} {lo : Addr} {h : Heap} {as : List Addr} (g : ZpG xs ys lo h as) {a : Addr} (ha : a ∈ as) : a < h.objs.size := by
  obtain ⟨j, hj⟩ := List.mem_iff_getElem?.mp ha
  obtain ⟨_, _, _, _, e⟩ := g.pairs j a hj
  exact Heap.lt_size e
theorem zip_no_len : typeLookup (.type "zip") "__len__" = pure none := by rw [typeLookup_type, builtinLookup_eq_fast]; kernel_rfl
theorem zip_no_hint : typeLookup (.type "zip") "__length_hint__" = pure none := by rw [typeLookup_type, builtinLookup_eq_fast]; kernel_rfl
section
variable {prog : Program} {w : World} {A : Around} {E : Value → Shared → Prop} {s : Shared} {R : Result → Shared → Prop} {z TI TO i1 i2 l1 l2 S lo : Addr} {xs ys : Array Value}
theorem zp_loop (hh : A.handled = none) (D : ZipApart z TI TO i1 i2 l1 l2) (n1 : z ≠ S) (n2 : TI ≠ S) (n3 : TO ≠ S) (n4 : i1 ≠ S) (n5 : i2 ≠ S) (n6 : l1 ≠ S) (n7 : l2 ≠ S) (q1 : z ≤ lo) (q2 : TO ≤ lo) (q3 : i1 ≤ lo) (q4 : i2 ≤ lo) (q5 : S ≤ lo) (hn : min xs.size ys.size ≤ sizeLine) (res : Value) {h₁ : Heap}
    (hR : ∀ h' tk acc c as, (∀ b o, b ≠ S → b ≠ z → b ≠ TO → b ≠ i1 → b ≠ i2 → h₁.get? b = some o → h'.get? b = some o) → h'.get? S = some { cls := .type "list", dict := none, data := .seq acc c, slots := #[] } → as.length = min xs.size ys.size → ZpG xs ys lo h' as →
      acc.toList = as.map Value.ref → R (.ok (.ret res)) { s with heap := h', toks := tk }) :
    ∀ (k i : Nat) (h : Heap) (tk c : Nat) (acc : Array Value) (as : List Addr), min xs.size ys.size - i = k → i ≤ min xs.size ys.size → ZSt h z TI TO i1 i2 l1 l2 S i → h.IsList l1 xs → h.IsList l2 ys → (∀ b o, b ≠ S → b ≠ z → b ≠ TO → b ≠ i1 → b ≠ i2 → h₁.get? b = some o → h.get? b = some o) →
      h.get? S = some { cls := .type "list", dict := none, data := .seq acc c, slots := #[] } → acc.toList = as.map Value.ref → as.length = i → ZpG xs ys lo h as → lo < h.objs.size →
      codeAny (model prog w) A (.builtin "list.extend.loop" ⟨[.ref S, .ref z, res], []⟩) R { s with heap := h, toks := tk } := by
  intro k
  induction k with
  | zero =>
    intro i h tk c acc as hk hi st hl1 hl2 hkeep hS hacc hal hG hIs
    refine codeAny_builtin PySem.F.entry_extend_loop ?_
    rw [Around.under_plainId PySem.F.plain_extend_loop _]
    show wpAny _ A.in1 (pyNext (.ref z) >>= _) _ _ _
    have hend : xs[i]? = none ∨ ys[i]? = none := by
      rcases Nat.le_total xs.size ys.size with g | g
      · exact .inl (Array.getElem?_eq_none (by rw [Nat.min_eq_left g] at *; omega))
      · exact .inr (Array.getElem?_eq_none (by rw [Nat.min_eq_right g] at *; omega))
    refine wpAny_bind (zst_end (s := { s with heap := h, toks := tk }) (A := A.in1) hh D st hl1 hl2 hend fun h' he => ?_)
    refine wpAny_pure (hR h' tk acc c as (fun b o b1 b2 b3 b4 b5 e => he b o b2 b3 b4 b5 (hkeep b o b1 b2 b3 b4 b5 e)) (he S _ n1.symm n3.symm n4.symm n5.symm hS) (by omega) ⟨hG.rise, hG.above, fun j a hj => ?_⟩ hacc)
    obtain ⟨x, y, e1, e2, e3⟩ := hG.pairs j a hj
    have hb := hG.above a (List.mem_of_getElem? hj)
    exact ⟨x, y, e1, e2, he a _ (Nat.ne_of_gt (Nat.lt_of_le_of_lt q1 hb)) (Nat.ne_of_gt (Nat.lt_of_le_of_lt q2 hb)) (Nat.ne_of_gt (Nat.lt_of_le_of_lt q3 hb)) (Nat.ne_of_gt (Nat.lt_of_le_of_lt q4 hb)) e3⟩
  | succ k ih =>
    intro i h tk c acc as hk hi st hl1 hl2 hkeep hS hacc hal hG hIs
    have hix : i < xs.size := by omega
    have hiy : i < ys.size := by omega
    have hsz : acc.size = i := by rw [← Array.length_toList, hacc, List.length_map, hal]
    refine codeAny_builtin PySem.F.entry_extend_loop ?_
    rw [Around.under_plainId PySem.F.plain_extend_loop _]
    show wpAny _ A.in1 (pyNext (.ref z) >>= _) _ _ _
    refine wpAny_bind (zst_item (s := { s with heap := h, toks := tk }) D st (Heap.lt_size hS) n3 hl1 hl2 (Array.getElem?_eq_getElem hix) (Array.getElem?_eq_getElem hiy) fun h' st' ht hz hkp => ?_)
    dsimp only at ht hz hkp ⊢
    have hS' := hkp S _ n1.symm n3.symm n4.symm n5.symm hS
    have up : ∀ b o, b ≠ S → h'.get? b = some o → (h'.update S (Obj.mapSeq (·.push (Value.ref h.objs.size)))).get? b = some o := fun b o hb e => (Heap.get?_update_other _ _ (Ne.symm hb)).trans e
    have hSl : S < h.objs.size := Heap.lt_size hS
    show wpAny _ A.in1 (updateSeq S (·.push (Value.ref h.objs.size)) >>= _) _ _ _
    refine wpAny_bind ?_
    refine wpAny_updateSeq hS' rfl (wpAny_pure ⟨plainId_quiet PySem.F.plain_extend_loop _, ih (i + 1) _ tk _ (acc.push (Value.ref h.objs.size)) (as ++ [h.objs.size]) (by omega) (by omega) (st'.keep up n1 n2 n3 n4 n5)
      (hl1.at fun o e => up l1 o n6 (hkp l1 o D.l1z D.l1TO D.l1i1 D.l1i2 e)) (hl2.at fun o e => up l2 o n7 (hkp l2 o D.l2z D.l2TO D.l2i1 D.l2i2 e)) (fun b o b1 b2 b3 b4 b5 e => up b o b1 (hkp b o b2 b3 b4 b5 (hkeep b o b1 b2 b3 b4 b5 e)))
      (Heap.get?_update_self _ hS' rfl) (by rw [Array.toList_push, hacc, List.map_append]; rfl) (by rw [List.length_append, hal]; rfl) ⟨?_, ?_, ?_⟩ ?_⟩) (by rw [hsz]; omega) (by show (acc.push (Value.ref h.objs.size)).size ≤ sizeLine + 1; rw [Array.size_push, hsz]; omega)
    · refine List.pairwise_append.mpr ⟨hG.rise, List.pairwise_singleton _ _, fun a ha b hb => ?_⟩
      rw [List.mem_singleton.mp hb]
      exact hG.there ha
    · intro a ha
      rcases List.mem_append.mp ha with ha | ha
      · exact hG.above a ha
      · rw [List.mem_singleton.mp ha]; exact hIs
    · intro j b hj
      rcases Nat.lt_trichotomy j as.length with g1 | g1 | g1
      · rw [List.getElem?_append_left g1] at hj
        obtain ⟨x, y, e1, e2, e3⟩ := hG.pairs j b hj
        have hb := hG.above b (List.mem_of_getElem? hj)
        exact ⟨x, y, e1, e2, up b _ (Nat.ne_of_gt (Nat.lt_of_le_of_lt q5 hb)) (hkp b _ (Nat.ne_of_gt (Nat.lt_of_le_of_lt q1 hb)) (Nat.ne_of_gt (Nat.lt_of_le_of_lt q2 hb)) (Nat.ne_of_gt (Nat.lt_of_le_of_lt q3 hb)) (Nat.ne_of_gt (Nat.lt_of_le_of_lt q4 hb)) e3)⟩
      · subst g1
        have hb : h.objs.size = b := by simpa using hj
        subst hb
        exact ⟨xs[i], ys[i], by rw [hal]; exact Array.getElem?_eq_getElem hix, by rw [hal]; exact Array.getElem?_eq_getElem hiy, up _ _ (Nat.ne_of_gt hSl) ht⟩
      · have hnone : (as ++ [h.objs.size])[j]? = none := List.getElem?_eq_none (by rw [List.length_append, List.length_singleton]; omega)
        rw [hnone] at hj; cases hj
    · have e : (h'.update S (Obj.mapSeq (·.push (Value.ref h.objs.size)))).get? h.objs.size = _ := up _ _ (Nat.ne_of_gt hSl) ht
      exact Nat.lt_trans hIs (Heap.lt_size e)
theorem zp_hint (hT : s.TypeIs (.ref z) "zip") {Q : Bool → Shared → Prop} (h : Q true s) : wpAny (model prog w) A (Builtin.List.listLengthHint (.ref z)) Q E s := by
  unfold Builtin.List.listLengthHint
  refine wpAny_bind (wpAny_specialOf hT zip_no_len ?_)
  show wpAny _ _ (specialOf (.ref z) "__length_hint__" >>= _) _ _ _
  refine wpAny_bind (wpAny_specialOf hT zip_no_hint ?_)
  exact wpAny_pure h
theorem zp_extend (hh : A.handled = none) (D : ZipApart z TI TO i1 i2 l1 l2) (n1 : z ≠ S) (n2 : TI ≠ S) (n3 : TO ≠ S) (n4 : i1 ≠ S) (n5 : i2 ≠ S) (n6 : l1 ≠ S) (n7 : l2 ≠ S) (hn : min xs.size ys.size ≤ sizeLine) (res : Value) (c₀ : Nat) (st : ZSt s.heap z TI TO i1 i2 l1 l2 S 0) (hz : ∃ f0, IsZip s.heap z TI TO f0)
    (hl1 : s.heap.IsList l1 xs) (hl2 : s.heap.IsList l2 ys) (hTOs : TO < s.heap.objs.size) (hS : s.heap.get? S = some { cls := .type "list", data := .seq #[] c₀ })
    (hR : ∀ h' tk acc c as, (∀ b o, b ≠ S → b ≠ z → b ≠ TO → b ≠ i1 → b ≠ i2 → s.heap.get? b = some o → h'.get? b = some o) → h'.get? S = some { cls := .type "list", dict := none, data := .seq acc c, slots := #[] } → as.length = min xs.size ys.size → ZpG xs ys (s.heap.objs.size - 1) h' as →
      acc.toList = as.map Value.ref → R (.ok (.ret res)) { s with heap := h', toks := tk }) :
    wpAny (model prog w) A.in1 (Builtin.List.listExtendWith (.ref S) (.ref z) res)
      (fun fin s' => match fin with | .done f => R (.ok f) s' | .again c' => c'.quiet = true ∧ codeAny (model prog w) A c' R s') (fun e s' => R (.error e) s') s := by
  obtain ⟨f0, hz⟩ := hz
  have hSl : S < s.heap.objs.size := Heap.lt_size hS
  have hzl : z < s.heap.objs.size := Heap.lt_size hz
  have h1l : i1 < s.heap.objs.size := by obtain ⟨_, e, _⟩ := st.2.1; exact Heap.lt_size e
  have h2l : i2 < s.heap.objs.size := by obtain ⟨_, e, _⟩ := st.2.2.1; exact Heap.lt_size e
  have hpos : s.heap.objs.size - 1 < s.heap.objs.size := Nat.sub_one_lt (Nat.ne_of_gt (Nat.lt_of_le_of_lt (Nat.zero_le S) hSl))
  have key : ∀ (h : Heap) (c₁ tk : Nat), (∀ b o, b ≠ S → s.heap.get? b = some o → h.get? b = some o) → h.get? S = some { cls := .type "list", data := .seq #[] c₁ } → s.heap.objs.size - 1 < h.objs.size → codeAny (model prog w) A (.builtin "list.extend.loop" ⟨[.ref S, .ref z, res], []⟩) R { s with heap := h, toks := tk } := by
    intro h c₁ tk hk hS₁ hsz
    exact zp_loop (s := s) (lo := s.heap.objs.size - 1) (h₁ := s.heap) hh D n1 n2 n3 n4 n5 n6 n7 (Nat.le_sub_one_of_lt hzl) (Nat.le_sub_one_of_lt hTOs) (Nat.le_sub_one_of_lt h1l) (Nat.le_sub_one_of_lt h2l) (Nat.le_sub_one_of_lt hSl) hn res hR _ 0 h tk c₁ #[] [] (Nat.sub_zero _) (Nat.zero_le _) (st.keep hk n1 n2 n3 n4 n5) (hl1.at fun o e => hk l1 o n6 e) (hl2.at fun o e => hk l2 o n7 e)
      (fun b o hb _ _ _ _ e => hk b o hb e) hS₁ rfl rfl ⟨List.Pairwise.nil, (fun _ ha => nomatch ha), (fun j a hj => by simp at hj)⟩ hsz
  unfold Builtin.List.listExtendWith
  have hT : s.TypeIs (.ref z) "zip" := ⟨_, hz, rfl⟩
  refine wpAny_bind (wpAny_typeOf (T := "zip") hT ?_)
  have h1 : Builtin.List.listSameRef (.ref S) (.ref z) = false := by simp [Builtin.List.listSameRef, n1.symm]
  have h2 : (Value.type "zip" == Value.type "list") = false := by decide
  have h3 : (Value.type "zip" == Value.type "tuple") = false := by decide
  simp only [h1, h2, h3, Bool.or_false, Bool.false_eq_true, if_false]
  refine wpAny_bind (wpAny_pyIter_zip hz ?_)
  refine wpAny_bind (wpAny_holding (zp_hint hT ?_))
  refine wpAny_ite_split (fun _ => ?_) (fun _ => wpAny_pure ⟨plainId_quiet PySem.F.plain_extend_loop _, key _ c₀ _ (fun b o _ e => e) hS hpos⟩)
  refine wpAny_bind (wpAny_rule ?_)
  refine wpAny_bind ?_
  show wpAny _ _ (updateSeq S (·.push .none) >>= fun _ => updateSeq S (·.pop)) _ _ _
  refine wpAny_bind (wpAny_updateSeq hS rfl ?_)
  have hS₂ := Heap.get?_update_self (Obj.mapSeq (·.push Value.none)) hS rfl
  refine wpAny_updateSeq (hz := by seq_fits) hS₂ rfl ?_
  have hS₃ := Heap.get?_update_self (Obj.mapSeq (·.pop)) hS₂ rfl
  refine wpAny_pure ⟨plainId_quiet PySem.F.plain_extend_loop _, key _ _ _ (fun b o hb e => ?_) hS₃ (by rw [Heap.size_update, Heap.size_update]; exact hpos)⟩
  exact (Heap.get?_update_other _ _ (Ne.symm hb)).trans ((Heap.get?_update_other _ _ (Ne.symm hb)).trans e)
theorem zp_call {Q : Value → Shared → Prop} (hh : A.handled = none) (D : ZipApart z TI TO i1 i2 l1 l2) (hn : min xs.size ys.size ≤ sizeLine) (hz : IsZip s.heap z TI TO .none) (hTI : IsPair s.heap TI (.ref i1) (.ref i2)) (hTO : IsPair s.heap TO .none .none) (h1 : s.heap.IsListIter i1 l1 0) (h2 : s.heap.IsListIter i2 l2 0)
    (hl1 : s.heap.IsList l1 xs) (hl2 : s.heap.IsList l2 ys)
    (hQ : ∀ h' tk acc c as, (∀ b o, b ≠ z → b ≠ TO → b ≠ i1 → b ≠ i2 → s.heap.get? b = some o → h'.get? b = some o) → h'.get? s.heap.objs.size = some { cls := .type "list", dict := none, data := .seq acc c, slots := #[] } → as.length = min xs.size ys.size → ZpG xs ys s.heap.objs.size h' as →
      acc.toList = as.map Value.ref → Q (.ref s.heap.objs.size) { s with heap := h', toks := tk }) :
    wpAny (model prog w) A (call (.type "list") [.ref z]) Q E s := by
  refine callType_codes (Q₁ := fun obj s₁ => obj = .ref s.heap.objs.size ∧ s₁ = { s with heap := s.heap.push { cls := .type "list", data := .seq #[] } }) PySem.F.called_list (PySem.F.typeCall_list_1 _) PySem.F.entry_list_init
    (code_list_new _ ⟨rfl, rfl⟩) fun obj s₁ h₁ => ?_
  obtain ⟨rfl, rfl⟩ := h₁
  have hS : (s.heap.push { cls := .type "list", data := .seq #[] }).get? s.heap.objs.size = some { cls := .type "list", data := .seq #[] } := Heap.get?_push_size _ rfl
  have up0 : ∀ b o, s.heap.get? b = some o → (s.heap.push { cls := .type "list", data := .seq #[] }).get? b = some o := fun b o e => Heap.get?_push_of_some _ e
  have lt : ∀ {b : Addr} {o : Obj}, s.heap.get? b = some o → b ≠ s.heap.objs.size := fun e => Nat.ne_of_lt (Heap.lt_size e)
  have m1 : i1 ≠ s.heap.objs.size := by obtain ⟨_, e, _⟩ := h1; exact lt e
  have m2 : i2 ≠ s.heap.objs.size := by obtain ⟨_, e, _⟩ := h2; exact lt e
  have m3 : l1 ≠ s.heap.objs.size := by obtain ⟨_, e, _⟩ := hl1; exact lt e
  have m4 : l2 ≠ s.heap.objs.size := by obtain ⟨_, e, _⟩ := hl2; exact lt e
  refine ⟨⟨_, hS, rfl⟩, PySem.F.args_list_init_2 _ _, ?_⟩
  show wpAny _ _ (do let old ← Builtin.List.listItems (.ref s.heap.objs.size); Builtin.List.listUpdate (.ref s.heap.objs.size) (fun _ => #[]); letGo old.toList.reverse; Builtin.List.listExtendWith (.ref s.heap.objs.size) (.ref z) .none) _ _ _
  refine wpAny_bind ?_
  unfold Builtin.List.listItems
  refine wpAny_bind (wpAny_seqItems hS rfl (wpAny_pure ?_))
  show wpAny _ _ (updateSeq s.heap.objs.size (fun _ => #[]) >>= fun _ => letGo (#[] : Array Value).toList.reverse >>= fun _ => Builtin.List.listExtendWith (.ref s.heap.objs.size) (.ref z) .none) _ _ _
  refine wpAny_bind (wpAny_updateSeq hS rfl ?_)
  have hS₂ := Heap.get?_update_self (Obj.mapSeq (fun _ => (#[] : Array Value))) hS rfl
  have oth : ∀ b o, s.heap.get? b = some o → ((s.heap.push { cls := .type "list", data := .seq #[] }).update s.heap.objs.size (Obj.mapSeq (fun _ => (#[] : Array Value)))).get? b = some o :=
    fun b o e => (Heap.get?_update_other _ _ (Ne.symm (lt e))).trans (up0 b o e)
  have hsz : ((s.heap.push { cls := .type "list", data := .seq #[] }).update s.heap.objs.size (Obj.mapSeq (fun _ => (#[] : Array Value)))).objs.size = s.heap.objs.size + 1 := by rw [Heap.size_update, Heap.size_push]
  refine wpAny_bind (wpAny_letGo ?_)
  refine zp_extend (A := A.in1) (TI := TI) (TO := TO) (i1 := i1) (i2 := i2) (l1 := l1) (l2 := l2) (xs := xs) (ys := ys) hh D (lt hz) (lt hTI) (lt hTO) m1 m2 m3 m4 hn .none _ ⟨oth _ _ hTI, h1.at fun o e => oth _ o e, h2.at fun o e => oth _ o e, .inl ⟨rfl, oth _ _ hz, _, _, oth _ _ hTO⟩⟩ ⟨_, oth _ _ hz⟩ (hl1.at fun o e => oth _ o e) (hl2.at fun o e => oth _ o e) (by
    show TO < _
    rw [hsz]
    exact Nat.lt_succ_of_lt (Heap.lt_size hTO)) hS₂ fun h' tk acc c as hk hS' hl hG hacc => ?_
  refine ⟨rfl, hQ h' tk acc c as (fun b o b1 b2 b3 b4 e => hk b o (lt e) b1 b2 b3 b4 (oth b o e)) hS' hl ?_ hacc⟩
  have e : ((s.heap.push { cls := .type "list", data := .seq #[] }).update s.heap.objs.size (Obj.mapSeq (fun _ => (#[] : Array Value)))).objs.size - 1 = s.heap.objs.size := by rw [hsz]; rfl
  rw [← e]
  exact hG
end
end ZpL
namespace HE
open PySem PySem.Spec PyProof.Rows L2
def putP : Hp → List Addr → List (V × V) → Hp
  | H, a :: as, p :: ps => putP (upd H a (.tup [p.1, p.2])) as ps
  | H, _, _ => H
theorem putP_off {b : Addr} : ∀ (as : List Addr) (ps : List (V × V)) (H : Hp), b ∉ as → putP H as ps b = H b
  | [], _, _, _ => rfl
  | _ :: _, [], _, _ => rfl
  | a :: as, p :: ps, H, h => (putP_off as ps _ fun z => h (.tail _ z)).trans (upd_ne fun z => h (z ▸ .head _))
theorem putP_at : ∀ (as : List Addr) (ps : List (V × V)) (H : Hp), as.length = ps.length → as.Nodup → ∀ (j : Nat) (t : Addr), as[j]? = some t → ∃ p, ps[j]? = some p ∧ putP H as ps t = some (.tup [p.1, p.2])
  | [], _, _, _, _, j, t, h => by simp at h
  | _ :: _, [], _, h, _, _, _, _ => by cases h
  | a :: as, p :: ps, H, h, hn, j, t, hj => by
    obtain ⟨n1, n2⟩ := List.nodup_cons.mp hn
    cases j with
    | zero =>
      obtain rfl := Option.some.inj hj
      exact ⟨p, rfl, (putP_off as ps _ n1).trans upd_same⟩
    | succ j => exact putP_at as ps (upd H a (.tup [p.1, p.2])) (Nat.succ.inj h) n2 j t hj
theorem vals_get : ∀ {xs : List V} {its : List Value}, Vals xs its → ∀ {j : Nat} {u : Value}, its[j]? = some u → ∃ x, xs[j]? = some x ∧ RelV x u
  | _, _, .nil, j, u, h => by simp at h
  | _, _, .cons r t, 0, u, h => by
    obtain rfl := Option.some.inj h
    exact ⟨_, rfl, r⟩
  | _, _, .cons r t, j + 1, u, h => vals_get t (j := j) h
section
variable {X : Cx}
theorem zips_laid {pins : List (Addr × Obj)} {σ : L2.St} {H : Hp} {s : Shared} {h' : Heap} {tk c : Nat} {S : Addr} {acc : Array Value} {as : List Addr} {xs ys : List V} {its its2 : List Value} (I : Inv X pins σ H s) (rx : Vals xs its) (ry : Vals ys its2) (hz : min xs.length ys.length ≤ sizeLine) (hk : ∀ b o, s.heap.get? b = some o → h'.get? b = some o)
    (hlo : s.heap.objs.size ≤ S) (hS : h'.get? S = some { cls := .type "list", dict := none, data := .seq acc c, slots := #[] }) (hl : as.length = min xs.length ys.length) (hG : ZpL.ZpG its.toArray its2.toArray S h' as) (hacc : acc.toList = as.map Value.ref) :
    ∃ H' : Hp, (∀ b o, H b = some o → H' b = some o) ∧ H S = none ∧ (∀ t ∈ as, H t = none) ∧ H' S = some (.lst (as.map V.ref)) ∧ (∀ (j : Nat) (t : Addr), as[j]? = some t → ∃ x y, xs[j]? = some x ∧ ys[j]? = some y ∧ H' t = some (.tup [x, y])) ∧ Inv X pins σ H' { s with heap := h', toks := tk } := by
  have nS : S ∉ as := fun z => Nat.lt_irrefl _ (hG.above _ z)
  have nd : as.Nodup := hG.rise.imp fun {a b} (h : a < b) => Nat.ne_of_lt h
  have new : ∀ t ∈ as, H t = none := fun t ht => I.hok.fresh (Nat.le_trans hlo (Nat.le_of_lt (hG.above t ht)))
  have newS : H S = none := I.hok.fresh hlo
  have lz : (xs.zip ys).length = as.length := by rw [List.length_zip, hl]
  have atP := putP_at as (xs.zip ys) (upd H S (.lst (as.map V.ref))) lz.symm nd
  have off : ∀ b, b ∉ as → b ≠ S → putP (upd H S (.lst (as.map V.ref))) as (xs.zip ys) b = H b := fun b h1 h2 => (putP_off as _ _ h1).trans (upd_ne h2)
  have kp : ∀ b u, H b = some u → putP (upd H S (.lst (as.map V.ref))) as (xs.zip ys) b = some u := fun b u e => by
    rw [off b (fun z => by rw [new b z] at e; cases e) (fun z => by rw [z, newS] at e; cases e)]
    exact e
  have low : ∀ b o, s.heap.get? b = some o → b ∉ as ∧ b ≠ S := fun b o e => ⟨fun z => absurd (Heap.lt_size e) (Nat.not_lt.mpr (Nat.le_trans hlo (Nat.le_of_lt (hG.above b z)))), Nat.ne_of_lt (Nat.lt_of_lt_of_le (Heap.lt_size e) hlo)⟩
  have eS : putP (upd H S (.lst (as.map V.ref))) as (xs.zip ys) S = some (.lst (as.map V.ref)) := (putP_off as _ _ nS).trans upd_same
  have prs : ∀ (j : Nat) (t : Addr), as[j]? = some t → ∃ x y, xs[j]? = some x ∧ ys[j]? = some y ∧ putP (upd H S (.lst (as.map V.ref))) as (xs.zip ys) t = some (.tup [x, y]) := fun j t hj => by
    obtain ⟨⟨x, y⟩, e1, e2⟩ := atP j t hj
    obtain ⟨z1, z2⟩ := List.getElem?_zip_eq_some.mp e1
    exact ⟨x, y, z1, z2, e2⟩
  refine ⟨_, kp, newS, new, eS, prs, I.call' (ch := []) rfl ⟨fun b o q _ _ _ => hk b o q, fun b o q _ _ _ => ⟨o.slots, hk b o q⟩, fun b o q n _ => ?_, fun b o q _ => ⟨o, hk b o q⟩, fun b xs q => kp b _ q, fun b o u q => kp b _ q, fun b ps q => ⟨#[], by rw [kp b _ q]; simp⟩⟩ (fun b u q => ?_) I.bare fun b z => by simp at z⟩
  · obtain ⟨z1, z2⟩ := low b o q
    rw [off b z1 z2]
    exact n
  · by_cases hb : b ∈ as
    · obtain ⟨j, hj⟩ := List.getElem?_of_mem hb
      obtain ⟨x, y, e1, e2, e3⟩ := prs j b hj
      rw [e3] at q
      cases q
      obtain ⟨u, v, f1, f2, f3⟩ := hG.pairs j b hj
      obtain ⟨x', g1, g2⟩ := vals_get rx (j := j) (by simpa using f1)
      obtain ⟨y', g3, g4⟩ := vals_get ry (j := j) (by simpa using f2)
      rw [e1] at g1
      rw [e2] at g3
      cases g1
      cases g3
      exact ⟨by show 2 ≤ sizeLine; decide, [u, v], .cons g2 (.cons g4 .nil), ⟨_, f3, rfl, _, rfl⟩⟩
    · by_cases hb2 : b = S
      · rw [hb2] at q ⊢
        rw [eS] at q
        cases q
        refine ⟨by rw [List.length_map]; omega, acc.toList, c, by rw [hacc]; exact LiI.vals_refs as, ?_⟩
        rw [Array.toArray_toList]
        exact hS
      · rw [off b hb hb2] at q
        exact (I.hok b u q).stay (fun d v _ y => hk d v y) (fun d y => kp d _ y) fun d xs y => kp d _ y
def rZipL (K : PySem.W.Frag) : List V → Hp → VK → Prop := fun vs H Q => ∃ (a b : Addr) (xs ys : List V), vs = [.ref a, .ref b] ∧ SqL K H a xs ∧ SqL K H b ys ∧
  ∀ (H' : Hp) (p : Addr) (ts : List Addr), (∀ b o, H b = some o → H' b = some o) → H p = none → H' p = some (.lst (ts.map V.ref)) → ts.length = min xs.length ys.length → (∀ (j : Nat) (t : Addr), ts[j]? = some t → ∃ x y, xs[j]? = some x ∧ ys[j]? = some y ∧ H' t = some (.tup [x, y])) → Q (.ref p) H'
def tZipL (K : PySem.W.Frag) (ta : TA) : TE := fun σ H Q => ta σ H fun vs H1 => rZipL K vs H1 Q
/-- list(zip(a, b)) -/
theorem pe_zipL {e e2 : Expr} {ta : TA} {p p2 pos pos2 : Pos} (K : PySem.W.Frag) (hc : X.calm = true) (hg : Gl X "list") (hm : X.mg "list" = none) (hv : bootBuiltins "list" = some (.type "list")) (hg2 : Gl X "zip") (hm2 : X.mg "zip" = none) (ha : PA X [e, e2] ta) (h : X.K = K := by rfl)
    (hs2 : starEach [e, e2] X.env = (false, eval e X.env) :: starEach [e2] X.env := by rfl) (hpl : (backTo pos2 (starEach [e2] X.env)).any (·.1) = false := by rfl)
    (hs : starEach [.Call (.Name "zip" p2) [e, e2] [] pos2] X.env = (false, eval (.Call (.Name "zip" p2) [e, e2] [] pos2) X.env) :: starEach [] X.env := by rfl) :
    PE X (.Call (.Name "list" p) [.Call (.Name "zip" p2) [e, e2] [] pos2] [] pos) (tZipL K ta) := by
  subst h
  refine ⟨fun pins s σ H Q I hq => ?_⟩
  refine wpAny_Call_Name_kw (ld_blt I hg hm hv ?_)
  refine PyProof.Rows.callWith_type1 ?_ hs rfl
  rw [hs]
  show wpAny _ _ (spliced ((false, eval (.Call (.Name "zip" p2) [e, e2] [] pos2) X.env) :: backTo pos (starEach [] X.env))) _ _ s
  refine Calls.spliced_cons ?_
  refine Call_ (ld_blt I hg2 hm2 PyProof.Rows.boot_zip (PyProof.Rows.callWith_type1 (thn (ha.run pos2 pins s σ H _ I hq) fun us s1 ⟨vs, H1, I1, r1, q1⟩ => ?_) hs2 hpl))
  obtain ⟨a, b, xs, ys, ex, hqx, hqy, q⟩ := q1
  subst ex
  cases r1 with
  | cons r rr =>
    cases rr with
    | cons r' rr =>
      cases rr
      cases r
      cases r'
      obtain ⟨its, rv, p1, z1⟩ := I1.list hqx
      obtain ⟨its2, rv2, p3, z2⟩ := I1.list hqy
      have la : a < s1.heap.objs.size := p1.lt
      have lb : b < s1.heap.objs.size := p3.lt
      have l1 := rv.length
      have l2 := rv2.length
      refine call_zip_2 p1.isList p3.isList fun h' hz hTI hTO h1 h2 hsz hk => ?_
      refine Calls.spliced_nil ?_
      refine ZpL.zp_call (xs := its.toArray) (ys := its2.toArray) (I1.ok.hd hc) (PySem.W.ktu_apart s1.heap.objs.size a b la lb) (by
        show min its.toArray.size its2.toArray.size ≤ sizeLine
        rw [List.size_toArray, List.size_toArray]
        omega) hz hTI hTO h1 h2 (p1.isList.at fun o e => hk _ o e) (p3.isList.at fun o e => hk _ o e) fun h3 tk acc c as hk3 hS hl hG hacc => ?_
      have kp : ∀ b o, s1.heap.get? b = some o → h3.get? b = some o := fun b o e => by
        have lt := Heap.lt_size e
        exact hk3 b o (Nat.ne_of_lt (Nat.lt_of_lt_of_le lt (Nat.le_add_right _ _))) (Nat.ne_of_lt (Nat.lt_of_lt_of_le lt (Nat.le_add_right _ _))) (Nat.ne_of_lt lt) (Nat.ne_of_lt (Nat.lt_of_lt_of_le lt (Nat.le_add_right _ _))) (hk b o e)
      have hl' : as.length = min xs.length ys.length := by
        rw [hl, List.size_toArray, List.size_toArray, l1, l2]
      obtain ⟨H', k1, k2, k3, k4, k5, J⟩ := zips_laid (tk := tk) I1 rv rv2 (by omega) kp (by show _ ≤ h'.objs.size; rw [hsz]; exact Nat.le_add_right _ _) hS hl' hG hacc
      exact ⟨.ref _, H', J, rfl, q H' _ as k1 k2 k4 hl' k5⟩
end
end HE
namespace Mine
open PySem PySem.Spec L2
section
variable {K : PySem.W.Frag} {d : Addr} {o : Obj} {kvs : List (Key × V)} {g : TG} {tt : TT} {te : TE} {vs : List Nat} {σ : L2.St} {H1 : Hp} {D : Addr} {Qd : Hp → Prop}
theorem kDictF {X : Cx} (K : PySem.W.Frag) (hc : X.calm = true) (h : X.K = K := by rfl) : CallR X (.type "dict") (HE.rDictF K) := by subst h; exact HE.cr_dictF hc
/-- a comprehension over the keys of a dict that is locked -/
theorem lc_keys (Pv : Nat → Hp → Prop) (h0 : Pv 0 (upd H1 D (.lst []))) (hl : ∀ i H, i ≤ kvs.length → Pv i H → H d = some (.frz o (.dK kvs)))
    (hs : ∀ (i : Nat) (p : Key × V) (H : Hp), kvs[i]? = some p → Pv i H → g (kV p.1) (wipe σ vs) H fun σ2 H2 => wipe σ2 vs = wipe σ vs ∧ tt σ2 H2 fun b H3 =>
      if b = true then te σ2 H3 fun y H4 => ∃ acc, H4 D = some (.lst acc) ∧ acc.length < sizeLine ∧ Pv (i + 1) (upd H4 D (.lst (acc ++ [y]))) else Pv (i + 1) H3) (hd : ∀ H, Pv kvs.length H → Qd H) :
    ∃ W : Nat → Nat → Hp → Prop, (∃ m, W 0 m (upd H1 D (.lst []))) ∧ ∀ i m H, W i m H →
      ((Itk d o kvs).stop i H ∧ Qd H) ∨ ((Itk d o kvs).go i H ∧ ∃ Nx : Hp → Prop, (∀ H', Nx H' → ∃ m', m' < m ∧ W (i + 1) m' H') ∧ ∀ x H', (Itk d o kvs).yld i H x H' → g x (wipe σ vs) H' fun σ2 H2 => wipe σ2 vs = wipe σ vs ∧ tt σ2 H2 fun b H3 =>
        if b = true then te σ2 H3 fun y H4 => ∃ acc, H4 D = some (.lst acc) ∧ acc.length < sizeLine ∧ Nx (upd H4 D (.lst (acc ++ [y]))) else Nx H3) := by
  refine ⟨fun i m H => m = kvs.length - i ∧ i ≤ kvs.length ∧ Pv i H, ⟨kvs.length, by simp, Nat.zero_le _, h0⟩, ?_⟩
  rintro i m H ⟨rfl, hi, p⟩
  have q := hl i H hi p
  by_cases hlt : i < kvs.length
  · refine .inr ⟨⟨q, hlt⟩, Pv (i + 1), fun H' p' => ⟨kvs.length - (i + 1), by omega, rfl, hlt, p'⟩, ?_⟩
    rintro x H' ⟨rfl, k, v, hk, rfl⟩
    exact hs i (k, v) H' hk p
  · have e : i = kvs.length := by omega
    subst e
    exact .inl ⟨⟨q, Nat.le_refl _⟩, hd H p⟩
/-- .. over its items -/
theorem lc_items (Pv : Nat → Hp → Prop) (h0 : Pv 0 (upd H1 D (.lst []))) (hl : ∀ i H, i ≤ kvs.length → Pv i H → H d = some (.frz o (.dK kvs)))
    (hs : ∀ (i : Nat) (p : Key × V) (t : Addr) (H : Hp), kvs[i]? = some p → Pv i H → H t = none → g (.ref t) (wipe σ vs) (upd H t (.tup [kV p.1, p.2])) fun σ2 H2 => wipe σ2 vs = wipe σ vs ∧ tt σ2 H2 fun b H3 =>
      if b = true then te σ2 H3 fun y H4 => ∃ acc, H4 D = some (.lst acc) ∧ acc.length < sizeLine ∧ Pv (i + 1) (upd H4 D (.lst (acc ++ [y]))) else Pv (i + 1) H3) (hd : ∀ H, Pv kvs.length H → Qd H) :
    ∃ W : Nat → Nat → Hp → Prop, (∃ m, W 0 m (upd H1 D (.lst []))) ∧ ∀ i m H, W i m H →
      ((Iti d o kvs).stop i H ∧ Qd H) ∨ ((Iti d o kvs).go i H ∧ ∃ Nx : Hp → Prop, (∀ H', Nx H' → ∃ m', m' < m ∧ W (i + 1) m' H') ∧ ∀ x H', (Iti d o kvs).yld i H x H' → g x (wipe σ vs) H' fun σ2 H2 => wipe σ2 vs = wipe σ vs ∧ tt σ2 H2 fun b H3 =>
        if b = true then te σ2 H3 fun y H4 => ∃ acc, H4 D = some (.lst acc) ∧ acc.length < sizeLine ∧ Nx (upd H4 D (.lst (acc ++ [y]))) else Nx H3) := by
  refine ⟨fun i m H => m = kvs.length - i ∧ i ≤ kvs.length ∧ Pv i H, ⟨kvs.length, by simp, Nat.zero_le _, h0⟩, ?_⟩
  rintro i m H ⟨rfl, hi, p⟩
  have q := hl i H hi p
  by_cases hlt : i < kvs.length
  · refine .inr ⟨⟨q, hlt⟩, Pv (i + 1), fun H' p' => ⟨kvs.length - (i + 1), by omega, rfl, hlt, p'⟩, ?_⟩
    rintro x H' ⟨T, k, v, hk, rfl, hT, rfl⟩
    exact hs i (k, v) T H hk p hT
  · have e : i = kvs.length := by omega
    subst e
    exact .inl ⟨⟨q, Nat.le_refl _⟩, hd H p⟩
/-- a comprehension over zip of two lists or two tuples of one length -/
theorem lc_zip {a b : Addr} {xs ys : List V} {J : It} (hJ : J = Itz K a b ∨ J = RZ.ItzT K a b) (hn : xs.length = ys.length) (Pv : Nat → Hp → Prop) (h0 : Pv 0 (upd H1 D (.lst []))) (hl : ∀ i H, i ≤ xs.length → Pv i H → (J = Itz K a b ∧ SqL K H a xs ∧ SqL K H b ys) ∨ (J = RZ.ItzT K a b ∧ SqT K H a xs ∧ SqT K H b ys))
    (hs : ∀ (i : Nat) (x y : V) (t : Addr) (H : Hp), xs[i]? = some x → ys[i]? = some y → Pv i H → H t = none → g (.ref t) (wipe σ vs) (upd H t (.tup [x, y])) fun σ2 H2 => wipe σ2 vs = wipe σ vs ∧ tt σ2 H2 fun b H3 =>
      if b = true then te σ2 H3 fun y H4 => ∃ acc, H4 D = some (.lst acc) ∧ acc.length < sizeLine ∧ Pv (i + 1) (upd H4 D (.lst (acc ++ [y]))) else Pv (i + 1) H3) (hd : ∀ H, Pv xs.length H → Qd H) :
    ∃ W : Nat → Nat → Hp → Prop, (∃ m, W 0 m (upd H1 D (.lst []))) ∧ ∀ i m H, W i m H →
      (J.stop i H ∧ Qd H) ∨ (J.go i H ∧ ∃ Nx : Hp → Prop, (∀ H', Nx H' → ∃ m', m' < m ∧ W (i + 1) m' H') ∧ ∀ x H', J.yld i H x H' → g x (wipe σ vs) H' fun σ2 H2 => wipe σ2 vs = wipe σ vs ∧ tt σ2 H2 fun b H3 =>
        if b = true then te σ2 H3 fun y H4 => ∃ acc, H4 D = some (.lst acc) ∧ acc.length < sizeLine ∧ Nx (upd H4 D (.lst (acc ++ [y]))) else Nx H3) := by
  refine ⟨fun i m H => m = xs.length - i ∧ i ≤ xs.length ∧ Pv i H, ⟨xs.length, by simp, Nat.zero_le _, h0⟩, ?_⟩
  rintro i m H ⟨rfl, hi, p⟩
  rcases hl i H hi p with ⟨rfl, q1, q2⟩ | ⟨rfl, q1, q2⟩
  · by_cases hlt : i < xs.length
    · refine .inr ⟨⟨xs, ys, _, _, q1, q2, List.getElem?_eq_getElem hlt, List.getElem?_eq_getElem (by omega)⟩, Pv (i + 1), fun H' p' => ⟨xs.length - (i + 1), by omega, rfl, hlt, p'⟩, ?_⟩
      rintro v H' ⟨t, x, y, rfl, ht, rfl, hx, hy⟩
      exact hs i x y t H (hx xs q1) (hy ys q2) p ht
    · have e : i = xs.length := by omega
      subst e
      exact .inl ⟨⟨xs, ys, q1, q2, by omega⟩, hd H p⟩
  · by_cases hlt : i < xs.length
    · refine .inr ⟨⟨xs, ys, _, _, q1, q2, List.getElem?_eq_getElem hlt, List.getElem?_eq_getElem (by omega)⟩, Pv (i + 1), fun H' p' => ⟨xs.length - (i + 1), by omega, rfl, hlt, p'⟩, ?_⟩
      rintro v H' ⟨t, x, y, rfl, ht, rfl, hx, hy⟩
      exact hs i x y t H (hx xs q1) (hy ys q2) p ht
    · have e : i = xs.length := by omega
      subst e
      exact .inl ⟨⟨xs, ys, q1, q2, by omega⟩, hd H p⟩
end
end Mine

/-! ### KitQ -/
/-! sum, max of a tuple of ints -/
namespace HE
open PySem PySem.Spec PyProof.Rows L2
section
variable {prog : Program} {w : World} {A : Around} {E : Value → Shared → Prop} {s : Shared} {l : Addr} {its : List Value} {ns : List Int} {Q : Value → Shared → Prop}
theorem sumT_raw (hh : A.handled = none) (hl : s.heap.IsTuple l its.toArray) (hi : IntsAre its ns)
    (h : ∀ h' tk t', (∀ b o, s.heap.get? b = some o → h'.get? b = some o) → Q (.int ns.sum t') { s with heap := h', toks := tk }) : wpAny (model prog w) A (call (.builtin "sum") [.ref l]) Q E s := by
  obtain ⟨xs, e⟩ := hi.allInts.items
  have hn : numsOf (intItems xs).toList = ns := by rw [← e]; exact hi.numsOf
  rw [nums_intItems] at hn
  rw [e] at hl
  refine PySem.W.ktm_sumG hh hl fun h' tk t' hk => ?_
  have := h h' tk t' hk
  rw [preSum_eq, List.take_of_length_le (by simp), hn]; exact this
theorem max_intTup {xs : Array (Int × Tok)} (hh : A.handled = none) (ht : s.heap.IsTuple l (intItems xs)) (hne : 0 < xs.size)
    (h : ∀ v h' tk, (intItems xs)[argBest (fun i j => decide (numAt xs i > numAt xs j)) (xs.size - 1)]? = some v → (∀ b o, s.heap.get? b = some o → h'.get? b = some o) → Q v { s with heap := h', toks := tk }) :
    wpAny (model prog w) A (call (.builtin "max") [.ref l]) Q E s := by
  obtain ⟨o, ho, hc, n, hd⟩ := id ht
  have hneq : l ≠ s.heap.objs.size := Nat.ne_of_lt (Heap.lt_size ho)
  refine call_max_walk (wpAny_pyIter_tuple ht ?_)
  refine ⟨s.heap.objs.size, _, _, _, _, _, _, rfl, Walks.tuple (prog := prog) (w := w) (A := A.in1) hh s.heap.objs.size l hneq (intItems xs), ⟨⟨_, Heap.get?_push_size _ rfl, rfl, rfl⟩, ht.at fun o e => Heap.get?_push_of_some _ e⟩, fun b hb => ?_, by simpa [intItems] using hne, CmpOf.ints_gt (numAt xs) (fun _ _ => intItems_at), fun v h' tk hP hk => ?_⟩
  · rcases List.mem_cons.mp hb with rfl | hb
    · exact Heap.lt_size (Heap.get?_push_size _ rfl)
    · obtain rfl := List.mem_singleton.mp hb
      exact Heap.lt_size (Heap.get?_push_of_some _ ho)
  · exact h v h' tk (by simpa [intItems] using hP) fun b o e => hk b o (fun hb => absurd (Heap.lt_size e) ((List.mem_singleton.mp hb) ▸ Nat.lt_irrefl _)) (Heap.get?_push_of_some _ e)
theorem maxT_raw (hh : A.handled = none) (hl : s.heap.IsTuple l its.toArray) (hi : IntsAre its ns) (hne : 0 < ns.length)
    (h : ∀ h' tk M t', (∀ b o, s.heap.get? b = some o → h'.get? b = some o) → M ∈ ns → (∀ a, a ∈ ns → a ≤ M) → Q (.int M t') { s with heap := h', toks := tk }) : wpAny (model prog w) A (call (.builtin "max") [.ref l]) Q E s := by
  obtain ⟨xs, e⟩ := hi.allInts.items
  have hn : numsOf (intItems xs).toList = ns := by rw [← e]; exact hi.numsOf
  rw [nums_intItems] at hn
  subst hn
  rw [e] at hl
  have hsz : 0 < xs.size := by simpa using hne
  refine max_intTup hh hl hsz fun v h' tk hv hk => ?_
  obtain ⟨t, rfl⟩ := intItems_at hv
  obtain ⟨h1, h2⟩ := argBest_gt (numAt xs) (xs.size - 1)
  refine h h' tk _ t hk ?_ fun a ha => ?_
  · rw [numAt_eq]; exact PySem.getD_mem (by rw [List.length_map, Array.length_toList]; omega)
  · obtain ⟨j, hj, rfl⟩ := mem_getD ha
    rw [List.length_map, Array.length_toList] at hj
    rw [← numAt_eq]; exact h2 j (by omega)
end
variable {X : Cx}
def rSumT (K : PySem.W.Frag) : List V → Hp → VK → Prop := fun vs H Q => ∃ (a : Addr) (ns : List Int), vs = [V.ref a] ∧ SqT K H a (ns.map V.int) ∧ Q (.int ns.sum) H
def rMaxT (K : PySem.W.Frag) : List V → Hp → VK → Prop := fun vs H Q => ∃ (a : Addr) (ns : List Int), vs = [V.ref a] ∧ SqT K H a (ns.map V.int) ∧ 0 < ns.length ∧ ∀ m, m ∈ ns → (∀ y, y ∈ ns → y ≤ m) → Q (.int m) H
theorem cr_sumT (hc : X.calm = true) : CallR X (.builtin "sum") (rSumT X.K) := by
  intro pins s σ H vs us Q I r h
  obtain ⟨a, ns, rfl, hs, q⟩ := h
  obtain ⟨its, rv, hl, _⟩ := I.tuple hs
  rw [Vals.ref1 r]
  exact sumT_raw (I.ok.hd hc) hl rv.ints fun h' tk t' hk => ⟨.int _, H, I.kept hk, ⟨_, rfl⟩, q⟩
theorem cr_maxT (hc : X.calm = true) : CallR X (.builtin "max") (rMaxT X.K) := by
  intro pins s σ H vs us Q I r h
  obtain ⟨a, ns, rfl, hs, hne, q⟩ := h
  obtain ⟨its, rv, hl, _⟩ := I.tuple hs
  rw [Vals.ref1 r]
  exact maxT_raw (I.ok.hd hc) hl rv.ints hne fun h' tk m t' hk h1 h2 => ⟨.int _, H, I.kept hk, ⟨_, rfl⟩, q m h1 h2⟩
end HE
namespace Mine
open PySem PySem.Spec L2
theorem kSumT {X : Cx} (K : PySem.W.Frag) (hc : X.calm = true) (h : X.K = K := by rfl) : CallR X (.builtin "sum") (HE.rSumT K) := by subst h; exact HE.cr_sumT hc
theorem kMaxT {X : Cx} (K : PySem.W.Frag) (hc : X.calm = true) (h : X.K = K := by rfl) : CallR X (.builtin "max") (HE.rMaxT K) := by subst h; exact HE.cr_maxT hc
theorem pg_lstK {X : Cx} {es : List Expr} {k : Nat} {t : TGs} {n : Nat} {pos : Pos} (K : PySem.W.Frag) (hc : X.calm = true) (hp : PGs X es t) (h : X.K = K := by rfl)
    (hn : (assignEach es X.env).length = n := by rfl) (hst : (assignEach es X.env).findIdx? (·.1) = none := by rfl) : PG X (.Tuple es k pos) (gLst K n t) := by subst h; exact pg_lst hc hp hn hst
theorem rd_glst {K : PySem.W.Frag} {σ : L2.St} {H : Hp} {n : Nat} {t : TGs} {a : Addr} {xs : List V} {R : L2.St → Hp → Prop} (s : SqL K H a xs) (l : xs.length = n) (h : t xs σ H R) : gLst K n t (.ref a) σ H R := ⟨a, xs, rfl, s, l, h⟩
theorem rd_tupItems {te : TE} {σ : L2.St} {H : Hp} {Q : VK} (h : te σ H fun x H1 => HE.rItemsT2 x H1 Q) : HE.tTupItems te σ H Q := h
theorem rd_zipLs {K : PySem.W.Frag} {ta : TA} {σ : L2.St} {H : Hp} {Q : VK} (h : ta σ H fun vs H1 => HE.rZipL K vs H1 Q) : HE.tZipL K ta σ H Q := h
theorem rd_dnotin {ty td : TE} {σ : L2.St} {H : Hp} {Q : VK} (h : ty σ H fun y H1 => td σ H1 fun x H2 => ∃ a o, x = .ref a ∧ DGet H2 a y o ∧ Q (.bl (!o.isSome)) H2) : tDNotIn ty td σ H Q := h
theorem u_dinS {H : Hp} {a : Addr} {z : Str} {kvs : List (Key × V)} {R : Option V → Prop} (e : H a = some (.dK kvs)) (h : R (valV kvs (Sum.inr z))) : ∃ a' o, V.ref a = .ref a' ∧ DGet H a' (.str z) o ∧ R o := ⟨a, _, rfl, DGet.k (k := Sum.inr z) e, h⟩
theorem u_dgetS {H : Hp} {a : Addr} {v : V} {z : Str} {kvs : List (Key × V)} {R : V → Prop} (e : H a = some (.dK kvs)) (ev : valV kvs (Sum.inr z) = some v) (h : R v) : ∃ a' v', V.ref a = .ref a' ∧ DGet H a' (.str z) (some v') ∧ R v' := ⟨a, v, rfl, by rw [← ev]; exact DGet.k (k := Sum.inr z) e, h⟩
end Mine

/-! ### R00 -/
namespace Mine
open PySem PySem.Spec L2
def top (i : Nat) : Stmt := PySem.Challenge.pw_hillrooms_k06_values_by_a_plain_walk.main.body.getD i (.Pass ⟨0, 0, 0, 0⟩)
/-- no global stands before these built-ins -/
structure Bl (mg : Str → Option Value) : Prop where
  all : mg "all" = none
  enumerate : mg "enumerate" = none
  sorted : mg "sorted" = none
  zip : mg "zip" = none
  bool : mg "bool" = none
  int : mg "int" = none
  isinstance : mg "isinstance" = none
  len : mg "len" = none
  max : mg "max" = none
  min : mg "min" = none
  range : mg "range" = none
  str : mg "str" = none
  tuple : mg "tuple" = none
/-- the source of draws: two numbers -/
def Src (H : Hp) (a : Addr) : Prop := ∃ b s : Int, H a = some (.lst [.int b, .int s]) ∧ 0 ≤ b ∧ 0 ≤ s ∧ s < 2147483647
theorem Src.ext {K : PySem.W.Frag} {H H' : Hp} {a : Addr} (h : Src H a) (s : SB a H H') : Ext K H H' := by
  obtain ⟨b, t, e, _⟩ := h
  exact Ext.of_SB s e trivial
theorem Src.ne {H : Hp} {a p : Addr} (h : Src H a) (hp : H p = none) : p ≠ a := by
  obtain ⟨b, t, e, _⟩ := h
  intro z
  rw [z, e] at hp
  cases hp
theorem Src.new {H : Hp} {a p : Addr} {o : HO} (h : Src H a) (hp : H p = none) : Src (upd H p o) a := by
  have n := h.ne hp
  obtain ⟨b, t, e, x⟩ := h
  exact ⟨b, t, by rw [upd_ne n.symm]; exact e, x⟩
theorem Src.set {H : Hp} {a p : Addr} {o : HO} (h : Src H a) (n : p ≠ a) : Src (upd H p o) a := by
  obtain ⟨b, t, e, x⟩ := h
  exact ⟨b, t, by rw [upd_ne n.symm]; exact e, x⟩
theorem Src.same {H H' : Hp} {a : Addr} (h : Src H a) (s : Same H H') : Src H' a := by
  obtain ⟨b, t, e, x⟩ := h
  exact ⟨b, t, s _ _ e, x⟩
/-- one draw -/
def spTake : Sp := fun vs H Q _ => ∃ (a : Addr) (t : Int), vs = [.ref a, .int t] ∧ Src H a ∧ 0 < t ∧ t < 1073741824 ∧
  ∀ (H' : Hp) (r : Int), SB a H H' → Src H' a → 0 ≤ r → r < t → Q (.int r) H'
theorem use_take {a : Addr} {t : Int} {H : Hp} {Q : VK} {E : XK} (h : Src H a) (h1 : 0 < t) (h2 : t < 1073741824) (q : ∀ (H' : Hp) (r : Int), SB a H H' → Src H' a → 0 ≤ r → r < t → Q (.int r) H') :
    spTake [.ref a, .int t] H Q E := ⟨a, t, rfl, h, h1, h2, q⟩
/-- one of a list -/
def spOne (K : PySem.W.Frag) : Sp := fun vs H Q _ => ∃ (a p : Addr) (xs : List V), vs = [.ref a, .ref p] ∧ Src H a ∧ SqL K H p xs ∧ p ≠ a ∧ 0 < xs.length ∧ xs.length < 1000 ∧
  ∀ (H' : Hp) (v : V), SB a H H' → Src H' a → v ∈ xs → Q v H'
theorem use_one {K : PySem.W.Frag} {a p : Addr} {xs : List V} {H : Hp} {Q : VK} {E : XK} (h : Src H a) (s : SqL K H p xs) (n : p ≠ a) (h1 : 0 < xs.length) (h2 : xs.length < 1000) (q : ∀ (H' : Hp) (v : V), SB a H H' → Src H' a → v ∈ xs → Q v H') :
    spOne K [.ref a, .ref p] H Q E := ⟨a, p, xs, rfl, h, s, n, h1, h2, q⟩
theorem SB.seqL {K : PySem.W.Frag} {a p : Addr} {H H' : Hp} {xs : List V} (s : SB a H H') (n : p ≠ a) (h : SqL K H p xs) : SqL K H' p xs := by
  rcases h with (h | ⟨o, h⟩) | h
  · exact .inl (.inl (s _ _ n h))
  · exact .inl (.inr ⟨o, s _ _ n h⟩)
  · exact .inr h
theorem at_in {xs : List V} {i : Int} (h0 : 0 ≤ i) (h1 : i < (xs.length : Int)) : ∃ v, atI xs i = some v ∧ v ∈ xs := by
  have hk : i.toNat < xs.length := by omega
  have e : i = ((i.toNat : Nat) : Int) := by omega
  have q : atI xs ((i.toNat : Nat) : Int) = some xs[i.toNat] := atI_nat (List.getElem?_eq_getElem hk)
  rw [← e] at q
  exact ⟨xs[i.toNat], q, List.getElem_mem hk⟩
theorem Same.upd_new {H H' : Hp} {D : Addr} {o : HO} (s : Same H H') (hD : H D = none) : Same H (upd H' D o) := fun b u h => by
  rw [upd_ne (ne_of_none h hD)]; exact s b u h
theorem at_ints {ns : List Int} {i : Int} (h0 : 0 ≤ i) (h1 : i < (ns.length : Int)) : ∃ n : Int, atI (ns.map V.int) i = some (.int n) := by
  obtain ⟨v, e, m⟩ := at_in (xs := ns.map V.int) h0 (by rw [List.length_map]; exact h1)
  obtain ⟨n, _, rfl⟩ := List.mem_map.mp m
  exact ⟨n, e⟩
theorem ll {n : Nat} (h : n ≤ 1000000) : n ≤ sizeLine := Nat.le_trans h (by decide)
theorem lk {n : Nat} (h : Nat.ble n 1000000 = true) : n ≤ sizeLine := ll (Nat.le_of_ble_eq_true h)
theorem ls {n : Nat} (h : n ≤ 1000000) : n < sizeLine := Nat.lt_of_le_of_lt h (by decide)
theorem cm {p : Bool} : -(2 ^ 64) < (if p then (1 : Int) else 0) ∧ (if p then (1 : Int) else 0) < 2 ^ 64 := by cases p <;> decide
theorem isE {ns : List Int} (h : (!(ns.map V.int).isEmpty) = true) : 0 < ns.length := by
  cases ns with
  | nil => cases h
  | cons a r => exact Nat.succ_pos _
end Mine

/-! ### M0 -/
namespace Mine
open PySem PySem.Spec L2
abbrev Letters : Str := "abcdefghijklmnopqrstuvwxyz"
/-! ## what the program tells of data -/
def isNum : PyData → Bool
  | .int _ => true
  | _ => false
def isBtw (d : PyData) (lo hi : Int) : Bool := match d with
  | .int i => decide (lo ≤ i) && decide (i ≤ hi)
  | _ => false
def lowAll (l : List Nat) : Bool := l.all fun c => decide (c ∈ Letters.cps.toList)
def isWord : PyData → Bool
  | .str z => decide ((1 : Int) ≤ z.length) && decide ((z.length : Int) ≤ 8) && lowAll z.cps.toList
  | _ => false
def rowNums (ds : List PyData) : Bool := ds.all fun d => isBtw d 0 1000002
def tellsRow (ds : List PyData) : Bool := decide ((1 : Int) ≤ ds.length) && decide ((ds.length : Int) ≤ 64) && rowNums ds
def tellsInput : List PyData → Bool
  | [a, b] => isWord a && isBtw b 1 64
  | _ => false
def tellsStretch : List PyData → Bool
  | [a, .int j] => isBtw (.int j) 0 64 && isBtw a 0 (j - 1)
  | _ => false
def tellsTimes : List PyData → Bool
  | [a] => isBtw a 1 16
  | _ => false
def tellsRoom : List PyData → Bool
  | [a] => isBtw a 0 64
  | _ => false
theorem dats_get : ∀ {ds : List PyData} {i : Nat} {d : PyData}, dats ds → ds[i]? = some d → dat d
  | [], _, _, _, e => by simp at e
  | a :: r, 0, d, h, e => by
    have q : a = d := by simpa using e
    rw [← q]; exact h.1
  | a :: r, i + 1, d, h, e => dats_get (ds := r) (i := i) h.2 (by simpa using e)
theorem dats_append : ∀ {a b : List PyData}, dats a → dats b → dats (a ++ b)
  | [], _, _, h => h
  | x :: r, b, h, k => ⟨h.1, dats_append h.2 k⟩
theorem dats_reverse : ∀ {a : List PyData}, dats a → dats a.reverse
  | [], _ => trivial
  | x :: r, h => by rw [List.reverse_cons]; exact dats_append (dats_reverse h.2) ⟨h.1, trivial⟩
theorem dats_dropLast : ∀ {a : List PyData}, dats a → dats a.dropLast
  | [], _ => trivial
  | [x], _ => trivial
  | x :: y :: r, h => ⟨h.1, dats_dropLast h.2⟩
theorem dats_mem : ∀ {ds : List PyData} {d : PyData}, dats ds → d ∈ ds → dat d
  | a :: r, d, h, m => by
    rcases List.mem_cons.mp m with rfl | m
    · exact h.1
    · exact dats_mem h.2 m
theorem app_list (x y : Str) : (x ++ y).cps.toList = x.cps.toList ++ y.cps.toList := by
  show (x.cps ++ y.cps).toList = _
  simp
theorem len_list (x : Str) : x.length = x.cps.toList.length := by
  show x.cps.size = _
  simp
/-- two numbers that end the range are tuples of two by turns -/
theorem all_map {α : Type} (f : α → Bool) (l : List α) : (l.map f).all id = l.all f := by
  induction l with
  | nil => rfl
  | cons a r ih => rw [List.map_cons, List.all_cons, List.all_cons, ih] <;> rfl
end Mine

/-! ### M1 -/
namespace Mine
open PySem PySem.Spec L2
/-- the ops: how few parts, how many -/
def op0 : List Str := ["row", "in"]
def op1 : List Str := ["rev", "sort", "sum", "top", "part", "rep", "hold"]
def op2 : List Str := ["add", "sub", "mul", "dot", "outer", "blend"]
def arity (z : Str) : Option (Int × Int) := if z ∈ op0 then some (0, 0) else if z ∈ op1 then some (1, 1) else if z ∈ op2 then some (2, 2) else if z = "cat" then some (1, 4) else none
def asks (z : Str) : Option (List PyData → Bool) := if z = "row" then some tellsRow else if z = "in" then some tellsInput else if z = "part" then some tellsStretch else if z = "rep" then some tellsTimes else if z = "hold" then some tellsRoom else none
def toldFits (z : Str) (ds : List PyData) : Bool := match arity z with
  | none => false
  | some _ => match asks z with
    | none => decide ((ds.length : Int) = 0)
    | some f => f ds
def partsFit (z : Str) (n : Int) : Bool := match arity z with
  | none => false
  | some (lo, hi) => decide (lo ≤ n) && decide (n ≤ hi)
theorem fits_arity {z : Str} {ds : List PyData} (h : toldFits z ds = true) : ∃ lo hi, arity z = some (lo, hi) := by
  unfold toldFits at h
  cases e : arity z with
  | none => rw [e] at h; cases h
  | some p => exact ⟨p.1, p.2, rfl⟩
def isTri : PyData → Bool
  | .tuple [.str _, .tuple _, .tuple _] => true
  | _ => false
inductive Flt | many | prog | op | parts
  deriving DecidableEq
def fval : Flt → Int → Int
  | .many, _ => 41
  | _, n => n
/-- the fault of a joint -/
def jf (d : PyData) (n : Int) : Option Flt := if 40 ≤ n then some .many else match d with
  | .tuple [.str op, .tuple told, .tuple parts] => if toldFits op told = true then (if partsFit op parts.length = true then none else some .parts) else some .op
  | _ => some .prog
def partsOf : PyData → List PyData
  | .tuple [_, _, .tuple parts] => parts
  | _ => []
/-- the walk by numbers -/
def walk : Nat → List PyData → Int → Option (Flt × Int)
  | 0, _, _ => none
  | _ + 1, [], _ => none
  | k + 1, d :: r, n => match jf d n with
    | some f => some (f, fval f n)
    | none => walk k (partsOf d ++ r) (n + 1)
theorem jf_many {d : PyData} {n : Int} (h : jf d n = none) : n < 40 := by
  unfold jf at h
  by_cases c : 40 ≤ n
  · rw [if_pos c] at h; cases h
  · omega
theorem jf_tri {d : PyData} {n : Int} (h : jf d n = none) : ∃ op told parts, d = .tuple [.str op, .tuple told, .tuple parts] := by
  have c := jf_many h
  unfold jf at h
  rw [if_neg (by omega)] at h
  split at h
  · exact ⟨_, _, _, rfl⟩
  · cases h
theorem walk_none {k : Nat} {n : Int} : walk k [] n = none := by cases k <;> rfl
end Mine
namespace Mine
open PySem PySem.Spec L2
def isProg (d : PyData) : Bool := (walk 42 [d] 0).isNone
/-- the answer in words: ('good', d) or (word, number) -/
def fword : Flt → Str
  | .many => "many"
  | .prog => "program"
  | .op => "op"
  | .parts => "parts"
def due (d : PyData) : PyData := match walk 42 [d] 0 with
  | none => .tuple [.str "good", d]
  | some (f, n) => .tuple [.str (fword f), .int n]
end Mine
namespace Mine
open PySem PySem.Spec L2
def isIntD : PyData → Bool
  | .int _ => true
  | _ => false
theorem isInt_isT {d : PyData} (h : dat d) : isT "int" d = isIntD d := by
  cases d with
  | bool b => simp only [dat] at h
  | list b => simp only [dat] at h
  | dict b => simp only [dat] at h
  | none => rfl
  | int i => rfl
  | str i => rfl
  | tuple i => rfl
theorem btw_int {d : PyData} {lo hi : Int} (h : isBtw d lo hi = true) : isIntD d = true := by cases d <;> first | rfl | cases h
theorem fits_row {ds : List PyData} : toldFits "row" ds = tellsRow ds := rfl
theorem fits_in {ds : List PyData} : toldFits "in" ds = tellsInput ds := rfl
theorem fits_part {ds : List PyData} : toldFits "part" ds = tellsStretch ds := rfl
theorem fits_rep {ds : List PyData} : toldFits "rep" ds = tellsTimes ds := rfl
theorem fits_hold {ds : List PyData} : toldFits "hold" ds = tellsRoom ds := rfl
def ops11 : List Str := ["rev", "sort", "sum", "top", "add", "sub", "mul", "dot", "cat", "outer", "blend"]
theorem fits_other {z : Str} {ds : List PyData} (h1 : z ≠ "row") (h2 : z ≠ "in") (h3 : z ≠ "part") (h4 : z ≠ "rep") (h5 : z ≠ "hold") : toldFits z ds = (decide (z ∈ ops11) && ds.isEmpty) := by
  have ea : asks z = none := by unfold asks; rw [if_neg h1, if_neg h2, if_neg h3, if_neg h4, if_neg h5]
  have eb : (decide ((ds.length : Int) = 0)) = ds.isEmpty := by
    cases ds with
    | nil => rfl
    | cons a r =>
      show decide (((r.length + 1 : Nat) : Int) = 0) = false
      exact decide_eq_false (by omega)
  unfold toldFits
  by_cases hz : z ∈ ops11
  · have hs : ∃ p, arity z = some p := by
      have k : ∀ y ∈ ops11, (arity y).isSome = true := by decide +kernel
      exact Option.isSome_iff_exists.mp (k z hz)
    obtain ⟨p, ep⟩ := hs
    rw [ep, ea, decide_eq_true hz, Bool.true_and]
    exact eb
  · have hn : arity z = none := by
      unfold arity
      have k0 : ∀ y ∈ op0, y = "row" ∨ y = "in" := by decide +kernel
      have k1 : ∀ y ∈ op1, y ∈ ops11 ∨ y = "part" ∨ y = "rep" ∨ y = "hold" := by decide +kernel
      have k2 : ∀ y ∈ op2, y ∈ ops11 := by decide +kernel
      have k3 : ("cat" : Str) ∈ ops11 := by decide +kernel
      rw [if_neg (fun h => (k0 z h).elim h1 h2), if_neg (fun h => (k1 z h).elim hz fun h => h.elim h3 fun h => h.elim h4 h5), if_neg (fun h => hz (k2 z h)), if_neg (fun (h : z = "cat") => hz (by rw [h]; exact k3))]
    rw [hn, decide_eq_false hz, Bool.false_and]
/-- told things of an op but "in" are numbers -/
theorem fits_ints {z : Str} {ds : List PyData} (h2 : z ≠ "in") (h : toldFits z ds = true) : ds.all isIntD = true := by
  by_cases c1 : z = "row"
  · subst c1
    rw [fits_row] at h
    unfold tellsRow rowNums at h
    have h' := (Bool.and_eq_true_iff.mp h).2
    rw [List.all_eq_true] at h' ⊢
    exact fun d hd => btw_int (h' d hd)
  by_cases c3 : z = "part"
  · subst c3
    rw [fits_part] at h
    unfold tellsStretch at h
    split at h
    · rename_i a j
      have h' := Bool.and_eq_true_iff.mp h
      have h3 : isIntD (.int j) = true := rfl
      simp only [List.all_cons, btw_int h'.2, h3, List.all_nil, Bool.and_self]
    · cases h
  by_cases c4 : z = "rep"
  · subst c4
    rw [fits_rep] at h
    unfold tellsTimes at h
    split at h
    · simp only [List.all_cons, btw_int h, List.all_nil, Bool.and_self]
    · cases h
  by_cases c5 : z = "hold"
  · subst c5
    rw [fits_hold] at h
    unfold tellsRoom at h
    split at h
    · simp only [List.all_cons, btw_int h, List.all_nil, Bool.and_self]
    · cases h
  rw [fits_other c1 h2 c3 c4 c5] at h
  have h' := (Bool.and_eq_true_iff.mp h).2
  cases ds with
  | nil => rfl
  | cons a r => cases h'
theorem eqv_nil : ∀ xs : List PyData, PyData.eqv (.list xs) (.list []) = xs.isEmpty
  | [] => by simp [PyData.eqv, PyData.eqvAll]
  | a :: r => by simp [PyData.eqv, PyData.eqvAll]
theorem filter_empty {p : PyData → Bool} : ∀ ds : List PyData, (ds.filter fun d => !p d).isEmpty = ds.all p
  | [] => rfl
  | a :: r => by
    rw [List.filter_cons, List.all_cons]
    cases h : p a with
    | true => simp only [Bool.not_true, Bool.true_and, Bool.false_eq_true, if_false]; exact filter_empty r
    | false => simp only [Bool.not_false, if_true, Bool.false_and]; rfl
theorem dats_filter {p : PyData → Bool} : ∀ {ds : List PyData}, dats ds → dats (ds.filter p)
  | [], _ => trivial
  | a :: r, h => by
    rw [List.filter_cons]
    split
    · exact ⟨h.1, dats_filter h.2⟩
    · exact dats_filter h.2
theorem Rps.filter_snoc {K : PySem.W.Frag} {H : Hp} {ws : List V} {v : V} {d : PyData} {ds : List PyData} {i : Nat} {p : PyData → Bool} (hw : Rps K H ws ((ds.take i).filter p)) (e : ds[i]? = some d) (r : Rp K H v d) (hp : p d = true) : Rps K H (ws ++ [v]) ((ds.take (i + 1)).filter p) := by
  rw [List.take_add_one, e, List.filter_append]
  refine hw.append ?_
  rw [show List.filter p (some d).toList = [d] from by rw [Option.toList_some, List.filter_cons, if_pos hp]; rfl]
  exact .one r
theorem Rps.filter_skip {K : PySem.W.Frag} {H : Hp} {ws : List V} {d : PyData} {ds : List PyData} {i : Nat} {p : PyData → Bool} (hw : Rps K H ws ((ds.take i).filter p)) (e : ds[i]? = some d) (hp : p d = false) : Rps K H ws ((ds.take (i + 1)).filter p) := by
  rw [List.take_add_one, e, List.filter_append]
  rw [show List.filter p (some d).toList = [] from by rw [Option.toList_some, List.filter_cons, hp]; rfl, List.append_nil]
  exact hw
end Mine
namespace Mine
open PySem PySem.Spec L2
theorem Rps.intsOf {K : PySem.W.Frag} {H : Hp} : ∀ {xs : List V} {ds : List PyData}, Rps K H xs ds → ds.all isIntD = true → ∃ ns : List Int, ds = ns.map PyData.int ∧ xs = ns.map V.int
  | _, _, .nil, _ => ⟨[], rfl, rfl⟩
  | _, _, .cons (v := v) (d := d) h t, e => by
    rw [List.all_cons, Bool.and_eq_true] at e
    obtain ⟨ns, e1, e2⟩ := Rps.intsOf t e.2
    cases h with
    | int i => exact ⟨i :: ns, by rw [e1]; rfl, by rw [e2]; rfl⟩
    | non => cases e.1
    | bl _ => cases e.1
    | str _ => cases e.1
    | tup _ _ => cases e.1
def inRow (d : PyData) : Bool := isBtw d 0 1000002
end Mine
namespace Mine
open PySem PySem.Spec L2
theorem inV_str (z : Str) : ∀ l : List Str, inV (.str z) (l.map V.str) = decide (z ∈ l) := by
  intro l
  unfold inV
  rw [List.any_map]
  induction l with
  | nil => rfl
  | cons a r ih =>
    rw [List.any_cons, ih]
    have e3 : eqV (V.str a) (V.str z) = decide (z = a) := by
      show (a == z) = _
      by_cases c : z = a
      · subst c; simp
      · rw [decide_eq_false c]
        exact beq_eq_false_iff_ne.mpr (fun h => c h.symm)
    show (eqV (V.str a) (V.str z) || decide (z ∈ r)) = _
    rw [e3]
    simp [List.mem_cons]
theorem flat_strs : ∀ l : List Str, (l.map V.str).all flatV = true
  | [] => rfl
  | _ :: r => by rw [List.map_cons, List.all_cons, flat_strs r] <;> rfl
theorem jf_prog {d : PyData} {n : Int} (h : n < 40) (c : ¬ ∃ op told parts, d = .tuple [.str op, .tuple told, .tuple parts]) : jf d n = some .prog := by
  unfold jf
  rw [if_neg (by omega)]
  split
  · exact absurd ⟨_, _, _, rfl⟩ c
  · rfl
theorem walk_step {k : Nat} {d : PyData} {r : List PyData} {n : Int} : walk (k + 1) (d :: r) n = match jf d n with
    | some f => some (f, fval f n)
    | none => walk k (partsOf d ++ r) (n + 1) := rfl
end Mine
namespace Mine
open PySem PySem.Spec L2
theorem isT_str {d : PyData} (h : isT "str" d = true) : ∃ z, d = .str z := by
  cases d with
  | str z => exact ⟨z, rfl⟩
  | none => cases h
  | bool _ => exact absurd h (by simp only [isT]; decide)
  | int _ => exact absurd h (by simp only [isT]; decide)
  | tuple _ => exact absurd h (by simp only [isT]; decide)
  | list _ => cases h
  | dict _ => cases h
theorem isT_tuple {d : PyData} (h : isT "tuple" d = true) : ∃ z, d = .tuple z := by
  cases d with
  | tuple z => exact ⟨z, rfl⟩
  | none => exact absurd h (by simp only [isT]; decide)
  | bool _ => exact absurd h (by simp only [isT]; decide)
  | int _ => exact absurd h (by simp only [isT]; decide)
  | str _ => exact absurd h (by simp only [isT]; decide)
  | list _ => cases h
  | dict _ => cases h
end Mine

/-! ### M2 -/
namespace Mine
open PySem PySem.Spec L2
theorem okS_of {z : Str} (h1 : z.length ≤ 1000) (h2 : PyData.strOk z = true) : okS z := ⟨h1, by simp only [PyData.canLay0]; exact h2⟩
/-! ## programs as trees -/
inductive Jn where
  | mk (op : Str) (told : List PyData) (parts : List Jn)
mutual
def Jn.py : Jn → PyData
  | .mk op told parts => .tuple [.str op, .tuple told, .tuple (Jn.pys parts)]
def Jn.pys : List Jn → List PyData
  | [] => []
  | j :: r => j.py :: Jn.pys r
end
mutual
def Jn.cnt : Jn → Nat
  | .mk _ _ parts => 1 + Jn.cnts parts
def Jn.cnts : List Jn → Nat
  | [] => 0
  | j :: r => j.cnt + Jn.cnts r
end
def flatD : PyData → Prop
  | .int _ => True
  | .str z => okS z
  | _ => False
mutual
def Jn.ok : Jn → Prop
  | .mk op told parts => okS op ∧ told.length ≤ 64 ∧ (∀ d ∈ told, flatD d) ∧ parts.length ≤ 4 ∧ Jn.oks parts
def Jn.oks : List Jn → Prop
  | [] => True
  | j :: r => j.ok ∧ Jn.oks r
end
mutual
def Jn.all : Jn → List Jn
  | .mk op told parts => .mk op told parts :: Jn.alls parts
def Jn.alls : List Jn → List Jn
  | [] => []
  | j :: r => j.all ++ Jn.alls r
end
theorem pys_length : ∀ l : List Jn, (Jn.pys l).length = l.length
  | [] => rfl
  | j :: r => by simp only [Jn.pys, List.length_cons, pys_length r]
theorem cnts_append : ∀ a b : List Jn, Jn.cnts (a ++ b) = Jn.cnts a + Jn.cnts b
  | [], b => by simp [Jn.cnts]
  | j :: r, b => by simp only [List.cons_append, Jn.cnts, cnts_append r b]; omega
theorem oks_append : ∀ a b : List Jn, Jn.oks a → Jn.oks b → Jn.oks (a ++ b)
  | [], b, _, h => h
  | j :: r, b, h, k => by
    simp only [List.cons_append, Jn.oks] at h ⊢
    exact ⟨h.1, oks_append r b h.2 k⟩
theorem pys_append : ∀ a b : List Jn, Jn.pys (a ++ b) = Jn.pys a ++ Jn.pys b
  | [], b => by simp [Jn.pys]
  | j :: r, b => by simp only [List.cons_append, Jn.pys, pys_append r b]
theorem flat_dat {d : PyData} (h : flatD d) : dat d := by
  cases d with
  | int i => simp only [dat]
  | str z => simpa only [dat, flatD] using h
  | none => simp only [flatD] at h
  | bool _ => simp only [flatD] at h
  | list _ => simp only [flatD] at h
  | tuple _ => simp only [flatD] at h
  | dict _ => simp only [flatD] at h
theorem flat_dats : ∀ {l : List PyData}, (∀ d ∈ l, flatD d) → dats l
  | [], _ => by simp only [dats]
  | d :: r, h => by
    simp only [dats]
    exact ⟨flat_dat (h d List.mem_cons_self), flat_dats fun x hx => h x (List.mem_cons_of_mem _ hx)⟩
theorem flat_depth : ∀ {l : List PyData}, (∀ d ∈ l, flatD d) → PyData.depthAll l = 0
  | [], _ => by simp only [PyData.depthAll]
  | d :: r, h => by
    have h1 := h d List.mem_cons_self
    have hr := flat_depth fun x hx => h x (List.mem_cons_of_mem _ hx)
    simp only [PyData.depthAll, hr]
    cases d with
    | int i => simp [PyData.depth]
    | str z => simp [PyData.depth]
    | none => simp only [flatD] at h1
    | bool _ => simp only [flatD] at h1
    | list _ => simp only [flatD] at h1
    | tuple _ => simp only [flatD] at h1
    | dict _ => simp only [flatD] at h1
mutual
theorem Jn.dat : ∀ j : Jn, j.ok → Mine.dat j.py
  | .mk op told parts, h => by
    simp only [Jn.ok] at h
    obtain ⟨h1, h2, h3, h4, h5⟩ := h
    simp only [Jn.py, Mine.dat, dats, List.length_cons, List.length_nil]
    refine ⟨by omega, h1, ⟨by omega, flat_dats h3⟩, ⟨?_, Jn.dats parts h5⟩, trivial⟩
    rw [pys_length]; omega
theorem Jn.dats : ∀ l : List Jn, Jn.oks l → Mine.dats (Jn.pys l)
  | [], _ => by simp only [Jn.pys, Mine.dats]
  | j :: r, h => by
    simp only [Jn.oks] at h
    simp only [Jn.pys, Mine.dats]
    exact ⟨Jn.dat j h.1, Jn.dats r h.2⟩
end
mutual
theorem Jn.deep : ∀ j : Jn, j.ok → j.py.depth ≤ 2 * j.cnt
  | .mk op told parts, h => by
    simp only [Jn.ok] at h
    obtain ⟨h1, h2, h3, h4, h5⟩ := h
    have hp := Jn.deeps parts h5
    simp only [Jn.py, PyData.depth, PyData.depthAll, flat_depth h3, Jn.cnt]
    omega
theorem Jn.deeps : ∀ l : List Jn, Jn.oks l → PyData.depthAll (Jn.pys l) ≤ 2 * Jn.cnts l
  | [], _ => by simp [Jn.pys, PyData.depthAll]
  | j :: r, h => by
    simp only [Jn.oks] at h
    have a := Jn.deep j h.1
    have b := Jn.deeps r h.2
    simp only [Jn.pys, PyData.depthAll, Jn.cnts]
    omega
end
theorem cnt_pos (j : Jn) : 1 ≤ j.cnt := by
  cases j
  simp only [Jn.cnt]
  omega
/-! ## a joint laid -/
theorem mkJ {K : PySem.W.Frag} {H : Hp} {op : Str} {t q p : Addr} {tv pv : List V} {td : List PyData} {parts : List Jn} (h1 : SqT K H t tv) (h2 : Rps K H tv td) (h3 : SqT K H q pv) (h4 : Rps K H pv (Jn.pys parts)) (hp : H p = none) :
    Rp K (upd H p (.tup [.str op, .ref t, .ref q])) (.ref p) (Jn.mk op td parts).py := by
  simp only [Jn.py]
  exact .tup (SqT.of upd_same) (.cons (.str op) (.cons (.tup ((Ext.new hp) _ _ h1) (h2.mono (Ext.new hp) _ _)) (.cons (.tup ((Ext.new hp) _ _ h3) (h4.mono (Ext.new hp) _ _)) .nil)))
theorem SB.upd_new {a : Addr} {H H' : Hp} {D : Addr} {o : HO} (s : SB a H H') (hD : H D = none) : SB a H (L2.upd H' D o) := fun b u n h => by
  rw [upd_ne (ne_of_none h hD)]; exact s b u n h
theorem mod_le {k n : Int} (hk : 1 ≤ k) (hn : 1 ≤ n) (h : k % n = 0) : n ≤ k ∧ 1 ≤ k / n ∧ k / n ≤ k := by
  have h1 : n ≤ k := by
    by_cases c : n ≤ k
    · exact c
    · have := Int.emod_eq_of_lt (show 0 ≤ k by omega) (show k < n by omega)
      omega
  have h2 : 1 ≤ k / n := by
    rw [Int.le_ediv_iff_mul_le (by omega)]
    omega
  have h3 : k / n ≤ k := Int.ediv_le_self _ (by omega)
  exact ⟨h1, h2, h3⟩
end Mine

/-! ### M3 -/
namespace Mine
open PySem PySem.Spec L2
/-- v is plain data of a depth of at most n -/
def Dt (K : PySem.W.Frag) (n : Nat) (H : Hp) (v : V) : Prop := ∃ d, Rp K H v d ∧ dat d ∧ d.depth ≤ n
section
variable {K : PySem.W.Frag} {n m : Nat} {H H' : Hp} {v : V} {xs ys : List V} {p a : Addr} {d : PyData}
theorem Dt.mono (h : Dt K n H v) (e : Ext K H H') : Dt K n H' v := by
  obtain ⟨d, r, x, y⟩ := h
  exact ⟨d, r.mono e _ _, x, y⟩
theorem Dt.le (h : Dt K n H v) (e : n ≤ m) : Dt K m H v := by
  obtain ⟨d, r, x, y⟩ := h
  exact ⟨d, r, x, Nat.le_trans y e⟩
theorem Dt.int (i : Int) : Dt K n H (.int i) := ⟨.int i, .int i, by simp only [dat], by simp [PyData.depth]⟩
theorem Dt.non : Dt K n H .non := ⟨.none, .non, by simp only [dat], by simp [PyData.depth]⟩
theorem Dt.str {z : Str} (h : okS z) : Dt K n H (.str z) := ⟨.str z, .str z, by simpa only [dat] using h, by simp [PyData.depth]⟩
theorem Dt.all (h : ∀ x ∈ xs, Dt K n H x) : ∃ ds, Rps K H xs ds ∧ dats ds ∧ PyData.depthAll ds ≤ n ∧ ds.length = xs.length := by
  induction xs with
  | nil => exact ⟨[], .nil, trivial, by simp [PyData.depthAll], rfl⟩
  | cons x r ih =>
    obtain ⟨ds, a, b, c, e⟩ := ih (fun y hy => h y (List.mem_cons_of_mem _ hy))
    obtain ⟨d, a1, b1, c1⟩ := h x List.mem_cons_self
    exact ⟨d :: ds, .cons a1 a, ⟨b1, b⟩, by simp only [PyData.depthAll]; omega, by simp [e]⟩
theorem Dt.tup (h : ∀ x ∈ xs, Dt K n H x) (l : xs.length ≤ 1000) (s : SqT K H p xs) : Dt K (n + 1) H (.ref p) := by
  obtain ⟨ds, a, b, c, e⟩ := Dt.all h
  exact ⟨.tuple ds, .tup s a, by simp only [dat]; exact ⟨by omega, b⟩, by simp only [PyData.depth]; omega⟩
/-- the parts of a tuple -/
theorem Dt.parts {K : PySem.W.Frag} {n : Nat} {H : Hp} : ∀ {xs : List V} {ds : List PyData}, Rps K H xs ds → dats ds → PyData.depthAll ds ≤ n → ∀ x ∈ xs, Dt K n H x
  | _, _, .nil, _, _ => fun _ z => nomatch z
  | _, _, .cons (v := v) (d := d) (ds := ds) h1 h2, h, l => by
    simp only [PyData.depthAll] at l
    intro x hx
    rcases List.mem_cons.mp hx with rfl | hx
    · exact ⟨d, h1, h.1, by omega⟩
    · exact Dt.parts h2 h.2 (by omega) x hx
theorem Dt.jn {j : Jn} (r : Rp K H v j.py) (h : j.ok) (l : 2 * j.cnt ≤ n) : Dt K n H v := ⟨_, r, Jn.dat j h, Nat.le_trans (Jn.deep j h) l⟩
/-! ## what has been laid: a stack of values -/
def atomB : V → Bool
  | .int _ => true
  | .non => true
  | .str z => decide (z.length ≤ 1000) && PyData.strOk z
  | _ => false
theorem atom_dt (h : atomB v = true) : Dt K n H v := by
  cases v with
  | int i => exact .int i
  | non => exact .non
  | str z =>
    have q : (decide (z.length ≤ 1000) && PyData.strOk z) = true := h
    have q' := Bool.and_eq_true_iff.mp q
    exact .str (okS_of (of_decide_eq_true q'.1) q'.2)
  | _ => cases h
structure Lay (K : PySem.W.Frag) (a : Addr) (H0 : Hp) (n : Nat) (L : List V) (H : Hp) : Prop where
  sb : SB a H0 H
  src : Src H a
  dt : ∀ x ∈ L, Dt K n H x
theorem Lay.start (h : Src H a) : Lay K a H 0 [] H := ⟨SB.refl, h, fun _ z => nomatch z⟩
theorem Lay.tup {H0 : Hp} {L : List V} (h : Lay K a H0 n L H) (hp : H p = none) (l : xs.length ≤ 1000) (hx : ∀ x ∈ xs, x ∈ L ∨ atomB x = true) : Lay K a H0 (n + 1) (.ref p :: L) (upd H p (.tup xs)) := by
  have e : Ext K H (upd H p (.tup xs)) := Ext.new hp
  refine ⟨h.sb.new hp, h.src.new hp, fun x hm => ?_⟩
  rcases List.mem_cons.mp hm with rfl | hm
  · refine Dt.tup (xs := xs) (fun y hy => ?_) l (SqT.of upd_same)
    rcases hx y hy with q | q
    · exact (h.dt y q).mono e
    · exact atom_dt q
  · exact ((h.dt x hm).mono e).le (Nat.le_succ _)
theorem Lay.ext {H0 : Hp} {L : List V} (h : Lay K a H0 n L H) (s : Src H0 a) : Ext K H0 H := s.ext h.sb
theorem Lay.lst {H0 : Hp} {L : List V} (h : Lay K a H0 n L H) (hp : H p = none) : Lay K a H0 n L (upd H p (.lst xs)) := by
  have e : Ext K H (upd H p (.lst xs)) := Ext.new hp
  exact ⟨h.sb.new hp, h.src.new hp, fun x hm => (h.dt x hm).mono e⟩
theorem Lay.sbx {H0 : Hp} {L : List V} (h : Lay K a H0 n L H) (s : SB a H H') (hs : Src H' a) : Lay K a H0 n L H' := ⟨h.sb.trans s, hs, fun x hm => (h.dt x hm).mono (h.src.ext s)⟩
theorem Lay.push {H0 : Hp} {L : List V} (h : Lay K a H0 n L H) (d : Dt K m H v) (l : n ≤ m) : Lay K a H0 m (v :: L) H := ⟨h.sb, h.src, fun x hm => by
  rcases List.mem_cons.mp hm with rfl | hm
  · exact d
  · exact (h.dt x hm).le l⟩
theorem Lay.any {H0 : Hp} {L : List V} (h : Lay K a H0 n L H) (hx : ∀ x ∈ xs, x ∈ L ∨ atomB x = true) : ∀ x ∈ xs, Dt K n H x := fun y hy => by
  rcases hx y hy with q | q
  · exact h.dt y q
  · exact atom_dt q
theorem al0 {L : List V} : ∀ x ∈ ([] : List V), x ∈ L ∨ atomB x = true := fun _ z => nomatch z
theorem al1 {L : List V} {r : List V} (h : v ∈ L ∨ atomB v = true) (k : ∀ x ∈ r, x ∈ L ∨ atomB x = true) : ∀ x ∈ v :: r, x ∈ L ∨ atomB x = true := fun x hm => by
  rcases List.mem_cons.mp hm with rfl | hm
  · exact h
  · exact k x hm
/-! ## readings: dicts, tuples -/
variable {Q : VK} {σ : St}
theorem rd_dnew (h : ∀ p, H p = none → Q (.ref p) (upd H p (.dK []))) : tDNewK σ H Q := h
theorem rd_din {ty td : TE} (h : ty σ H fun y H1 => td σ H1 fun x H2 => ∃ a o, x = .ref a ∧ DGet H2 a y o ∧ Q (.bl o.isSome) H2) : tDIn ty td σ H Q := h
theorem u_din {i : Int} {kvs : List (Key × V)} {R : Option V → Prop} (e : H a = some (.dK kvs)) (h : R (valV kvs (Sum.inl i))) : ∃ a' o, V.ref a = .ref a' ∧ DGet H a' (.int i) o ∧ R o := ⟨a, _, rfl, DGet.k (k := Sum.inl i) e, h⟩
theorem rd_dget {ty td : TE} (h : td σ H fun x H1 => ty σ H1 fun y H2 => ∃ a v, x = .ref a ∧ DGet H2 a y (some v) ∧ Q v H2) : tDGet td ty σ H Q := h
theorem u_dget {i : Int} {kvs : List (Key × V)} {R : V → Prop} (e : H a = some (.dK kvs)) (ev : valV kvs (Sum.inl i) = some v) (h : R v) : ∃ a' v', V.ref a = .ref a' ∧ DGet H a' (.int i) (some v') ∧ R v' := ⟨a, v, rfl, by rw [← ev]; exact DGet.k (k := Sum.inl i) e, h⟩
theorem rd_dput {ty td tv : TE} {n bk ct : St → Hp → Prop} {rt : VK} (h : tv σ H fun v H1 => td σ H1 fun x H2 => ty σ H2 fun y H3 => ∃ a H4, x = .ref a ∧ DPut H3 a y v H4 ∧ n σ H4) : sDPut td ty tv ⟨n, rt, bk, ct⟩ σ H := h
theorem u_dput {i : Int} {kvs : List (Key × V)} {R : Hp → Prop} (e : H a = some (.dK kvs)) (l : kvs.length < sizeLine) (h : R (upd H a (.dK (putK kvs (Sum.inl i) v)))) : ∃ a' H4, V.ref a = .ref a' ∧ DPut H a' (.int i) v H4 ∧ R H4 := ⟨a, _, rfl, DPut.k (k := Sum.inl i) e l, h⟩
theorem rd_disp1 {tk tv : TE} (h : ∀ p, H p = none → tk σ (upd H p (.dK [])) fun x H1 => tv σ H1 fun y H2 => H2 p = some (.dK []) ∧ ∃ kvs : List (Key × V), [(x, y)] = kvs.map (fun kv => (kV kv.1, kv.2)) ∧ kvs.length ≤ 15 ∧ Q (.ref p) (upd H2 p (.dK (mergeK [] kvs)))) : tDisp [(tk, tv)] σ H Q := h
theorem merge1 {k : Key} {y : V} : mergeK [] [(k, y)] = [(k, y)] := rfl
theorem u_disp1 {i : Int} {y : V} {R : List (Key × V) → Prop} (e : H p = some (.dK [])) (h : R [(Sum.inl i, y)]) : H p = some (.dK []) ∧ ∃ kvs : List (Key × V), [(V.int i, y)] = kvs.map (fun kv => (kV kv.1, kv.2)) ∧ kvs.length ≤ 15 ∧ R kvs := ⟨e, [(Sum.inl i, y)], rfl, by simp, h⟩
theorem rd_sl {r : V → Option Int → Option Int → Hp → VK → Prop} {te : TE} {tl th : TO} (h : te σ H fun x H1 => tl σ H1 fun l H2 => th σ H2 fun u H3 => r x l u H3 Q) : tSl r te tl th σ H Q := h
theorem rd_part {te : TE} {R : Option Int → Hp → Prop} (h : te σ H fun x H1 => ∃ i, x = .int i ∧ R (some i) H1) : tPart te σ H R := h
theorem rd_partI {i : Int} {R : Int → Prop} (h : R i) : ∃ i', V.int i = .int i' ∧ R i' := ⟨i, rfl, h⟩
theorem rd_nopart {R : Option Int → Hp → Prop} (h : R none H) : tNoPart σ H R := h
theorem u_slT {lo hi : Option Int} (ha : SqT K H a xs) (h0 : Q (.ref a) H) (h : ∀ p, H p = none → Q (.ref p) (upd H p (.tup (cutV xs lo hi)))) : rSlU K (.ref a) lo hi H Q := .inr ⟨a, xs, rfl, ha, fun _ => h0, fun _ => h⟩
theorem cut_mem {lo hi : Option Int} {x : V} (h : x ∈ cutV xs lo hi) : x ∈ xs := List.mem_of_mem_drop (List.mem_of_mem_take h)
theorem u_catT {b : Addr} (ha : SqT K H a xs) (hb : SqT K H b ys) (l : xs.length + ys.length ≤ sizeLine) (n1 : ys ≠ []) (h0 : xs = [] → Q (.ref b) H) (h : xs ≠ [] → ∀ p, H p = none → Q (.ref p) (upd H p (.tup (xs ++ ys)))) : rAddU K (.ref a) (.ref b) H Q :=
  .inr (.inr (.inr ⟨a, b, xs, ys, rfl, rfl, ha, hb, l, h0, fun _ z => absurd z n1, fun x _ => h x⟩))
theorem u_repT {i : Int} (ha : SqT K H a xs) (n0 : xs ≠ []) (h1 : 2 ≤ i) (h2 : i ≤ 1000) (l : xs.length ≤ 1000) (h : ∀ p, H p = none → Q (.ref p) (upd H p (.tup (List.replicate i.toNat xs).flatten))) : rMulU K (.ref a) (.int i) H Q :=
  .inr (.inr ⟨a, i, xs, rfl, rfl, ha, n0, h1, h2, l, h⟩)
theorem Lay.same {H0 : Hp} {L : List V} (h : Lay K a H0 n L H) (s : Same H H') : Lay K a H0 n L H' := h.sbx (SB.of_same s) (h.src.same s)
theorem Lay.le {H0 : Hp} {L : List V} (h : Lay K a H0 n L H) (e : n ≤ m) : Lay K a H0 m L H := ⟨h.sb, h.src, fun x hx => (h.dt x hx).le e⟩
theorem Lay.sub {H0 : Hp} {L M : List V} (h : Lay K a H0 n L H) (e : ∀ x ∈ M, x ∈ L) : Lay K a H0 n M H := ⟨h.sb, h.src, fun x hx => h.dt x (e x hx)⟩
theorem SB.fresh {b : Addr} (s : SB a H H') (n : b ≠ a) (h : H' b = none) : H b = none := by
  cases e : H b with
  | none => rfl
  | some o => rw [s b o n e] at h; cases h
theorem Lay.write {H0 : Hp} {L : List V} {D : Addr} {o u : HO} (h : Lay K a H0 n L H) (hD : H0 D = none) (nd : D ≠ a) (e : H D = some o) (hn : noTup o) : Lay K a H0 n L (upd H D u) := ⟨h.sb.upd_new hD, h.src.set nd, fun x hx => (h.dt x hx).mono (Ext.set e hn)⟩
theorem u_slD {lo hi : Option Int} (ha : SqT K H a xs) (hd : ∀ x ∈ xs, Dt K n H x) (hl : xs.length ≤ 1000) (h : ∀ q H', Same H H' → Dt K (n + 1) H' (.ref q) → Q (.ref q) H') : rSlU K (.ref a) lo hi H Q :=
  u_slT ha (h a H (Same.refl H) (Dt.tup hd hl ha)) fun p hp => h p _ (same_new hp _) (Dt.tup (xs := cutV xs lo hi) (fun x hx => (hd x (cut_mem hx)).mono (Ext.new hp)) (Nat.le_trans (cutV_length xs lo hi) hl) (SqT.of upd_same))
theorem u_catD {b : Addr} (ha : SqT K H a xs) (hb : SqT K H b ys) (hd : ∀ x ∈ xs, Dt K n H x) (he : ∀ x ∈ ys, Dt K n H x) (hl : xs.length + ys.length ≤ 1000) (n1 : ys ≠ []) (h : ∀ q H', Same H H' → Dt K (n + 1) H' (.ref q) → Q (.ref q) H') : rAddU K (.ref a) (.ref b) H Q :=
  u_catT ha hb (ll (by omega)) n1 (fun _ => h b H (Same.refl H) (Dt.tup he (by omega) hb)) fun _ p hp => h p _ (same_new hp _) (Dt.tup (xs := xs ++ ys) (fun x hx => (by
    rcases List.mem_append.mp hx with h1 | h1
    · exact (hd x h1).mono (Ext.new hp)
    · exact (he x h1).mono (Ext.new hp))) (by rw [List.length_append]; exact hl) (SqT.of upd_same))
end
/-! ## a joint read -/
theorem Rp.jn {K : PySem.W.Frag} {H : Hp} {v : V} {op : Str} {td : List PyData} {parts : List Jn} (h : Rp K H v (Jn.mk op td parts).py) :
    ∃ (p t q : Addr) (tv pv : List V), v = .ref p ∧ SqT K H p [.str op, .ref t, .ref q] ∧ SqT K H t tv ∧ Rps K H tv td ∧ SqT K H q pv ∧ Rps K H pv (Jn.pys parts) := by
  simp only [Jn.py] at h
  cases h with
  | tup s r =>
    cases r with
    | cons r1 r =>
      cases r with
      | cons r2 r =>
        cases r with
        | cons r3 r =>
          cases r
          cases r1
          cases r2 with
          | tup s2 q2 =>
            cases r3 with
            | tup s3 q3 => exact ⟨_, _, _, _, _, rfl, s, s2, q2, s3, q3⟩
theorem pys_get : ∀ (l : List Jn) (i : Nat), (Jn.pys l)[i]? = (l[i]?).map Jn.py
  | [], i => by simp [Jn.pys]
  | j :: r, 0 => by simp [Jn.pys]
  | j :: r, i + 1 => by simp only [Jn.pys, List.getElem?_cons_succ]; exact pys_get r i
theorem oks_mem : ∀ {l : List Jn} {j : Jn}, Jn.oks l → j ∈ l → j.ok
  | a :: r, j, h, m => by
    simp only [Jn.oks] at h
    rcases List.mem_cons.mp m with rfl | m
    · exact h.1
    · exact oks_mem h.2 m
theorem cnts_mem : ∀ {l : List Jn} {j : Jn}, j ∈ l → j.cnt ≤ Jn.cnts l
  | a :: r, j, m => by
    simp only [Jn.cnts]
    rcases List.mem_cons.mp m with rfl | m
    · omega
    · have := cnts_mem m; omega
theorem Rps.part {K : PySem.W.Frag} {H : Hp} {pv : List V} {parts : List Jn} {i : Nat} {x : V} (h : Rps K H pv (Jn.pys parts)) (e : pv[i]? = some x) : ∃ j, parts[i]? = some j ∧ Rp K H x j.py := by
  obtain ⟨d, e1, r⟩ := h.getV e
  rw [pys_get] at e1
  cases e2 : parts[i]? with
  | none => rw [e2] at e1; cases e1
  | some j => rw [e2] at e1; cases e1; exact ⟨j, rfl, r⟩
theorem alls_append : ∀ a b : List Jn, Jn.alls (a ++ b) = Jn.alls a ++ Jn.alls b
  | [], b => by simp [Jn.alls]
  | j :: r, b => by simp only [List.cons_append, Jn.alls, alls_append r b, List.append_assoc]
mutual
theorem all_cnt : ∀ j : Jn, j.all.length = j.cnt
  | .mk op td parts => by simp only [Jn.all, Jn.cnt, List.length_cons, alls_cnt parts]; omega
theorem alls_cnt : ∀ l : List Jn, (Jn.alls l).length = Jn.cnts l
  | [] => by simp [Jn.alls, Jn.cnts]
  | j :: r => by simp only [Jn.alls, Jn.cnts, List.length_append, all_cnt j, alls_cnt r]
end
mutual
theorem all_ok : ∀ (j : Jn), j.ok → ∀ x ∈ j.all, x.ok ∧ x.cnt ≤ j.cnt
  | .mk op td parts, h => fun x hx => by
    simp only [Jn.all] at hx
    rcases List.mem_cons.mp hx with rfl | hx
    · exact ⟨h, Nat.le_refl _⟩
    · have h' := h
      simp only [Jn.ok] at h'
      have := alls_ok parts h'.2.2.2.2 x hx
      simp only [Jn.cnt]
      exact ⟨this.1, by omega⟩
theorem alls_ok : ∀ (l : List Jn), Jn.oks l → ∀ x ∈ Jn.alls l, x.ok ∧ x.cnt ≤ Jn.cnts l
  | [], _ => fun x hx => by simp [Jn.alls] at hx
  | j :: r, h => fun x hx => by
    simp only [Jn.oks] at h
    simp only [Jn.alls] at hx
    simp only [Jn.cnts]
    rcases List.mem_append.mp hx with hx | hx
    · have := all_ok j h.1 x hx
      exact ⟨this.1, by omega⟩
    · have := alls_ok r h.2 x hx
      exact ⟨this.1, by omega⟩
end
theorem take_more {α : Type} {l : List α} {i : Nat} {x : α} (h : l[i]? = some x) : l.take (i + 1) = l.take i ++ [x] := by
  rw [List.take_add_one, h] <;> rfl
theorem alls_take {l : List Jn} {i : Nat} {x : Jn} (h : l[i]? = some x) : Jn.alls (l.take (i + 1)) = Jn.alls (l.take i) ++ x.all := by
  rw [take_more h, alls_append]
  simp [Jn.alls]
theorem cnts_take : ∀ (l : List Jn) (i : Nat), Jn.cnts (l.take i) ≤ Jn.cnts l
  | [], i => by simp [Jn.cnts]
  | j :: r, 0 => by simp [Jn.cnts]
  | j :: r, i + 1 => by simp only [List.take_succ_cons, Jn.cnts]; have := cnts_take r i; omega
end Mine

/-! ### G0 -/
namespace Mine
open PySem PySem.Spec L2
def abc : Nat → Str
  | 0 => "a"
  | 1 => "b"
  | 2 => "c"
  | _ => "x"
def opsSame : List Str := ["rev", "sort", "cat"]
def opsUnit : List Str := ["sum", "top"]
def opsPair : List Str := ["add", "sub", "mul"]
/-- a program that fits, and its size; the inputs' sizes by their letters -/
inductive Gd (ks : Nat → Int) : Jn → Int → Prop
  | inp (i : Nat) (hi : i < 4) (h1 : 1 ≤ ks i) (h2 : ks i ≤ 64) : Gd ks (.mk "in" [.str (abc i), .int (ks i)] []) (ks i)
  | row (ns : List Int) (h1 : 1 ≤ ns.length) (h2 : ns.length ≤ 64) (h : ∀ n ∈ ns, 0 ≤ n ∧ n ≤ 1000002) : Gd ks (.mk "row" (ns.map PyData.int) []) ns.length
  | same {j : Jn} {s : Int} (op : Str) (h : op ∈ opsSame) (g : Gd ks j s) : Gd ks (.mk op [] [j]) s
  | unit {j : Jn} {s : Int} (op : Str) (h : op ∈ opsUnit) (g : Gd ks j s) : Gd ks (.mk op [] [j]) 1
  | hold {j : Jn} {s : Int} (n : Int) (h1 : 0 ≤ n) (h2 : n ≤ 64) (g : Gd ks j s) : Gd ks (.mk "hold" [.int n] [j]) s
  | part {j : Jn} {s : Int} (i k : Int) (h1 : 0 ≤ i) (h2 : i < k) (h3 : k ≤ s) (g : Gd ks j s) : Gd ks (.mk "part" [.int i, .int k] [j]) (k - i)
  | rep {j : Jn} {s : Int} (t : Int) (h1 : 1 ≤ t) (h2 : t ≤ 16) (h3 : s * t ≤ 64) (g : Gd ks j s) : Gd ks (.mk "rep" [.int t] [j]) (s * t)
  | pair {j l : Jn} {s : Int} (op : Str) (h : op ∈ opsPair) (g : Gd ks j s) (g2 : Gd ks l s) : Gd ks (.mk op [] [j, l]) s
  | dot {j l : Jn} {s : Int} (g : Gd ks j s) (g2 : Gd ks l s) : Gd ks (.mk "dot" [] [j, l]) 1
  | outer {j l : Jn} {s t : Int} (h : s * t ≤ 64) (g : Gd ks j s) (g2 : Gd ks l t) : Gd ks (.mk "outer" [] [j, l]) (s * t)
  | blend {j l : Jn} {s t : Int} (h : s + t - 1 ≤ 64) (g : Gd ks j s) (g2 : Gd ks l t) : Gd ks (.mk "blend" [] [j, l]) (s + t - 1)
  | cat {j l : Jn} {s t : Int} (h : s + t ≤ 64) (g : Gd ks j s) (g2 : Gd ks l t) : Gd ks (.mk "cat" [] [j, l]) (s + t)
  | cat3 {j l m : Jn} {s t r : Int} (h : s + t + r ≤ 64) (g : Gd ks j s) (g2 : Gd ks l t) (g3 : Gd ks m r) : Gd ks (.mk "cat" [] [j, l, m]) (s + t + r)
  | cat4 {j l m o : Jn} {s t r q : Int} (h : s + t + r + q ≤ 64) (g : Gd ks j s) (g2 : Gd ks l t) (g3 : Gd ks m r) (g4 : Gd ks o q) : Gd ks (.mk "cat" [] [j, l, m, o]) (s + t + r + q)
theorem one_le_mul {s t : Int} (h1 : 1 ≤ s) (h2 : 1 ≤ t) : 1 ≤ s * t := by
  have := Int.mul_le_mul h1 h2 (by decide) (by omega)
  omega
theorem Gd.sz {ks : Nat → Int} {j : Jn} {s : Int} (g : Gd ks j s) : 1 ≤ s ∧ s ≤ 64 := by
  induction g with
  | inp i hi h1 h2 => exact ⟨h1, h2⟩
  | row ns h1 h2 h => omega
  | same op h g ih => exact ih
  | unit op h g ih => omega
  | hold n h1 h2 g ih => exact ih
  | part i k h1 h2 h3 g ih => omega
  | rep t h1 h2 h3 g ih => exact ⟨one_le_mul ih.1 h1, h3⟩
  | pair op h g g2 ih1 ih2 => exact ih1
  | dot g g2 ih1 ih2 => omega
  | outer h g g2 ih1 ih2 => exact ⟨one_le_mul ih1.1 ih2.1, h⟩
  | blend h g g2 ih1 ih2 => omega
  | cat h g g2 ih1 ih2 => omega
  | cat3 h g g2 g3 ih1 ih2 ih3 => omega
  | cat4 h g g2 g3 g4 ih1 ih2 ih3 ih4 => omega
theorem okS_abc (i : Nat) : okS (abc i) := by
  unfold abc
  split <;> exact okS_of (by decide +kernel) (by decide +kernel)
theorem okS_mem {l : List Str} (h : (l.all fun z => decide (z.length ≤ 1000) && PyData.strOk z) = true) {z : Str} (m : z ∈ l) : okS z := by
  have := Bool.and_eq_true_iff.mp (List.all_eq_true.mp h z m)
  exact okS_of (of_decide_eq_true this.1) this.2
theorem flat_ints (ns : List Int) : ∀ d ∈ ns.map PyData.int, flatD d := fun d hd => by
  obtain ⟨n, _, rfl⟩ := List.mem_map.mp hd
  exact trivial
theorem okL {z : Str} (h : (decide (z.length ≤ 1000) && PyData.strOk z) = true) : okS z := okS_mem (l := [z]) (by simpa using h) (by simp)
theorem Gd.ok {ks : Nat → Int} {j : Jn} {s : Int} (g : Gd ks j s) : j.ok := by
  induction g with
  | inp i hi h1 h2 => simp only [Jn.ok, Jn.oks]; exact ⟨okL (by decide +kernel), by simp, fun d hd => (by
      rcases (show d = .str (abc i) ∨ d = .int (ks i) by simpa using hd) with rfl | rfl
      · exact okS_abc i
      · exact trivial), by simp, trivial⟩
  | row ns h1 h2 h => simp only [Jn.ok, Jn.oks]; exact ⟨okL (by decide +kernel), by simpa using h2, flat_ints ns, by simp, trivial⟩
  | same op h g ih => simp only [Jn.ok, Jn.oks]; exact ⟨okS_mem (l := opsSame) (by decide +kernel) h, by simp, (fun _ z => nomatch z), by simp, ih, trivial⟩
  | unit op h g ih => simp only [Jn.ok, Jn.oks]; exact ⟨okS_mem (l := opsUnit) (by decide +kernel) h, by simp, (fun _ z => nomatch z), by simp, ih, trivial⟩
  | hold n h1 h2 g ih => simp only [Jn.ok, Jn.oks]; exact ⟨okL (by decide +kernel), by simp, flat_ints [n], by simp, ih, trivial⟩
  | part i k h1 h2 h3 g ih => simp only [Jn.ok, Jn.oks]; exact ⟨okL (by decide +kernel), by simp, flat_ints [i, k], by simp, ih, trivial⟩
  | rep t h1 h2 h3 g ih => simp only [Jn.ok, Jn.oks]; exact ⟨okL (by decide +kernel), by simp, flat_ints [t], by simp, ih, trivial⟩
  | pair op h g g2 ih1 ih2 => simp only [Jn.ok, Jn.oks]; exact ⟨okS_mem (l := opsPair) (by decide +kernel) h, by simp, (fun _ z => nomatch z), by simp, ih1, ih2, trivial⟩
  | dot g g2 ih1 ih2 => simp only [Jn.ok, Jn.oks]; exact ⟨okL (by decide +kernel), by simp, (fun _ z => nomatch z), by simp, ih1, ih2, trivial⟩
  | outer h g g2 ih1 ih2 => simp only [Jn.ok, Jn.oks]; exact ⟨okL (by decide +kernel), by simp, (fun _ z => nomatch z), by simp, ih1, ih2, trivial⟩
  | blend h g g2 ih1 ih2 => simp only [Jn.ok, Jn.oks]; exact ⟨okL (by decide +kernel), by simp, (fun _ z => nomatch z), by simp, ih1, ih2, trivial⟩
  | cat h g g2 ih1 ih2 => simp only [Jn.ok, Jn.oks]; exact ⟨okL (by decide +kernel), by simp, (fun _ z => nomatch z), by simp, ih1, ih2, trivial⟩
  | cat3 h g g2 g3 ih1 ih2 ih3 => simp only [Jn.ok, Jn.oks]; exact ⟨okL (by decide +kernel), by simp, (fun _ z => nomatch z), by simp, ih1, ih2, ih3, trivial⟩
  | cat4 h g g2 g3 g4 ih1 ih2 ih3 ih4 => simp only [Jn.ok, Jn.oks]; exact ⟨okL (by decide +kernel), by simp, (fun _ z => nomatch z), by simp, ih1, ih2, ih3, ih4, trivial⟩
/-- at v: a program that fits, of c joints, beside its size -/
def Tr (K : PySem.W.Frag) (ks : Nat → Int) (H : Hp) (v : V) (c : Nat) : Prop := ∃ (p : Addr) (u : V) (j : Jn) (s : Int), v = .ref p ∧ SqT K H p [u, .int s] ∧ Rp K H u j.py ∧ Gd ks j s ∧ j.cnt = c
theorem Tr.mono {K : PySem.W.Frag} {ks : Nat → Int} {H H' : Hp} {v : V} {c : Nat} (h : Tr K ks H v c) (e : Ext K H H') : Tr K ks H' v c := by
  obtain ⟨p, u, j, s, rfl, h1, h2, h3, h4⟩ := h
  exact ⟨p, u, j, s, rfl, e _ _ h1, h2.mono e _ _, h3, h4⟩
theorem cnt1 {op : Str} {td : List PyData} {j : Jn} : (Jn.mk op td [j]).cnt = 1 + j.cnt := by simp [Jn.cnt, Jn.cnts]
theorem cnt2 {op : Str} {td : List PyData} {j l : Jn} : (Jn.mk op td [j, l]).cnt = 1 + (j.cnt + l.cnt) := by simp [Jn.cnt, Jn.cnts]
theorem pys1 {j : Jn} : Jn.pys [j] = [j.py] := by simp [Jn.pys]
theorem pys2 {j l : Jn} : Jn.pys [j, l] = [j.py, l.py] := by simp [Jn.pys]
end Mine

/-! ### D1 -/
namespace Mine
open PySem PySem.Spec L2
local macro_rules | `(tactic| walk_at "st") => `(tactic| (with_reducible apply iteF))
local macro_rules | `(tactic| walk_at "st") => `(tactic| (with_reducible apply iteT))
local macro_rules | `(tactic| walk_at "st") => `(tactic| (with_reducible apply rd_ipI))
local macro_rules | `(tactic| walk_at "st") => `(tactic| ((with_reducible apply rd_aug); exact rfl))
local macro_rules | `(tactic| walk_at "st") => `(tactic| (with_reducible apply rd_par3_end))
local macro_rules | `(tactic| walk_at "st") => `(tactic| (with_reducible apply rd_par3))
local macro_rules | `(tactic| walk_at "st") => `(tactic| (with_reducible apply u_mul; focus exact Or.inr cm))
local macro_rules | `(tactic| walk_at "st") => `(tactic| ((with_reducible apply u_pow); (focus (exact ⟨by decide, by decide, by decide⟩))))
local macro_rules | `(tactic| walk_at "st") => `(tactic| (with_reducible apply rd_yes))
local macro_rules | `(tactic| walk_at "st") => `(tactic| (with_reducible apply rd_lc))
local macro_rules | `(tactic| walk_at "st") => `(tactic| ((with_reducible apply rd_itT); (focus first | assumption | exact SqT.of (by assumption) | exact SqT.of upd_same)))
local macro_rules | `(tactic| walk_at "st") => `(tactic| ((with_reducible apply rd_itL); (focus first | assumption | exact SqL.of (by assumption) | exact SqL.of upd_same)))
local macro_rules | `(tactic| walk_at "st") => `(tactic| ((with_reducible apply u_isi); (focus (first | exact Or.inl rfl | exact Or.inr (Or.inl rfl) | exact Or.inr (Or.inr (Or.inl rfl)) | exact Or.inr (Or.inr (Or.inr rfl)))); (focus first | assumption | exact Rp.int _ | exact Rp.str _)))
local macro_rules | `(tactic| walk_at "st") => `(tactic| (with_reducible apply rd_istrE))
local macro_rules | `(tactic| walk_at "st") => `(tactic| (with_reducible apply rd_istr))
local macro_rules | `(tactic| walk_at "st") => `(tactic| ((with_reducible apply rd_seqT); (focus first | assumption | exact SqT.of (by assumption) | exact SqT.of upd_same)))
local macro_rules | `(tactic| walk_at "st") => `(tactic| ((with_reducible apply rd_seqL); (focus first | assumption | exact SqL.of (by assumption) | exact SqL.of upd_same)))
local macro_rules | `(tactic| walk_at "st") => `(tactic| (with_reducible apply rd_iSeq))
local macro_rules | `(tactic| walk_at "st") => `(tactic| (with_reducible apply u_notInS))
local macro_rules | `(tactic| walk_at "st") => `(tactic| (with_reducible apply u_inS))
local macro_rules | `(tactic| walk_at "st") => `(tactic| (with_reducible apply u_notInD))
local macro_rules | `(tactic| walk_at "st") => `(tactic| (with_reducible apply u_inD))
local macro_rules | `(tactic| walk_at "st") => `(tactic| (with_reducible apply rd_callS))
local macro_rules | `(tactic| walk_at "st") => `(tactic| (with_reducible apply rd_raiseE))
local macro_rules | `(tactic| walk_at "st") => `(tactic| (with_reducible apply rd_xf))
local macro_rules | `(tactic| walk_at "st") => `(tactic| (with_reducible apply g_neB))
local macro_rules | `(tactic| walk_at "st") => `(tactic| (with_reducible apply g_neS))
local macro_rules | `(tactic| walk_at "st") => `(tactic| (with_reducible apply g_neI))
local macro_rules | `(tactic| walk_at "st") => `(tactic| (with_reducible apply g_eqS))
local macro_rules | `(tactic| walk_at "st") => `(tactic| (with_reducible apply g_eqI))
local macro_rules | `(tactic| walk_at "st") => `(tactic| (with_reducible apply rd_retN))
local macro_rules | `(tactic| walk_at "st") => `(tactic| (with_reducible apply rd_gnil))
local macro_rules | `(tactic| walk_at "st") => `(tactic| (with_reducible apply rd_gcons))
local macro_rules | `(tactic| walk_at "st") => `(tactic| ((with_reducible apply rd_rng2e); (focus omega)))
local macro_rules | `(tactic| walk_at "st") => `(tactic| ((with_reducible apply rd_rng1e); (focus omega); (focus omega)))
local macro_rules | `(tactic| walk_at "st") => `(tactic| (with_reducible apply rd_rng2))
local macro_rules | `(tactic| walk_at "st") => `(tactic| (with_reducible apply rd_rng1))
local macro_rules | `(tactic| walk_at "st") => `(tactic| (with_reducible apply rd_for))
local macro_rules | `(tactic| walk_at "st") => `(tactic| (with_reducible apply rd_iTup))
local macro_rules | `(tactic| walk_at "st") => `(tactic| (with_reducible apply rd_iList))
local macro_rules | `(tactic| walk_at "st") => `(tactic| (with_reducible apply rd_rev))
local macro_rules | `(tactic| walk_at "st") => `(tactic| (with_reducible apply u_min3))
local macro_rules | `(tactic| walk_at "st") => `(tactic| ((with_reducible apply rd_tyL); focus (first | exact SqL.of (by assumption) | exact SqL.of upd_same)))
local macro_rules | `(tactic| walk_at "st") => `(tactic| (with_reducible apply rd_bm0))
local macro_rules | `(tactic| walk_at "st") => `(tactic| (with_reducible apply rd_bm))
local macro_rules | `(tactic| walk_at "st") => `(tactic| ((with_reducible apply rd_truL); focus (first | assumption | exact SqL.of (by assumption) | exact SqL.of upd_same)))
local macro_rules | `(tactic| walk_at "st") => `(tactic| (with_reducible apply rd_truB))
local macro_rules | `(tactic| walk_at "st") => `(tactic| (with_reducible apply rd_tru))
local macro_rules | `(tactic| walk_at "st") => `(tactic| (with_reducible apply rd_chain3))
local macro_rules | `(tactic| walk_at "st") => `(tactic| ((with_reducible apply u_setL); (focus (first | assumption | exact upd_same)); exact rfl))
local macro_rules | `(tactic| walk_at "st") => `(tactic| ((with_reducible apply u_lenT); focus (first | assumption | exact SqT.of (by assumption) | exact SqT.of upd_same)))
local macro_rules | `(tactic| walk_at "st") => `(tactic| ((with_reducible apply u_lenL); focus (first | assumption | exact SqL.of (by assumption) | exact SqL.of upd_same)))
local macro_rules | `(tactic| walk_at "st") => `(tactic| ((with_reducible apply u_ixL); (focus (first | assumption | exact SqL.of (by assumption) | exact SqL.of upd_same)); exact rfl))
local macro_rules | `(tactic| walk_at "st") => `(tactic| ((with_reducible apply u_mul); focus first | exact Or.inl (by omega) | exact Or.inr (by omega) | exact Or.inl (by decide) | exact Or.inr (by decide)))
local macro_rules | `(tactic| walk_at "st") => `(tactic| ((with_reducible apply u_div); focus first | decide | omega | (constructor <;> first | assumption | omega)))
local macro_rules | `(tactic| walk_at "st") => `(tactic| ((with_reducible apply u_mod); focus first | assumption | decide | omega))
local macro_rules | `(tactic| walk_at "st") => `(tactic| (with_reducible apply u_neg))
local macro_rules | `(tactic| walk_at "st") => `(tactic| (with_reducible apply u_min))
local macro_rules | `(tactic| walk_at "st") => `(tactic| (with_reducible apply u_max))
local macro_rules | `(tactic| walk_at "st") => `(tactic| (with_reducible apply u_intB))
local macro_rules | `(tactic| walk_at "st") => `(tactic| (with_reducible apply u_int))
local macro_rules | `(tactic| walk_at "st") => `(tactic| (with_reducible apply u_neI))
local macro_rules | `(tactic| walk_at "st") => `(tactic| (with_reducible apply u_eqS))
local macro_rules | `(tactic| walk_at "st") => `(tactic| (with_reducible apply u_eqI))
local macro_rules | `(tactic| walk_at "st") => `(tactic| (with_reducible apply u_ge))
local macro_rules | `(tactic| walk_at "st") => `(tactic| (with_reducible apply u_gt))
local macro_rules | `(tactic| walk_at "st") => `(tactic| (with_reducible apply u_le))
local macro_rules | `(tactic| walk_at "st") => `(tactic| (with_reducible apply u_lt))
local macro_rules | `(tactic| walk_at "st") => `(tactic| (with_reducible apply u_sub))
local macro_rules | `(tactic| walk_at "st") => `(tactic| (with_reducible apply u_add))
local macro_rules | `(tactic| walk_at "st") => `(tactic| (with_reducible apply rd_ct))
local macro_rules | `(tactic| walk_at "st") => `(tactic| (with_reducible apply rd_brk))
local macro_rules | `(tactic| walk_at "st") => `(tactic| (with_reducible apply rd_tB))
local macro_rules | `(tactic| walk_at "st") => `(tactic| (with_reducible apply rd_chain))
local macro_rules | `(tactic| walk_at "st") => `(tactic| (with_reducible apply rd_notV))
local macro_rules | `(tactic| walk_at "st") => `(tactic| (with_reducible apply rd_orV))
local macro_rules | `(tactic| walk_at "st") => `(tactic| (with_reducible apply rd_andV))
local macro_rules | `(tactic| walk_at "st") => `(tactic| (with_reducible apply rd_not))
local macro_rules | `(tactic| walk_at "st") => `(tactic| (with_reducible apply rd_or))
local macro_rules | `(tactic| walk_at "st") => `(tactic| (with_reducible apply rd_and))
local macro_rules | `(tactic| walk_at "st") => `(tactic| (with_reducible apply rd_un))
local macro_rules | `(tactic| walk_at "st") => `(tactic| (with_reducible apply rd_par_end))
local macro_rules | `(tactic| walk_at "st") => `(tactic| (with_reducible apply rd_par))
local macro_rules | `(tactic| walk_at "st") => `(tactic| (with_reducible apply rd_gsub))
local macro_rules | `(tactic| walk_at "st") => `(tactic| (with_reducible apply rd_ife))
local macro_rules | `(tactic| walk_at "st") => `(tactic| (with_reducible apply rd_next))
local macro_rules | `(tactic| walk_at "st") => `(tactic| (with_reducible apply rd_drop))
local macro_rules | `(tactic| walk_at "st") => `(tactic| (with_reducible apply rd_lst))
local macro_rules | `(tactic| walk_at "st") => `(tactic| (with_reducible apply rd_tup))
local macro_rules | `(tactic| walk_at "st") => `(tactic| (with_reducible apply rd_call))
local macro_rules | `(tactic| walk_at "st") => `(tactic| (with_reducible apply rd_ret))
local macro_rules | `(tactic| walk_at "st") => `(tactic| (with_reducible apply rd_retE))
local macro_rules | `(tactic| walk_at "st") => `(tactic| (with_reducible apply rd_bl))
local macro_rules | `(tactic| walk_at "st") => `(tactic| (with_reducible apply rd_test))
local macro_rules | `(tactic| walk_at "st") => `(tactic| (with_reducible apply rd_if))
local macro_rules | `(tactic| walk_at "st") => `(tactic| (with_reducible apply rd_nil))
local macro_rules | `(tactic| walk_at "st") => `(tactic| (with_reducible apply rd_cons))
local macro_rules | `(tactic| walk_at "st") => `(tactic| (with_reducible apply rd_cb))
local macro_rules | `(tactic| walk_at "st") => `(tactic| (with_reducible apply rd_op))
local macro_rules | `(tactic| walk_at "st") => `(tactic| (with_reducible apply rd_gname))
local macro_rules | `(tactic| walk_at "st") => `(tactic| (with_reducible apply rd_asg))
local macro_rules | `(tactic| walk_at "st") => `(tactic| (with_reducible apply rd_seq))
local macro_rules | `(tactic| walk_at "st") => `(tactic| (with_reducible apply rd_c))
local macro_rules | `(tactic| walk_at "st") => `(tactic| ((with_reducible apply rd_var); exact rfl))
local macro_rules | `(tactic| walk_at "go") => `(tactic| repeat (walk_at "st"))
local macro_rules | `(tactic| walk_at "sp") => `(tactic| (first | refine rd_split (fun c => ?_) (fun c => ?_) | refine rd_splitN (fun c => ?_) (fun c => ?_) | refine rd_splitB (fun c => ?_) (fun c => ?_)))
local macro_rules | `(tactic| walk_at "nx") => `(tactic| repeat (first | (with_reducible apply iteF) | (with_reducible apply iteT) | (with_reducible apply rd_next)))

section
variable {P : Program} {w : World} {K : PySem.W.Frag} {mg : Str → Option Value} {base : Heap}
/-- // by a positive divisor of some size -/
def rDivW : R2 := fun x y H Q => ∃ i j, x = .int i ∧ y = .int j ∧ CDivW i j ∧ Q (.int (i / j)) H
theorem divW {X : Cx} : OpR X (binaryOp .FloorDiv) rDivW := op_fdivW
theorem u_divW {i j : Int} {H : Hp} {Q : VK} (h : 0 < j) (h2 : j < 18446744073709551616) (q : Q (.int (i / j)) H) : rDivW (.int i) (.int j) H Q := ⟨i, j, rfl, rfl, wide_div (b := 64) h (by omega) (by decide) (by decide), q⟩
/-- one draw, of any bound -/
def spTakB : Sp := fun vs H Q _ => ∃ (a : Addr) (t : Int), vs = [.ref a, .int t] ∧ Src H a ∧ 0 < t ∧ t < 18446744073709551616 ∧
  ∀ (H' : Hp) (r : Int), SB a H H' → Src H' a → 0 ≤ r → r < t → Q (.int r) H'
theorem use_takB {a : Addr} {t : Int} {H : Hp} {Q : VK} {E : XK} (h : Src H a) (h1 : 0 < t) (h2 : t < 18446744073709551616) (q : ∀ (H' : Hp) (r : Int), SB a H H' → Src H' a → 0 ≤ r → r < t → Q (.int r) H') :
    spTakB [.ref a, .int t] H Q E := ⟨a, t, rfl, h, h1, h2, q⟩
theorem spTakB.of {P : Program} {w : World} {K : PySem.W.Frag} {mg : Str → Option Value} {base : Heap} (F : HasF P w K mg base CX0 1 "_law_take" ["source", "top"] spTakB) : HasF P w K mg base CX0 1 "_law_take" ["source", "top"] spTake := by
  obtain ⟨f, fd, h1, h2⟩ := F
  exact ⟨f, fd, h1.imp fun vs H Q E ⟨a, t, e, s, ht, h2, q⟩ => ⟨a, t, e, s, ht, by omega, q⟩, h2⟩
abbrev s_law_take : Stmt := top 71
theorem sc_law_take : FnScope ["source", "top", "digit"] ["source", "top"] (defScope s_law_take) := ⟨rfl, rfl, rfl, by decide +kernel, rfl, by decide +kernel, by decide +kernel⟩
theorem has_takB (O : OwnF K mg "_law_take" s_law_take) (B : Bl mg) : HasF P w K mg base CX0 1 "_law_take" ["source", "top"] spTakB := by
  refine has0 O sc_law_take (fun _ _ _ _ _ _ us hl => match us, hl with | [_, _], _ => rfl) (fun vs H Q E h => ?_) (fun f cdv A outer s_ H vs Q E hr h => ?_)
  · obtain ⟨a, t, rfl, _⟩ := h
    rfl
  obtain ⟨a, t, rfl, ⟨b, s, hS, hb, hs, hs2⟩, ht, ht2, q⟩ := h
  refine ⟨_, (pss_cons (ps_if (pt_cmpR gtU (pe_ix (kIx K) (pv 0) pe_int (fun _ _ => rfl)) pe_int (nomark _)) (pss_cons (ps_set (i := 2) sc_law_take.nd rfl (by first | exact Or.inl rfl | exact Or.inr rfl) (pe_op modU (pe_callTy intU (by rfl) B.int (by decide +kernel) (pa_cons (pe_ix (kIx K) (pv 0) pe_int (fun _ _ => rfl)) pa_nil)) (pv 1))) (pss_cons (ps_asg (pe_op divW (pe_ix (kIx K) (pv 0) pe_int (fun _ _ => rfl)) (pv 1)) (pg_sub (pv 0) pe_int set_list)) (pss_one (ps_ret (pv 2))))) pss_nil) (pss_cons (ps_asg (pe_op modU (pe_callTy intU (by rfl) B.int (by decide +kernel) (pa_cons (pe_op (kAdd K) (pe_op (kMul K) (pe_ix (kIx K) (pv 0) pe_int (fun _ _ => rfl)) pe_int) pe_int) pa_nil)) pe_int) (pg_sub (pv 0) pe_int set_list)) (pss_one (ps_ret (pe_op modU (pe_callTy intU (by rfl) B.int (by decide +kernel) (pa_cons (pe_op divW (pe_op modU (pe_callTy intU (by rfl) B.int (by decide +kernel) (pa_cons (pe_op (kMul K) (pe_ix (kIx K) (pv 0) pe_int (fun _ _ => rfl)) (pe_ix (kIx K) (pv 0) pe_int (fun _ _ => rfl))) pa_nil)) pe_int) pe_int) pa_nil)) (pv 1)))))), ?_⟩
  refine st0 [some (.ref a), some (.int t), none] rfl ?_
  walk_at "go"
  refine rd_split (fun c => ?_) (fun c => ?_)
  · walk_at "go"
    refine u_divW ht ht2 ?_
    walk_at "go"
    refine q _ _ SB.upd ⟨b / t, s, upd_same, Int.ediv_nonneg hb (by omega), hs, hs2⟩ (Int.emod_nonneg _ (by omega)) (Int.emod_lt_of_pos _ ht)
  · walk_at "go"
    refine u_divW (by omega) (by omega) ?_
    walk_at "go"
    refine q _ _ SB.upd ⟨b, _, upd_same, hb, Int.emod_nonneg _ (by omega), Int.emod_lt_of_pos _ (by omega)⟩ (Int.emod_nonneg _ (by omega)) (Int.emod_lt_of_pos _ ht)
theorem has_take (O : OwnF K mg "_law_take" s_law_take) (B : Bl mg) : HasF P w K mg base CX0 1 "_law_take" ["source", "top"] spTake := spTakB.of (has_takB O B)
abbrev s_law_one : Stmt := top 72
theorem sc_law_one : FnScope ["source", "things"] ["source", "things"] (defScope s_law_one) := ⟨rfl, rfl, rfl, by decide +kernel, rfl, by decide +kernel, by decide +kernel⟩
theorem has_one (O : OwnF K mg "_law_one" s_law_one) (B : Bl mg) (h_law_take : HasF P w K mg base CX0 1 "_law_take" ["source", "top"] spTake) : HasF P w K mg base CX0 2 "_law_one" ["source", "things"] (spOne K) := by
  refine has0 O sc_law_one (fun _ _ _ _ _ _ us hl => match us, hl with | [_, _], _ => rfl) (fun vs H Q E h => ?_) (fun f cdv A outer s_ H vs Q E hr h => ?_)
  · obtain ⟨a, p, xs, rfl, _⟩ := h
    rfl
  obtain ⟨a, p, xs, rfl, hS, hX, hn, h0, h1, q⟩ := h
  refine ⟨_, (pss_one (ps_ret (pe_ix (kIx K) (pv 1) (pe_callH h_law_take (hr.mono (by first | decide | omega)) (by rfl) pass0 (pa_cons (pv 0) (pa_cons (pe_callB (kLen K) (by rfl) B.len (by decide +kernel) (pa_cons (pv 1) pa_nil)) pa_nil))) (fun _ _ => rfl)))), ?_⟩
  refine st0 [some (.ref a), some (.ref p)] rfl ?_
  walk_at "go"
  refine use_take hS (by omega) (by omega) fun H' r hs hS' hr0 hr1 => ?_
  obtain ⟨v, e, m⟩ := at_in hr0 hr1
  exact u_ixL (hs.seqL hn hX) e (q _ _ hs hS' m)
abbrev s_law_pool : Stmt := top 70
theorem sc_law_pool : FnScope ["script", "k", "cell", "big", "stirred"] ["script", "k"] (defScope s_law_pool) := ⟨rfl, rfl, rfl, by decide +kernel, rfl, by decide +kernel, by decide +kernel⟩
def spPool (K : PySem.W.Frag) : Sp := fun vs H Q _ => ∃ (a : Addr) (ns : List Int) (k : Int), vs = [.ref a, .int k] ∧ SqL K H a (ns.map V.int) ∧ 0 ≤ k ∧ k < 1000 ∧
  ∀ (H' : Hp) (p : Addr), Same H H' → H p = none → Src H' p → Q (.ref p) H'
theorem has_pool (O : OwnF K mg "_law_pool" s_law_pool) (B : Bl mg) : HasF P w K mg base CX0 1 "_law_pool" ["script", "k"] (spPool K) := by
  refine has0 O sc_law_pool (fun _ _ _ _ _ _ us hl => match us, hl with | [_, _], _ => rfl) (fun vs H Q E h => ?_) (fun f cdv A outer s_ H vs Q E hr h => ?_)
  · obtain ⟨a, ns, k, rfl, _⟩ := h
    rfl
  obtain ⟨a, ns, k, rfl, hL, hk0, hk1, q⟩ := h
  have hl : (ns.map V.int).length = ns.length := List.length_map _
  refine ⟨_, (pss_cons (ps_set (i := 2) sc_law_pool.nd rfl (by first | exact Or.inl rfl | exact Or.inr rfl) pe_int) (pss_cons (ps_if (pt_cmpR ltU (pv 1) (pe_callB (kLen K) (by rfl) B.len (by decide +kernel) (pa_cons (pv 0) pa_nil)) (nomark _)) (pss_one (ps_set (i := 2) sc_law_pool.nd rfl (by first | exact Or.inl rfl | exact Or.inr rfl) (pe_ix (kIx K) (pv 0) (pv 1) (fun _ _ => rfl)))) (pss_one (ps_if (pt_truthK K (pv 0) (by intro _; rfl)) (pss_one (ps_set (i := 2) sc_law_pool.nd rfl (by first | exact Or.inl rfl | exact Or.inr rfl) (pe_ix (kIx K) (pv 0) pe_int (fun _ _ => rfl)))) pss_nil))) (pss_cons (ps_set (i := 3) sc_law_pool.nd rfl (by first | exact Or.inl rfl | exact Or.inr rfl) (pe_callB (max2U rfl) (by rfl) B.max (by decide +kernel) (pa_cons (pe_callTy intU (by rfl) B.int (by decide +kernel) (pa_cons (pv 2) pa_nil)) (pa_cons (pe_callTy intU (by rfl) B.int (by decide +kernel) (pa_cons (pe_op subU (pe_un un_neg pe_int) (pv 2)) pa_nil)) pa_nil)))) (pss_cons (ps_set (i := 4) sc_law_pool.nd rfl (by first | exact Or.inl rfl | exact Or.inr rfl) (pe_op modU (pe_callTy intU (by rfl) B.int (by decide +kernel) (pa_cons (pe_op (kMul K) (pe_op (kAdd K) (pe_op (kAdd K) (pe_op (kAdd K) (pe_op modU (pe_callTy intU (by rfl) B.int (by decide +kernel) (pa_cons (pv 3) pa_nil)) pe_int) (pe_op (kMul K) (pe_op (kMul K) pe_int (pv 1)) (pv 1))) (pe_op (kMul K) pe_int (pv 1))) pe_int) pe_int) pa_nil)) pe_int)) (pss_one (ps_ret (pe_lst (pa_cons (pe_op (kMul K) (pv 3) (pe_callTy intU (by rfl) B.int (by decide +kernel) (pa_cons (pe_cmpR geU (pv 3) (pe_op powU pe_int pe_int) (nomark _)) pa_nil))) (pa_cons (pv 4) pa_nil))))))))), ?_⟩
  refine st0 [some (.ref a), some (.int k), none, none, none] rfl ?_
  walk_at "go"
  rw [hl]
  refine rd_split (fun c => ?_) (fun c => ?_)
  rotate_left
  walk_at "go"
  refine rd_splitB (fun c2 => ?_) (fun c2 => ?_)
  rotate_left 2
  · obtain ⟨n, e⟩ := at_ints (ns := ns) hk0 c
    walk_at "go"
    refine u_ixL hL e ?_
    walk_at "go"
    refine ⟨lk rfl, fun p hp => ?_⟩
    refine q _ p (same_new hp _) hp ⟨_, _, upd_same, ?_, Int.emod_nonneg _ (by omega), Int.emod_lt_of_pos _ (by omega)⟩
    exact Int.mul_nonneg (by split <;> omega) (by split <;> omega)
  · have c3 := isE c2
    obtain ⟨n, e⟩ := at_ints (ns := ns) (i := 0) (by omega) (by omega)
    walk_at "go"
    refine u_ixL hL e ?_
    walk_at "go"
    refine ⟨lk rfl, fun p hp => ?_⟩
    refine q _ p (same_new hp _) hp ⟨_, _, upd_same, ?_, Int.emod_nonneg _ (by omega), Int.emod_lt_of_pos _ (by omega)⟩
    exact Int.mul_nonneg (by split <;> omega) (by split <;> omega)
  · walk_at "go"
    refine ⟨lk rfl, fun p hp => ?_⟩
    refine q _ p (same_new hp _) hp ⟨_, _, upd_same, ?_, Int.emod_nonneg _ (by omega), Int.emod_lt_of_pos _ (by omega)⟩
    exact Int.mul_nonneg (by split <;> omega) (by split <;> omega)
end

/-! ### P1 -/
section
variable {P : Program} {w : World} {K : PySem.W.Frag} {mg : Str → Option Value} {base : Heap}
/-- the module's constants -/
structure Cst (mg : Str → Option Value) : Prop where
  MODULUS : ∃ t, mg "MODULUS" = some (.int 1000003 t)
  LONGEST_ROW : ∃ t, mg "LONGEST_ROW" = some (.int 64 t)
  LONGEST_WORD : ∃ t, mg "LONGEST_WORD" = some (.int 8 t)
  MOST_TIMES : ∃ t, mg "MOST_TIMES" = some (.int 16 t)
  LETTERS : ∃ t, mg "LETTERS" = some (.str Letters t)
  MOST_JOINTS : ∃ t, mg "MOST_JOINTS" = some (.int 40 t)
/-- a question about data: f tells the answer -/
def spAsk (K : PySem.W.Frag) (f : PyData → Bool) : Sp := fun vs H Q _ => ∃ (v : V) (d : PyData), vs = [v] ∧ Rp K H v d ∧ dat d ∧ ∀ H', Same H H' → Q (.bl (f d)) H'
theorem use_ask {K : PySem.W.Frag} {f : PyData → Bool} {v : V} {d : PyData} {H : Hp} {Q : VK} {E : XK} (r : Rp K H v d) (hd : dat d) (q : ∀ H', Same H H' → Q (.bl (f d)) H') : spAsk K f [v] H Q E := ⟨v, d, rfl, r, hd, q⟩
/-- .. about a row of data -/
def spAsks (K : PySem.W.Frag) (f : List PyData → Bool) : Sp := fun vs H Q _ => ∃ (a : Addr) (xs : List V) (ds : List PyData), vs = [.ref a] ∧ SqT K H a xs ∧ Rps K H xs ds ∧ ds.length ≤ 1000 ∧ dats ds ∧ ∀ H', Same H H' → Q (.bl (f ds)) H'
theorem use_asks {K : PySem.W.Frag} {f : List PyData → Bool} {a : Addr} {xs : List V} {ds : List PyData} {H : Hp} {Q : VK} {E : XK} (s : SqT K H a xs) (r : Rps K H xs ds) (l : ds.length ≤ 1000) (hd : dats ds) (q : ∀ H', Same H H' → Q (.bl (f ds)) H') : spAsks K f [.ref a] H Q E := ⟨a, xs, ds, rfl, s, r, l, hd, q⟩
def spBtw (K : PySem.W.Frag) : Sp := fun vs H Q _ => ∃ (v : V) (d : PyData) (lo hi : Int), vs = [v, .int lo, .int hi] ∧ Rp K H v d ∧ Q (.bl (isBtw d lo hi)) H
theorem use_btw {K : PySem.W.Frag} {v : V} {d : PyData} {lo hi : Int} {H : Hp} {Q : VK} {E : XK} (r : Rp K H v d) (q : Q (.bl (isBtw d lo hi)) H) : spBtw K [v, .int lo, .int hi] H Q E := ⟨v, d, lo, hi, rfl, r, q⟩
def spNum (K : PySem.W.Frag) : Sp := fun vs H Q _ => ∃ (v : V) (d : PyData), vs = [v] ∧ Rp K H v d ∧ Q (.bl (isNum d)) H
theorem use_num {K : PySem.W.Frag} {v : V} {d : PyData} {H : Hp} {Q : VK} {E : XK} (r : Rp K H v d) (q : Q (.bl (isNum d)) H) : spNum K [v] H Q E := ⟨v, d, rfl, r, q⟩
abbrev s_is_number : Stmt := top 17
theorem sc_is_number : FnScope ["thing"] ["thing"] (defScope s_is_number) := ⟨rfl, rfl, rfl, by decide +kernel, rfl, by decide +kernel, by decide +kernel⟩
theorem has_is_number (O : OwnF K mg "is_number" s_is_number) (B : Bl mg) : HasF P w K mg base CX0 1 "is_number" ["thing"] (spNum K) := by
  refine has0 O sc_is_number (fun _ _ _ _ _ _ us hl => match us, hl with | [_], _ => rfl) (fun vs H Q E h => ?_) (fun f cdv A outer s_ H vs Q E hr h => ?_)
  · obtain ⟨v, d, rfl, _⟩ := h
    rfl
  obtain ⟨v, d, rfl, r, q⟩ := h
  refine ⟨_, (pss_one (ps_ret (pe_and (pe_callB (kIsi K) (by rfl) B.isinstance (by decide +kernel) (pa_cons (pv 0) (pa_cons (pe_bltn (v := .ty "int") (by rfl) B.int (by decide +kernel) rfl) pa_nil))) (pe_one (pe_not (pe_callB (kIsi K) (by rfl) B.isinstance (by decide +kernel) (pa_cons (pv 0) (pa_cons (pe_bltn (v := .ty "bool") (by rfl) B.bool (by decide +kernel) rfl) pa_nil)))))))), ?_⟩
  refine st0 [some v] rfl ?_
  walk_at "go"
  refine rd_splitB (fun c => ?_) (fun c => ?_)
  · walk_at "go"
    have e : (!isT "bool" d) = isNum d := by cases d <;> simp_all [isT, isNum]
    rw [e]; exact q
  · have e : false = isNum d := by cases d <;> simp_all [isT, isNum]
    rw [e]; exact q
abbrev s_is_between : Stmt := top 18
theorem sc_is_between : FnScope ["thing", "least", "most"] ["thing", "least", "most"] (defScope s_is_between) := ⟨rfl, rfl, rfl, by decide +kernel, rfl, by decide +kernel, by decide +kernel⟩
theorem has_is_between (O : OwnF K mg "is_between" s_is_between) (h_is_number : HasF P w K mg base CX0 1 "is_number" ["thing"] (spNum K)) : HasF P w K mg base CX0 2 "is_between" ["thing", "least", "most"] (spBtw K) := by
  refine has0 O sc_is_between (fun _ _ _ _ _ _ us hl => match us, hl with | [_, _, _], _ => rfl) (fun vs H Q E h => ?_) (fun f cdv A outer s_ H vs Q E hr h => ?_)
  · obtain ⟨v, d, lo, hi, rfl, _⟩ := h
    rfl
  obtain ⟨v, d, lo, hi, rfl, r, q⟩ := h
  refine ⟨_, (pss_one (ps_ret (pe_and (pe_callH h_is_number (hr.mono (by first | decide | omega)) (by rfl) pass0 (pa_cons (pv 0) pa_nil)) (pe_one (pe_chain leU leU (pv 1) (pv 0) (pv 2)))))), ?_⟩
  refine st0 [some v, some (.int lo), some (.int hi)] rfl ?_
  walk_at "go"
  refine use_num r ?_
  walk_at "go"
  cases r with
  | int i =>
    refine iteT ?_
    walk_at "go"
    refine rd_split (fun c => ?_) (fun c => ?_)
    · walk_at "go"
      have e : decide (i ≤ hi) = isBtw (.int i) lo hi := by simp [isBtw, c]
      rw [e]; exact q
    · have e : false = isBtw (.int i) lo hi := by simp [isBtw, c]
      rw [e]; exact q
  | non => exact iteF q
  | bl b => exact iteF q
  | str z => exact iteF q
  | tup _ _ => exact iteF q
abbrev s_are_row_numbers : Stmt := top 19
theorem sc_are_row_numbers : FnScope ["things", "thing"] ["things"] (defScope s_are_row_numbers) := ⟨rfl, rfl, rfl, by decide +kernel, rfl, by decide +kernel, by decide +kernel⟩
theorem has_are_row_numbers (O : OwnF K mg "are_row_numbers" s_are_row_numbers) (B : Bl mg) (C : Cst mg) (h_is_between : HasF P w K mg base CX0 2 "is_between" ["thing", "least", "most"] (spBtw K)) : HasF P w K mg base CX0 3 "are_row_numbers" ["things"] (spAsks K rowNums) := by
  refine has0 O sc_are_row_numbers (fun _ _ _ _ _ _ us hl => match us, hl with | [_], _ => rfl) (fun vs H Q E h => ?_) (fun f cdv A outer s_ H vs Q E hr h => ?_)
  · obtain ⟨a, xs, ds, rfl, _⟩ := h
    rfl
  obtain ⟨a, xs, ds, rfl, hs, hR, hl, hd, q⟩ := h
  refine ⟨_, (pss_one (ps_ret (pe_callB (kAll K rfl) (by rfl) B.all (by decide +kernel) (pa_cons (pe_lc (own := [("thing", 1)]) (g := gName 1) (tt := tYes) rfl sc_are_row_numbers.nd (pi_tupK K (pv 0)) (blkOk_by (own := [("thing", 1)]) (N := ["things", "thing"]) (sc := defScope s_are_row_numbers) (by decide +kernel)) (fun _ _ _ _ _ => (pg_name (i := 1) sc_are_row_numbers.nd rfl (by first | exact Or.inl rfl | exact Or.inr rfl))) (fun _ _ _ _ _ => pts_nil) (fun _ _ _ _ _ => (pe_callH h_is_between (hr.mono (by first | decide | omega)) (by rfl) pass0 (pa_cons (pv 1) (pa_cons pe_int (pa_cons (pe_op subU (pe_globI C.MODULUS (by rfl)) pe_int) pa_nil)))))) pa_nil)))), ?_⟩
  refine st0 [some (.ref a), none] rfl ?_
  walk_at "go"
  intro D hD
  refine lc_tup (K := K) (a := a) (xs := xs) (fun i H' => ∃ bs : List Bool, H' D = some (.lst (bs.map V.bl)) ∧ bs = (ds.take i).map (fun d => isBtw d 0 1000002) ∧ Same H H') ⟨[], upd_same, rfl, Same.upd_new (Same.refl H) hD⟩ ?_ ?_ ?_
  · rintro i H' hi ⟨bs, h1, h2, h3⟩
    exact Ext.of_same h3 a xs hs
  · rintro i x H' hx ⟨bs, h1, h2, h3⟩
    obtain ⟨d, e1, e2⟩ := hR.getV hx
    walk_at "go"
    refine ⟨rfl, ?_⟩
    walk_at "go"
    refine use_btw (e2.mono (Ext.of_same h3) d x) ?_
    refine ⟨bs.map V.bl, h1, ?_, bs ++ [isBtw d 0 (1000003 - 1)], ?_, ?_, Same.upd_new h3 hD⟩
    · rw [List.length_map, h2, List.length_map, List.length_take]
      exact ls (by omega)
    · rw [upd_same, List.map_append] <;> rfl
    · rw [List.take_add_one, e1, List.map_append, h2] <;> rfl
  · rintro H' ⟨bs, h1, h2, h3⟩
    walk_at "go"
    refine u_all (SqL.of h1) ?_
    have e : bs.all id = rowNums ds := by
      rw [h2, hR.length, List.take_length, all_map] <;> rfl
    rw [e]
    exact q _ h3
end

/-! ### P2 -/
section
variable {P : Program} {w : World} {K : PySem.W.Frag} {mg : Str → Option Value} {base : Heap}
theorem z_len {z : Str} (h : z.length ≤ 1000) : z.length ≤ sizeLine := ll (by omega)
abbrev s_is_word : Stmt := top 20
theorem sc_is_word : FnScope ["thing", "sign"] ["thing"] (defScope s_is_word) := ⟨rfl, rfl, rfl, by decide +kernel, rfl, by decide +kernel, by decide +kernel⟩
theorem has_is_word (O : OwnF K mg "is_word" s_is_word) (B : Bl mg) (C : Cst mg) : HasF P w K mg base CX0 1 "is_word" ["thing"] (spAsk K isWord) := by
  refine has0 O sc_is_word (fun _ _ _ _ _ _ us hl => match us, hl with | [_], _ => rfl) (fun vs H Q E h => ?_) (fun f cdv A outer s_ H vs Q E hr h => ?_)
  · obtain ⟨v, d, rfl, _⟩ := h
    rfl
  obtain ⟨v, d, rfl, r, hd, q⟩ := h
  refine ⟨_, (pss_cons (ps_if (PW.pt (pw_or (pt_not (pt_val (pe_callB (kIsi K) (by rfl) B.isinstance (by decide +kernel) (pa_cons (pv 0) (pa_cons (pe_bltn (v := .ty "str") (by rfl) B.str (by decide +kernel) rfl) pa_nil))))) (pw_or1 (pt_not (pt_chain leU leU pe_int (pe_callB (kLen K) (by rfl) B.len (by decide +kernel) (pa_cons (pv 0) pa_nil)) (pe_globI C.LONGEST_WORD (by rfl))))))) (pss_one (ps_ret pe_bl)) pss_nil) (pss_one (ps_ret (pe_callB (kAll K rfl) (by rfl) B.all (by decide +kernel) (pa_cons (pe_lc (own := [("sign", 1)]) (g := gName 1) (tt := tYes) rfl sc_is_word.nd (pi_str (pv 0)) (blkOk_by (own := [("sign", 1)]) (N := ["thing", "sign"]) (sc := defScope s_is_word) (by decide +kernel)) (fun _ _ _ _ _ => (pg_name (i := 1) sc_is_word.nd rfl (by first | exact Or.inl rfl | exact Or.inr rfl))) (fun _ _ _ _ _ => pts_nil) (fun _ _ _ _ _ => (pe_cmpR (kIn K) (pv 1) (pe_globS C.LETTERS (by rfl)) (by rfl)))) pa_nil))))), ?_⟩
  refine st0 [some v, none] rfl ?_
  walk_at "go"
  cases r with
  | str z =>
    refine iteF ?_
    have hz : z.length ≤ 1000 := hd.1
    walk_at "go"
    refine u_lenS (z_len hz) ?_
    walk_at "go"
    refine rd_split (fun c1 => ?_) (fun c1 => ?_)
    rotate_left
    · walk_at "go"
      refine iteT ?_
      walk_at "go"
      have e : false = isWord (.str z) := by simp only [isWord, decide_eq_false c1, Bool.false_and]
      rw [e]; exact q _ (Same.refl _)
    walk_at "go"
    refine rd_splitN (fun c2 => ?_) (fun c2 => ?_)
    · walk_at "go"
      have e : false = isWord (.str z) := by simp only [isWord, decide_eq_false c2, Bool.and_false, Bool.false_and]
      rw [e]; exact q _ (Same.refl _)
    walk_at "go"
    intro D hD
    refine lcS (fun i H' => H' D = some (.lst (((z.cps.toList.take i).map fun c => decide (c ∈ Letters.cps.toList)).map V.bl)) ∧ Same H H') ⟨upd_same, Same.upd_new (Same.refl H) hD⟩ ?_ ?_
    · rintro i c H' hc ⟨h1, h3⟩
      walk_at "go"
      refine ⟨rfl, ?_⟩
      walk_at "go"
      refine ⟨_, h1, ?_, ?_, Same.upd_new h3 hD⟩
      · rw [List.length_map, List.length_map, List.length_take]
        have : z.cps.toList.length = z.length := (len_list z).symm
        exact ls (by omega)
      · have e1 : z.cps.toList[i]? = some c := by rw [Array.getElem?_toList]; exact hc
        rw [upd_same, List.take_add_one, e1, List.map_append, List.map_append] <;> rfl
    · rintro H' ⟨h1, h3⟩
      walk_at "go"
      refine u_all (SqL.of h1) ?_
      have e : ((z.cps.toList.take z.cps.size).map fun c => decide (c ∈ Letters.cps.toList)).all id = isWord (.str z) := by
        have e2 : z.cps.toList.take z.cps.size = z.cps.toList := by
          rw [List.take_of_length_le (by simp)]
        rw [e2, all_map]
        simp only [isWord, lowAll, decide_eq_true c1, decide_eq_true c2, Bool.true_and]
      rw [e]
      exact q _ h3
  | non => refine iteT ?_; walk_at "go"; exact q _ (Same.refl _)
  | bl b => refine iteT ?_; walk_at "go"; exact q _ (Same.refl _)
  | int i => refine iteT ?_; walk_at "go"; exact q _ (Same.refl _)
  | tup _ _ => refine iteT ?_; walk_at "go"; exact q _ (Same.refl _)
abbrev s_tells_row : Stmt := top 21
theorem sc_tells_row : FnScope ["told"] ["told"] (defScope s_tells_row) := ⟨rfl, rfl, rfl, by decide +kernel, rfl, by decide +kernel, by decide +kernel⟩
theorem has_tells_row (O : OwnF K mg "tells_row" s_tells_row) (B : Bl mg) (C : Cst mg) (h_are_row_numbers : HasF P w K mg base CX0 3 "are_row_numbers" ["things"] (spAsks K rowNums)) : HasF P w K mg base CX0 4 "tells_row" ["told"] (spAsks K tellsRow) := by
  refine has0 O sc_tells_row (fun _ _ _ _ _ _ us hl => match us, hl with | [_], _ => rfl) (fun vs H Q E h => ?_) (fun f cdv A outer s_ H vs Q E hr h => ?_)
  · obtain ⟨a, xs, ds, rfl, _⟩ := h
    rfl
  obtain ⟨a, xs, ds, rfl, hs, hR, hl, hd, q⟩ := h
  have el := hR.length
  refine ⟨_, (pss_one (ps_ret (pe_and (pe_chain leU leU pe_int (pe_callB (kLen K) (by rfl) B.len (by decide +kernel) (pa_cons (pv 0) pa_nil)) (pe_globI C.LONGEST_ROW (by rfl))) (pe_one (pe_callH h_are_row_numbers (hr.mono (by first | decide | omega)) (by rfl) pass0 (pa_cons (pv 0) pa_nil)))))), ?_⟩
  refine st0 [some (.ref a)] rfl ?_
  walk_at "go"
  refine rd_split (fun c1 => ?_) (fun c1 => ?_)
  · walk_at "go"
    refine rd_split (fun c2 => ?_) (fun c2 => ?_)
    · walk_at "go"
      refine use_asks hs hR hl hd fun H' s' => ?_
      have e : rowNums ds = tellsRow ds := by
        rw [el] at c1 c2
        simp only [tellsRow, decide_eq_true c1, decide_eq_true c2, Bool.true_and]
      rw [e]
      exact q _ s'
    · rw [el] at c2
      have e : false = tellsRow ds := by simp only [tellsRow, decide_eq_false c2, Bool.and_false, Bool.false_and]
      rw [e]; exact q _ (Same.refl _)
  · rw [el] at c1
    walk_at "go"
    have e : false = tellsRow ds := by simp only [tellsRow, decide_eq_false c1, Bool.false_and]
    rw [e]; exact q _ (Same.refl _)
abbrev s_tells_input : Stmt := top 22
theorem sc_tells_input : FnScope ["told"] ["told"] (defScope s_tells_input) := ⟨rfl, rfl, rfl, by decide +kernel, rfl, by decide +kernel, by decide +kernel⟩
theorem has_tells_input (O : OwnF K mg "tells_input" s_tells_input) (B : Bl mg) (C : Cst mg) (h_is_word : HasF P w K mg base CX0 1 "is_word" ["thing"] (spAsk K isWord)) (h_is_between : HasF P w K mg base CX0 2 "is_between" ["thing", "least", "most"] (spBtw K)) : HasF P w K mg base CX0 4 "tells_input" ["told"] (spAsks K tellsInput) := by
  refine has0 O sc_tells_input (fun _ _ _ _ _ _ us hl => match us, hl with | [_], _ => rfl) (fun vs H Q E h => ?_) (fun f cdv A outer s_ H vs Q E hr h => ?_)
  · obtain ⟨a, xs, ds, rfl, _⟩ := h
    rfl
  obtain ⟨a, xs, ds, rfl, hs, hR, hl, hd, q⟩ := h
  refine ⟨_, (pss_one (ps_ret (pe_and (pe_cmpR (kEqG K (hU hr)) (pe_callB (kLen K) (by rfl) B.len (by decide +kernel) (pa_cons (pv 0) pa_nil)) pe_int (nomark _)) (pe_and (pe_callH h_is_word (hr.mono (by first | decide | omega)) (by rfl) pass0 (pa_cons (pe_ix (kIx K) (pv 0) pe_int (fun _ _ => rfl)) pa_nil)) (pe_one (pe_callH h_is_between (hr.mono (by first | decide | omega)) (by rfl) pass0 (pa_cons (pe_ix (kIx K) (pv 0) pe_int (fun _ _ => rfl)) (pa_cons pe_int (pa_cons (pe_globI C.LONGEST_ROW (by rfl)) pa_nil))))))))), ?_⟩
  refine st0 [some (.ref a)] rfl ?_
  walk_at "go"
  refine rd_split (fun c => ?_) (fun c => ?_)
  · obtain ⟨x, y, d, e, rfl, rfl, r1, r2⟩ := hR.pair c
    walk_at "go"
    refine u_ixT hs rfl ?_
    walk_at "go"
    refine use_ask r1 hd.1 fun H' s' => ?_
    walk_at "go"
    refine rd_splitB (fun c1 => ?_) (fun c1 => ?_)
    · walk_at "go"
      refine u_ixT (Ext.of_same s' _ _ hs) rfl ?_
      walk_at "go"
      refine use_btw (r2.mono (Ext.of_same s') _ _) ?_
      have ee : isBtw e 1 64 = tellsInput [d, e] := by simp only [tellsInput, c1, Bool.true_and]
      rw [ee]; exact q _ s'
    · have ee : false = tellsInput [d, e] := by simp only [tellsInput, c1, Bool.false_and]
      rw [ee]; exact q _ s'
  · have ee : false = tellsInput ds := by
      rw [hR.length] at c
      match ds, c with
      | [], _ => rfl
      | [_], _ => rfl
      | [_, _], c => exact absurd rfl c
      | _ :: _ :: _ :: _, _ => rfl
    rw [ee]; exact q _ (Same.refl _)
abbrev s_tells_stretch : Stmt := top 23
theorem sc_tells_stretch : FnScope ["told"] ["told"] (defScope s_tells_stretch) := ⟨rfl, rfl, rfl, by decide +kernel, rfl, by decide +kernel, by decide +kernel⟩
theorem has_tells_stretch (O : OwnF K mg "tells_stretch" s_tells_stretch) (B : Bl mg) (C : Cst mg) (h_is_between : HasF P w K mg base CX0 2 "is_between" ["thing", "least", "most"] (spBtw K)) : HasF P w K mg base CX0 4 "tells_stretch" ["told"] (spAsks K tellsStretch) := by
  refine has0 O sc_tells_stretch (fun _ _ _ _ _ _ us hl => match us, hl with | [_], _ => rfl) (fun vs H Q E h => ?_) (fun f cdv A outer s_ H vs Q E hr h => ?_)
  · obtain ⟨a, xs, ds, rfl, _⟩ := h
    rfl
  obtain ⟨a, xs, ds, rfl, hs, hR, hl, hd, q⟩ := h
  refine ⟨_, (pss_cons (ps_if (PW.pt (pw_or (pt_cmpR (kNeG K (hU hr)) (pe_callB (kLen K) (by rfl) B.len (by decide +kernel) (pa_cons (pv 0) pa_nil)) pe_int (nomark _)) (pw_or1 (pt_not (pt_truthK K (pe_callH h_is_between (hr.mono (by first | decide | omega)) (by rfl) pass0 (pa_cons (pe_ix (kIx K) (pv 0) pe_int (fun _ _ => rfl)) (pa_cons pe_int (pa_cons (pe_globI C.LONGEST_ROW (by rfl)) pa_nil)))) (by intro _; rfl)))))) (pss_one (ps_ret pe_bl)) pss_nil) (pss_one (ps_ret (pe_callH h_is_between (hr.mono (by first | decide | omega)) (by rfl) pass0 (pa_cons (pe_ix (kIx K) (pv 0) pe_int (fun _ _ => rfl)) (pa_cons pe_int (pa_cons (pe_op subU (pe_ix (kIx K) (pv 0) pe_int (fun _ _ => rfl)) pe_int) pa_nil))))))), ?_⟩
  refine st0 [some (.ref a)] rfl ?_
  walk_at "go"
  refine rd_splitN (fun c => ?_) (fun c => ?_)
  · walk_at "go"
    have ee : false = tellsStretch ds := by
      rw [hR.length] at c
      match ds, c with
      | [], _ => rfl
      | [_], _ => rfl
      | [_, _], c => exact absurd rfl c
      | _ :: y :: _ :: _, _ => cases y <;> rfl
    rw [ee]; exact q _ (Same.refl _)
  · obtain ⟨x, y, d, e, rfl, rfl, r1, r2⟩ := hR.pair c
    walk_at "go"
    refine u_ixT hs rfl ?_
    walk_at "go"
    refine use_btw r2 ?_
    walk_at "go"
    cases r2 with
    | int j =>
      have nb : ∀ b : Bool, (b = true → Q (.bl (isBtw d 0 (j - 1))) H) → (b = false → Q (.bl false) H) → True := fun _ _ _ => trivial
      cases hb : isBtw (.int j) 0 64 with
      | true =>
        refine iteF ?_
        walk_at "go"
        refine u_ixT hs rfl ?_
        walk_at "go"
        refine u_ixT hs rfl ?_
        walk_at "go"
        refine use_btw r1 ?_
        have ee : isBtw d 0 (j - 1) = tellsStretch [d, .int j] := by simp only [tellsStretch, hb, Bool.true_and]
        rw [ee]; exact q _ (Same.refl _)
      | false =>
        refine iteT ?_
        walk_at "go"
        have ee : false = tellsStretch [d, .int j] := by simp only [tellsStretch, hb, Bool.false_and]
        rw [ee]; exact q _ (Same.refl _)
    | non => refine iteT ?_; walk_at "go"; exact q _ (Same.refl _)
    | bl b => refine iteT ?_; walk_at "go"; exact q _ (Same.refl _)
    | str i => refine iteT ?_; walk_at "go"; exact q _ (Same.refl _)
    | tup _ _ => refine iteT ?_; walk_at "go"; exact q _ (Same.refl _)
abbrev s_tells_times : Stmt := top 24
theorem sc_tells_times : FnScope ["told"] ["told"] (defScope s_tells_times) := ⟨rfl, rfl, rfl, by decide +kernel, rfl, by decide +kernel, by decide +kernel⟩
theorem has_tells_times (O : OwnF K mg "tells_times" s_tells_times) (B : Bl mg) (C : Cst mg) (h_is_between : HasF P w K mg base CX0 2 "is_between" ["thing", "least", "most"] (spBtw K)) : HasF P w K mg base CX0 4 "tells_times" ["told"] (spAsks K tellsTimes) := by
  refine has0 O sc_tells_times (fun _ _ _ _ _ _ us hl => match us, hl with | [_], _ => rfl) (fun vs H Q E h => ?_) (fun f cdv A outer s_ H vs Q E hr h => ?_)
  · obtain ⟨a, xs, ds, rfl, _⟩ := h
    rfl
  obtain ⟨a, xs, ds, rfl, hs, hR, hl, hd, q⟩ := h
  refine ⟨_, (pss_one (ps_ret (pe_and (pe_cmpR (kEqG K (hU hr)) (pe_callB (kLen K) (by rfl) B.len (by decide +kernel) (pa_cons (pv 0) pa_nil)) pe_int (nomark _)) (pe_one (pe_callH h_is_between (hr.mono (by first | decide | omega)) (by rfl) pass0 (pa_cons (pe_ix (kIx K) (pv 0) pe_int (fun _ _ => rfl)) (pa_cons pe_int (pa_cons (pe_globI C.MOST_TIMES (by rfl)) pa_nil)))))))), ?_⟩
  refine st0 [some (.ref a)] rfl ?_
  walk_at "go"
  refine rd_split (fun c => ?_) (fun c => ?_)
  · obtain ⟨x, d, rfl, rfl, r1⟩ := hR.only c
    walk_at "go"
    refine u_ixT hs rfl ?_
    walk_at "go"
    exact use_btw r1 (q _ (Same.refl _))
  · have ee : false = tellsTimes ds := by
      rw [hR.length] at c
      match ds, c with
      | [], _ => rfl
      | [_], c => exact absurd rfl c
      | _ :: _ :: _, _ => rfl
    rw [ee]; exact q _ (Same.refl _)
abbrev s_tells_room : Stmt := top 25
theorem sc_tells_room : FnScope ["told"] ["told"] (defScope s_tells_room) := ⟨rfl, rfl, rfl, by decide +kernel, rfl, by decide +kernel, by decide +kernel⟩
theorem has_tells_room (O : OwnF K mg "tells_room" s_tells_room) (B : Bl mg) (C : Cst mg) (h_is_between : HasF P w K mg base CX0 2 "is_between" ["thing", "least", "most"] (spBtw K)) : HasF P w K mg base CX0 4 "tells_room" ["told"] (spAsks K tellsRoom) := by
  refine has0 O sc_tells_room (fun _ _ _ _ _ _ us hl => match us, hl with | [_], _ => rfl) (fun vs H Q E h => ?_) (fun f cdv A outer s_ H vs Q E hr h => ?_)
  · obtain ⟨a, xs, ds, rfl, _⟩ := h
    rfl
  obtain ⟨a, xs, ds, rfl, hs, hR, hl, hd, q⟩ := h
  refine ⟨_, (pss_one (ps_ret (pe_and (pe_cmpR (kEqG K (hU hr)) (pe_callB (kLen K) (by rfl) B.len (by decide +kernel) (pa_cons (pv 0) pa_nil)) pe_int (nomark _)) (pe_one (pe_callH h_is_between (hr.mono (by first | decide | omega)) (by rfl) pass0 (pa_cons (pe_ix (kIx K) (pv 0) pe_int (fun _ _ => rfl)) (pa_cons pe_int (pa_cons (pe_globI C.LONGEST_ROW (by rfl)) pa_nil)))))))), ?_⟩
  refine st0 [some (.ref a)] rfl ?_
  walk_at "go"
  refine rd_split (fun c => ?_) (fun c => ?_)
  · obtain ⟨x, d, rfl, rfl, r1⟩ := hR.only c
    walk_at "go"
    refine u_ixT hs rfl ?_
    walk_at "go"
    exact use_btw r1 (q _ (Same.refl _))
  · have ee : false = tellsRoom ds := by
      rw [hR.length] at c
      match ds, c with
      | [], _ => rfl
      | [_], c => exact absurd rfl c
      | _ :: _ :: _, _ => rfl
    rw [ee]; exact q _ (Same.refl _)
end

/-! ### P3 -/
section
variable {P : Program} {w : World} {K : PySem.W.Frag} {mg : Str → Option Value} {base : Heap}
def spFits (K : PySem.W.Frag) : Sp := fun vs H Q _ => ∃ (z : Str) (a : Addr) (xs : List V) (ds : List PyData), vs = [.str z, .ref a] ∧ SqT K H a xs ∧ Rps K H xs ds ∧ ds.length ≤ 1000 ∧ dats ds ∧ ∀ H', Same H H' → Q (.bl (toldFits z ds)) H'
theorem use_fits {K : PySem.W.Frag} {z : Str} {a : Addr} {xs : List V} {ds : List PyData} {H : Hp} {Q : VK} {E : XK} (s : SqT K H a xs) (r : Rps K H xs ds) (l : ds.length ≤ 1000) (hd : dats ds) (q : ∀ H', Same H H' → Q (.bl (toldFits z ds)) H') : spFits K [.str z, .ref a] H Q E := ⟨z, a, xs, ds, rfl, s, r, l, hd, q⟩
def spPFit : Sp := fun vs H Q _ => ∃ (z : Str) (n lo hi : Int), vs = [.str z, .int n] ∧ arity z = some (lo, hi) ∧ Q (.bl (partsFit z n)) H
/-- the module's two tables -/
structure PartsTab (w : World) (K : PySem.W.Frag) (mg : Str → Option Value) (a : Addr) (g : Str → Option Value) : Prop where
  tab : Tab w K mg "PARTS" a g
  no : ∀ z, arity z = none → g z = none
  yes : ∀ z lo hi, arity z = some (lo, hi) → ∃ b, g z = some (.ref b) ∧ ∀ H, SqT K H b [.int lo, .int hi]
structure TellsTab (P : Program) (w : World) (K : PySem.W.Frag) (mg : Str → Option Value) (base : Heap) (a : Addr) (g : Str → Option Value) : Prop where
  tab : Tab w K mg "TELLS" a g
  no : ∀ z, asks z = none → g z = none
  yes : ∀ z f, asks z = some f → ∃ b, g z = some (.ref b) ∧ Held P w K mg base 4 b (spAsks K f)
abbrev s_told_fits : Stmt := top 27
theorem sc_told_fits : FnScope ["op", "told", "fits"] ["op", "told"] (defScope s_told_fits) := ⟨rfl, rfl, rfl, by decide +kernel, rfl, by decide +kernel, by decide +kernel⟩
theorem has_told_fits {aP aT : Addr} {gP gT : Str → Option Value} (O : OwnF K mg "told_fits" s_told_fits) (B : Bl mg) (TP : PartsTab w K mg aP gP) (TT : TellsTab P w K mg base aT gT) : HasF P w K mg base CX0 5 "told_fits" ["op", "told"] (spFits K) := by
  refine has0 O sc_told_fits (fun _ _ _ _ _ _ us hl => match us, hl with | [_, _], _ => rfl) (fun vs H Q E h => ?_) (fun f cdv A outer s_ H vs Q E hr h => ?_)
  · obtain ⟨z, a, xs, ds, rfl, _⟩ := h
    rfl
  obtain ⟨z, a, xs, ds, rfl, hs, hR, hl, hd, q⟩ := h
  have T_PARTS := TP.tab
  have T_TELLS := TT.tab
  refine ⟨_, (pss_cons (ps_if (pt_cmpR (op_notInD T_PARTS) (pv 0) (pe_globR T_PARTS.m (by rfl)) (by rfl)) (pss_one (ps_ret pe_bl)) pss_nil) (pss_cons (ps_if (pt_cmpR (op_notInD T_TELLS) (pv 0) (pe_globR T_TELLS.m (by rfl)) (by rfl)) (pss_one (ps_ret (pe_cmpR (kEqG K (hU hr)) (pe_callB (kLen K) (by rfl) B.len (by decide +kernel) (pa_cons (pv 1) pa_nil)) pe_int (nomark _)))) pss_nil) (pss_cons (ps_set (i := 2) sc_told_fits.nd rfl (by first | exact Or.inl rfl | exact Or.inr rfl) (pe_ix (ix_tab T_TELLS) (pe_globR T_TELLS.m (by rfl)) (pv 0) (fun _ _ => rfl))) (pss_one (ps_ret (pe_callV (P := P) (w := w) (K := K) (mg := mg) (base := base) (k := 4) (i := 2) rfl rfl rfl rfl rfl (hr.mono (by decide)) rfl (Or.inl rfl) (pa_cons (pv 1) pa_nil))))))), ?_⟩
  refine st0 [some (.str z), some (.ref a), none] rfl ?_
  walk_at "go"
  cases ea : arity z with
  | none =>
    rw [TP.no z ea]
    refine iteT ?_
    walk_at "go"
    have e : false = toldFits z ds := by simp only [toldFits, ea]
    rw [e]; exact q _ (Same.refl _)
  | some p =>
    obtain ⟨b, eb, _⟩ := TP.yes z p.1 p.2 ea
    rw [eb]
    refine iteF ?_
    walk_at "go"
    cases ef : asks z with
    | none =>
      rw [TT.no z ef]
      refine iteT ?_
      walk_at "go"
      have e : decide ((xs.length : Int) = 0) = toldFits z ds := by simp only [toldFits, ea, ef, hR.length]
      rw [e]; exact q _ (Same.refl _)
    | some f =>
      obtain ⟨c, ec, hH⟩ := TT.yes z f ef
      rw [ec]
      refine iteF ?_
      walk_at "go"
      refine u_ixTab ec (show RelV (.ref c) (.ref c) from rfl) ?_
      walk_at "go"
      refine rd_callV rfl hH ?_
      walk_at "go"
      refine use_asks hs hR hl hd fun H' s' => ?_
      have e : f ds = toldFits z ds := by simp only [toldFits, ea, ef]
      rw [e]; exact q _ s'
abbrev s_parts_fit : Stmt := top 28
theorem sc_parts_fit : FnScope ["op", "many", "least", "most"] ["op", "many"] (defScope s_parts_fit) := ⟨rfl, rfl, rfl, by decide +kernel, rfl, by decide +kernel, by decide +kernel⟩
theorem has_parts_fit {aP : Addr} {gP : Str → Option Value} (O : OwnF K mg "parts_fit" s_parts_fit) (TP : PartsTab w K mg aP gP) : HasF P w K mg base CX0 1 "parts_fit" ["op", "many"] spPFit := by
  refine has0 O sc_parts_fit (fun _ _ _ _ _ _ us hl => match us, hl with | [_, _], _ => rfl) (fun vs H Q E h => ?_) (fun f cdv A outer s_ H vs Q E hr h => ?_)
  · obtain ⟨z, n, lo, hi, rfl, _⟩ := h
    rfl
  obtain ⟨z, n, lo, hi, rfl, ea, q⟩ := h
  have T_PARTS := TP.tab
  refine ⟨_, (pss_cons (ps_asg (pe_ix (ix_tab T_PARTS) (pe_globR T_PARTS.m (by rfl)) (pv 0) (fun _ _ => rfl)) (pg_tupK (n := 2) K rfl (pgs_cons (pg_name (i := 2) sc_parts_fit.nd rfl (by first | exact Or.inl rfl | exact Or.inr rfl)) (pgs_cons (pg_name (i := 3) sc_parts_fit.nd rfl (by first | exact Or.inl rfl | exact Or.inr rfl)) pgs_nil)))) (pss_one (ps_ret (pe_chain leU leU (pv 2) (pv 1) (pv 3))))), ?_⟩
  refine st0 [some (.str z), some (.int n), none, none] rfl ?_
  obtain ⟨b, eb, hb⟩ := TP.yes z lo hi ea
  walk_at "go"
  refine u_ixTab eb (show RelV (.ref b) (.ref b) from rfl) ?_
  refine rd_gtup (hb H) rfl ?_
  walk_at "go"
  have e : partsFit z n = (decide (lo ≤ n) && decide (n ≤ hi)) := by simp only [partsFit, ea]
  refine rd_split (fun c => ?_) (fun c => ?_)
  · walk_at "go"
    rw [e, decide_eq_true c, Bool.true_and] at q
    exact q
  · rw [e, decide_eq_false c, Bool.false_and] at q
    exact q
/-- an error of the class at C with a number leaves; what stood stands -/
def Raised (E : XK) (H : Hp) (C : Addr) (n : Int) : Prop := ∀ (H' : Hp) (d : Addr), Same H H' → H' d = some (.xd [("what", .int n)]) → E (.ref C) (some d) H'
theorem Raised.mono {E : XK} {H H1 : Hp} {C : Addr} {n : Int} (h : Raised E H C n) (s : Same H H1) : Raised E H1 C n := fun H' d s' e => h H' d (s.trans s') e
def spCount (cM : Addr) : Sp := fun vs H Q E => ∃ (n : Int), vs = [.int n] ∧ (40 ≤ n → Raised E H cM 41) ∧ (n < 40 → Q .non H)
abbrev s_check_count : Stmt := top 31
theorem sc_check_count : FnScope ["number"] ["number"] (defScope s_check_count) := ⟨rfl, rfl, rfl, by decide +kernel, rfl, by decide +kernel, by decide +kernel⟩
theorem has_check_count {fI cM : Addr} (O : OwnF K mg "check_count" s_check_count) (C : Cst mg) (hI : InitF P w K mg base fI) (M_TooMany : ErrC K mg fI "TooMany" cM) : HasF P w K mg base (L2.CX P w) 3 "check_count" ["number"] (spCount cM) := by
  refine hasX O sc_check_count (fun _ _ _ _ _ _ us hl => match us, hl with | [_], _ => rfl) (fun vs H Q E h => ?_) (fun f cdv A outer s_ H vs Q E hr h => ?_)
  · obtain ⟨n, rfl, _⟩ := h
    rfl
  obtain ⟨n, rfl, h1, h2⟩ := h
  refine ⟨_, (pss_one (ps_if (pt_cmpR geU (pv 0) (pe_globI C.MOST_JOINTS (by rfl)) (nomark _)) (pss_one (ps_raiseE K hI M_TooMany rfl (hr.mono (by decide)) tkX (pe_op (kAdd K) (pe_globI C.MOST_JOINTS (by rfl)) pe_int) (by rfl))) pss_nil)), ?_⟩
  refine st0 [some (.int n)] rfl ?_
  walk_at "go"
  refine rd_split (fun c => ?_) (fun c => ?_)
  · walk_at "go"
    exact u_raise M_TooMany.c M_TooMany.n fun d hd => h1 c _ d (same_new hd _) upd_same
  · walk_at "go"
    exact h2 (by omega)
def spForm (K : PySem.W.Frag) (cO cP : Addr) : Sp := fun vs H Q E => ∃ (z : Str) (a : Addr) (xs : List V) (ds : List PyData) (m n : Int), vs = [.str z, .ref a, .int m, .int n] ∧ SqT K H a xs ∧ Rps K H xs ds ∧ ds.length ≤ 1000 ∧ dats ds ∧
  (toldFits z ds = false → Raised E H cO n) ∧ (toldFits z ds = true → partsFit z m = false → Raised E H cP n) ∧ (toldFits z ds = true → partsFit z m = true → ∀ H', Same H H' → Q .non H')
abbrev s_check_form : Stmt := top 32
theorem sc_check_form : FnScope ["op", "told", "many", "place"] ["op", "told", "many", "place"] (defScope s_check_form) := ⟨rfl, rfl, rfl, by decide +kernel, rfl, by decide +kernel, by decide +kernel⟩
theorem has_check_form {fI cO cP : Addr} (O : OwnF K mg "check_form" s_check_form) (hI : InitF P w K mg base fI) (M_BadOp : ErrC K mg fI "BadOp" cO) (M_BadParts : ErrC K mg fI "BadParts" cP) (h_told_fits : HasF P w K mg base CX0 5 "told_fits" ["op", "told"] (spFits K)) (h_parts_fit : HasF P w K mg base CX0 1 "parts_fit" ["op", "many"] spPFit) : HasF P w K mg base (L2.CX P w) 6 "check_form" ["op", "told", "many", "place"] (spForm K cO cP) := by
  refine hasX O sc_check_form (fun _ _ _ _ _ _ us hl => match us, hl with | [_, _, _, _], _ => rfl) (fun vs H Q E h => ?_) (fun f cdv A outer s_ H vs Q E hr h => ?_)
  · obtain ⟨z, a, xs, ds, m, n, rfl, _⟩ := h
    rfl
  obtain ⟨z, a, xs, ds, m, n, rfl, hs, hR, hl, hd, h1, h2, h3⟩ := h
  refine ⟨_, (pss_cons (ps_if (pt_not (pt_val (pe_callH h_told_fits (hr.mono (by first | decide | omega)) (by rfl) pass0 (pa_cons (pv 0) (pa_cons (pv 1) pa_nil))))) (pss_one (ps_raiseE K hI M_BadOp rfl (hr.mono (by decide)) tkX (pv 3) (by rfl))) pss_nil) (pss_one (ps_if (pt_not (pt_val (pe_callH h_parts_fit (hr.mono (by first | decide | omega)) (by rfl) pass0 (pa_cons (pv 0) (pa_cons (pv 2) pa_nil))))) (pss_one (ps_raiseE K hI M_BadParts rfl (hr.mono (by decide)) tkX (pv 3) (by rfl))) pss_nil))), ?_⟩
  refine st0 [some (.str z), some (.ref a), some (.int m), some (.int n)] rfl ?_
  walk_at "go"
  refine use_fits hs hR hl hd fun H' s' => ?_
  walk_at "go"
  cases e1 : toldFits z ds with
  | false =>
    refine iteT ?_
    walk_at "go"
    exact u_raise M_BadOp.c M_BadOp.n fun d hd => h1 e1 _ d (Same.new s' hd) upd_same
  | true =>
    refine iteF ?_
    obtain ⟨lo, hi, ea⟩ := fits_arity e1
    walk_at "go"
    refine ⟨z, m, lo, hi, rfl, ea, ?_⟩
    walk_at "go"
    cases e2 : partsFit z m with
    | false =>
      refine iteT ?_
      walk_at "go"
      exact u_raise M_BadParts.c M_BadParts.n fun d hd => h2 e1 e2 _ d (Same.new s' hd) upd_same
    | true =>
      refine iteF ?_
      walk_at "go"
      exact h3 e1 e2 _ s'
end

/-! ### P4 -/
section
variable {P : Program} {w : World} {K : PySem.W.Frag} {mg : Str → Option Value} {base : Heap}
abbrev s_is_triple : Stmt := top 33
theorem sc_is_triple : FnScope ["thing", "op", "told", "parts"] ["thing"] (defScope s_is_triple) := ⟨rfl, rfl, rfl, by decide +kernel, rfl, by decide +kernel, by decide +kernel⟩
theorem has_is_triple (O : OwnF K mg "is_triple" s_is_triple) (B : Bl mg) : HasF P w K mg base CX0 1 "is_triple" ["thing"] (spAsk K isTri) := by
  refine has0 O sc_is_triple (fun _ _ _ _ _ _ us hl => match us, hl with | [_], _ => rfl) (fun vs H Q E h => ?_) (fun f cdv A outer s_ H vs Q E hr h => ?_)
  · obtain ⟨v, d, rfl, _⟩ := h
    rfl
  obtain ⟨v, d, rfl, r, hd, q⟩ := h
  refine ⟨_, (pss_cons (ps_if (PW.pt (pw_or (pt_not (pt_val (pe_callB (kIsi K) (by rfl) B.isinstance (by decide +kernel) (pa_cons (pv 0) (pa_cons (pe_bltn (v := .ty "tuple") (by rfl) B.tuple (by decide +kernel) rfl) pa_nil))))) (pw_or1 (pt_cmpR (kNeG K (hU hr)) (pe_callB (kLen K) (by rfl) B.len (by decide +kernel) (pa_cons (pv 0) pa_nil)) pe_int (nomark _))))) (pss_one (ps_ret pe_bl)) pss_nil) (pss_cons (ps_asg (pv 0) (pg_tupK (n := 3) K rfl (pgs_cons (pg_name (i := 1) sc_is_triple.nd rfl (by first | exact Or.inl rfl | exact Or.inr rfl)) (pgs_cons (pg_name (i := 2) sc_is_triple.nd rfl (by first | exact Or.inl rfl | exact Or.inr rfl)) (pgs_cons (pg_name (i := 3) sc_is_triple.nd rfl (by first | exact Or.inl rfl | exact Or.inr rfl)) pgs_nil))))) (pss_one (ps_ret (pe_and (pe_callB (kIsi K) (by rfl) B.isinstance (by decide +kernel) (pa_cons (pv 1) (pa_cons (pe_bltn (v := .ty "str") (by rfl) B.str (by decide +kernel) rfl) pa_nil))) (pe_and (pe_callB (kIsi K) (by rfl) B.isinstance (by decide +kernel) (pa_cons (pv 2) (pa_cons (pe_bltn (v := .ty "tuple") (by rfl) B.tuple (by decide +kernel) rfl) pa_nil))) (pe_one (pe_callB (kIsi K) (by rfl) B.isinstance (by decide +kernel) (pa_cons (pv 3) (pa_cons (pe_bltn (v := .ty "tuple") (by rfl) B.tuple (by decide +kernel) rfl) pa_nil)))))))))), ?_⟩
  refine st0 [some v, none, none, none] rfl ?_
  walk_at "go"
  cases r with
  | @tup a xs ds hs hR =>
    refine iteF ?_
    walk_at "go"
    refine rd_splitN (fun c => ?_) (fun c => ?_)
    · walk_at "go"
      have e : false = isTri (.tuple ds) := by
        rw [hR.length] at c
        match ds, c with
        | [], _ => rfl
        | [x], _ => cases x <;> rfl
        | [x, y], _ => cases x <;> cases y <;> rfl
        | [_, _, _], c => exact absurd rfl c
        | x :: y :: z :: _ :: _, _ => cases x <;> cases y <;> cases z <;> rfl
      rw [e]; exact q _ (Same.refl _)
    · obtain ⟨x, y, z, d, e, f, rfl, rfl, r1, r2, r3⟩ := hR.three c
      walk_at "go"
      refine rd_gtup hs rfl ?_
      walk_at "go"
      have ee : (isT "str" d && isT "tuple" e && isT "tuple" f) = isTri (.tuple [d, e, f]) := by
        cases d <;> simp [isT, isTri] <;> cases e <;> simp [isT, isTri] <;> cases f <;> simp [isT, isTri]
      have q' := q H (Same.refl _)
      rw [← ee] at q'
      refine rd_splitB (fun c1 => ?_) (fun c1 => ?_)
      · walk_at "go"
        refine rd_splitB (fun c2 => ?_) (fun c2 => ?_)
        · walk_at "go"
          rw [c1, c2, Bool.true_and] at q'
          exact q'
        · rw [c1, c2, Bool.true_and] at q'
          exact q'
      · rw [c1] at q'
        exact q'
  | non => refine iteT ?_; walk_at "go"; exact q _ (Same.refl _)
  | bl b => refine iteT ?_; walk_at "go"; exact q _ (Same.refl _)
  | int i => refine iteT ?_; walk_at "go"; exact q _ (Same.refl _)
  | str z => refine iteT ?_; walk_at "go"; exact q _ (Same.refl _)
/-- the classes of the faults -/
structure Ecl where
  many : Addr
  prog : Addr
  op : Addr
  parts : Addr
def Ecl.of (c : Ecl) : Flt → Addr
  | .many => c.many
  | .prog => c.prog
  | .op => c.op
  | .parts => c.parts
def spJoint (K : PySem.W.Frag) (c : Ecl) : Sp := fun vs H Q E => ∃ (v : V) (d : PyData) (n : Int), vs = [v, .int n] ∧ Rp K H v d ∧ dat d ∧ (∀ f, jf d n = some f → Raised E H (c.of f) (fval f n)) ∧ (jf d n = none → ∀ H', Same H H' → Q .non H')
theorem use_joint {K : PySem.W.Frag} {c : Ecl} {v : V} {d : PyData} {n : Int} {H : Hp} {Q : VK} {E : XK} (r : Rp K H v d) (hd : dat d) (h1 : ∀ f, jf d n = some f → Raised E H (c.of f) (fval f n)) (h2 : jf d n = none → ∀ H', Same H H' → Q .non H') : spJoint K c [v, .int n] H Q E := ⟨v, d, n, rfl, r, hd, h1, h2⟩
abbrev s_check_joint : Stmt := top 34
theorem sc_check_joint : FnScope ["thing", "number", "op", "told", "parts"] ["thing", "number"] (defScope s_check_joint) := ⟨rfl, rfl, rfl, by decide +kernel, rfl, by decide +kernel, by decide +kernel⟩
theorem has_check_joint {fI : Addr} {c : Ecl} (O : OwnF K mg "check_joint" s_check_joint) (B : Bl mg) (hI : InitF P w K mg base fI) (M_BadProgram : ErrC K mg fI "BadProgram" c.prog) (h_check_count : HasF P w K mg base (L2.CX P w) 3 "check_count" ["number"] (spCount c.many)) (h_is_triple : HasF P w K mg base CX0 1 "is_triple" ["thing"] (spAsk K isTri)) (h_check_form : HasF P w K mg base (L2.CX P w) 6 "check_form" ["op", "told", "many", "place"] (spForm K c.op c.parts)) : HasF P w K mg base (L2.CX P w) 7 "check_joint" ["thing", "number"] (spJoint K c) := by
  refine hasX O sc_check_joint (fun _ _ _ _ _ _ us hl => match us, hl with | [_, _], _ => rfl) (fun vs H Q E h => ?_) (fun f cdv A outer s_ H vs Q E hr h => ?_)
  · obtain ⟨v, d, n, rfl, _⟩ := h
    rfl
  obtain ⟨v, d, n, rfl, r, hd, h1, h2⟩ := h
  refine ⟨_, (pss_cons (ps_expr (pe_callHS h_check_count (hr.mono (by first | decide | omega)) (by rfl) (fun σ => passAt tkX σ) (pa_cons (pv 1) pa_nil))) (pss_cons (ps_if (pt_not (pt_val (pe_callH h_is_triple (hr.mono (by first | decide | omega)) (by rfl) pass0 (pa_cons (pv 0) pa_nil)))) (pss_one (ps_raiseE K hI M_BadProgram rfl (hr.mono (by decide)) tkX (pv 1) (by rfl))) pss_nil) (pss_cons (ps_asg (pv 0) (pg_tupK (n := 3) K rfl (pgs_cons (pg_name (i := 2) sc_check_joint.nd rfl (by first | exact Or.inl rfl | exact Or.inr rfl)) (pgs_cons (pg_name (i := 3) sc_check_joint.nd rfl (by first | exact Or.inl rfl | exact Or.inr rfl)) (pgs_cons (pg_name (i := 4) sc_check_joint.nd rfl (by first | exact Or.inl rfl | exact Or.inr rfl)) pgs_nil))))) (pss_one (ps_expr (pe_callHS h_check_form (hr.mono (by first | decide | omega)) (by rfl) (fun σ => passAt tkX σ) (pa_cons (pv 2) (pa_cons (pv 3) (pa_cons (pe_callB (kLen K) (by rfl) B.len (by decide +kernel) (pa_cons (pv 4) pa_nil)) (pa_cons (pv 1) pa_nil)))))))))), ?_⟩
  refine st0 [some v, some (.int n), none, none, none] rfl ?_
  walk_at "go"
  refine ⟨n, rfl, fun c40 => ?_, fun c40 => ?_⟩
  · exact h1 .many (by unfold jf; rw [if_pos c40])
  have n40 : ¬ (40 : Int) ≤ n := by omega
  walk_at "go"
  refine use_ask r hd fun H1 s1 => ?_
  walk_at "go"
  by_cases ct : ∃ op told parts, d = .tuple [.str op, .tuple told, .tuple parts]
  · obtain ⟨op, told, parts, rfl⟩ := ct
    refine iteF ?_
    walk_at "go"
    have r1 := r.mono (Ext.of_same s1) _ _
    cases r1 with
    | @tup a xs ds hs hR =>
    obtain ⟨x, y, z, d, e, f, rfl, ed, ra, rb, rc⟩ := hR.three (by rw [hR.length] <;> rfl)
    cases ed
    cases ra
    cases rb with
    | @tup a2 xs2 ds2 hs2 hR2 =>
    cases rc with
    | @tup a3 xs3 ds3 hs3 hR3 =>
    refine rd_gtup hs rfl ?_
    walk_at "go"
    have hd2 : told.length ≤ 1000 ∧ dats told := hd.2.2.1
    have el := hR3.length
    refine ⟨op, a2, xs2, told, _, n, rfl, hs2, hR2, hd2.1, hd2.2, fun e1 => ?_, fun e1 e2 => ?_, fun e1 e2 H2 s2 => ?_⟩
    · exact (h1 .op (by unfold jf; rw [if_neg n40]; simp only [e1]; rfl)).mono s1
    · rw [el] at e2
      exact (h1 .parts (by unfold jf; rw [if_neg n40]; simp only [e1, e2]; rfl)).mono s1
    · rw [el] at e2
      walk_at "go"
      exact h2 (by unfold jf; rw [if_neg n40]; simp only [e1, e2]; rfl) _ (s1.trans s2)
  · have e1 : isTri d = false := by
      cases hh : isTri d with
      | false => rfl
      | true =>
        unfold isTri at hh
        split at hh
        · exact absurd ⟨_, _, _, rfl⟩ ct
        · cases hh
    have e2 : jf d n = some .prog := by
      unfold jf
      rw [if_neg n40]
      split
      · exact absurd ⟨_, _, _, rfl⟩ ct
      · rfl
    rw [e1]
    refine iteT ?_
    walk_at "go"
    exact u_raise M_BadProgram.c M_BadProgram.n fun d' hd' => h1 .prog e2 _ d' (Same.new s1 hd') upd_same
def spMade (K : PySem.W.Frag) (c : Ecl) : Sp := fun vs H Q E => ∃ (v : V) (d : PyData), vs = [v] ∧ Rp K H v d ∧ dat d ∧ (∀ f n, walk 42 [d] 0 = some (f, n) → Raised E H (c.of f) n) ∧ (walk 42 [d] 0 = none → ∀ H', Same H H' → Q v H')
theorem use_made {K : PySem.W.Frag} {c : Ecl} {v : V} {d : PyData} {H : Hp} {Q : VK} {E : XK} (r : Rp K H v d) (hd : dat d) (h1 : ∀ f n, walk 42 [d] 0 = some (f, n) → Raised E H (c.of f) n) (h2 : walk 42 [d] 0 = none → ∀ H', Same H H' → Q v H') : spMade K c [v] H Q E := ⟨v, d, rfl, r, hd, h1, h2⟩
abbrev s_made_program : Stmt := top 35
theorem sc_made_program : FnScope ["thing", "number", "waiting", "joint"] ["thing"] (defScope s_made_program) := ⟨rfl, rfl, rfl, by decide +kernel, rfl, by decide +kernel, by decide +kernel⟩
theorem has_made_program {c : Ecl} (O : OwnF K mg "made_program" s_made_program) (h_check_joint : HasF P w K mg base (L2.CX P w) 7 "check_joint" ["thing", "number"] (spJoint K c)) : HasF P w K mg base (L2.CX P w) 8 "made_program" ["thing"] (spMade K c) := by
  refine hasX O sc_made_program (fun _ _ _ _ _ _ us hl => match us, hl with | [_], _ => rfl) (fun vs H Q E h => ?_) (fun f cdv A outer s_ H vs Q E hr h => ?_)
  · obtain ⟨v, d, rfl, _⟩ := h
    rfl
  obtain ⟨v, d, rfl, r, hd, h1, h2⟩ := h
  refine ⟨_, (pss_cons (ps_set (i := 1) sc_made_program.nd rfl (by first | exact Or.inl rfl | exact Or.inr rfl) pe_int) (pss_cons (ps_set (i := 2) sc_made_program.nd rfl (by first | exact Or.inl rfl | exact Or.inr rfl) (pe_lst (pa_cons (pv 0) pa_nil))) (pss_cons (ps_while poX (pt_truthK K (pv 2) (by intro _; rfl)) (pss_cons (ps_set (i := 3) sc_made_program.nd rfl (by first | exact Or.inl rfl | exact Or.inr rfl) (pe_bm0K K PySem.F.plainAttrs_list PySem.F.slot_list_pop PySem.F.type_list_pop mt_pop (pv 2))) (pss_cons (ps_expr (pe_callHS h_check_joint (hr.mono (by first | decide | omega)) (by rfl) (fun σ => passAt tkX σ) (pa_cons (pv 3) (pa_cons (pv 1) pa_nil)))) (pss_cons (ps_aug (i := 1) sc_made_program.nd rfl (by first | exact Or.inl rfl | exact Or.inr rfl) pe_int ip_add) (pss_one (ps_expr (pe_bmK K PySem.F.plainAttrs_list PySem.F.slot_list_extend PySem.F.type_list_extend (kExt K) (pv 2) (pa_cons (pe_revK K (pe_ix (kIx K) (pv 3) pe_int (fun _ _ => rfl))) pa_nil)))))))) (pss_one (ps_ret (pv 0)))))), ?_⟩
  refine st0 [some v, none, none, none] rfl ?_
  walk_at "go"
  refine ⟨lk rfl, fun a ha => ?_⟩
  walk_at "go"
  refine rd_while (fun m σ H' => ∃ (n : Int) (st : List PyData) (xs : List V) (o : Option V), σ = [some v, some (.int n), some (.ref a), o] ∧ Same H H' ∧ H' a = some (.lst xs) ∧ Rps K H' xs st.reverse ∧ dats st ∧ 0 ≤ n ∧ n ≤ 40 ∧ n + m = 42 ∧ walk m st n = walk 42 [d] 0 ∧ (xs.length : Int) ≤ 1 + 1000 * n) 42
    ⟨0, [d], [v], none, rfl, same_new ha _, upd_same, .one (r.mono (Ext.new ha) _ _), ⟨hd, trivial⟩, by omega, by omega, by omega, rfl, by simp⟩ ?_
  rintro m σ H' ⟨n, st, xs, o, rfl, s', ea, hR, hd', n0, n1, nm, ew, hl⟩
  walk_at "go"
  match st, hR, hd', ew with
  | [], hR, hd', ew =>
    cases hR
    refine iteF ?_
    walk_at "go"
    rw [walk_none] at ew
    exact h2 ew.symm _ s'
  | j :: r0, hR, hd', ew =>
    have hR' := hR
    rw [List.reverse_cons] at hR'
    have hlen := hR.length
    have hpos : 0 < xs.length := by rw [hlen, List.length_reverse]; exact Nat.succ_pos _
    have hne : (!xs.isEmpty) = true := by cases xs with
      | nil => cases hpos
      | cons _ _ => rfl
    rw [hne]
    refine iteT ⟨fun σ' H' => ∃ m', m' < m ∧ _, fun _ _ h => h, ?_⟩
    walk_at "go"
    have e2 : (r0.reverse ++ [j])[xs.length - 1]? = some j := by
      rw [hlen, List.reverse_cons, List.length_append]
      simp
    obtain ⟨u, eu, ru⟩ := hR'.get e2
    refine u_pop ea eu ?_
    walk_at "go"
    have dj : dat j := hd'.1
    have xD : Ext K H' (upd H' a (.lst xs.dropLast)) := Ext.set ea trivial
    obtain ⟨m', rfl⟩ : ∃ m', m = m' + 1 := ⟨m - 1, by omega⟩
    refine use_joint (ru.mono xD _ _) dj (fun f ef => ?_) (fun ef H2 s2 => ?_)
    · have ew' : walk 42 [d] 0 = some (f, fval f n) := by
        rw [← ew]
        show (match jf j n with | some f => some (f, fval f n) | none => walk m' (partsOf j ++ r0) (n + 1)) = _
        rw [ef]
      exact (h1 _ _ ew').mono (Same.upd_new s' ha)
    · obtain ⟨op, told, parts, rfl⟩ := jf_tri ef
      have r2 := (ru.mono xD _ _).mono (Ext.of_same s2) _ _
      walk_at "go"
      cases r2 with
      | @tup aj xj dj2 hsj hRj =>
      obtain ⟨x, y, z, p, q, t, rfl, ed, ra, rb, rc⟩ := hRj.three (by rw [hRj.length] <;> rfl)
      cases ed
      cases rc with
      | @tup a3 xs3 ds3 hs3 hR3 =>
      have ea2 : H2 a = some (.lst xs.dropLast) := s2 _ _ upd_same
      have dp : parts.length ≤ 1000 ∧ dats parts := dj.2.2.2.1
      have lp := hR3.length
      refine rd_tyL (SqL.of ea2) ?_
      walk_at "go"
      refine u_ixT hsj rfl ?_
      refine rd_revT hs3 ?_
      intro b hb
      walk_at "go"
      have nab : a ≠ b := ne_of_none ea2 hb
      have n40 := jf_many ef
      refine u_extT (xs := xs.dropLast) (by rw [upd_ne nab]; exact ea2) (SqT.of upd_same) ?_ ?_
      · rw [List.length_dropLast, List.length_reverse, lp]
        exact ll (by omega)
      walk_at "go"
      refine ⟨m', Nat.lt_succ_self _, n + 1, parts ++ r0, xs.dropLast ++ xs3.reverse, _, rfl, ?_, upd_same, ?_, dats_append dp.2 hd'.2, by omega, by omega, by omega, ?_, ?_⟩
      · exact Same.upd_new (Same.new ((Same.upd_new s' ha).trans s2) hb) ha
      · rw [List.reverse_append]
        refine Rps.append ?_ ?_
        · have h3 := hR'.dropLast
          rw [List.dropLast_concat] at h3
          exact ((h3.mono xD _ _).mono (Ext.of_same s2) _ _).mono ((Ext.new hb).trans (Ext.set (o := .lst xs.dropLast) (by rw [upd_ne nab]; exact ea2) trivial)) _ _
        · exact (hR3.reverse).mono ((Ext.new hb).trans (Ext.set (o := .lst xs.dropLast) (by rw [upd_ne nab]; exact ea2) trivial)) _ _
      · rw [← ew]
        show _ = (match jf _ n with | some f => some (f, fval f n) | none => walk m' (partsOf _ ++ r0) (n + 1))
        rw [ef]
        rfl
      · rw [List.length_append, List.length_dropLast, List.length_reverse, lp]
        omega
end
end Mine

/-! ### G1 -/
namespace Mine
open PySem PySem.Spec L2
local macro_rules | `(tactic| walk_at "st") => `(tactic| (with_reducible apply iteF))
local macro_rules | `(tactic| walk_at "st") => `(tactic| (with_reducible apply iteT))
local macro_rules | `(tactic| walk_at "st") => `(tactic| (with_reducible apply rd_nopart))
local macro_rules | `(tactic| walk_at "st") => `(tactic| (with_reducible apply rd_partI))
local macro_rules | `(tactic| walk_at "st") => `(tactic| (with_reducible apply rd_part))
local macro_rules | `(tactic| walk_at "st") => `(tactic| (with_reducible apply rd_sl))
local macro_rules | `(tactic| walk_at "st") => `(tactic| (with_reducible apply rd_disp1))
local macro_rules | `(tactic| walk_at "st") => `(tactic| (with_reducible apply rd_dput))
local macro_rules | `(tactic| walk_at "st") => `(tactic| (with_reducible apply rd_dget))
local macro_rules | `(tactic| walk_at "st") => `(tactic| (with_reducible apply rd_din))
local macro_rules | `(tactic| walk_at "st") => `(tactic| (with_reducible apply rd_dnew))
local macro_rules | `(tactic| walk_at "st") => `(tactic| (with_reducible apply rd_ipI))
local macro_rules | `(tactic| walk_at "st") => `(tactic| ((with_reducible apply rd_aug); exact rfl))
local macro_rules | `(tactic| walk_at "st") => `(tactic| (with_reducible apply rd_par3_end))
local macro_rules | `(tactic| walk_at "st") => `(tactic| (with_reducible apply rd_par3))
local macro_rules | `(tactic| walk_at "st") => `(tactic| (with_reducible apply u_mul; focus exact Or.inr cm))
local macro_rules | `(tactic| walk_at "st") => `(tactic| ((with_reducible apply u_pow); (focus (exact ⟨by decide, by decide, by decide⟩))))
local macro_rules | `(tactic| walk_at "st") => `(tactic| (with_reducible apply rd_yes))
local macro_rules | `(tactic| walk_at "st") => `(tactic| (with_reducible apply rd_lc))
local macro_rules | `(tactic| walk_at "st") => `(tactic| ((with_reducible apply rd_itT); (focus first | assumption | exact SqT.of (by assumption) | exact SqT.of upd_same)))
local macro_rules | `(tactic| walk_at "st") => `(tactic| ((with_reducible apply rd_itL); (focus first | assumption | exact SqL.of (by assumption) | exact SqL.of upd_same)))
local macro_rules | `(tactic| walk_at "st") => `(tactic| ((with_reducible apply u_isi); (focus (first | exact Or.inl rfl | exact Or.inr (Or.inl rfl) | exact Or.inr (Or.inr (Or.inl rfl)) | exact Or.inr (Or.inr (Or.inr rfl)))); (focus first | assumption | exact Rp.int _ | exact Rp.str _)))
local macro_rules | `(tactic| walk_at "st") => `(tactic| (with_reducible apply rd_istrE))
local macro_rules | `(tactic| walk_at "st") => `(tactic| (with_reducible apply rd_istr))
local macro_rules | `(tactic| walk_at "st") => `(tactic| ((with_reducible apply rd_seqT); (focus first | assumption | exact SqT.of (by assumption) | exact SqT.of upd_same)))
local macro_rules | `(tactic| walk_at "st") => `(tactic| ((with_reducible apply rd_seqL); (focus first | assumption | exact SqL.of (by assumption) | exact SqL.of upd_same)))
local macro_rules | `(tactic| walk_at "st") => `(tactic| (with_reducible apply rd_iSeq))
local macro_rules | `(tactic| walk_at "st") => `(tactic| (with_reducible apply u_notInS))
local macro_rules | `(tactic| walk_at "st") => `(tactic| (with_reducible apply u_inS))
local macro_rules | `(tactic| walk_at "st") => `(tactic| (with_reducible apply u_notInD))
local macro_rules | `(tactic| walk_at "st") => `(tactic| (with_reducible apply u_inD))
local macro_rules | `(tactic| walk_at "st") => `(tactic| (with_reducible apply rd_callS))
local macro_rules | `(tactic| walk_at "st") => `(tactic| (with_reducible apply rd_raiseE))
local macro_rules | `(tactic| walk_at "st") => `(tactic| (with_reducible apply rd_xf))
local macro_rules | `(tactic| walk_at "st") => `(tactic| (with_reducible apply g_neB))
local macro_rules | `(tactic| walk_at "st") => `(tactic| (with_reducible apply g_neS))
local macro_rules | `(tactic| walk_at "st") => `(tactic| (with_reducible apply g_neI))
local macro_rules | `(tactic| walk_at "st") => `(tactic| (with_reducible apply g_eqS))
local macro_rules | `(tactic| walk_at "st") => `(tactic| (with_reducible apply g_eqI))
local macro_rules | `(tactic| walk_at "st") => `(tactic| (with_reducible apply rd_retN))
local macro_rules | `(tactic| walk_at "st") => `(tactic| (with_reducible apply rd_gnil))
local macro_rules | `(tactic| walk_at "st") => `(tactic| (with_reducible apply rd_gcons))
local macro_rules | `(tactic| walk_at "st") => `(tactic| ((with_reducible apply rd_rng2e); (focus omega)))
local macro_rules | `(tactic| walk_at "st") => `(tactic| ((with_reducible apply rd_rng1e); (focus omega); (focus omega)))
local macro_rules | `(tactic| walk_at "st") => `(tactic| (with_reducible apply rd_rng2))
local macro_rules | `(tactic| walk_at "st") => `(tactic| (with_reducible apply rd_rng1))
local macro_rules | `(tactic| walk_at "st") => `(tactic| (with_reducible apply rd_for))
local macro_rules | `(tactic| walk_at "st") => `(tactic| (with_reducible apply rd_iTup))
local macro_rules | `(tactic| walk_at "st") => `(tactic| (with_reducible apply rd_iList))
local macro_rules | `(tactic| walk_at "st") => `(tactic| (with_reducible apply rd_rev))
local macro_rules | `(tactic| walk_at "st") => `(tactic| (with_reducible apply u_min3))
local macro_rules | `(tactic| walk_at "st") => `(tactic| ((with_reducible apply rd_tyL); focus (first | exact SqL.of (by assumption) | exact SqL.of upd_same)))
local macro_rules | `(tactic| walk_at "st") => `(tactic| (with_reducible apply rd_bm0))
local macro_rules | `(tactic| walk_at "st") => `(tactic| (with_reducible apply rd_bm))
local macro_rules | `(tactic| walk_at "st") => `(tactic| ((with_reducible apply rd_truL); focus (first | assumption | exact SqL.of (by assumption) | exact SqL.of upd_same)))
local macro_rules | `(tactic| walk_at "st") => `(tactic| (with_reducible apply rd_truB))
local macro_rules | `(tactic| walk_at "st") => `(tactic| (with_reducible apply rd_tru))
local macro_rules | `(tactic| walk_at "st") => `(tactic| (with_reducible apply rd_chain3))
local macro_rules | `(tactic| walk_at "st") => `(tactic| ((with_reducible apply u_setL); (focus (first | assumption | exact upd_same)); exact rfl))
local macro_rules | `(tactic| walk_at "st") => `(tactic| ((with_reducible apply u_lenT); focus (first | assumption | exact SqT.of (by assumption) | exact SqT.of upd_same)))
local macro_rules | `(tactic| walk_at "st") => `(tactic| ((with_reducible apply u_lenL); focus (first | assumption | exact SqL.of (by assumption) | exact SqL.of upd_same)))
local macro_rules | `(tactic| walk_at "st") => `(tactic| ((with_reducible apply u_ixL); (focus (first | assumption | exact SqL.of (by assumption) | exact SqL.of upd_same)); exact rfl))
local macro_rules | `(tactic| walk_at "st") => `(tactic| ((with_reducible apply u_mul); focus first | exact Or.inl (by omega) | exact Or.inr (by omega) | exact Or.inl (by decide) | exact Or.inr (by decide)))
local macro_rules | `(tactic| walk_at "st") => `(tactic| ((with_reducible apply u_div); focus first | decide | omega | (constructor <;> first | assumption | omega)))
local macro_rules | `(tactic| walk_at "st") => `(tactic| ((with_reducible apply u_mod); focus first | assumption | decide | omega))
local macro_rules | `(tactic| walk_at "st") => `(tactic| (with_reducible apply u_neg))
local macro_rules | `(tactic| walk_at "st") => `(tactic| (with_reducible apply u_min))
local macro_rules | `(tactic| walk_at "st") => `(tactic| (with_reducible apply u_max))
local macro_rules | `(tactic| walk_at "st") => `(tactic| (with_reducible apply u_intB))
local macro_rules | `(tactic| walk_at "st") => `(tactic| (with_reducible apply u_int))
local macro_rules | `(tactic| walk_at "st") => `(tactic| (with_reducible apply u_neI))
local macro_rules | `(tactic| walk_at "st") => `(tactic| (with_reducible apply u_eqS))
local macro_rules | `(tactic| walk_at "st") => `(tactic| (with_reducible apply u_eqI))
local macro_rules | `(tactic| walk_at "st") => `(tactic| (with_reducible apply u_ge))
local macro_rules | `(tactic| walk_at "st") => `(tactic| (with_reducible apply u_gt))
local macro_rules | `(tactic| walk_at "st") => `(tactic| (with_reducible apply u_le))
local macro_rules | `(tactic| walk_at "st") => `(tactic| (with_reducible apply u_lt))
local macro_rules | `(tactic| walk_at "st") => `(tactic| (with_reducible apply u_sub))
local macro_rules | `(tactic| walk_at "st") => `(tactic| (with_reducible apply u_add))
local macro_rules | `(tactic| walk_at "st") => `(tactic| (with_reducible apply rd_ct))
local macro_rules | `(tactic| walk_at "st") => `(tactic| (with_reducible apply rd_brk))
local macro_rules | `(tactic| walk_at "st") => `(tactic| (with_reducible apply rd_tB))
local macro_rules | `(tactic| walk_at "st") => `(tactic| (with_reducible apply rd_chain))
local macro_rules | `(tactic| walk_at "st") => `(tactic| (with_reducible apply rd_notV))
local macro_rules | `(tactic| walk_at "st") => `(tactic| (with_reducible apply rd_orV))
local macro_rules | `(tactic| walk_at "st") => `(tactic| (with_reducible apply rd_andV))
local macro_rules | `(tactic| walk_at "st") => `(tactic| (with_reducible apply rd_not))
local macro_rules | `(tactic| walk_at "st") => `(tactic| (with_reducible apply rd_or))
local macro_rules | `(tactic| walk_at "st") => `(tactic| (with_reducible apply rd_and))
local macro_rules | `(tactic| walk_at "st") => `(tactic| (with_reducible apply rd_un))
local macro_rules | `(tactic| walk_at "st") => `(tactic| (with_reducible apply rd_par_end))
local macro_rules | `(tactic| walk_at "st") => `(tactic| (with_reducible apply rd_par))
local macro_rules | `(tactic| walk_at "st") => `(tactic| (with_reducible apply rd_gsub))
local macro_rules | `(tactic| walk_at "st") => `(tactic| (with_reducible apply rd_ife))
local macro_rules | `(tactic| walk_at "st") => `(tactic| (with_reducible apply rd_next))
local macro_rules | `(tactic| walk_at "st") => `(tactic| (with_reducible apply rd_drop))
local macro_rules | `(tactic| walk_at "st") => `(tactic| (with_reducible apply rd_lst))
local macro_rules | `(tactic| walk_at "st") => `(tactic| (with_reducible apply rd_tup))
local macro_rules | `(tactic| walk_at "st") => `(tactic| (with_reducible apply rd_call))
local macro_rules | `(tactic| walk_at "st") => `(tactic| (with_reducible apply rd_ret))
local macro_rules | `(tactic| walk_at "st") => `(tactic| (with_reducible apply rd_retE))
local macro_rules | `(tactic| walk_at "st") => `(tactic| (with_reducible apply rd_bl))
local macro_rules | `(tactic| walk_at "st") => `(tactic| (with_reducible apply rd_test))
local macro_rules | `(tactic| walk_at "st") => `(tactic| (with_reducible apply rd_if))
local macro_rules | `(tactic| walk_at "st") => `(tactic| (with_reducible apply rd_nil))
local macro_rules | `(tactic| walk_at "st") => `(tactic| (with_reducible apply rd_cons))
local macro_rules | `(tactic| walk_at "st") => `(tactic| (with_reducible apply rd_cb))
local macro_rules | `(tactic| walk_at "st") => `(tactic| (with_reducible apply rd_op))
local macro_rules | `(tactic| walk_at "st") => `(tactic| (with_reducible apply rd_gname))
local macro_rules | `(tactic| walk_at "st") => `(tactic| (with_reducible apply rd_asg))
local macro_rules | `(tactic| walk_at "st") => `(tactic| (with_reducible apply rd_seq))
local macro_rules | `(tactic| walk_at "st") => `(tactic| (with_reducible apply rd_c))
local macro_rules | `(tactic| walk_at "st") => `(tactic| ((with_reducible apply rd_var); exact rfl))
local macro_rules | `(tactic| walk_at "go") => `(tactic| repeat (walk_at "st"))
local macro_rules | `(tactic| walk_at "sp") => `(tactic| (first | refine rd_split (fun c => ?_) (fun c => ?_) | refine rd_splitN (fun c => ?_) (fun c => ?_) | refine rd_splitB (fun c => ?_) (fun c => ?_)))
local macro_rules | `(tactic| walk_at "nx") => `(tactic| repeat (first | (with_reducible apply iteF) | (with_reducible apply iteT) | (with_reducible apply rd_next)))

section
variable {P : Program} {w : World} {K : PySem.W.Frag} {mg : Str → Option Value} {base : Heap}
theorem mk0 {H : Hp} {op : Str} {t q p : Addr} {tv : List V} {td : List PyData} (h1 : SqT K H t tv) (h2 : Rps K H tv td) (h3 : SqT K H q []) (hp : H p = none) : Rp K (upd H p (.tup [.str op, .ref t, .ref q])) (.ref p) (Jn.mk op td []).py := mkJ h1 h2 h3 (by simp only [Jn.pys]; exact .nil) hp
theorem mk1 {H : Hp} {op : Str} {t q p : Addr} {tv : List V} {td : List PyData} {u : V} {j : Jn} (h1 : SqT K H t tv) (h2 : Rps K H tv td) (h3 : SqT K H q [u]) (h4 : Rp K H u j.py) (hp : H p = none) : Rp K (upd H p (.tup [.str op, .ref t, .ref q])) (.ref p) (Jn.mk op td [j]).py := mkJ h1 h2 h3 (by rw [pys1]; exact .one h4) hp
theorem mk2 {H : Hp} {op : Str} {t q p : Addr} {tv : List V} {td : List PyData} {u x : V} {j l : Jn} (h1 : SqT K H t tv) (h2 : Rps K H tv td) (h3 : SqT K H q [u, x]) (h4 : Rp K H u j.py) (h5 : Rp K H x l.py) (hp : H p = none) : Rp K (upd H p (.tup [.str op, .ref t, .ref q])) (.ref p) (Jn.mk op td [j, l]).py := mkJ h1 h2 h3 (by rw [pys2]; exact .cons h4 (.one h5)) hp
/-- a program that fits and its size, put side by side -/
theorem mkTr {ks : Nat → Int} {H : Hp} {p : Addr} {u : V} {j : Jn} {s : Int} {c : Nat} (h1 : Rp K H u j.py) (g : Gd ks j s) (e : j.cnt = c) (hp : H p = none) : Tr K ks (upd H p (.tup [u, .int s])) (.ref p) c :=
  ⟨p, u, j, s, rfl, SqT.of upd_same, h1.mono (Ext.new hp) _ _, g, e⟩
abbrev s_law_figure : Stmt := top 73
theorem sc_law_figure : FnScope ["source"] ["source"] (defScope s_law_figure) := ⟨rfl, rfl, rfl, by decide +kernel, rfl, by decide +kernel, by decide +kernel⟩
def spFig : Sp := fun vs H Q _ => ∃ (a : Addr), vs = [.ref a] ∧ Src H a ∧ ∀ (H' : Hp) (r : Int), SB a H H' → Src H' a → 0 ≤ r → r ≤ 1000002 → Q (.int r) H'
theorem use_fig {a : Addr} {H : Hp} {Q : VK} {E : XK} (h : Src H a) (q : ∀ (H' : Hp) (r : Int), SB a H H' → Src H' a → 0 ≤ r → r ≤ 1000002 → Q (.int r) H') : spFig [.ref a] H Q E := ⟨a, rfl, h, q⟩
theorem has_figure (O : OwnF K mg "_law_figure" s_law_figure) (h_law_take : HasF P w K mg base CX0 1 "_law_take" ["source", "top"] spTake) (h_law_one : HasF P w K mg base CX0 2 "_law_one" ["source", "things"] (spOne K)) : HasF P w K mg base CX0 3 "_law_figure" ["source"] spFig := by
  refine has0 O sc_law_figure (fun _ _ _ _ _ _ us hl => match us, hl with | [_], _ => rfl) (fun vs H Q E h => ?_) (fun f cdv A outer s_ H vs Q E hr h => ?_)
  · obtain ⟨a, rfl, _⟩ := h
    rfl
  obtain ⟨a, rfl, hS, q⟩ := h
  refine ⟨_, (pss_one (ps_ret (pe_callH h_law_one (hr.mono (by first | decide | omega)) (by rfl) pass0 (pa_cons (pv 0) (pa_cons (pe_lst (pa_cons (pe_callH h_law_take (hr.mono (by first | decide | omega)) (by rfl) pass0 (pa_cons (pv 0) (pa_cons pe_int pa_nil))) (pa_cons (pe_callH h_law_take (hr.mono (by first | decide | omega)) (by rfl) pass0 (pa_cons (pv 0) (pa_cons pe_int pa_nil))) (pa_cons (pe_op subU pe_int (pe_callH h_law_take (hr.mono (by first | decide | omega)) (by rfl) pass0 (pa_cons (pv 0) (pa_cons pe_int pa_nil)))) (pa_cons (pe_callH h_law_take (hr.mono (by first | decide | omega)) (by rfl) pass0 (pa_cons (pv 0) (pa_cons pe_int pa_nil))) pa_nil))))) pa_nil))))), ?_⟩
  refine st0 [some (.ref a)] rfl ?_
  walk_at "go"
  refine use_take hS (by omega) (by omega) fun H1 r1 s1 hS1 a1 b1 => ?_
  walk_at "go"
  refine use_take hS1 (by omega) (by omega) fun H2 r2 s2 hS2 a2 b2 => ?_
  walk_at "go"
  refine use_take hS2 (by omega) (by omega) fun H3 r3 s3 hS3 a3 b3 => ?_
  walk_at "go"
  refine use_take hS3 (by omega) (by omega) fun H4 r4 s4 hS4 a4 b4 => ?_
  walk_at "go"
  refine ⟨lk rfl, fun p hp => ?_⟩
  walk_at "go"
  refine use_one (xs := ([r1, r2, 1000002 - r3, r4] : List Int).map V.int) (hS4.new hp) (SqL.of upd_same) (hS4.ne hp) (by simp) (by simp) fun H5 v s5 hS5 hv => ?_
  obtain ⟨n, hn, rfl⟩ := List.mem_map.mp hv
  simp only [List.mem_cons, List.not_mem_nil, or_false] at hn
  exact q H5 n (s1.trans (s2.trans (s3.trans ((s4.new hp).trans s5)))) hS5 (by omega) (by omega)
abbrev s_law_leaf : Stmt := top 74
theorem sc_law_leaf : FnScope ["source", "kinds", "at", "many", "turn"] ["source", "kinds"] (defScope s_law_leaf) := ⟨rfl, rfl, rfl, by decide +kernel, rfl, by decide +kernel, by decide +kernel⟩
/-- three sizes in a list -/
def Kin (K : PySem.W.Frag) (ks : Nat → Int) (H : Hp) (ak : Addr) : Prop := H ak = some (.lst [.int (ks 0), .int (ks 1), .int (ks 2)])
def spLf (K : PySem.W.Frag) : Sp := fun vs H Q _ => ∃ (a ak : Addr) (ks : Nat → Int), vs = [.ref a, .ref ak] ∧ Src H a ∧ Kin K ks H ak ∧ ak ≠ a ∧ (∀ i, i < 3 → 1 ≤ ks i ∧ ks i ≤ 64) ∧ ∀ (H' : Hp) (v : V), SB a H H' → Src H' a → Tr K ks H' v 1 → Q v H'
theorem use_lf {K : PySem.W.Frag} {a ak : Addr} {ks : Nat → Int} {H : Hp} {Q : VK} {E : XK} (h : Src H a) (hk : Kin K ks H ak) (n : ak ≠ a) (h1 : ∀ i, i < 3 → 1 ≤ ks i ∧ ks i ≤ 64) (q : ∀ (H' : Hp) (v : V), SB a H H' → Src H' a → Tr K ks H' v 1 → Q v H') : spLf K [.ref a, .ref ak] H Q E := ⟨a, ak, ks, rfl, h, hk, n, h1, q⟩
theorem has_leaf (O : OwnF K mg "_law_leaf" s_law_leaf) (B : Bl mg) (h_law_take : HasF P w K mg base CX0 1 "_law_take" ["source", "top"] spTake) (h_law_figure : HasF P w K mg base CX0 3 "_law_figure" ["source"] spFig) : HasF P w K mg base CX0 4 "_law_leaf" ["source", "kinds"] (spLf K) := by
  refine has0 O sc_law_leaf (fun _ _ _ _ _ _ us hl => match us, hl with | [_, _], _ => rfl) (fun vs H Q E h => ?_) (fun f cdv A outer s_ H vs Q E hr h => ?_)
  · obtain ⟨a, ak, ks, rfl, _⟩ := h
    rfl
  obtain ⟨a, ak, ks, rfl, hS, hk, nk, hks, q⟩ := h
  refine ⟨_, (pss_cons (ps_if (pt_cmpR (kEqG K (hU hr)) (pe_callH h_law_take (hr.mono (by first | decide | omega)) (by rfl) pass0 (pa_cons (pv 0) (pa_cons pe_int pa_nil))) pe_int (nomark _)) (pss_cons (ps_set (i := 2) sc_law_leaf.nd rfl (by first | exact Or.inl rfl | exact Or.inr rfl) (pe_callH h_law_take (hr.mono (by first | decide | omega)) (by rfl) pass0 (pa_cons (pv 0) (pa_cons pe_int pa_nil)))) (pss_one (ps_ret (pe_tup (pa_cons (pe_tup (pa_cons pe_str (pa_cons (pe_tup (pa_cons (pe_ix (kIx K) (pe_tup (pa_cons pe_str (pa_cons pe_str (pa_cons pe_str pa_nil)))) (pv 2) (fun _ _ => rfl)) (pa_cons (pe_ix (kIx K) (pv 1) (pv 2) (fun _ _ => rfl)) pa_nil))) (pa_cons (pe_tup pa_nil) pa_nil)))) (pa_cons (pe_ix (kIx K) (pv 1) (pv 2) (fun _ _ => rfl)) pa_nil)))))) pss_nil) (pss_cons (ps_set (i := 3) sc_law_leaf.nd rfl (by first | exact Or.inl rfl | exact Or.inr rfl) (pe_op (kAdd K) pe_int (pe_callH h_law_take (hr.mono (by first | decide | omega)) (by rfl) pass0 (pa_cons (pv 0) (pa_cons pe_int pa_nil))))) (pss_one (ps_ret (pe_tup (pa_cons (pe_tup (pa_cons pe_str (pa_cons (pe_callTy (kTup K) (by rfl) B.tuple (by decide +kernel) (pa_cons (pe_lc (own := [("turn", 4)]) (g := gName 4) (tt := tYes) rfl sc_law_leaf.nd (pi_range1 (by rfl) B.range (pa_cons (pv 3) pa_nil)) (blkOk_by (own := [("turn", 4)]) (N := ["source", "kinds", "at", "many", "turn"]) (sc := defScope s_law_leaf) (by decide +kernel)) (fun _ _ _ _ _ => (pg_name (i := 4) sc_law_leaf.nd rfl (by first | exact Or.inl rfl | exact Or.inr rfl))) (fun _ _ _ _ _ => pts_nil) (fun _ _ _ _ _ => (pe_callH h_law_figure (hr.mono (by first | decide | omega)) (by rfl) pass0 (pa_cons (pv 0) pa_nil)))) pa_nil)) (pa_cons (pe_tup pa_nil) pa_nil)))) (pa_cons (pv 3) pa_nil))))))), ?_⟩
  refine st0 [some (.ref a), some (.ref ak), none, none, none] rfl ?_
  walk_at "go"
  refine use_take hS (by omega) (by omega) fun H1 r1 s1 hS1 a1 b1 => ?_
  have hk1 : Kin K ks H1 ak := s1 _ _ nk hk
  walk_at "go"
  refine rd_split (fun c => ?_) (fun c => ?_)
  · walk_at "go"
    refine use_take hS1 (by omega) (by omega) fun H2 at_ s2 hS2 a2 b2 => ?_
    have hk2 : Kin K ks H2 ak := s2 _ _ nk hk1
    obtain ⟨i, rfl, hi⟩ : ∃ i : Nat, at_ = i ∧ i < 3 := ⟨at_.toNat, by omega, by omega⟩
    walk_at "go"
    refine ⟨lk rfl, fun p0 hp0 => ?_⟩
    have e1 : atI [V.str (Str.ofString "a"), .str (Str.ofString "b"), .str (Str.ofString "c")] (i : Int) = some (.str (abc i)) := by
      match i, hi with
      | 0, _ => rfl
      | 1, _ => rfl
      | 2, _ => rfl
    have e2 : atI [V.int (ks 0), .int (ks 1), .int (ks 2)] (i : Int) = some (.int (ks i)) := by
      match i, hi with
      | 0, _ => rfl
      | 1, _ => rfl
      | 2, _ => rfl
    walk_at "go"
    refine u_ixT (SqT.of upd_same) e1 ?_
    have hk3 : Kin K ks (upd H2 p0 (.tup [V.str (Str.ofString "a"), .str (Str.ofString "b"), .str (Str.ofString "c")])) ak := same_new hp0 _ _ _ hk2
    have sA := (s1.trans s2).new (o := .tup [V.str (Str.ofString "a"), .str (Str.ofString "b"), .str (Str.ofString "c")]) hp0
    have hS3 := hS2.new (o := .tup [V.str (Str.ofString "a"), .str (Str.ofString "b"), .str (Str.ofString "c")]) hp0
    generalize upd H2 p0 (.tup [V.str (Str.ofString "a"), .str (Str.ofString "b"), .str (Str.ofString "c")]) = H3 at *
    walk_at "go"
    refine u_ixL (SqL.of hk3) e2 ?_
    walk_at "go"
    refine ⟨lk rfl, fun t ht => ?_⟩
    walk_at "go"
    refine ⟨lk rfl, fun t2 ht2 => ?_⟩
    walk_at "go"
    refine ⟨lk rfl, fun t3 ht3 => ?_⟩
    have hk6 := Same.new (Same.new (same_new ht (.tup [.str (abc i), .int (ks i)])) (o := .tup []) ht2) (o := .tup [.str (Str.ofString "in"), .ref t, .ref t2]) ht3 _ _ hk3
    walk_at "go"
    refine u_ixL (SqL.of hk6) e2 ?_
    walk_at "go"
    refine ⟨lk rfl, fun t4 ht4 => ?_⟩
    have r1 := mk0 (op := Str.ofString "in") ((Ext.new (K := K) (o := .tup []) ht2) _ _ (SqT.of (upd_same (H := H3) (a := t) (o := .tup [.str (abc i), .int (ks i)])))) (.cons (.str (abc i)) (.one (.int (ks i)))) (SqT.of upd_same) ht3
    exact q _ _ ((((sA.new ht).new ht2).new ht3).new ht4) ((((hS3.new ht).new ht2).new ht3).new ht4) (mkTr r1 (.inp i (Nat.lt_succ_of_lt hi) (hks i hi).1 (hks i hi).2) (by simp [Jn.cnt, Jn.cnts]) ht4)
  · walk_at "go"
    refine use_take hS1 (by omega) (by omega) fun H2 m s2 hS2 a2 b2 => ?_
    walk_at "go"
    intro D hD
    have nD := hS2.ne hD
    have s12 := s1.trans s2
    have hDH : H D = none := s12.fresh nD hD
    refine lc_range (lo := 0) (n := (1 + m).toNat) (fun i H' => ∃ ns : List Int, H' D = some (.lst (ns.map V.int)) ∧ ns.length = i ∧ (∀ n ∈ ns, 0 ≤ n ∧ n ≤ 1000002) ∧ SB a H H' ∧ Src H' a) ⟨[], upd_same, rfl, (fun _ z => nomatch z), s12.new hD, hS2.new hD⟩ ?_ ?_
    · rintro i H' hi ⟨ns, g1, g2, gb, g3, g4⟩
      walk_at "go"
      refine ⟨rfl, ?_⟩
      walk_at "go"
      refine use_fig g4 fun H3 r s3 hS3 r0 r1 => ?_
      have g5 := s3 _ _ nD g1
      refine ⟨_, g5, ?_, ns ++ [r], ?_, ?_, fun n hn => ?_, (g3.trans s3).upd_new hDH, hS3.set nD⟩
      · rw [List.length_map, g2]; exact ls (by omega)
      · rw [upd_same, List.map_append] <;> rfl
      · rw [List.length_append, g2] <;> rfl
      · rcases List.mem_append.mp hn with h | h
        · exact gb n h
        · rw [show n = r by simpa using h]; exact ⟨r0, r1⟩
    · rintro H3 ⟨ns, g1, g2, gb, g3, g4⟩
      walk_at "go"
      refine u_tupL (SqL.of g1) fun t ht => ?_
      walk_at "go"
      refine ⟨lk rfl, fun t2 ht2 => ?_⟩
      walk_at "go"
      refine ⟨lk rfl, fun t3 ht3 => ?_⟩
      walk_at "go"
      refine ⟨lk rfl, fun t4 ht4 => ?_⟩
      have r1 := mk0 (op := Str.ofString "row") ((Ext.new (K := K) (o := .tup []) ht2) _ _ (SqT.of (upd_same (H := H3) (a := t) (o := .tup (ns.map V.int))))) (Rps.ints ns) (SqT.of upd_same) ht3
      have em : 1 + m = (ns.length : Int) := by omega
      rw [em]
      exact q _ _ ((((g3.new ht).new ht2).new ht3).new ht4) ((((g4.new ht).new ht2).new ht3).new ht4) (mkTr r1 (.row ns (by omega) (by omega) gb) (by simp [Jn.cnt, Jn.cnts]) ht4)
end

/-! ### G2 -/
section
variable {P : Program} {w : World} {K : PySem.W.Frag} {mg : Str → Option Value} {base : Heap}
abbrev s_law_single : Stmt := top 75
theorem sc_law_single : FnScope ["source", "joint", "many", "way", "op", "j", "i", "times"] ["source", "joint", "many"] (defScope s_law_single) := ⟨rfl, rfl, rfl, by decide +kernel, rfl, by decide +kernel, by decide +kernel⟩
def spSg (K : PySem.W.Frag) : Sp := fun vs H Q _ => ∃ (a : Addr) (u : V) (s : Int) (ks : Nat → Int) (j : Jn), vs = [.ref a, u, .int s] ∧ Src H a ∧ Rp K H u j.py ∧ Gd ks j s ∧ ∀ (H' : Hp) (v : V), SB a H H' → Src H' a → Tr K ks H' v (1 + j.cnt) → Q v H'
theorem use_sg {K : PySem.W.Frag} {a : Addr} {u : V} {s : Int} {ks : Nat → Int} {j : Jn} {H : Hp} {Q : VK} {E : XK} (h : Src H a) (r : Rp K H u j.py) (g : Gd ks j s) (q : ∀ (H' : Hp) (v : V), SB a H H' → Src H' a → Tr K ks H' v (1 + j.cnt) → Q v H') : spSg K [.ref a, u, .int s] H Q E := ⟨a, u, s, ks, j, rfl, h, r, g, q⟩
theorem has_single (O : OwnF K mg "_law_single" s_law_single) (h_law_take : HasF P w K mg base CX0 1 "_law_take" ["source", "top"] spTake) : HasF P w K mg base CX0 2 "_law_single" ["source", "joint", "many"] (spSg K) := by
  refine has0 O sc_law_single (fun _ _ _ _ _ _ us hl => match us, hl with | [_, _, _], _ => rfl) (fun vs H Q E h => ?_) (fun f cdv A outer s_ H vs Q E hr h => ?_)
  · obtain ⟨a, u, s, ks, j, rfl, _⟩ := h
    rfl
  obtain ⟨a, u, s, ks, j, rfl, hS, r, g, q⟩ := h
  have sz := g.sz
  -- a told row, the part, the joint, the pair
  have fin : ∀ (H2 : Hp) (op : Str) (t : Addr) (tv : List V) (td : List PyData) (s2 : Int) (t2 t3 t4 : Addr), SB a H H2 → Src H2 a → SqT K H2 t tv → Rps K H2 tv td → Gd ks (.mk op td [j]) s2 → H2 t2 = none →
      upd H2 t2 (.tup [u]) t3 = none → upd (upd H2 t2 (.tup [u])) t3 (.tup [.str op, .ref t, .ref t2]) t4 = none →
      Q (.ref t4) (upd (upd (upd H2 t2 (.tup [u])) t3 (.tup [.str op, .ref t, .ref t2])) t4 (.tup [.ref t3, .int s2])) := by
    intro H2 op t tv td s2 t2 t3 t4 sb hS2 hT hR g2 ht2 ht3 ht4
    have x2 := Ext.new (K := K) (o := .tup [u]) ht2
    have r1 := mk1 (op := op) (j := j) (u := u) (x2 _ _ hT) (hR.mono x2 _ _) (SqT.of upd_same) ((r.mono (hS.ext sb) _ _).mono x2 _ _) ht3
    exact q _ _ (((sb.new ht2).new ht3).new ht4) (((hS2.new ht2).new ht3).new ht4) (mkTr r1 g2 cnt1 ht4)
  refine ⟨_, (pss_cons (ps_set (i := 3) sc_law_single.nd rfl (by first | exact Or.inl rfl | exact Or.inr rfl) (pe_callH h_law_take (hr.mono (by first | decide | omega)) (by rfl) pass0 (pa_cons (pv 0) (pa_cons pe_int pa_nil)))) (pss_cons (ps_if (pt_cmpR ltU (pv 3) pe_int (nomark _)) (pss_cons (ps_set (i := 4) sc_law_single.nd rfl (by first | exact Or.inl rfl | exact Or.inr rfl) (pe_ix (kIx K) (pe_tup (pa_cons pe_str (pa_cons pe_str (pa_cons pe_str (pa_cons pe_str pa_nil))))) (pv 3) (fun _ _ => rfl))) (pss_one (ps_ret (pe_tup (pa_cons (pe_tup (pa_cons (pv 4) (pa_cons (pe_tup pa_nil) (pa_cons (pe_tup (pa_cons (pv 1) pa_nil)) pa_nil)))) (pa_cons (pe_ifExp (pt_cmpR ltU (pv 3) pe_int (nomark _)) (pv 2) pe_int) pa_nil)))))) pss_nil) (pss_cons (ps_if (pt_cmpR (kEqG K (hU hr)) (pv 3) pe_int (nomark _)) (pss_cons (ps_set (i := 5) sc_law_single.nd rfl (by first | exact Or.inl rfl | exact Or.inr rfl) (pe_op (kAdd K) pe_int (pe_callH h_law_take (hr.mono (by first | decide | omega)) (by rfl) pass0 (pa_cons (pv 0) (pa_cons (pv 2) pa_nil))))) (pss_cons (ps_set (i := 6) sc_law_single.nd rfl (by first | exact Or.inl rfl | exact Or.inr rfl) (pe_callH h_law_take (hr.mono (by first | decide | omega)) (by rfl) pass0 (pa_cons (pv 0) (pa_cons (pv 5) pa_nil)))) (pss_one (ps_ret (pe_tup (pa_cons (pe_tup (pa_cons pe_str (pa_cons (pe_tup (pa_cons (pv 6) (pa_cons (pv 5) pa_nil))) (pa_cons (pe_tup (pa_cons (pv 1) pa_nil)) pa_nil)))) (pa_cons (pe_op subU (pv 5) (pv 6)) pa_nil))))))) pss_nil) (pss_cons (ps_if (PW.pt (pw_and (pt_cmpR (kEqG K (hU hr)) (pv 3) pe_int (nomark _)) (pw_and1 (pt_cmpR leU (pv 2) pe_int (nomark _))))) (pss_cons (ps_set (i := 7) sc_law_single.nd rfl (by first | exact Or.inl rfl | exact Or.inr rfl) (pe_op (kAdd K) pe_int (pe_callH h_law_take (hr.mono (by first | decide | omega)) (by rfl) pass0 (pa_cons (pv 0) (pa_cons pe_int pa_nil))))) (pss_one (ps_ret (pe_tup (pa_cons (pe_tup (pa_cons pe_str (pa_cons (pe_tup (pa_cons (pv 7) pa_nil)) (pa_cons (pe_tup (pa_cons (pv 1) pa_nil)) pa_nil)))) (pa_cons (pe_op (kMul K) (pv 2) (pv 7)) pa_nil)))))) pss_nil) (pss_cons (ps_if (pt_cmpR (kEqG K (hU hr)) (pv 3) pe_int (nomark _)) (pss_one (ps_ret (pe_tup (pa_cons (pe_tup (pa_cons pe_str (pa_cons (pe_tup pa_nil) (pa_cons (pe_tup (pa_cons (pv 1) pa_nil)) pa_nil)))) (pa_cons (pv 2) pa_nil))))) pss_nil) (pss_one (ps_ret (pe_tup (pa_cons (pe_tup (pa_cons pe_str (pa_cons (pe_tup (pa_cons (pe_callH h_law_take (hr.mono (by first | decide | omega)) (by rfl) pass0 (pa_cons (pv 0) (pa_cons pe_int pa_nil))) pa_nil)) (pa_cons (pe_tup (pa_cons (pv 1) pa_nil)) pa_nil)))) (pa_cons (pv 2) pa_nil)))))))))), ?_⟩
  refine st0 [some (.ref a), some u, some (.int s), none, none, none, none, none] rfl ?_
  walk_at "go"
  refine use_take hS (by omega) (by omega) fun H1 way s1 hS1 a1 b1 => ?_
  walk_at "go"
  refine rd_split (fun c => ?_) (fun c => ?_)
  · obtain ⟨op, e1, hop⟩ : ∃ op : Str, atI [V.str (Str.ofString "rev"), .str (Str.ofString "sort"), .str (Str.ofString "sum"), .str (Str.ofString "top")] way = some (.str op) ∧ ((way < 2 ∧ op ∈ opsSame) ∨ (¬ way < 2 ∧ op ∈ opsUnit)) := by
      rcases (by omega : way = 0 ∨ way = 1 ∨ way = 2 ∨ way = 3) with rfl | rfl | rfl | rfl
      · exact ⟨_, rfl, .inl ⟨by omega, by decide +kernel⟩⟩
      · exact ⟨_, rfl, .inl ⟨by omega, by decide +kernel⟩⟩
      · exact ⟨_, rfl, .inr ⟨by omega, by decide +kernel⟩⟩
      · exact ⟨_, rfl, .inr ⟨by omega, by decide +kernel⟩⟩
    walk_at "go"
    refine ⟨lk rfl, fun p0 hp0 => ?_⟩
    walk_at "go"
    refine u_ixT (SqT.of upd_same) e1 ?_
    walk_at "go"
    refine ⟨lk rfl, fun t ht => ?_⟩
    walk_at "go"
    refine ⟨lk rfl, fun t2 ht2 => ?_⟩
    walk_at "go"
    refine ⟨lk rfl, fun t3 ht3 => ?_⟩
    walk_at "go"
    refine rd_split (fun c2 => ?_) (fun c2 => ?_)
    · walk_at "go"
      refine ⟨lk rfl, fun t4 ht4 => ?_⟩
      exact fin _ _ _ _ _ _ _ _ _ ((s1.new hp0).new ht) ((hS1.new hp0).new ht) (SqT.of upd_same) .nil (.same op (hop.resolve_right (fun z => z.1 c2)).2 g) ht2 ht3 ht4
    · walk_at "go"
      refine ⟨lk rfl, fun t4 ht4 => ?_⟩
      exact fin _ _ _ _ _ _ _ _ _ ((s1.new hp0).new ht) ((hS1.new hp0).new ht) (SqT.of upd_same) .nil (.unit op (hop.resolve_left (fun z => c2 z.1)).2 g) ht2 ht3 ht4
  walk_at "go"
  refine rd_split (fun c4 => ?_) (fun c4 => ?_)
  · walk_at "go"
    refine use_take hS1 (by omega) (by omega) fun H2 r2 s2 hS2 a2 b2 => ?_
    walk_at "go"
    refine use_take hS2 (by omega) (by omega) fun H3 r3 s3 hS3 a3 b3 => ?_
    walk_at "go"
    refine ⟨lk rfl, fun t ht => ?_⟩
    walk_at "go"
    refine ⟨lk rfl, fun t2 ht2 => ?_⟩
    walk_at "go"
    refine ⟨lk rfl, fun t3 ht3 => ?_⟩
    walk_at "go"
    refine ⟨lk rfl, fun t4 ht4 => ?_⟩
    exact fin _ _ _ _ _ _ _ _ _ ((s1.trans (s2.trans s3)).new ht) (hS3.new ht) (SqT.of upd_same) (.cons (.int r3) (.one (.int (1 + r2)))) (.part r3 (1 + r2) a3 b3 (by omega) g) ht2 ht3 ht4
  walk_at "go"
  refine rd_split (fun c5 => ?_) (fun c5 => ?_)
  · walk_at "go"
    refine rd_split (fun c8 => ?_) (fun c8 => ?_)
    · walk_at "go"
      refine use_take hS1 (by omega) (by omega) fun H2 r2 s2 hS2 a2 b2 => ?_
      walk_at "go"
      refine ⟨lk rfl, fun t ht => ?_⟩
      walk_at "go"
      refine ⟨lk rfl, fun t2 ht2 => ?_⟩
      walk_at "go"
      refine ⟨lk rfl, fun t3 ht3 => ?_⟩
      walk_at "go"
      refine ⟨lk rfl, fun t4 ht4 => ?_⟩
      have hm : s * (1 + r2) ≤ 64 := by
        have := Int.mul_le_mul (show s ≤ 8 from c8) (show 1 + r2 ≤ 8 by omega) (by omega) (by decide)
        omega
      exact fin _ _ _ _ _ _ _ _ _ ((s1.trans s2).new ht) (hS2.new ht) (SqT.of upd_same) (.one (.int (1 + r2))) (.rep (1 + r2) (by omega) (by omega) hm g) ht2 ht3 ht4
    · walk_at "go"
      refine rd_split (fun c6 => ?_) (fun c6 => ?_)
      · exact absurd c6 (by omega)
      walk_at "go"
      refine use_take hS1 (by omega) (by omega) fun H2 r2 s2 hS2 a2 b2 => ?_
      walk_at "go"
      refine ⟨lk rfl, fun t ht => ?_⟩
      walk_at "go"
      refine ⟨lk rfl, fun t2 ht2 => ?_⟩
      walk_at "go"
      refine ⟨lk rfl, fun t3 ht3 => ?_⟩
      walk_at "go"
      refine ⟨lk rfl, fun t4 ht4 => ?_⟩
      exact fin _ _ _ _ _ _ _ _ _ ((s1.trans s2).new ht) (hS2.new ht) (SqT.of upd_same) (.one (.int r2)) (.hold r2 a2 (by omega) g) ht2 ht3 ht4
  · walk_at "go"
    refine rd_split (fun c6 => ?_) (fun c6 => ?_)
    · walk_at "go"
      refine ⟨lk rfl, fun t ht => ?_⟩
      walk_at "go"
      refine ⟨lk rfl, fun t2 ht2 => ?_⟩
      walk_at "go"
      refine ⟨lk rfl, fun t3 ht3 => ?_⟩
      walk_at "go"
      refine ⟨lk rfl, fun t4 ht4 => ?_⟩
      exact fin _ _ _ _ _ _ _ _ _ (s1.new ht) (hS1.new ht) (SqT.of upd_same) .nil (.same _ (by decide +kernel) g) ht2 ht3 ht4
    · walk_at "go"
      refine use_take hS1 (by omega) (by omega) fun H2 r2 s2 hS2 a2 b2 => ?_
      walk_at "go"
      refine ⟨lk rfl, fun t ht => ?_⟩
      walk_at "go"
      refine ⟨lk rfl, fun t2 ht2 => ?_⟩
      walk_at "go"
      refine ⟨lk rfl, fun t3 ht3 => ?_⟩
      walk_at "go"
      refine ⟨lk rfl, fun t4 ht4 => ?_⟩
      exact fin _ _ _ _ _ _ _ _ _ ((s1.trans s2).new ht) (hS2.new ht) (SqT.of upd_same) (.one (.int r2)) (.hold r2 a2 (by omega) g) ht2 ht3 ht4
end

/-! ### G3 -/
section
variable {P : Program} {w : World} {K : PySem.W.Frag} {mg : Str → Option Value} {base : Heap}
abbrev s_law_double : Stmt := top 76
theorem sc_law_double : FnScope ["source", "one", "two", "way", "k", "m", "op"] ["source", "one", "two"] (defScope s_law_double) := ⟨rfl, rfl, rfl, by decide +kernel, rfl, by decide +kernel, by decide +kernel⟩
def spDb (K : PySem.W.Frag) : Sp := fun vs H Q _ => ∃ (a : Addr) (v1 v2 : V) (ks : Nat → Int) (c1 c2 : Nat), vs = [.ref a, v1, v2] ∧ Src H a ∧ Tr K ks H v1 c1 ∧ Tr K ks H v2 c2 ∧ ∀ (H' : Hp) (v : V) (c : Nat), SB a H H' → Src H' a → Tr K ks H' v c → c ≤ c1 + c2 + 3 → Q v H'
theorem use_db {a : Addr} {v1 v2 : V} {ks : Nat → Int} {c1 c2 : Nat} {H : Hp} {Q : VK} {E : XK} (h : Src H a) (h1 : Tr K ks H v1 c1) (h2 : Tr K ks H v2 c2) (q : ∀ (H' : Hp) (v : V) (c : Nat), SB a H H' → Src H' a → Tr K ks H' v c → c ≤ c1 + c2 + 3 → Q v H') : spDb K [.ref a, v1, v2] H Q E := ⟨a, v1, v2, ks, c1, c2, rfl, h, h1, h2, q⟩
theorem has_double (O : OwnF K mg "_law_double" s_law_double) (h_law_take : HasF P w K mg base CX0 1 "_law_take" ["source", "top"] spTake) : HasF P w K mg base CX0 2 "_law_double" ["source", "one", "two"] (spDb K) := by
  refine has0 O sc_law_double (fun _ _ _ _ _ _ us hl => match us, hl with | [_, _, _], _ => rfl) (fun vs H Q E h => ?_) (fun f cdv A outer s_ H vs Q E hr h => ?_)
  · obtain ⟨a, v1, v2, ks, c1, c2, rfl, _⟩ := h
    rfl
  obtain ⟨a, v1, v2, ks, c1, c2, rfl, hS, ⟨p1, u1, j1, k, rfl, hp1, r1, g1, rfl⟩, ⟨p2, u2, j2, m, rfl, hp2, r2, g2, rfl⟩, q⟩ := h
  have z1 := g1.sz
  have z2 := g2.sz
  have km := one_le_mul z1.1 z2.1
  have fin : ∀ (H2 : Hp) (op : Str) (s2 : Int) (t t2 t3 t4 : Addr), SB a H H2 → Src H2 a → Gd ks (.mk op [] [j1, j2]) s2 → H2 t = none → upd H2 t (.tup []) t2 = none →
      upd (upd H2 t (.tup [])) t2 (.tup [u1, u2]) t3 = none → upd (upd (upd H2 t (.tup [])) t2 (.tup [u1, u2])) t3 (.tup [.str op, .ref t, .ref t2]) t4 = none →
      Q (.ref t4) (upd (upd (upd (upd H2 t (.tup [])) t2 (.tup [u1, u2])) t3 (.tup [.str op, .ref t, .ref t2])) t4 (.tup [.ref t3, .int s2])) := by
    intro H2 op s2 t t2 t3 t4 sb hS2 g ht ht2 ht3 ht4
    have x2 := (hS.ext (K := K) (sb.new (o := .tup []) ht)).trans (Ext.new (K := K) (o := .tup [u1, u2]) ht2)
    have rr := mk2 (op := op) (j := j1) (l := j2) (u := u1) (x := u2) (Ext.new (K := K) (o := .tup [u1, u2]) ht2 _ _ (SqT.of (upd_same (H := H2) (a := t) (o := .tup [])))) .nil (SqT.of upd_same) (r1.mono x2 _ _) (r2.mono x2 _ _) ht3
    exact q _ _ _ ((((sb.new ht).new ht2).new ht3).new ht4) ((((hS2.new ht).new ht2).new ht3).new ht4) (mkTr rr g cnt2 ht4) (by omega)
  refine ⟨_, (pss_cons (ps_set (i := 3) sc_law_double.nd rfl (by first | exact Or.inl rfl | exact Or.inr rfl) (pe_callH h_law_take (hr.mono (by first | decide | omega)) (by rfl) pass0 (pa_cons (pv 0) (pa_cons pe_int pa_nil)))) (pss_cons (ps_par (i := 4) (j := 5) (by rfl) sc_law_double.nd rfl rfl (by decide) rfl rfl (pa_cons (pe_ix (kIx K) (pv 1) pe_int (fun _ _ => rfl)) (pa_cons (pe_ix (kIx K) (pv 2) pe_int (fun _ _ => rfl)) pa_nil)) (by rfl)) (pss_cons (ps_if (PW.pt (pw_and (pt_cmpR (kEqG K (hU hr)) (pv 4) (pv 5) (nomark _)) (pw_and1 (pt_cmpR ltU (pv 3) pe_int (nomark _))))) (pss_cons (ps_set (i := 6) sc_law_double.nd rfl (by first | exact Or.inl rfl | exact Or.inr rfl) (pe_ix (kIx K) (pe_tup (pa_cons pe_str (pa_cons pe_str (pa_cons pe_str (pa_cons pe_str pa_nil))))) (pv 3) (fun _ _ => rfl))) (pss_one (ps_ret (pe_tup (pa_cons (pe_tup (pa_cons (pv 6) (pa_cons (pe_tup pa_nil) (pa_cons (pe_tup (pa_cons (pe_ix (kIx K) (pv 1) pe_int (fun _ _ => rfl)) (pa_cons (pe_ix (kIx K) (pv 2) pe_int (fun _ _ => rfl)) pa_nil))) pa_nil)))) (pa_cons (pe_ifExp (pt_cmpR (kEqG K (hU hr)) (pv 3) pe_int (nomark _)) pe_int (pv 4)) pa_nil)))))) pss_nil) (pss_cons (ps_if (PW.pt (pw_and (pt_cmpR ltU (pv 3) pe_int (nomark _)) (pw_and1 (pt_cmpR leU (pe_op (kMul K) (pv 4) (pv 5)) pe_int (nomark _))))) (pss_one (ps_ret (pe_tup (pa_cons (pe_tup (pa_cons pe_str (pa_cons (pe_tup pa_nil) (pa_cons (pe_tup (pa_cons (pe_ix (kIx K) (pv 1) pe_int (fun _ _ => rfl)) (pa_cons (pe_ix (kIx K) (pv 2) pe_int (fun _ _ => rfl)) pa_nil))) pa_nil)))) (pa_cons (pe_op (kMul K) (pv 4) (pv 5)) pa_nil))))) pss_nil) (pss_cons (ps_if (PW.pt (pw_and (pt_cmpR ltU (pv 3) pe_int (nomark _)) (pw_and1 (pt_cmpR leU (pe_op (kAdd K) (pv 4) (pv 5)) pe_int (nomark _))))) (pss_one (ps_ret (pe_tup (pa_cons (pe_tup (pa_cons pe_str (pa_cons (pe_tup pa_nil) (pa_cons (pe_tup (pa_cons (pe_ix (kIx K) (pv 1) pe_int (fun _ _ => rfl)) (pa_cons (pe_ix (kIx K) (pv 2) pe_int (fun _ _ => rfl)) pa_nil))) pa_nil)))) (pa_cons (pe_op subU (pe_op (kAdd K) (pv 4) (pv 5)) pe_int) pa_nil))))) pss_nil) (pss_cons (ps_if (pt_cmpR leU (pe_op (kAdd K) (pv 4) (pv 5)) pe_int (nomark _)) (pss_one (ps_ret (pe_tup (pa_cons (pe_tup (pa_cons pe_str (pa_cons (pe_tup pa_nil) (pa_cons (pe_tup (pa_cons (pe_ix (kIx K) (pv 1) pe_int (fun _ _ => rfl)) (pa_cons (pe_ix (kIx K) (pv 2) pe_int (fun _ _ => rfl)) pa_nil))) pa_nil)))) (pa_cons (pe_op (kAdd K) (pv 4) (pv 5)) pa_nil))))) pss_nil) (pss_one (ps_ret (pe_tup (pa_cons (pe_tup (pa_cons pe_str (pa_cons (pe_tup pa_nil) (pa_cons (pe_tup (pa_cons (pe_tup (pa_cons pe_str (pa_cons (pe_tup pa_nil) (pa_cons (pe_tup (pa_cons (pe_ix (kIx K) (pv 1) pe_int (fun _ _ => rfl)) pa_nil)) pa_nil)))) (pa_cons (pe_tup (pa_cons pe_str (pa_cons (pe_tup pa_nil) (pa_cons (pe_tup (pa_cons (pe_ix (kIx K) (pv 2) pe_int (fun _ _ => rfl)) pa_nil)) pa_nil)))) pa_nil))) pa_nil)))) (pa_cons pe_int pa_nil))))))))))), ?_⟩
  refine st0 [some (.ref a), some (.ref p1), some (.ref p2), none, none, none, none] rfl ?_
  walk_at "go"
  refine use_take hS (by omega) (by omega) fun H1 way s1 hS1 a1 b1 => ?_
  have x1 : Ext K H H1 := hS.ext s1
  have hp1' := x1 _ _ hp1
  have hp2' := x1 _ _ hp2
  walk_at "go"
  refine u_ixT hp1' rfl ?_
  walk_at "go"
  refine u_ixT hp2' rfl ?_
  walk_at "go"
  have hs1 : ∀ (H2 : Hp), Same H1 H2 → SqT K H2 p1 [u1, .int k] ∧ SqT K H2 p2 [u2, .int m] := fun H2 s => ⟨Ext.of_same s _ _ hp1', Ext.of_same s _ _ hp2'⟩
  walk_at "go"
  refine rd_split (fun ck => ?_) (fun ck => ?_)
  · skip
    walk_at "go"
    refine rd_split (fun cw => ?_) (fun cw => ?_)
    · skip
      subst ck
      obtain ⟨op, e1, hop⟩ : ∃ op : Str, atI [V.str (Str.ofString "add"), .str (Str.ofString "sub"), .str (Str.ofString "mul"), .str (Str.ofString "dot")] way = some (.str op) ∧ ((way = 3 ∧ op = "dot") ∨ (¬ way = 3 ∧ op ∈ opsPair)) := by
        rcases (by omega : way = 0 ∨ way = 1 ∨ way = 2 ∨ way = 3) with rfl | rfl | rfl | rfl
        · exact ⟨_, rfl, .inr ⟨by omega, by decide +kernel⟩⟩
        · exact ⟨_, rfl, .inr ⟨by omega, by decide +kernel⟩⟩
        · exact ⟨_, rfl, .inr ⟨by omega, by decide +kernel⟩⟩
        · exact ⟨_, rfl, .inl ⟨rfl, rfl⟩⟩
      walk_at "go"
      refine ⟨lk rfl, fun p0 hp0 => ?_⟩
      walk_at "go"
      refine u_ixT (SqT.of upd_same) e1 ?_
      walk_at "go"
      have s0 := same_new hp0 (.tup [V.str (Str.ofString "add"), .str (Str.ofString "sub"), .str (Str.ofString "mul"), .str (Str.ofString "dot")])
      have sb0 := s1.trans (SB.of_same (a := a) s0)
      have hS0 := hS1.same s0
      have hs0 : ∀ H3, Same (upd H1 p0 (.tup [V.str (Str.ofString "add"), .str (Str.ofString "sub"), .str (Str.ofString "mul"), .str (Str.ofString "dot")])) H3 → SqT K H3 p1 [u1, .int k] ∧ SqT K H3 p2 [u2, .int k] := fun H3 s => hs1 H3 (s0.trans s)
      generalize upd H1 p0 (.tup [V.str (Str.ofString "add"), .str (Str.ofString "sub"), .str (Str.ofString "mul"), .str (Str.ofString "dot")]) = H2 at *
      refine ⟨lk rfl, fun t ht => ?_⟩
      walk_at "go"
      refine u_ixT (hs0 _ (same_new ht (.tup []))).1 rfl ?_
      walk_at "go"
      refine u_ixT (hs0 _ (same_new ht (.tup []))).2 rfl ?_
      walk_at "go"
      refine ⟨lk rfl, fun t2 ht2 => ?_⟩
      walk_at "go"
      refine ⟨lk rfl, fun t3 ht3 => ?_⟩
      walk_at "go"
      refine rd_split (fun c3 => ?_) (fun c3 => ?_)
      · walk_at "go"
        refine ⟨lk rfl, fun t4 ht4 => ?_⟩
        obtain ⟨_, rfl⟩ := hop.resolve_right (fun z => z.1 c3)
        exact fin _ _ _ _ _ _ _ sb0 hS0 (.dot g1 g2) ht ht2 ht3 ht4
      · walk_at "go"
        refine ⟨lk rfl, fun t4 ht4 => ?_⟩
        exact fin _ _ _ _ _ _ _ sb0 hS0 (.pair op (hop.resolve_left (fun z => c3 z.1)).2 g1 g2) ht ht2 ht3 ht4
    · skip
      walk_at "go"
      refine rd_split (fun c5 => ?_) (fun c5 => ?_)
      · skip
        walk_at "go"
        refine rd_split (fun c6 => ?_) (fun c6 => ?_)
        · skip
          walk_at "go"
          refine ⟨lk rfl, fun t ht => ?_⟩
          walk_at "go"
          refine u_ixT (hs1 _ (same_new ht (.tup []))).1 rfl ?_
          walk_at "go"
          refine u_ixT (hs1 _ (same_new ht (.tup []))).2 rfl ?_
          walk_at "go"
          refine ⟨lk rfl, fun t2 ht2 => ?_⟩
          walk_at "go"
          refine ⟨lk rfl, fun t3 ht3 => ?_⟩
          walk_at "go"
          refine ⟨lk rfl, fun t4 ht4 => ?_⟩
          exact fin _ _ _ _ _ _ _ s1 hS1 (.outer (by omega) g1 g2) ht ht2 ht3 ht4
        · skip
          walk_at "go"
          refine rd_split (fun c7 => ?_) (fun c7 => ?_)
          · skip
            walk_at "go"
            refine rd_split (fun c8 => ?_) (fun c8 => ?_)
            · skip
              walk_at "go"
              refine ⟨lk rfl, fun t ht => ?_⟩
              walk_at "go"
              refine u_ixT (hs1 _ (same_new ht (.tup []))).1 rfl ?_
              walk_at "go"
              refine u_ixT (hs1 _ (same_new ht (.tup []))).2 rfl ?_
              walk_at "go"
              refine ⟨lk rfl, fun t2 ht2 => ?_⟩
              walk_at "go"
              refine ⟨lk rfl, fun t3 ht3 => ?_⟩
              walk_at "go"
              refine ⟨lk rfl, fun t4 ht4 => ?_⟩
              exact fin _ _ _ _ _ _ _ s1 hS1 (.blend (by omega) g1 g2) ht ht2 ht3 ht4
            · skip
              walk_at "go"
              refine rd_split (fun c9 => ?_) (fun c9 => ?_)
              · skip
                walk_at "go"
                refine ⟨lk rfl, fun t ht => ?_⟩
                walk_at "go"
                refine u_ixT (hs1 _ (same_new ht (.tup []))).1 rfl ?_
                walk_at "go"
                refine u_ixT (hs1 _ (same_new ht (.tup []))).2 rfl ?_
                walk_at "go"
                refine ⟨lk rfl, fun t2 ht2 => ?_⟩
                walk_at "go"
                refine ⟨lk rfl, fun t3 ht3 => ?_⟩
                walk_at "go"
                refine ⟨lk rfl, fun t4 ht4 => ?_⟩
                exact fin _ _ _ _ _ _ _ s1 hS1 (.cat c9 g1 g2) ht ht2 ht3 ht4
              · skip
                walk_at "go"
                refine ⟨lk rfl, fun t ht => ?_⟩
                have S1 := same_new ht (.tup [])
                have X1 := Ext.new (K := K) (o := .tup []) ht
                have Ft : SqT K (upd H1 t (.tup [])) t [] := SqT.of upd_same
                generalize upd H1 t (.tup []) = B1 at *
                walk_at "go"
                refine ⟨lk rfl, fun ta hta => ?_⟩
                have S2 := Same.new (o := .tup []) S1 hta
                have X2 := Ext.new (K := K) (o := .tup []) hta
                have Fta : SqT K (upd B1 ta (.tup [])) ta [] := SqT.of upd_same
                have Ft := X2 _ _ Ft
                generalize upd B1 ta (.tup []) = B2 at *
                walk_at "go"
                refine u_ixT (hs1 _ S2).1 rfl ?_
                walk_at "go"
                refine ⟨lk rfl, fun tb htb => ?_⟩
                have S3 := Same.new (o := .tup [u1]) S2 htb
                have X3 := Ext.new (K := K) (o := .tup [u1]) htb
                have Ftb : SqT K (upd B2 tb (.tup [u1])) tb [u1] := SqT.of upd_same
                have Ft := X3 _ _ Ft
                have Fta := X3 _ _ Fta
                generalize upd B2 tb (.tup [u1]) = B3 at *
                walk_at "go"
                refine ⟨lk rfl, fun Rc hRc => ?_⟩
                have S4 := Same.new (o := .tup [.str (Str.ofString "top"), .ref ta, .ref tb]) S3 hRc
                have X4 := Ext.new (K := K) (o := .tup [.str (Str.ofString "top"), .ref ta, .ref tb]) hRc
                have FRc := mk1 (op := Str.ofString "top") (j := j1) Fta .nil Ftb (r1.mono ((hS.ext s1).trans (Ext.of_same S3)) _ _) hRc
                have Ft := X4 _ _ Ft
                have Fta := X4 _ _ Fta
                have Ftb := X4 _ _ Ftb
                generalize upd B3 Rc (.tup [.str (Str.ofString "top"), .ref ta, .ref tb]) = B4 at *
                walk_at "go"
                refine ⟨lk rfl, fun td htd => ?_⟩
                have S5 := Same.new (o := .tup []) S4 htd
                have X5 := Ext.new (K := K) (o := .tup []) htd
                have Ftd : SqT K (upd B4 td (.tup [])) td [] := SqT.of upd_same
                have Ft := X5 _ _ Ft
                have Fta := X5 _ _ Fta
                have Ftb := X5 _ _ Ftb
                have FRc := FRc.mono X5 _ _
                generalize upd B4 td (.tup []) = B5 at *
                walk_at "go"
                refine u_ixT (hs1 _ S5).2 rfl ?_
                walk_at "go"
                refine ⟨lk rfl, fun te hte => ?_⟩
                have S6 := Same.new (o := .tup [u2]) S5 hte
                have X6 := Ext.new (K := K) (o := .tup [u2]) hte
                have Fte : SqT K (upd B5 te (.tup [u2])) te [u2] := SqT.of upd_same
                have Ft := X6 _ _ Ft
                have Fta := X6 _ _ Fta
                have Ftb := X6 _ _ Ftb
                have FRc := FRc.mono X6 _ _
                have Ftd := X6 _ _ Ftd
                generalize upd B5 te (.tup [u2]) = B6 at *
                walk_at "go"
                refine ⟨lk rfl, fun Rf hRf => ?_⟩
                have S7 := Same.new (o := .tup [.str (Str.ofString "sum"), .ref td, .ref te]) S6 hRf
                have X7 := Ext.new (K := K) (o := .tup [.str (Str.ofString "sum"), .ref td, .ref te]) hRf
                have FRf := mk1 (op := Str.ofString "sum") (j := j2) Ftd .nil Fte (r2.mono ((hS.ext s1).trans (Ext.of_same S6)) _ _) hRf
                have Ft := X7 _ _ Ft
                have Fta := X7 _ _ Fta
                have Ftb := X7 _ _ Ftb
                have FRc := FRc.mono X7 _ _
                have Ftd := X7 _ _ Ftd
                have Fte := X7 _ _ Fte
                generalize upd B6 Rf (.tup [.str (Str.ofString "sum"), .ref td, .ref te]) = B7 at *
                walk_at "go"
                refine ⟨lk rfl, fun tg htg => ?_⟩
                have S8 := Same.new (o := .tup [.ref Rc, .ref Rf]) S7 htg
                have X8 := Ext.new (K := K) (o := .tup [.ref Rc, .ref Rf]) htg
                have Ftg : SqT K (upd B7 tg (.tup [.ref Rc, .ref Rf])) tg [.ref Rc, .ref Rf] := SqT.of upd_same
                have Ft := X8 _ _ Ft
                have Fta := X8 _ _ Fta
                have Ftb := X8 _ _ Ftb
                have FRc := FRc.mono X8 _ _
                have Ftd := X8 _ _ Ftd
                have Fte := X8 _ _ Fte
                have FRf := FRf.mono X8 _ _
                generalize upd B7 tg (.tup [.ref Rc, .ref Rf]) = B8 at *
                walk_at "go"
                refine ⟨lk rfl, fun Rh hRh => ?_⟩
                have S9 := Same.new (o := .tup [.str (Str.ofString "outer"), .ref t, .ref tg]) S8 hRh
                have X9 := Ext.new (K := K) (o := .tup [.str (Str.ofString "outer"), .ref t, .ref tg]) hRh
                have FRh := mk2 (op := Str.ofString "outer") Ft .nil Ftg FRc FRf hRh
                have Ft := X9 _ _ Ft
                have Fta := X9 _ _ Fta
                have Ftb := X9 _ _ Ftb
                have FRc := FRc.mono X9 _ _
                have Ftd := X9 _ _ Ftd
                have Fte := X9 _ _ Fte
                have FRf := FRf.mono X9 _ _
                have Ftg := X9 _ _ Ftg
                generalize upd B8 Rh (.tup [.str (Str.ofString "outer"), .ref t, .ref tg]) = B9 at *
                walk_at "go"
                refine ⟨lk rfl, fun ti hti => ?_⟩
                exact q _ _ _ ((s1.trans (SB.of_same S9)).new hti) ((hS1.same S9).new hti) (mkTr FRh (show Gd ks _ 1 from .outer (s := 1) (t := 1) (by decide) (.unit _ (by decide +kernel) g1) (.unit _ (by decide +kernel) g2)) (by rw [cnt2, cnt1, cnt1]) hti) (by omega)
          · skip
            walk_at "go"
            refine rd_split (fun c9 => ?_) (fun c9 => ?_)
            · skip
              walk_at "go"
              refine ⟨lk rfl, fun t ht => ?_⟩
              walk_at "go"
              refine u_ixT (hs1 _ (same_new ht (.tup []))).1 rfl ?_
              walk_at "go"
              refine u_ixT (hs1 _ (same_new ht (.tup []))).2 rfl ?_
              walk_at "go"
              refine ⟨lk rfl, fun t2 ht2 => ?_⟩
              walk_at "go"
              refine ⟨lk rfl, fun t3 ht3 => ?_⟩
              walk_at "go"
              refine ⟨lk rfl, fun t4 ht4 => ?_⟩
              exact fin _ _ _ _ _ _ _ s1 hS1 (.cat c9 g1 g2) ht ht2 ht3 ht4
            · skip
              walk_at "go"
              refine ⟨lk rfl, fun t ht => ?_⟩
              have S1 := same_new ht (.tup [])
              have X1 := Ext.new (K := K) (o := .tup []) ht
              have Ft : SqT K (upd H1 t (.tup [])) t [] := SqT.of upd_same
              generalize upd H1 t (.tup []) = B1 at *
              walk_at "go"
              refine ⟨lk rfl, fun ta hta => ?_⟩
              have S2 := Same.new (o := .tup []) S1 hta
              have X2 := Ext.new (K := K) (o := .tup []) hta
              have Fta : SqT K (upd B1 ta (.tup [])) ta [] := SqT.of upd_same
              have Ft := X2 _ _ Ft
              generalize upd B1 ta (.tup []) = B2 at *
              walk_at "go"
              refine u_ixT (hs1 _ S2).1 rfl ?_
              walk_at "go"
              refine ⟨lk rfl, fun tb htb => ?_⟩
              have S3 := Same.new (o := .tup [u1]) S2 htb
              have X3 := Ext.new (K := K) (o := .tup [u1]) htb
              have Ftb : SqT K (upd B2 tb (.tup [u1])) tb [u1] := SqT.of upd_same
              have Ft := X3 _ _ Ft
              have Fta := X3 _ _ Fta
              generalize upd B2 tb (.tup [u1]) = B3 at *
              walk_at "go"
              refine ⟨lk rfl, fun Rc hRc => ?_⟩
              have S4 := Same.new (o := .tup [.str (Str.ofString "top"), .ref ta, .ref tb]) S3 hRc
              have X4 := Ext.new (K := K) (o := .tup [.str (Str.ofString "top"), .ref ta, .ref tb]) hRc
              have FRc := mk1 (op := Str.ofString "top") (j := j1) Fta .nil Ftb (r1.mono ((hS.ext s1).trans (Ext.of_same S3)) _ _) hRc
              have Ft := X4 _ _ Ft
              have Fta := X4 _ _ Fta
              have Ftb := X4 _ _ Ftb
              generalize upd B3 Rc (.tup [.str (Str.ofString "top"), .ref ta, .ref tb]) = B4 at *
              walk_at "go"
              refine ⟨lk rfl, fun td htd => ?_⟩
              have S5 := Same.new (o := .tup []) S4 htd
              have X5 := Ext.new (K := K) (o := .tup []) htd
              have Ftd : SqT K (upd B4 td (.tup [])) td [] := SqT.of upd_same
              have Ft := X5 _ _ Ft
              have Fta := X5 _ _ Fta
              have Ftb := X5 _ _ Ftb
              have FRc := FRc.mono X5 _ _
              generalize upd B4 td (.tup []) = B5 at *
              walk_at "go"
              refine u_ixT (hs1 _ S5).2 rfl ?_
              walk_at "go"
              refine ⟨lk rfl, fun te hte => ?_⟩
              have S6 := Same.new (o := .tup [u2]) S5 hte
              have X6 := Ext.new (K := K) (o := .tup [u2]) hte
              have Fte : SqT K (upd B5 te (.tup [u2])) te [u2] := SqT.of upd_same
              have Ft := X6 _ _ Ft
              have Fta := X6 _ _ Fta
              have Ftb := X6 _ _ Ftb
              have FRc := FRc.mono X6 _ _
              have Ftd := X6 _ _ Ftd
              generalize upd B5 te (.tup [u2]) = B6 at *
              walk_at "go"
              refine ⟨lk rfl, fun Rf hRf => ?_⟩
              have S7 := Same.new (o := .tup [.str (Str.ofString "sum"), .ref td, .ref te]) S6 hRf
              have X7 := Ext.new (K := K) (o := .tup [.str (Str.ofString "sum"), .ref td, .ref te]) hRf
              have FRf := mk1 (op := Str.ofString "sum") (j := j2) Ftd .nil Fte (r2.mono ((hS.ext s1).trans (Ext.of_same S6)) _ _) hRf
              have Ft := X7 _ _ Ft
              have Fta := X7 _ _ Fta
              have Ftb := X7 _ _ Ftb
              have FRc := FRc.mono X7 _ _
              have Ftd := X7 _ _ Ftd
              have Fte := X7 _ _ Fte
              generalize upd B6 Rf (.tup [.str (Str.ofString "sum"), .ref td, .ref te]) = B7 at *
              walk_at "go"
              refine ⟨lk rfl, fun tg htg => ?_⟩
              have S8 := Same.new (o := .tup [.ref Rc, .ref Rf]) S7 htg
              have X8 := Ext.new (K := K) (o := .tup [.ref Rc, .ref Rf]) htg
              have Ftg : SqT K (upd B7 tg (.tup [.ref Rc, .ref Rf])) tg [.ref Rc, .ref Rf] := SqT.of upd_same
              have Ft := X8 _ _ Ft
              have Fta := X8 _ _ Fta
              have Ftb := X8 _ _ Ftb
              have FRc := FRc.mono X8 _ _
              have Ftd := X8 _ _ Ftd
              have Fte := X8 _ _ Fte
              have FRf := FRf.mono X8 _ _
              generalize upd B7 tg (.tup [.ref Rc, .ref Rf]) = B8 at *
              walk_at "go"
              refine ⟨lk rfl, fun Rh hRh => ?_⟩
              have S9 := Same.new (o := .tup [.str (Str.ofString "outer"), .ref t, .ref tg]) S8 hRh
              have X9 := Ext.new (K := K) (o := .tup [.str (Str.ofString "outer"), .ref t, .ref tg]) hRh
              have FRh := mk2 (op := Str.ofString "outer") Ft .nil Ftg FRc FRf hRh
              have Ft := X9 _ _ Ft
              have Fta := X9 _ _ Fta
              have Ftb := X9 _ _ Ftb
              have FRc := FRc.mono X9 _ _
              have Ftd := X9 _ _ Ftd
              have Fte := X9 _ _ Fte
              have FRf := FRf.mono X9 _ _
              have Ftg := X9 _ _ Ftg
              generalize upd B8 Rh (.tup [.str (Str.ofString "outer"), .ref t, .ref tg]) = B9 at *
              walk_at "go"
              refine ⟨lk rfl, fun ti hti => ?_⟩
              exact q _ _ _ ((s1.trans (SB.of_same S9)).new hti) ((hS1.same S9).new hti) (mkTr FRh (show Gd ks _ 1 from .outer (s := 1) (t := 1) (by decide) (.unit _ (by decide +kernel) g1) (.unit _ (by decide +kernel) g2)) (by rw [cnt2, cnt1, cnt1]) hti) (by omega)
      · skip
        walk_at "go"
        refine rd_split (fun c7 => ?_) (fun c7 => ?_)
        · skip
          walk_at "go"
          refine rd_split (fun c8 => ?_) (fun c8 => ?_)
          · skip
            walk_at "go"
            refine ⟨lk rfl, fun t ht => ?_⟩
            walk_at "go"
            refine u_ixT (hs1 _ (same_new ht (.tup []))).1 rfl ?_
            walk_at "go"
            refine u_ixT (hs1 _ (same_new ht (.tup []))).2 rfl ?_
            walk_at "go"
            refine ⟨lk rfl, fun t2 ht2 => ?_⟩
            walk_at "go"
            refine ⟨lk rfl, fun t3 ht3 => ?_⟩
            walk_at "go"
            refine ⟨lk rfl, fun t4 ht4 => ?_⟩
            exact fin _ _ _ _ _ _ _ s1 hS1 (.blend (by omega) g1 g2) ht ht2 ht3 ht4
          · skip
            walk_at "go"
            refine rd_split (fun c9 => ?_) (fun c9 => ?_)
            · skip
              walk_at "go"
              refine ⟨lk rfl, fun t ht => ?_⟩
              walk_at "go"
              refine u_ixT (hs1 _ (same_new ht (.tup []))).1 rfl ?_
              walk_at "go"
              refine u_ixT (hs1 _ (same_new ht (.tup []))).2 rfl ?_
              walk_at "go"
              refine ⟨lk rfl, fun t2 ht2 => ?_⟩
              walk_at "go"
              refine ⟨lk rfl, fun t3 ht3 => ?_⟩
              walk_at "go"
              refine ⟨lk rfl, fun t4 ht4 => ?_⟩
              exact fin _ _ _ _ _ _ _ s1 hS1 (.cat c9 g1 g2) ht ht2 ht3 ht4
            · skip
              walk_at "go"
              refine ⟨lk rfl, fun t ht => ?_⟩
              have S1 := same_new ht (.tup [])
              have X1 := Ext.new (K := K) (o := .tup []) ht
              have Ft : SqT K (upd H1 t (.tup [])) t [] := SqT.of upd_same
              generalize upd H1 t (.tup []) = B1 at *
              walk_at "go"
              refine ⟨lk rfl, fun ta hta => ?_⟩
              have S2 := Same.new (o := .tup []) S1 hta
              have X2 := Ext.new (K := K) (o := .tup []) hta
              have Fta : SqT K (upd B1 ta (.tup [])) ta [] := SqT.of upd_same
              have Ft := X2 _ _ Ft
              generalize upd B1 ta (.tup []) = B2 at *
              walk_at "go"
              refine u_ixT (hs1 _ S2).1 rfl ?_
              walk_at "go"
              refine ⟨lk rfl, fun tb htb => ?_⟩
              have S3 := Same.new (o := .tup [u1]) S2 htb
              have X3 := Ext.new (K := K) (o := .tup [u1]) htb
              have Ftb : SqT K (upd B2 tb (.tup [u1])) tb [u1] := SqT.of upd_same
              have Ft := X3 _ _ Ft
              have Fta := X3 _ _ Fta
              generalize upd B2 tb (.tup [u1]) = B3 at *
              walk_at "go"
              refine ⟨lk rfl, fun Rc hRc => ?_⟩
              have S4 := Same.new (o := .tup [.str (Str.ofString "top"), .ref ta, .ref tb]) S3 hRc
              have X4 := Ext.new (K := K) (o := .tup [.str (Str.ofString "top"), .ref ta, .ref tb]) hRc
              have FRc := mk1 (op := Str.ofString "top") (j := j1) Fta .nil Ftb (r1.mono ((hS.ext s1).trans (Ext.of_same S3)) _ _) hRc
              have Ft := X4 _ _ Ft
              have Fta := X4 _ _ Fta
              have Ftb := X4 _ _ Ftb
              generalize upd B3 Rc (.tup [.str (Str.ofString "top"), .ref ta, .ref tb]) = B4 at *
              walk_at "go"
              refine ⟨lk rfl, fun td htd => ?_⟩
              have S5 := Same.new (o := .tup []) S4 htd
              have X5 := Ext.new (K := K) (o := .tup []) htd
              have Ftd : SqT K (upd B4 td (.tup [])) td [] := SqT.of upd_same
              have Ft := X5 _ _ Ft
              have Fta := X5 _ _ Fta
              have Ftb := X5 _ _ Ftb
              have FRc := FRc.mono X5 _ _
              generalize upd B4 td (.tup []) = B5 at *
              walk_at "go"
              refine u_ixT (hs1 _ S5).2 rfl ?_
              walk_at "go"
              refine ⟨lk rfl, fun te hte => ?_⟩
              have S6 := Same.new (o := .tup [u2]) S5 hte
              have X6 := Ext.new (K := K) (o := .tup [u2]) hte
              have Fte : SqT K (upd B5 te (.tup [u2])) te [u2] := SqT.of upd_same
              have Ft := X6 _ _ Ft
              have Fta := X6 _ _ Fta
              have Ftb := X6 _ _ Ftb
              have FRc := FRc.mono X6 _ _
              have Ftd := X6 _ _ Ftd
              generalize upd B5 te (.tup [u2]) = B6 at *
              walk_at "go"
              refine ⟨lk rfl, fun Rf hRf => ?_⟩
              have S7 := Same.new (o := .tup [.str (Str.ofString "sum"), .ref td, .ref te]) S6 hRf
              have X7 := Ext.new (K := K) (o := .tup [.str (Str.ofString "sum"), .ref td, .ref te]) hRf
              have FRf := mk1 (op := Str.ofString "sum") (j := j2) Ftd .nil Fte (r2.mono ((hS.ext s1).trans (Ext.of_same S6)) _ _) hRf
              have Ft := X7 _ _ Ft
              have Fta := X7 _ _ Fta
              have Ftb := X7 _ _ Ftb
              have FRc := FRc.mono X7 _ _
              have Ftd := X7 _ _ Ftd
              have Fte := X7 _ _ Fte
              generalize upd B6 Rf (.tup [.str (Str.ofString "sum"), .ref td, .ref te]) = B7 at *
              walk_at "go"
              refine ⟨lk rfl, fun tg htg => ?_⟩
              have S8 := Same.new (o := .tup [.ref Rc, .ref Rf]) S7 htg
              have X8 := Ext.new (K := K) (o := .tup [.ref Rc, .ref Rf]) htg
              have Ftg : SqT K (upd B7 tg (.tup [.ref Rc, .ref Rf])) tg [.ref Rc, .ref Rf] := SqT.of upd_same
              have Ft := X8 _ _ Ft
              have Fta := X8 _ _ Fta
              have Ftb := X8 _ _ Ftb
              have FRc := FRc.mono X8 _ _
              have Ftd := X8 _ _ Ftd
              have Fte := X8 _ _ Fte
              have FRf := FRf.mono X8 _ _
              generalize upd B7 tg (.tup [.ref Rc, .ref Rf]) = B8 at *
              walk_at "go"
              refine ⟨lk rfl, fun Rh hRh => ?_⟩
              have S9 := Same.new (o := .tup [.str (Str.ofString "outer"), .ref t, .ref tg]) S8 hRh
              have X9 := Ext.new (K := K) (o := .tup [.str (Str.ofString "outer"), .ref t, .ref tg]) hRh
              have FRh := mk2 (op := Str.ofString "outer") Ft .nil Ftg FRc FRf hRh
              have Ft := X9 _ _ Ft
              have Fta := X9 _ _ Fta
              have Ftb := X9 _ _ Ftb
              have FRc := FRc.mono X9 _ _
              have Ftd := X9 _ _ Ftd
              have Fte := X9 _ _ Fte
              have FRf := FRf.mono X9 _ _
              have Ftg := X9 _ _ Ftg
              generalize upd B8 Rh (.tup [.str (Str.ofString "outer"), .ref t, .ref tg]) = B9 at *
              walk_at "go"
              refine ⟨lk rfl, fun ti hti => ?_⟩
              exact q _ _ _ ((s1.trans (SB.of_same S9)).new hti) ((hS1.same S9).new hti) (mkTr FRh (show Gd ks _ 1 from .outer (s := 1) (t := 1) (by decide) (.unit _ (by decide +kernel) g1) (.unit _ (by decide +kernel) g2)) (by rw [cnt2, cnt1, cnt1]) hti) (by omega)
        · skip
          walk_at "go"
          refine rd_split (fun c9 => ?_) (fun c9 => ?_)
          · skip
            walk_at "go"
            refine ⟨lk rfl, fun t ht => ?_⟩
            walk_at "go"
            refine u_ixT (hs1 _ (same_new ht (.tup []))).1 rfl ?_
            walk_at "go"
            refine u_ixT (hs1 _ (same_new ht (.tup []))).2 rfl ?_
            walk_at "go"
            refine ⟨lk rfl, fun t2 ht2 => ?_⟩
            walk_at "go"
            refine ⟨lk rfl, fun t3 ht3 => ?_⟩
            walk_at "go"
            refine ⟨lk rfl, fun t4 ht4 => ?_⟩
            exact fin _ _ _ _ _ _ _ s1 hS1 (.cat c9 g1 g2) ht ht2 ht3 ht4
          · skip
            walk_at "go"
            refine ⟨lk rfl, fun t ht => ?_⟩
            have S1 := same_new ht (.tup [])
            have X1 := Ext.new (K := K) (o := .tup []) ht
            have Ft : SqT K (upd H1 t (.tup [])) t [] := SqT.of upd_same
            generalize upd H1 t (.tup []) = B1 at *
            walk_at "go"
            refine ⟨lk rfl, fun ta hta => ?_⟩
            have S2 := Same.new (o := .tup []) S1 hta
            have X2 := Ext.new (K := K) (o := .tup []) hta
            have Fta : SqT K (upd B1 ta (.tup [])) ta [] := SqT.of upd_same
            have Ft := X2 _ _ Ft
            generalize upd B1 ta (.tup []) = B2 at *
            walk_at "go"
            refine u_ixT (hs1 _ S2).1 rfl ?_
            walk_at "go"
            refine ⟨lk rfl, fun tb htb => ?_⟩
            have S3 := Same.new (o := .tup [u1]) S2 htb
            have X3 := Ext.new (K := K) (o := .tup [u1]) htb
            have Ftb : SqT K (upd B2 tb (.tup [u1])) tb [u1] := SqT.of upd_same
            have Ft := X3 _ _ Ft
            have Fta := X3 _ _ Fta
            generalize upd B2 tb (.tup [u1]) = B3 at *
            walk_at "go"
            refine ⟨lk rfl, fun Rc hRc => ?_⟩
            have S4 := Same.new (o := .tup [.str (Str.ofString "top"), .ref ta, .ref tb]) S3 hRc
            have X4 := Ext.new (K := K) (o := .tup [.str (Str.ofString "top"), .ref ta, .ref tb]) hRc
            have FRc := mk1 (op := Str.ofString "top") (j := j1) Fta .nil Ftb (r1.mono ((hS.ext s1).trans (Ext.of_same S3)) _ _) hRc
            have Ft := X4 _ _ Ft
            have Fta := X4 _ _ Fta
            have Ftb := X4 _ _ Ftb
            generalize upd B3 Rc (.tup [.str (Str.ofString "top"), .ref ta, .ref tb]) = B4 at *
            walk_at "go"
            refine ⟨lk rfl, fun td htd => ?_⟩
            have S5 := Same.new (o := .tup []) S4 htd
            have X5 := Ext.new (K := K) (o := .tup []) htd
            have Ftd : SqT K (upd B4 td (.tup [])) td [] := SqT.of upd_same
            have Ft := X5 _ _ Ft
            have Fta := X5 _ _ Fta
            have Ftb := X5 _ _ Ftb
            have FRc := FRc.mono X5 _ _
            generalize upd B4 td (.tup []) = B5 at *
            walk_at "go"
            refine u_ixT (hs1 _ S5).2 rfl ?_
            walk_at "go"
            refine ⟨lk rfl, fun te hte => ?_⟩
            have S6 := Same.new (o := .tup [u2]) S5 hte
            have X6 := Ext.new (K := K) (o := .tup [u2]) hte
            have Fte : SqT K (upd B5 te (.tup [u2])) te [u2] := SqT.of upd_same
            have Ft := X6 _ _ Ft
            have Fta := X6 _ _ Fta
            have Ftb := X6 _ _ Ftb
            have FRc := FRc.mono X6 _ _
            have Ftd := X6 _ _ Ftd
            generalize upd B5 te (.tup [u2]) = B6 at *
            walk_at "go"
            refine ⟨lk rfl, fun Rf hRf => ?_⟩
            have S7 := Same.new (o := .tup [.str (Str.ofString "sum"), .ref td, .ref te]) S6 hRf
            have X7 := Ext.new (K := K) (o := .tup [.str (Str.ofString "sum"), .ref td, .ref te]) hRf
            have FRf := mk1 (op := Str.ofString "sum") (j := j2) Ftd .nil Fte (r2.mono ((hS.ext s1).trans (Ext.of_same S6)) _ _) hRf
            have Ft := X7 _ _ Ft
            have Fta := X7 _ _ Fta
            have Ftb := X7 _ _ Ftb
            have FRc := FRc.mono X7 _ _
            have Ftd := X7 _ _ Ftd
            have Fte := X7 _ _ Fte
            generalize upd B6 Rf (.tup [.str (Str.ofString "sum"), .ref td, .ref te]) = B7 at *
            walk_at "go"
            refine ⟨lk rfl, fun tg htg => ?_⟩
            have S8 := Same.new (o := .tup [.ref Rc, .ref Rf]) S7 htg
            have X8 := Ext.new (K := K) (o := .tup [.ref Rc, .ref Rf]) htg
            have Ftg : SqT K (upd B7 tg (.tup [.ref Rc, .ref Rf])) tg [.ref Rc, .ref Rf] := SqT.of upd_same
            have Ft := X8 _ _ Ft
            have Fta := X8 _ _ Fta
            have Ftb := X8 _ _ Ftb
            have FRc := FRc.mono X8 _ _
            have Ftd := X8 _ _ Ftd
            have Fte := X8 _ _ Fte
            have FRf := FRf.mono X8 _ _
            generalize upd B7 tg (.tup [.ref Rc, .ref Rf]) = B8 at *
            walk_at "go"
            refine ⟨lk rfl, fun Rh hRh => ?_⟩
            have S9 := Same.new (o := .tup [.str (Str.ofString "outer"), .ref t, .ref tg]) S8 hRh
            have X9 := Ext.new (K := K) (o := .tup [.str (Str.ofString "outer"), .ref t, .ref tg]) hRh
            have FRh := mk2 (op := Str.ofString "outer") Ft .nil Ftg FRc FRf hRh
            have Ft := X9 _ _ Ft
            have Fta := X9 _ _ Fta
            have Ftb := X9 _ _ Ftb
            have FRc := FRc.mono X9 _ _
            have Ftd := X9 _ _ Ftd
            have Fte := X9 _ _ Fte
            have FRf := FRf.mono X9 _ _
            have Ftg := X9 _ _ Ftg
            generalize upd B8 Rh (.tup [.str (Str.ofString "outer"), .ref t, .ref tg]) = B9 at *
            walk_at "go"
            refine ⟨lk rfl, fun ti hti => ?_⟩
            exact q _ _ _ ((s1.trans (SB.of_same S9)).new hti) ((hS1.same S9).new hti) (mkTr FRh (show Gd ks _ 1 from .outer (s := 1) (t := 1) (by decide) (.unit _ (by decide +kernel) g1) (.unit _ (by decide +kernel) g2)) (by rw [cnt2, cnt1, cnt1]) hti) (by omega)
  · skip
    walk_at "go"
    refine rd_split (fun c5 => ?_) (fun c5 => ?_)
    · skip
      walk_at "go"
      refine rd_split (fun c6 => ?_) (fun c6 => ?_)
      · skip
        walk_at "go"
        refine ⟨lk rfl, fun t ht => ?_⟩
        walk_at "go"
        refine u_ixT (hs1 _ (same_new ht (.tup []))).1 rfl ?_
        walk_at "go"
        refine u_ixT (hs1 _ (same_new ht (.tup []))).2 rfl ?_
        walk_at "go"
        refine ⟨lk rfl, fun t2 ht2 => ?_⟩
        walk_at "go"
        refine ⟨lk rfl, fun t3 ht3 => ?_⟩
        walk_at "go"
        refine ⟨lk rfl, fun t4 ht4 => ?_⟩
        exact fin _ _ _ _ _ _ _ s1 hS1 (.outer (by omega) g1 g2) ht ht2 ht3 ht4
      · skip
        walk_at "go"
        refine rd_split (fun c7 => ?_) (fun c7 => ?_)
        · skip
          walk_at "go"
          refine rd_split (fun c8 => ?_) (fun c8 => ?_)
          · skip
            walk_at "go"
            refine ⟨lk rfl, fun t ht => ?_⟩
            walk_at "go"
            refine u_ixT (hs1 _ (same_new ht (.tup []))).1 rfl ?_
            walk_at "go"
            refine u_ixT (hs1 _ (same_new ht (.tup []))).2 rfl ?_
            walk_at "go"
            refine ⟨lk rfl, fun t2 ht2 => ?_⟩
            walk_at "go"
            refine ⟨lk rfl, fun t3 ht3 => ?_⟩
            walk_at "go"
            refine ⟨lk rfl, fun t4 ht4 => ?_⟩
            exact fin _ _ _ _ _ _ _ s1 hS1 (.blend (by omega) g1 g2) ht ht2 ht3 ht4
          · skip
            walk_at "go"
            refine rd_split (fun c9 => ?_) (fun c9 => ?_)
            · skip
              walk_at "go"
              refine ⟨lk rfl, fun t ht => ?_⟩
              walk_at "go"
              refine u_ixT (hs1 _ (same_new ht (.tup []))).1 rfl ?_
              walk_at "go"
              refine u_ixT (hs1 _ (same_new ht (.tup []))).2 rfl ?_
              walk_at "go"
              refine ⟨lk rfl, fun t2 ht2 => ?_⟩
              walk_at "go"
              refine ⟨lk rfl, fun t3 ht3 => ?_⟩
              walk_at "go"
              refine ⟨lk rfl, fun t4 ht4 => ?_⟩
              exact fin _ _ _ _ _ _ _ s1 hS1 (.cat c9 g1 g2) ht ht2 ht3 ht4
            · skip
              walk_at "go"
              refine ⟨lk rfl, fun t ht => ?_⟩
              have S1 := same_new ht (.tup [])
              have X1 := Ext.new (K := K) (o := .tup []) ht
              have Ft : SqT K (upd H1 t (.tup [])) t [] := SqT.of upd_same
              generalize upd H1 t (.tup []) = B1 at *
              walk_at "go"
              refine ⟨lk rfl, fun ta hta => ?_⟩
              have S2 := Same.new (o := .tup []) S1 hta
              have X2 := Ext.new (K := K) (o := .tup []) hta
              have Fta : SqT K (upd B1 ta (.tup [])) ta [] := SqT.of upd_same
              have Ft := X2 _ _ Ft
              generalize upd B1 ta (.tup []) = B2 at *
              walk_at "go"
              refine u_ixT (hs1 _ S2).1 rfl ?_
              walk_at "go"
              refine ⟨lk rfl, fun tb htb => ?_⟩
              have S3 := Same.new (o := .tup [u1]) S2 htb
              have X3 := Ext.new (K := K) (o := .tup [u1]) htb
              have Ftb : SqT K (upd B2 tb (.tup [u1])) tb [u1] := SqT.of upd_same
              have Ft := X3 _ _ Ft
              have Fta := X3 _ _ Fta
              generalize upd B2 tb (.tup [u1]) = B3 at *
              walk_at "go"
              refine ⟨lk rfl, fun Rc hRc => ?_⟩
              have S4 := Same.new (o := .tup [.str (Str.ofString "top"), .ref ta, .ref tb]) S3 hRc
              have X4 := Ext.new (K := K) (o := .tup [.str (Str.ofString "top"), .ref ta, .ref tb]) hRc
              have FRc := mk1 (op := Str.ofString "top") (j := j1) Fta .nil Ftb (r1.mono ((hS.ext s1).trans (Ext.of_same S3)) _ _) hRc
              have Ft := X4 _ _ Ft
              have Fta := X4 _ _ Fta
              have Ftb := X4 _ _ Ftb
              generalize upd B3 Rc (.tup [.str (Str.ofString "top"), .ref ta, .ref tb]) = B4 at *
              walk_at "go"
              refine ⟨lk rfl, fun td htd => ?_⟩
              have S5 := Same.new (o := .tup []) S4 htd
              have X5 := Ext.new (K := K) (o := .tup []) htd
              have Ftd : SqT K (upd B4 td (.tup [])) td [] := SqT.of upd_same
              have Ft := X5 _ _ Ft
              have Fta := X5 _ _ Fta
              have Ftb := X5 _ _ Ftb
              have FRc := FRc.mono X5 _ _
              generalize upd B4 td (.tup []) = B5 at *
              walk_at "go"
              refine u_ixT (hs1 _ S5).2 rfl ?_
              walk_at "go"
              refine ⟨lk rfl, fun te hte => ?_⟩
              have S6 := Same.new (o := .tup [u2]) S5 hte
              have X6 := Ext.new (K := K) (o := .tup [u2]) hte
              have Fte : SqT K (upd B5 te (.tup [u2])) te [u2] := SqT.of upd_same
              have Ft := X6 _ _ Ft
              have Fta := X6 _ _ Fta
              have Ftb := X6 _ _ Ftb
              have FRc := FRc.mono X6 _ _
              have Ftd := X6 _ _ Ftd
              generalize upd B5 te (.tup [u2]) = B6 at *
              walk_at "go"
              refine ⟨lk rfl, fun Rf hRf => ?_⟩
              have S7 := Same.new (o := .tup [.str (Str.ofString "sum"), .ref td, .ref te]) S6 hRf
              have X7 := Ext.new (K := K) (o := .tup [.str (Str.ofString "sum"), .ref td, .ref te]) hRf
              have FRf := mk1 (op := Str.ofString "sum") (j := j2) Ftd .nil Fte (r2.mono ((hS.ext s1).trans (Ext.of_same S6)) _ _) hRf
              have Ft := X7 _ _ Ft
              have Fta := X7 _ _ Fta
              have Ftb := X7 _ _ Ftb
              have FRc := FRc.mono X7 _ _
              have Ftd := X7 _ _ Ftd
              have Fte := X7 _ _ Fte
              generalize upd B6 Rf (.tup [.str (Str.ofString "sum"), .ref td, .ref te]) = B7 at *
              walk_at "go"
              refine ⟨lk rfl, fun tg htg => ?_⟩
              have S8 := Same.new (o := .tup [.ref Rc, .ref Rf]) S7 htg
              have X8 := Ext.new (K := K) (o := .tup [.ref Rc, .ref Rf]) htg
              have Ftg : SqT K (upd B7 tg (.tup [.ref Rc, .ref Rf])) tg [.ref Rc, .ref Rf] := SqT.of upd_same
              have Ft := X8 _ _ Ft
              have Fta := X8 _ _ Fta
              have Ftb := X8 _ _ Ftb
              have FRc := FRc.mono X8 _ _
              have Ftd := X8 _ _ Ftd
              have Fte := X8 _ _ Fte
              have FRf := FRf.mono X8 _ _
              generalize upd B7 tg (.tup [.ref Rc, .ref Rf]) = B8 at *
              walk_at "go"
              refine ⟨lk rfl, fun Rh hRh => ?_⟩
              have S9 := Same.new (o := .tup [.str (Str.ofString "outer"), .ref t, .ref tg]) S8 hRh
              have X9 := Ext.new (K := K) (o := .tup [.str (Str.ofString "outer"), .ref t, .ref tg]) hRh
              have FRh := mk2 (op := Str.ofString "outer") Ft .nil Ftg FRc FRf hRh
              have Ft := X9 _ _ Ft
              have Fta := X9 _ _ Fta
              have Ftb := X9 _ _ Ftb
              have FRc := FRc.mono X9 _ _
              have Ftd := X9 _ _ Ftd
              have Fte := X9 _ _ Fte
              have FRf := FRf.mono X9 _ _
              have Ftg := X9 _ _ Ftg
              generalize upd B8 Rh (.tup [.str (Str.ofString "outer"), .ref t, .ref tg]) = B9 at *
              walk_at "go"
              refine ⟨lk rfl, fun ti hti => ?_⟩
              exact q _ _ _ ((s1.trans (SB.of_same S9)).new hti) ((hS1.same S9).new hti) (mkTr FRh (show Gd ks _ 1 from .outer (s := 1) (t := 1) (by decide) (.unit _ (by decide +kernel) g1) (.unit _ (by decide +kernel) g2)) (by rw [cnt2, cnt1, cnt1]) hti) (by omega)
        · skip
          walk_at "go"
          refine rd_split (fun c9 => ?_) (fun c9 => ?_)
          · skip
            walk_at "go"
            refine ⟨lk rfl, fun t ht => ?_⟩
            walk_at "go"
            refine u_ixT (hs1 _ (same_new ht (.tup []))).1 rfl ?_
            walk_at "go"
            refine u_ixT (hs1 _ (same_new ht (.tup []))).2 rfl ?_
            walk_at "go"
            refine ⟨lk rfl, fun t2 ht2 => ?_⟩
            walk_at "go"
            refine ⟨lk rfl, fun t3 ht3 => ?_⟩
            walk_at "go"
            refine ⟨lk rfl, fun t4 ht4 => ?_⟩
            exact fin _ _ _ _ _ _ _ s1 hS1 (.cat c9 g1 g2) ht ht2 ht3 ht4
          · skip
            walk_at "go"
            refine ⟨lk rfl, fun t ht => ?_⟩
            have S1 := same_new ht (.tup [])
            have X1 := Ext.new (K := K) (o := .tup []) ht
            have Ft : SqT K (upd H1 t (.tup [])) t [] := SqT.of upd_same
            generalize upd H1 t (.tup []) = B1 at *
            walk_at "go"
            refine ⟨lk rfl, fun ta hta => ?_⟩
            have S2 := Same.new (o := .tup []) S1 hta
            have X2 := Ext.new (K := K) (o := .tup []) hta
            have Fta : SqT K (upd B1 ta (.tup [])) ta [] := SqT.of upd_same
            have Ft := X2 _ _ Ft
            generalize upd B1 ta (.tup []) = B2 at *
            walk_at "go"
            refine u_ixT (hs1 _ S2).1 rfl ?_
            walk_at "go"
            refine ⟨lk rfl, fun tb htb => ?_⟩
            have S3 := Same.new (o := .tup [u1]) S2 htb
            have X3 := Ext.new (K := K) (o := .tup [u1]) htb
            have Ftb : SqT K (upd B2 tb (.tup [u1])) tb [u1] := SqT.of upd_same
            have Ft := X3 _ _ Ft
            have Fta := X3 _ _ Fta
            generalize upd B2 tb (.tup [u1]) = B3 at *
            walk_at "go"
            refine ⟨lk rfl, fun Rc hRc => ?_⟩
            have S4 := Same.new (o := .tup [.str (Str.ofString "top"), .ref ta, .ref tb]) S3 hRc
            have X4 := Ext.new (K := K) (o := .tup [.str (Str.ofString "top"), .ref ta, .ref tb]) hRc
            have FRc := mk1 (op := Str.ofString "top") (j := j1) Fta .nil Ftb (r1.mono ((hS.ext s1).trans (Ext.of_same S3)) _ _) hRc
            have Ft := X4 _ _ Ft
            have Fta := X4 _ _ Fta
            have Ftb := X4 _ _ Ftb
            generalize upd B3 Rc (.tup [.str (Str.ofString "top"), .ref ta, .ref tb]) = B4 at *
            walk_at "go"
            refine ⟨lk rfl, fun td htd => ?_⟩
            have S5 := Same.new (o := .tup []) S4 htd
            have X5 := Ext.new (K := K) (o := .tup []) htd
            have Ftd : SqT K (upd B4 td (.tup [])) td [] := SqT.of upd_same
            have Ft := X5 _ _ Ft
            have Fta := X5 _ _ Fta
            have Ftb := X5 _ _ Ftb
            have FRc := FRc.mono X5 _ _
            generalize upd B4 td (.tup []) = B5 at *
            walk_at "go"
            refine u_ixT (hs1 _ S5).2 rfl ?_
            walk_at "go"
            refine ⟨lk rfl, fun te hte => ?_⟩
            have S6 := Same.new (o := .tup [u2]) S5 hte
            have X6 := Ext.new (K := K) (o := .tup [u2]) hte
            have Fte : SqT K (upd B5 te (.tup [u2])) te [u2] := SqT.of upd_same
            have Ft := X6 _ _ Ft
            have Fta := X6 _ _ Fta
            have Ftb := X6 _ _ Ftb
            have FRc := FRc.mono X6 _ _
            have Ftd := X6 _ _ Ftd
            generalize upd B5 te (.tup [u2]) = B6 at *
            walk_at "go"
            refine ⟨lk rfl, fun Rf hRf => ?_⟩
            have S7 := Same.new (o := .tup [.str (Str.ofString "sum"), .ref td, .ref te]) S6 hRf
            have X7 := Ext.new (K := K) (o := .tup [.str (Str.ofString "sum"), .ref td, .ref te]) hRf
            have FRf := mk1 (op := Str.ofString "sum") (j := j2) Ftd .nil Fte (r2.mono ((hS.ext s1).trans (Ext.of_same S6)) _ _) hRf
            have Ft := X7 _ _ Ft
            have Fta := X7 _ _ Fta
            have Ftb := X7 _ _ Ftb
            have FRc := FRc.mono X7 _ _
            have Ftd := X7 _ _ Ftd
            have Fte := X7 _ _ Fte
            generalize upd B6 Rf (.tup [.str (Str.ofString "sum"), .ref td, .ref te]) = B7 at *
            walk_at "go"
            refine ⟨lk rfl, fun tg htg => ?_⟩
            have S8 := Same.new (o := .tup [.ref Rc, .ref Rf]) S7 htg
            have X8 := Ext.new (K := K) (o := .tup [.ref Rc, .ref Rf]) htg
            have Ftg : SqT K (upd B7 tg (.tup [.ref Rc, .ref Rf])) tg [.ref Rc, .ref Rf] := SqT.of upd_same
            have Ft := X8 _ _ Ft
            have Fta := X8 _ _ Fta
            have Ftb := X8 _ _ Ftb
            have FRc := FRc.mono X8 _ _
            have Ftd := X8 _ _ Ftd
            have Fte := X8 _ _ Fte
            have FRf := FRf.mono X8 _ _
            generalize upd B7 tg (.tup [.ref Rc, .ref Rf]) = B8 at *
            walk_at "go"
            refine ⟨lk rfl, fun Rh hRh => ?_⟩
            have S9 := Same.new (o := .tup [.str (Str.ofString "outer"), .ref t, .ref tg]) S8 hRh
            have X9 := Ext.new (K := K) (o := .tup [.str (Str.ofString "outer"), .ref t, .ref tg]) hRh
            have FRh := mk2 (op := Str.ofString "outer") Ft .nil Ftg FRc FRf hRh
            have Ft := X9 _ _ Ft
            have Fta := X9 _ _ Fta
            have Ftb := X9 _ _ Ftb
            have FRc := FRc.mono X9 _ _
            have Ftd := X9 _ _ Ftd
            have Fte := X9 _ _ Fte
            have FRf := FRf.mono X9 _ _
            have Ftg := X9 _ _ Ftg
            generalize upd B8 Rh (.tup [.str (Str.ofString "outer"), .ref t, .ref tg]) = B9 at *
            walk_at "go"
            refine ⟨lk rfl, fun ti hti => ?_⟩
            exact q _ _ _ ((s1.trans (SB.of_same S9)).new hti) ((hS1.same S9).new hti) (mkTr FRh (show Gd ks _ 1 from .outer (s := 1) (t := 1) (by decide) (.unit _ (by decide +kernel) g1) (.unit _ (by decide +kernel) g2)) (by rw [cnt2, cnt1, cnt1]) hti) (by omega)
    · skip
      walk_at "go"
      refine rd_split (fun c7 => ?_) (fun c7 => ?_)
      · skip
        walk_at "go"
        refine rd_split (fun c8 => ?_) (fun c8 => ?_)
        · skip
          walk_at "go"
          refine ⟨lk rfl, fun t ht => ?_⟩
          walk_at "go"
          refine u_ixT (hs1 _ (same_new ht (.tup []))).1 rfl ?_
          walk_at "go"
          refine u_ixT (hs1 _ (same_new ht (.tup []))).2 rfl ?_
          walk_at "go"
          refine ⟨lk rfl, fun t2 ht2 => ?_⟩
          walk_at "go"
          refine ⟨lk rfl, fun t3 ht3 => ?_⟩
          walk_at "go"
          refine ⟨lk rfl, fun t4 ht4 => ?_⟩
          exact fin _ _ _ _ _ _ _ s1 hS1 (.blend (by omega) g1 g2) ht ht2 ht3 ht4
        · skip
          walk_at "go"
          refine rd_split (fun c9 => ?_) (fun c9 => ?_)
          · skip
            walk_at "go"
            refine ⟨lk rfl, fun t ht => ?_⟩
            walk_at "go"
            refine u_ixT (hs1 _ (same_new ht (.tup []))).1 rfl ?_
            walk_at "go"
            refine u_ixT (hs1 _ (same_new ht (.tup []))).2 rfl ?_
            walk_at "go"
            refine ⟨lk rfl, fun t2 ht2 => ?_⟩
            walk_at "go"
            refine ⟨lk rfl, fun t3 ht3 => ?_⟩
            walk_at "go"
            refine ⟨lk rfl, fun t4 ht4 => ?_⟩
            exact fin _ _ _ _ _ _ _ s1 hS1 (.cat c9 g1 g2) ht ht2 ht3 ht4
          · skip
            walk_at "go"
            refine ⟨lk rfl, fun t ht => ?_⟩
            have S1 := same_new ht (.tup [])
            have X1 := Ext.new (K := K) (o := .tup []) ht
            have Ft : SqT K (upd H1 t (.tup [])) t [] := SqT.of upd_same
            generalize upd H1 t (.tup []) = B1 at *
            walk_at "go"
            refine ⟨lk rfl, fun ta hta => ?_⟩
            have S2 := Same.new (o := .tup []) S1 hta
            have X2 := Ext.new (K := K) (o := .tup []) hta
            have Fta : SqT K (upd B1 ta (.tup [])) ta [] := SqT.of upd_same
            have Ft := X2 _ _ Ft
            generalize upd B1 ta (.tup []) = B2 at *
            walk_at "go"
            refine u_ixT (hs1 _ S2).1 rfl ?_
            walk_at "go"
            refine ⟨lk rfl, fun tb htb => ?_⟩
            have S3 := Same.new (o := .tup [u1]) S2 htb
            have X3 := Ext.new (K := K) (o := .tup [u1]) htb
            have Ftb : SqT K (upd B2 tb (.tup [u1])) tb [u1] := SqT.of upd_same
            have Ft := X3 _ _ Ft
            have Fta := X3 _ _ Fta
            generalize upd B2 tb (.tup [u1]) = B3 at *
            walk_at "go"
            refine ⟨lk rfl, fun Rc hRc => ?_⟩
            have S4 := Same.new (o := .tup [.str (Str.ofString "top"), .ref ta, .ref tb]) S3 hRc
            have X4 := Ext.new (K := K) (o := .tup [.str (Str.ofString "top"), .ref ta, .ref tb]) hRc
            have FRc := mk1 (op := Str.ofString "top") (j := j1) Fta .nil Ftb (r1.mono ((hS.ext s1).trans (Ext.of_same S3)) _ _) hRc
            have Ft := X4 _ _ Ft
            have Fta := X4 _ _ Fta
            have Ftb := X4 _ _ Ftb
            generalize upd B3 Rc (.tup [.str (Str.ofString "top"), .ref ta, .ref tb]) = B4 at *
            walk_at "go"
            refine ⟨lk rfl, fun td htd => ?_⟩
            have S5 := Same.new (o := .tup []) S4 htd
            have X5 := Ext.new (K := K) (o := .tup []) htd
            have Ftd : SqT K (upd B4 td (.tup [])) td [] := SqT.of upd_same
            have Ft := X5 _ _ Ft
            have Fta := X5 _ _ Fta
            have Ftb := X5 _ _ Ftb
            have FRc := FRc.mono X5 _ _
            generalize upd B4 td (.tup []) = B5 at *
            walk_at "go"
            refine u_ixT (hs1 _ S5).2 rfl ?_
            walk_at "go"
            refine ⟨lk rfl, fun te hte => ?_⟩
            have S6 := Same.new (o := .tup [u2]) S5 hte
            have X6 := Ext.new (K := K) (o := .tup [u2]) hte
            have Fte : SqT K (upd B5 te (.tup [u2])) te [u2] := SqT.of upd_same
            have Ft := X6 _ _ Ft
            have Fta := X6 _ _ Fta
            have Ftb := X6 _ _ Ftb
            have FRc := FRc.mono X6 _ _
            have Ftd := X6 _ _ Ftd
            generalize upd B5 te (.tup [u2]) = B6 at *
            walk_at "go"
            refine ⟨lk rfl, fun Rf hRf => ?_⟩
            have S7 := Same.new (o := .tup [.str (Str.ofString "sum"), .ref td, .ref te]) S6 hRf
            have X7 := Ext.new (K := K) (o := .tup [.str (Str.ofString "sum"), .ref td, .ref te]) hRf
            have FRf := mk1 (op := Str.ofString "sum") (j := j2) Ftd .nil Fte (r2.mono ((hS.ext s1).trans (Ext.of_same S6)) _ _) hRf
            have Ft := X7 _ _ Ft
            have Fta := X7 _ _ Fta
            have Ftb := X7 _ _ Ftb
            have FRc := FRc.mono X7 _ _
            have Ftd := X7 _ _ Ftd
            have Fte := X7 _ _ Fte
            generalize upd B6 Rf (.tup [.str (Str.ofString "sum"), .ref td, .ref te]) = B7 at *
            walk_at "go"
            refine ⟨lk rfl, fun tg htg => ?_⟩
            have S8 := Same.new (o := .tup [.ref Rc, .ref Rf]) S7 htg
            have X8 := Ext.new (K := K) (o := .tup [.ref Rc, .ref Rf]) htg
            have Ftg : SqT K (upd B7 tg (.tup [.ref Rc, .ref Rf])) tg [.ref Rc, .ref Rf] := SqT.of upd_same
            have Ft := X8 _ _ Ft
            have Fta := X8 _ _ Fta
            have Ftb := X8 _ _ Ftb
            have FRc := FRc.mono X8 _ _
            have Ftd := X8 _ _ Ftd
            have Fte := X8 _ _ Fte
            have FRf := FRf.mono X8 _ _
            generalize upd B7 tg (.tup [.ref Rc, .ref Rf]) = B8 at *
            walk_at "go"
            refine ⟨lk rfl, fun Rh hRh => ?_⟩
            have S9 := Same.new (o := .tup [.str (Str.ofString "outer"), .ref t, .ref tg]) S8 hRh
            have X9 := Ext.new (K := K) (o := .tup [.str (Str.ofString "outer"), .ref t, .ref tg]) hRh
            have FRh := mk2 (op := Str.ofString "outer") Ft .nil Ftg FRc FRf hRh
            have Ft := X9 _ _ Ft
            have Fta := X9 _ _ Fta
            have Ftb := X9 _ _ Ftb
            have FRc := FRc.mono X9 _ _
            have Ftd := X9 _ _ Ftd
            have Fte := X9 _ _ Fte
            have FRf := FRf.mono X9 _ _
            have Ftg := X9 _ _ Ftg
            generalize upd B8 Rh (.tup [.str (Str.ofString "outer"), .ref t, .ref tg]) = B9 at *
            walk_at "go"
            refine ⟨lk rfl, fun ti hti => ?_⟩
            exact q _ _ _ ((s1.trans (SB.of_same S9)).new hti) ((hS1.same S9).new hti) (mkTr FRh (show Gd ks _ 1 from .outer (s := 1) (t := 1) (by decide) (.unit _ (by decide +kernel) g1) (.unit _ (by decide +kernel) g2)) (by rw [cnt2, cnt1, cnt1]) hti) (by omega)
      · skip
        walk_at "go"
        refine rd_split (fun c9 => ?_) (fun c9 => ?_)
        · skip
          walk_at "go"
          refine ⟨lk rfl, fun t ht => ?_⟩
          walk_at "go"
          refine u_ixT (hs1 _ (same_new ht (.tup []))).1 rfl ?_
          walk_at "go"
          refine u_ixT (hs1 _ (same_new ht (.tup []))).2 rfl ?_
          walk_at "go"
          refine ⟨lk rfl, fun t2 ht2 => ?_⟩
          walk_at "go"
          refine ⟨lk rfl, fun t3 ht3 => ?_⟩
          walk_at "go"
          refine ⟨lk rfl, fun t4 ht4 => ?_⟩
          exact fin _ _ _ _ _ _ _ s1 hS1 (.cat c9 g1 g2) ht ht2 ht3 ht4
        · skip
          walk_at "go"
          refine ⟨lk rfl, fun t ht => ?_⟩
          have S1 := same_new ht (.tup [])
          have X1 := Ext.new (K := K) (o := .tup []) ht
          have Ft : SqT K (upd H1 t (.tup [])) t [] := SqT.of upd_same
          generalize upd H1 t (.tup []) = B1 at *
          walk_at "go"
          refine ⟨lk rfl, fun ta hta => ?_⟩
          have S2 := Same.new (o := .tup []) S1 hta
          have X2 := Ext.new (K := K) (o := .tup []) hta
          have Fta : SqT K (upd B1 ta (.tup [])) ta [] := SqT.of upd_same
          have Ft := X2 _ _ Ft
          generalize upd B1 ta (.tup []) = B2 at *
          walk_at "go"
          refine u_ixT (hs1 _ S2).1 rfl ?_
          walk_at "go"
          refine ⟨lk rfl, fun tb htb => ?_⟩
          have S3 := Same.new (o := .tup [u1]) S2 htb
          have X3 := Ext.new (K := K) (o := .tup [u1]) htb
          have Ftb : SqT K (upd B2 tb (.tup [u1])) tb [u1] := SqT.of upd_same
          have Ft := X3 _ _ Ft
          have Fta := X3 _ _ Fta
          generalize upd B2 tb (.tup [u1]) = B3 at *
          walk_at "go"
          refine ⟨lk rfl, fun Rc hRc => ?_⟩
          have S4 := Same.new (o := .tup [.str (Str.ofString "top"), .ref ta, .ref tb]) S3 hRc
          have X4 := Ext.new (K := K) (o := .tup [.str (Str.ofString "top"), .ref ta, .ref tb]) hRc
          have FRc := mk1 (op := Str.ofString "top") (j := j1) Fta .nil Ftb (r1.mono ((hS.ext s1).trans (Ext.of_same S3)) _ _) hRc
          have Ft := X4 _ _ Ft
          have Fta := X4 _ _ Fta
          have Ftb := X4 _ _ Ftb
          generalize upd B3 Rc (.tup [.str (Str.ofString "top"), .ref ta, .ref tb]) = B4 at *
          walk_at "go"
          refine ⟨lk rfl, fun td htd => ?_⟩
          have S5 := Same.new (o := .tup []) S4 htd
          have X5 := Ext.new (K := K) (o := .tup []) htd
          have Ftd : SqT K (upd B4 td (.tup [])) td [] := SqT.of upd_same
          have Ft := X5 _ _ Ft
          have Fta := X5 _ _ Fta
          have Ftb := X5 _ _ Ftb
          have FRc := FRc.mono X5 _ _
          generalize upd B4 td (.tup []) = B5 at *
          walk_at "go"
          refine u_ixT (hs1 _ S5).2 rfl ?_
          walk_at "go"
          refine ⟨lk rfl, fun te hte => ?_⟩
          have S6 := Same.new (o := .tup [u2]) S5 hte
          have X6 := Ext.new (K := K) (o := .tup [u2]) hte
          have Fte : SqT K (upd B5 te (.tup [u2])) te [u2] := SqT.of upd_same
          have Ft := X6 _ _ Ft
          have Fta := X6 _ _ Fta
          have Ftb := X6 _ _ Ftb
          have FRc := FRc.mono X6 _ _
          have Ftd := X6 _ _ Ftd
          generalize upd B5 te (.tup [u2]) = B6 at *
          walk_at "go"
          refine ⟨lk rfl, fun Rf hRf => ?_⟩
          have S7 := Same.new (o := .tup [.str (Str.ofString "sum"), .ref td, .ref te]) S6 hRf
          have X7 := Ext.new (K := K) (o := .tup [.str (Str.ofString "sum"), .ref td, .ref te]) hRf
          have FRf := mk1 (op := Str.ofString "sum") (j := j2) Ftd .nil Fte (r2.mono ((hS.ext s1).trans (Ext.of_same S6)) _ _) hRf
          have Ft := X7 _ _ Ft
          have Fta := X7 _ _ Fta
          have Ftb := X7 _ _ Ftb
          have FRc := FRc.mono X7 _ _
          have Ftd := X7 _ _ Ftd
          have Fte := X7 _ _ Fte
          generalize upd B6 Rf (.tup [.str (Str.ofString "sum"), .ref td, .ref te]) = B7 at *
          walk_at "go"
          refine ⟨lk rfl, fun tg htg => ?_⟩
          have S8 := Same.new (o := .tup [.ref Rc, .ref Rf]) S7 htg
          have X8 := Ext.new (K := K) (o := .tup [.ref Rc, .ref Rf]) htg
          have Ftg : SqT K (upd B7 tg (.tup [.ref Rc, .ref Rf])) tg [.ref Rc, .ref Rf] := SqT.of upd_same
          have Ft := X8 _ _ Ft
          have Fta := X8 _ _ Fta
          have Ftb := X8 _ _ Ftb
          have FRc := FRc.mono X8 _ _
          have Ftd := X8 _ _ Ftd
          have Fte := X8 _ _ Fte
          have FRf := FRf.mono X8 _ _
          generalize upd B7 tg (.tup [.ref Rc, .ref Rf]) = B8 at *
          walk_at "go"
          refine ⟨lk rfl, fun Rh hRh => ?_⟩
          have S9 := Same.new (o := .tup [.str (Str.ofString "outer"), .ref t, .ref tg]) S8 hRh
          have X9 := Ext.new (K := K) (o := .tup [.str (Str.ofString "outer"), .ref t, .ref tg]) hRh
          have FRh := mk2 (op := Str.ofString "outer") Ft .nil Ftg FRc FRf hRh
          have Ft := X9 _ _ Ft
          have Fta := X9 _ _ Fta
          have Ftb := X9 _ _ Ftb
          have FRc := FRc.mono X9 _ _
          have Ftd := X9 _ _ Ftd
          have Fte := X9 _ _ Fte
          have FRf := FRf.mono X9 _ _
          have Ftg := X9 _ _ Ftg
          generalize upd B8 Rh (.tup [.str (Str.ofString "outer"), .ref t, .ref tg]) = B9 at *
          walk_at "go"
          refine ⟨lk rfl, fun ti hti => ?_⟩
          exact q _ _ _ ((s1.trans (SB.of_same S9)).new hti) ((hS1.same S9).new hti) (mkTr FRh (show Gd ks _ 1 from .outer (s := 1) (t := 1) (by decide) (.unit _ (by decide +kernel) g1) (.unit _ (by decide +kernel) g2)) (by rw [cnt2, cnt1, cnt1]) hti) (by omega)
end

/-! ### G4 -/
section
variable {P : Program} {w : World} {K : PySem.W.Frag} {mg : Str → Option Value} {base : Heap}
theorem cnts_snoc (r : List Jn) (l : Jn) : Jn.cnts (r ++ [l]) = Jn.cnts r + l.cnt := by rw [cnts_append]; simp [Jn.cnts]
theorem pys_snoc (r : List Jn) (l : Jn) : Jn.pys (r ++ [l]) = Jn.pys r ++ [l.py] := by rw [pys_append]; simp [Jn.pys]
theorem oks_snoc : ∀ {r : List Jn} {l : Jn}, Jn.oks (r ++ [l]) → Jn.oks r ∧ l.ok
  | [], l, h => by
    simp only [List.nil_append, Jn.oks] at h
    exact ⟨trivial, h.1⟩
  | a :: r, l, h => by
    simp only [List.cons_append, Jn.oks] at h ⊢
    have := oks_snoc h.2
    exact ⟨⟨h.1, this.1⟩, this.2⟩
abbrev s_law_count : Stmt := top 77
theorem sc_law_count : FnScope ["joint", "left", "many", "turn", "part"] ["joint"] (defScope s_law_count) := ⟨rfl, rfl, rfl, by decide +kernel, rfl, by decide +kernel, by decide +kernel⟩
def spCnt (K : PySem.W.Frag) : Sp := fun vs H Q _ => ∃ (u : V) (j : Jn), vs = [u] ∧ Rp K H u j.py ∧ j.ok ∧ j.cnt ≤ 150 ∧ ∀ H', Same H H' → Q (.int j.cnt) H'
theorem use_cnt {K : PySem.W.Frag} {u : V} {j : Jn} {H : Hp} {Q : VK} {E : XK} (r : Rp K H u j.py) (h : j.ok) (h1 : j.cnt ≤ 150) (q : ∀ H', Same H H' → Q (.int j.cnt) H') : spCnt K [u] H Q E := ⟨u, j, rfl, r, h, h1, q⟩
theorem has_count (O : OwnF K mg "_law_count" s_law_count) (B : Bl mg) : HasF P w K mg base CX0 1 "_law_count" ["joint"] (spCnt K) := by
  refine has0 O sc_law_count (fun _ _ _ _ _ _ us hl => match us, hl with | [_], _ => rfl) (fun vs H Q E h => ?_) (fun f cdv A outer s_ H vs Q E hr h => ?_)
  · obtain ⟨u, j, rfl, _⟩ := h
    rfl
  obtain ⟨u, j, rfl, r, hok, h150, q⟩ := h
  refine ⟨_, (pss_cons (ps_par (i := 1) (j := 2) (by rfl) sc_law_count.nd rfl rfl (by decide) rfl rfl (pa_cons (pe_lst (pa_cons (pv 0) pa_nil)) (pa_cons pe_int pa_nil)) (by rfl)) (pss_cons (ps_for PassesOwn.never rfl (pi_range1 (by rfl) B.range (pa_cons pe_int pa_nil)) (pg_name (i := 3) sc_law_count.nd rfl (by first | exact Or.inl rfl | exact Or.inr rfl)) (pss_one (ps_if (pt_truthK K (pv 1) (by intro _; rfl)) (pss_cons (ps_aug (i := 2) sc_law_count.nd rfl (by first | exact Or.inl rfl | exact Or.inr rfl) pe_int ip_add) (pss_one (ps_set (i := 1) sc_law_count.nd rfl (by first | exact Or.inl rfl | exact Or.inr rfl) (pe_op (kAdd K) (pv 1) (pe_lc (own := [("part", 4)]) (g := gName 4) (tt := tYes) rfl sc_law_count.nd (pi_tupK K (pe_ix (kIx K) (pe_bm0K K PySem.F.plainAttrs_list PySem.F.slot_list_pop PySem.F.type_list_pop mt_pop (pv 1)) pe_int (fun _ _ => rfl))) (blkOk_by (own := [("part", 4)]) (N := ["joint", "left", "many", "turn", "part"]) (sc := defScope s_law_count) (by decide +kernel)) (fun _ _ _ _ _ => (pg_name (i := 4) sc_law_count.nd rfl (by first | exact Or.inl rfl | exact Or.inr rfl))) (fun _ _ _ _ _ => pts_nil) (fun _ _ _ _ _ => (pv 4))))))) pss_nil))) (pss_one (ps_ret (pv 2))))), ?_⟩
  refine st0 [some u, none, none, none, none] rfl ?_
  walk_at "go"
  refine ⟨lk rfl, fun p hp => ?_⟩
  walk_at "go"
  refine forR (fun i σ H' => ∃ (b : Addr) (ws : List V) (st : List Jn) (m : Nat) (o1 o2 : Option V), σ = [some u, some (.ref b), some (.int m), o1, o2] ∧ Same H H' ∧ H b = none ∧ H' b = some (.lst ws) ∧ Rps K H' ws (Jn.pys st) ∧ Jn.oks st ∧ m + Jn.cnts st = j.cnt ∧ (st = [] ∨ m = i) ∧ ws.length ≤ 1 + 4 * m)
    ⟨p, [u], [j], 0, none, none, rfl, same_new hp _, hp, upd_same, by simp only [Jn.pys]; exact .one (r.mono (Ext.new hp) _ _), ⟨hok, trivial⟩, by simp [Jn.cnts], .inr rfl, by simp⟩ ?_ ?_
  · rintro i σ H' hi ⟨b, ws, st, m, o1, o2, rfl, g1, g2, g3, g4, g5, g6, g7, g8⟩
    walk_at "go"
    have lw := g4.length
    rw [pys_length] at lw
    refine rd_splitB (fun c => ?_) (fun c => ?_)
    · rcases List.eq_nil_or_concat st with rfl | ⟨st', l, rfl⟩
      · cases ws with
        | nil => cases c
        | cons _ _ => cases lw
      rw [List.concat_eq_append] at *
      have g7' : m = i := g7.resolve_left (by simp)
      rw [pys_snoc] at g4
      rw [cnts_snoc] at g6
      obtain ⟨hr1, hl1⟩ := oks_snoc g5
      obtain ⟨op, td, parts⟩ := l
      have hl2 := hl1
      simp only [Jn.ok] at hl2
      have lp4 := hl2.2.2.2.1
      have e2 : (Jn.pys st' ++ [(Jn.mk op td parts).py])[ws.length - 1]? = some (Jn.mk op td parts).py := by
        rw [lw, List.length_append, ← pys_length st']
        simp
      obtain ⟨x, ex, rx⟩ := g4.get e2
      obtain ⟨pj, t, qa, tv, pvs, rfl, hsj, _, _, hsq, hRq⟩ := rx.jn
      have hlq : pvs.length = parts.length := by rw [hRq.length, pys_length]
      walk_at "go"
      refine u_pop g3 ex ?_
      have xD : Ext K H' (upd H' b (.lst ws.dropLast)) := Ext.set g3 trivial
      have s2 : Same H (upd H' b (.lst ws.dropLast)) := Same.upd_new g1 g2
      have hDr : Rps K (upd H' b (.lst ws.dropLast)) ws.dropLast (Jn.pys st') := by
        have h3 := g4.dropLast
        rw [List.dropLast_concat] at h3
        exact h3.mono xD _ _
      have hsj2 := xD _ _ hsj
      have hsq2 := xD _ _ hsq
      have hRq2 := hRq.mono xD _ _
      have ea2 : (upd H' b (.lst ws.dropLast)) b = some (.lst ws.dropLast) := upd_same
      generalize upd H' b (.lst ws.dropLast) = H2 at *
      walk_at "go"
      refine u_ixT hsj2 rfl ?_
      walk_at "go"
      intro D hD
      refine lc_tup (K := K) (a := qa) (xs := pvs) (fun k H' => ∃ vs, H' D = some (.lst vs) ∧ vs = pvs.take k ∧ Same H2 H') ⟨[], upd_same, by simp, Same.upd_new (Same.refl H2) hD⟩ ?_ ?_ ?_
      · rintro k H3 hk ⟨vs, f1, f2, f3⟩
        exact Ext.of_same f3 _ _ hsq2
      · rintro k y H3 hy ⟨vs, f1, f2, f3⟩
        walk_at "go"
        refine ⟨rfl, ?_⟩
        walk_at "go"
        refine ⟨vs, f1, ?_, vs ++ [y], upd_same, by rw [f2, take_more hy], Same.upd_new f3 hD⟩
        rw [f2, List.length_take]
        exact ls (by omega)
      rintro H3 ⟨vs, f1, f2, f3⟩
      rw [List.take_length] at f2
      subst f2
      refine u_addL (f3 _ _ ea2) f1 ?_ fun p2 hp2 => ?_
      · rw [List.length_dropLast]
        exact ll (by omega)
      have s3 : Same H H3 := s2.trans f3
      walk_at "go"
      refine ⟨p2, ws.dropLast ++ vs, st' ++ parts, m + 1, _, _, rfl, Same.new s3 hp2, ?_, upd_same, ?_, oks_append _ _ hr1 hl2.2.2.2.2, ?_, .inr (by omega), ?_⟩
      · cases hh : H p2 with
        | none => rfl
        | some o => rw [s3 _ _ hh] at hp2; cases hp2
      · rw [pys_append]
        exact ((hDr.mono (Ext.of_same f3) _ _).append (hRq2.mono (Ext.of_same f3) _ _)).mono (Ext.new hp2) _ _
      · rw [cnts_append]
        simp only [Jn.cnt] at g6
        omega
      · rw [List.length_append, List.length_dropLast]
        omega
    · have hst : st = [] := by
        cases ws with
        | nil => exact List.eq_nil_of_length_eq_zero lw.symm
        | cons _ _ => cases c
      walk_at "go"
      exact ⟨b, ws, st, m, _, _, rfl, g1, g2, g3, g4, g5, g6, .inl hst, g8⟩
  · rintro σ H' ⟨b, ws, st, m, o1, o2, rfl, g1, g2, g3, g4, g5, g6, g7, g8⟩
    walk_at "go"
    have hst : st = [] := by
      rcases g7 with h | h
      · exact h
      · exfalso
        have h2 : m = 200 := h
        omega
    subst hst
    simp only [Jn.cnts] at g6
    rw [show (m : Int) = (j.cnt : Int) by omega]
    exact q H' g1
end

/-! ### G5 -/
section
variable {P : Program} {w : World} {K : PySem.W.Frag} {mg : Str → Option Value} {base : Heap}
structure Trs (K : PySem.W.Frag) (ks : Nat → Int) (H : Hp) (ws : List V) (cs : List Nat) : Prop where
  length : ws.length = cs.length
  get : ∀ (i : Nat) (v : V), ws[i]? = some v → ∃ c, cs[i]? = some c ∧ Tr K ks H v c
theorem Trs.mono {ks : Nat → Int} {H H' : Hp} {ws : List V} {cs : List Nat} (h : Trs K ks H ws cs) (e : Ext K H H') : Trs K ks H' ws cs :=
  ⟨h.length, fun i v hv => by
    obtain ⟨c, e1, e2⟩ := h.get i v hv
    exact ⟨c, e1, e2.mono e⟩⟩
theorem Trs.one {ks : Nat → Int} {H : Hp} {v : V} {c : Nat} (h : Tr K ks H v c) : Trs K ks H [v] [c] :=
  ⟨rfl, fun i x hx => by
    match i, hx with
    | 0, hx => exact ⟨c, rfl, by have q : v = x := by simpa using hx
                                 rw [← q]; exact h⟩
    | i + 1, hx => simp at hx⟩
theorem Trs.snoc {ks : Nat → Int} {H : Hp} {v : V} {c : Nat} {ws : List V} {cs : List Nat} (t : Trs K ks H ws cs) (h : Tr K ks H v c) : Trs K ks H (ws ++ [v]) (cs ++ [c]) :=
  ⟨by rw [List.length_append, List.length_append, t.length] <;> rfl, fun i x hx => by
    by_cases hi : i < ws.length
    · rw [List.getElem?_append_left hi] at hx
      obtain ⟨d, e1, e2⟩ := t.get i x hx
      exact ⟨d, by rw [List.getElem?_append_left (by have := t.length; omega)]; exact e1, e2⟩
    · rw [List.getElem?_append_right (by omega)] at hx
      obtain ⟨d, e1, e2⟩ := (Trs.one h).get _ x hx
      exact ⟨d, by rw [List.getElem?_append_right (by have := t.length; omega), ← t.length]; exact e1, e2⟩⟩
theorem Trs.set {ks : Nat → Int} {H : Hp} {v : V} {c : Nat} {ws : List V} {cs : List Nat} (t : Trs K ks H ws cs) (h : Tr K ks H v c) (n : Nat) (hn : n < ws.length) : Trs K ks H (ws.set n v) (cs.set n c) :=
  ⟨by rw [List.length_set, List.length_set, t.length], fun i x hx => by
    by_cases e : n = i
    · subst e
      rw [List.getElem?_set_self hn] at hx
      cases hx
      exact ⟨c, List.getElem?_set_self (by have := t.length; omega), h⟩
    · rw [List.getElem?_set_ne e] at hx
      obtain ⟨d, e1, e2⟩ := t.get i x hx
      exact ⟨d, by rw [List.getElem?_set_ne e]; exact e1, e2⟩⟩
theorem Trs.dropLast {ks : Nat → Int} {H : Hp} {ws : List V} {cs : List Nat} (t : Trs K ks H ws cs) : Trs K ks H ws.dropLast cs.dropLast :=
  ⟨by rw [List.length_dropLast, List.length_dropLast, t.length], fun i x hx => by
    rw [List.getElem?_dropLast] at hx
    split at hx
    · rename_i hi
      obtain ⟨d, e1, e2⟩ := t.get i x hx
      exact ⟨d, by rw [List.getElem?_dropLast, if_pos (by rw [← t.length]; exact hi)]; exact e1, e2⟩
    · cases hx⟩
theorem ix_put {n j : Nat} (hj : j < n) : ixN n (j : Int) = some j := by
  simp [ixN]
  omega
theorem sum_set : ∀ {cs : List Nat} {i c d : Nat}, cs[i]? = some c → (cs.set i d).sum + c = cs.sum + d
  | [], i, c, d, e => by simp at e
  | a :: r, 0, c, d, e => by
    have q : a = c := by simpa using e
    subst q
    simp only [List.set_cons_zero, List.sum_cons]
    omega
  | a :: r, i + 1, c, d, e => by
    have := sum_set (cs := r) (i := i) (c := c) (d := d) (by simpa using e)
    simp only [List.set_cons_succ, List.sum_cons]
    omega
theorem sum_mem : ∀ {cs : List Nat} {c : Nat}, c ∈ cs → c ≤ cs.sum
  | a :: r, c, m => by
    simp only [List.sum_cons]
    rcases List.mem_cons.mp m with rfl | m
    · omega
    · have := sum_mem m; omega
theorem sum_last : ∀ {cs : List Nat} {c : Nat}, cs[cs.length - 1]? = some c → cs.dropLast.sum + c = cs.sum
  | [], c, e => by simp at e
  | [a], c, e => by
    have q : a = c := by simpa using e
    simp [q]
  | a :: b :: r, c, e => by
    have := sum_last (cs := b :: r) (c := c) (by simpa using e)
    simp only [List.dropLast_cons₂, List.sum_cons] at this ⊢
    omega
theorem sum_snoc (cs : List Nat) (c : Nat) : (cs ++ [c]).sum = cs.sum + c := by simp [List.sum_append]
theorem sum_int : ∀ cs : List Nat, (cs.map fun (c : Nat) => (c : Int)).sum = (cs.sum : Int)
  | [] => rfl
  | a :: r => by simp only [List.map_cons, List.sum_cons, sum_int r]; omega
/-- the trees while a program is made -/
structure Pg (K : PySem.W.Frag) (ks : Nat → Int) (a ak tr : Addr) (H0 : Hp) (ws : List V) (cs : List Nat) (H : Hp) : Prop where
  sb : SB a H0 H
  src : Src H a
  kin : Kin K ks H ak
  e : H tr = some (.lst ws)
  t : Trs K ks H ws cs
  na : ak ≠ a
  nt : tr ≠ a
  nkt : ak ≠ tr
  h0 : H0 tr = none
theorem Pg.step {ks : Nat → Int} {a ak tr : Addr} {H0 H H' : Hp} {ws : List V} {cs : List Nat} (p : Pg K ks a ak tr H0 ws cs H) (s : SB a H H') (h : Src H' a) : Pg K ks a ak tr H0 ws cs H' :=
  ⟨p.sb.trans s, h, s _ _ p.na p.kin, s _ _ p.nt p.e, p.t.mono (p.src.ext s), p.na, p.nt, p.nkt, p.h0⟩
theorem Pg.write {ks : Nat → Int} {a ak tr : Addr} {H0 H : Hp} {ws ws' : List V} {cs cs' : List Nat} (p : Pg K ks a ak tr H0 ws cs H) (h : Trs K ks H ws' cs') : Pg K ks a ak tr H0 ws' cs' (upd H tr (.lst ws')) :=
  ⟨p.sb.upd_new p.h0, p.src.set p.nt, by rw [show Kin K ks (upd H tr (.lst ws')) ak ↔ upd H tr (.lst ws') ak = some (.lst [.int (ks 0), .int (ks 1), .int (ks 2)]) from Iff.rfl, upd_ne p.nkt]; exact p.kin, upd_same, h.mono (Ext.set p.e trivial), p.na, p.nt, p.nkt, p.h0⟩
theorem Pg.same {ks : Nat → Int} {a ak tr : Addr} {H0 H H' : Hp} {ws : List V} {cs : List Nat} (p : Pg K ks a ak tr H0 ws cs H) (s : Same H H') : Pg K ks a ak tr H0 ws cs H' := p.step (SB.of_same s) (p.src.same s)
theorem Trs.last {ks : Nat → Int} {H : Hp} {ws : List V} {cs : List Nat} (h : Trs K ks H ws cs) (l : 0 < ws.length) : ∃ v c, ws[ws.length - 1]? = some v ∧ Tr K ks H v c ∧ cs.dropLast.sum + c = cs.sum := by
  have hk : ws.length - 1 < ws.length := by omega
  obtain ⟨c, e1, e2⟩ := h.get _ _ (List.getElem?_eq_getElem hk)
  rw [h.length] at e1
  exact ⟨_, c, List.getElem?_eq_getElem hk, e2, sum_last e1⟩
abbrev s_law_program : Stmt := top 78
theorem sc_law_program : FnScope ["source", "most", "kinds", "turn", "trees", "want", "used", "spare", "way", "at", "two", "one", "tree"] ["source", "most"] (defScope s_law_program) := ⟨rfl, rfl, rfl, by decide +kernel, rfl, by decide +kernel, by decide +kernel⟩
def spPr (K : PySem.W.Frag) : Sp := fun vs H Q _ => ∃ (a : Addr) (most : Int), vs = [.ref a, .int most] ∧ Src H a ∧ 1 ≤ most ∧ most ≤ 40 ∧
  ∀ (H' : Hp) (u : V) (j : Jn) (s : Int) (ks : Nat → Int), SB a H H' → Src H' a → Rp K H' u j.py → Gd ks j s → (j.cnt : Int) ≤ most → ks 3 = 0 → Q u H'
theorem has_program (O : OwnF K mg "_law_program" s_law_program) (B : Bl mg) (BS : mg "sum" = none) (h_law_take : HasF P w K mg base CX0 1 "_law_take" ["source", "top"] spTake) (h_law_leaf : HasF P w K mg base CX0 4 "_law_leaf" ["source", "kinds"] (spLf K)) (h_law_single : HasF P w K mg base CX0 2 "_law_single" ["source", "joint", "many"] (spSg K))
    (h_law_double : HasF P w K mg base CX0 2 "_law_double" ["source", "one", "two"] (spDb K)) (h_law_count : HasF P w K mg base CX0 1 "_law_count" ["joint"] (spCnt K)) : HasF P w K mg base CX0 5 "_law_program" ["source", "most"] (spPr K) := by
  refine has0 O sc_law_program (fun _ _ _ _ _ _ us hl => match us, hl with | [_, _], _ => rfl) (fun vs H Q E h => ?_) (fun f cdv A outer s_ H vs Q E hr h => ?_)
  · obtain ⟨a, most, rfl, _⟩ := h
    rfl
  obtain ⟨a, most, rfl, hS, h1, h2, q⟩ := h
  refine ⟨_, (pss_cons (ps_setLc (i := 2) (own := [("turn", 3)]) (g := gName 3) (tt := tYes) rfl sc_law_program.nd rfl rfl (sw_true rfl rfl rfl (by decide +kernel)) (pi_range1 (by rfl) B.range (pa_cons pe_int pa_nil)) (blkOk_by (own := [("turn", 3)]) (N := ["source", "most", "kinds", "turn", "trees", "want", "used", "spare", "way", "at", "two", "one", "tree"]) (sc := defScope s_law_program) (by decide +kernel)) (fun _ _ _ _ _ => (pg_name (i := 3) sc_law_program.nd rfl (by first | exact Or.inl rfl | exact Or.inr rfl))) (fun _ _ _ _ _ => pts_nil) (fun _ _ _ _ _ => (pe_op (kAdd K) pe_int (pe_callH h_law_take (hr.mono (by first | decide | omega)) (by rfl) pass0 (pa_cons (pv 0) (pa_cons pe_int pa_nil)))))) (pss_cons (ps_par3 (i := 4) (j := 5) (l := 6) (by rfl) sc_law_program.nd rfl rfl rfl (by decide) (by decide) (by decide) rfl rfl rfl (pa_cons (pe_lst (pa_cons (pe_callH h_law_leaf (hr.mono (by first | decide | omega)) (by rfl) pass0 (pa_cons (pv 0) (pa_cons (pv 2) pa_nil))) pa_nil)) (pa_cons (pe_op (kAdd K) pe_int (pe_callH h_law_take (hr.mono (by first | decide | omega)) (by rfl) pass0 (pa_cons (pv 0) (pa_cons (pv 1) pa_nil)))) (pa_cons pe_int pa_nil))) (by rfl)) (pss_cons (ps_for PassesOwn.never rfl (pi_range1 (by rfl) B.range (pa_cons (pe_op (kMul K) pe_int (pv 1)) pa_nil)) (pg_name (i := 3) sc_law_program.nd rfl (by first | exact Or.inl rfl | exact Or.inr rfl)) (pss_cons (ps_set (i := 7) sc_law_program.nd rfl (by first | exact Or.inl rfl | exact Or.inr rfl) (pe_op subU (pe_op subU (pv 5) (pv 6)) (pe_op (kMul K) pe_int (pe_op subU (pe_callB (kLen K) (by rfl) B.len (by decide +kernel) (pa_cons (pv 4) pa_nil)) pe_int)))) (pss_cons (ps_set (i := 8) sc_law_program.nd rfl (by first | exact Or.inl rfl | exact Or.inr rfl) (pe_callH h_law_take (hr.mono (by first | decide | omega)) (by rfl) pass0 (pa_cons (pv 0) (pa_cons pe_int pa_nil)))) (pss_one (ps_if (PW.pt (pw_and (pt_cmpR ltU (pv 8) pe_int (nomark _)) (pw_and1 (pt_cmpR geU (pv 7) pe_int (nomark _))))) (pss_cons (ps_expr (pe_bmK K PySem.F.plainAttrs_list PySem.F.slot_list_append PySem.F.type_list_append mt_append (pv 4) (pa_cons (pe_callH h_law_leaf (hr.mono (by first | decide | omega)) (by rfl) pass0 (pa_cons (pv 0) (pa_cons (pv 2) pa_nil))) pa_nil))) (pss_one (ps_aug (i := 6) sc_law_program.nd rfl (by first | exact Or.inl rfl | exact Or.inr rfl) pe_int ip_add))) (pss_one (ps_if (PW.pt (pw_and (pt_cmpR ltU (pv 8) pe_int (nomark _)) (pw_and1 (pt_cmpR geU (pv 7) pe_int (nomark _))))) (pss_cons (ps_set (i := 9) sc_law_program.nd rfl (by first | exact Or.inl rfl | exact Or.inr rfl) (pe_callH h_law_take (hr.mono (by first | decide | omega)) (by rfl) pass0 (pa_cons (pv 0) (pa_cons (pe_callB (kLen K) (by rfl) B.len (by decide +kernel) (pa_cons (pv 4) pa_nil)) pa_nil)))) (pss_cons (ps_asg (pe_callH h_law_single (hr.mono (by first | decide | omega)) (by rfl) pass0 (pa_cons (pv 0) (pa_cons (pe_ix (kIx K) (pe_ix (kIx K) (pv 4) (pv 9) (fun _ _ => rfl)) pe_int (fun _ _ => rfl)) (pa_cons (pe_ix (kIx K) (pe_ix (kIx K) (pv 4) (pv 9) (fun _ _ => rfl)) pe_int (fun _ _ => rfl)) pa_nil)))) (pg_sub (pv 4) (pv 9) set_list)) (pss_one (ps_aug (i := 6) sc_law_program.nd rfl (by first | exact Or.inl rfl | exact Or.inr rfl) pe_int ip_add)))) (pss_one (ps_if (PW.pt (pw_and (pt_cmpR (kEqG K (hU hr)) (pv 8) pe_int (nomark _)) (pw_and1 (pt_cmpR gtU (pe_callB (kLen K) (by rfl) B.len (by decide +kernel) (pa_cons (pv 4) pa_nil)) pe_int (nomark _))))) (pss_cons (ps_par (i := 10) (j := 11) (by rfl) sc_law_program.nd rfl rfl (by decide) rfl rfl (pa_cons (pe_bm0K K PySem.F.plainAttrs_list PySem.F.slot_list_pop PySem.F.type_list_pop mt_pop (pv 4)) (pa_cons (pe_bm0K K PySem.F.plainAttrs_list PySem.F.slot_list_pop PySem.F.type_list_pop mt_pop (pv 4)) pa_nil)) (by rfl)) (pss_cons (ps_expr (pe_bmK K PySem.F.plainAttrs_list PySem.F.slot_list_append PySem.F.type_list_append mt_append (pv 4) (pa_cons (pe_callH h_law_double (hr.mono (by first | decide | omega)) (by rfl) pass0 (pa_cons (pv 0) (pa_cons (pv 11) (pa_cons (pv 10) pa_nil)))) pa_nil))) (pss_one (ps_set (i := 6) sc_law_program.nd rfl (by first | exact Or.inl rfl | exact Or.inr rfl) (pe_callB (kSum K rfl) (by rfl) BS (by decide +kernel) (pa_cons (pe_lc (own := [("tree", 12)]) (g := gName 12) (tt := tYes) rfl sc_law_program.nd (pi_listK K (pv 4)) (blkOk_by (own := [("tree", 12)]) (N := ["source", "most", "kinds", "turn", "trees", "want", "used", "spare", "way", "at", "two", "one", "tree"]) (sc := defScope s_law_program) (by decide +kernel)) (fun _ _ _ _ _ => (pg_name (i := 12) sc_law_program.nd rfl (by first | exact Or.inl rfl | exact Or.inr rfl))) (fun _ _ _ _ _ => pts_nil) (fun _ _ _ _ _ => (pe_callH h_law_count (hr.mono (by first | decide | omega)) (by rfl) pass0 (pa_cons (pe_ix (kIx K) (pv 12) pe_int (fun _ _ => rfl)) pa_nil)))) pa_nil)))))) pss_nil))))))))) (pss_cons (ps_for PassesOwn.never rfl (pi_range1 (by rfl) B.range (pa_cons (pe_op subU (pe_callB (kLen K) (by rfl) B.len (by decide +kernel) (pa_cons (pv 4) pa_nil)) pe_int) pa_nil)) (pg_name (i := 3) sc_law_program.nd rfl (by first | exact Or.inl rfl | exact Or.inr rfl)) (pss_cons (ps_par (i := 10) (j := 11) (by rfl) sc_law_program.nd rfl rfl (by decide) rfl rfl (pa_cons (pe_bm0K K PySem.F.plainAttrs_list PySem.F.slot_list_pop PySem.F.type_list_pop mt_pop (pv 4)) (pa_cons (pe_bm0K K PySem.F.plainAttrs_list PySem.F.slot_list_pop PySem.F.type_list_pop mt_pop (pv 4)) pa_nil)) (by rfl)) (pss_one (ps_expr (pe_bmK K PySem.F.plainAttrs_list PySem.F.slot_list_append PySem.F.type_list_append mt_append (pv 4) (pa_cons (pe_callH h_law_double (hr.mono (by first | decide | omega)) (by rfl) pass0 (pa_cons (pv 0) (pa_cons (pv 11) (pa_cons (pv 10) pa_nil)))) pa_nil)))))) (pss_one (ps_ret (pe_ix (kIx K) (pe_ix (kIx K) (pv 4) pe_int (fun _ _ => rfl)) pe_int (fun _ _ => rfl)))))))), ?_⟩
  refine st0 [some (.ref a), some (.int most), none, none, none, none, none, none, none, none, none, none, none] rfl ?_
  walk_at "go"
  intro ak hak
  have na := hS.ne hak
  refine lc_range (lo := 0) (n := 3) (fun i H' => ∃ ns : List Int, H' ak = some (.lst (ns.map V.int)) ∧ ns.length = i ∧ (∀ n ∈ ns, 1 ≤ n ∧ n ≤ 64) ∧ SB a H H' ∧ Src H' a) ⟨[], upd_same, rfl, (fun _ z => nomatch z), SB.refl.new hak, hS.new hak⟩ ?_ ?_
  · rintro i H' hi ⟨ns, g1, g2, gb, g3, g4⟩
    walk_at "go"
    refine ⟨rfl, ?_⟩
    walk_at "go"
    refine use_take g4 (by omega) (by omega) fun H2 r s2 hS2 r0 r1 => ?_
    have g5 := s2 _ _ na g1
    walk_at "go"
    refine ⟨_, g5, ?_, ns ++ [1 + r], ?_, ?_, fun n hn => ?_, (g3.trans s2).upd_new hak, hS2.set na⟩
    · rw [List.length_map, g2]; exact ls (by omega)
    · rw [upd_same, List.map_append] <;> rfl
    · rw [List.length_append, g2] <;> rfl
    · rcases List.mem_append.mp hn with h | h
      · exact gb n h
      · rw [show n = 1 + r by simpa using h]; omega
  rintro H1 ⟨ns, g1, g2, gb, g3, g4⟩
  obtain ⟨ks, hkin, hks, hk3⟩ : ∃ ks : Nat → Int, Kin K ks H1 ak ∧ (∀ i, i < 3 → 1 ≤ ks i ∧ ks i ≤ 64) ∧ ks 3 = 0 := by
    match ns, g2, gb, g1 with
    | [x, y, z], _, gb, g1 =>
      refine ⟨fun i => if i = 0 then x else if i = 1 then y else if i = 2 then z else 0, g1, fun i hi => ?_, rfl⟩
      have b1 := gb x (by simp)
      have b2 := gb y (by simp)
      have b3 := gb z (by simp)
      match i, hi with
      | 0, _ => exact b1
      | 1, _ => exact b2
      | 2, _ => exact b3
  clear g1 g2 gb
  walk_at "go"
  refine use_lf g4 hkin na hks fun H2 v0 s2 hS2 t0 => ?_
  have hk2 : Kin K ks H2 ak := s2 _ _ na hkin
  walk_at "go"
  refine ⟨lk rfl, fun tr htr => ?_⟩
  have nt := hS2.ne htr
  have sA : SB a H H2 := g3.trans s2
  have p0 : Pg K ks a ak tr H [v0] [1] (upd H2 tr (.lst [v0])) := ⟨sA.new htr, hS2.new htr, same_new htr _ _ _ hk2, upd_same, Trs.one (t0.mono (Ext.new htr)), na, nt, ne_of_none hk2 htr, sA.fresh nt htr⟩
  clear s2 g3 hk2 t0 hS2 sA
  generalize upd H2 tr (.lst [v0]) = H3 at *
  walk_at "go"
  refine use_take p0.src (by omega) (by omega) fun H4 w0 s4 hS4 wa wb => ?_
  have p4 := p0.step s4 hS4
  clear p0 s4
  obtain ⟨want, ew, hw1, hw2⟩ : ∃ want : Int, 1 + w0 = want ∧ 1 ≤ want ∧ want ≤ most := ⟨_, rfl, by omega, by omega⟩
  refine u_add ?_
  rw [ew]
  walk_at "go"
  refine forR (fun i σ H' => ∃ (ws : List V) (cs : List Nat) (o3 o7 o8 o9 o10 o11 o12 : Option V), σ = [some (.ref a), some (.int most), some (.ref ak), o3, some (.ref tr), some (.int want), some (.int (cs.sum : Int)), o7, o8, o9, o10, o11, o12] ∧ Pg K ks a ak tr H ws cs H' ∧ 1 ≤ ws.length ∧ (cs.sum : Int) + 3 * ((ws.length : Int) - 1) ≤ want)
    ⟨[v0], [1], none, none, none, none, none, none, none, rfl, p4, by simp, by simp; omega⟩ ?_ ?_
  · rintro i σ H' hi ⟨ws, cs, o3, o7, o8, o9, o10, o11, o12, rfl, p, hl1, hw⟩
    have e := p.e
    have hlen := p.t.length
    have hsl : ws.length ≤ 40 := by omega
    walk_at "go"
    refine use_take p.src (by omega) (by omega) fun H5 way s5 hS5 y0 y1 => ?_
    have p5 := p.step s5 hS5
    have e5 := p5.e
    clear s5 p e
    walk_at "go"
    refine rd_split (fun c0 => ?_) (fun c0 => ?_)
    · skip
      walk_at "go"
      refine rd_split (fun c1 => ?_) (fun c1 => ?_)
      · skip
        walk_at "go"
        refine use_lf p5.src p5.kin p5.na hks fun H6 v6 s6 hS6 t6 => ?_
        have p6 := p5.step s6 hS6
        walk_at "go"
        refine u_app p6.e (ls (by omega)) ?_
        have p7 := p6.write (p6.t.snoc t6)
        walk_at "go"
        refine ⟨ws ++ [v6], cs ++ [1], _, _, _, _, _, _, _, by rw [sum_snoc] <;> rfl, p7, by simp, ?_⟩
        rw [sum_snoc, List.length_append, List.length_singleton]
        omega
      · skip
        walk_at "go"
        refine rd_split (fun c2 => ?_) (fun c2 => ?_)
        · skip
          walk_at "go"
          refine rd_split (fun c3 => ?_) (fun c3 => ?_)
          · skip
            walk_at "go"
            refine use_take p5.src (by omega) (by omega) fun H6 at_ s6 hS6 z0 z1 => ?_
            have p6 := p5.step s6 hS6
            have e6 := p6.e
            obtain ⟨n, rfl, hn⟩ : ∃ n : Nat, at_ = n ∧ n < ws.length := ⟨at_.toNat, by omega, by omega⟩
            have ei : ws[n]? = some ws[n] := List.getElem?_eq_getElem hn
            obtain ⟨c, ec, tc⟩ := p6.t.get _ _ ei
            obtain ⟨pp, u, j, s, hv, hsp, hr, hg, hc⟩ := tc
            have ea : atI ws (n : Int) = some (.ref pp) := by rw [← hv]; exact atI_nat ei
            walk_at "go"
            refine u_ixL (SqL.of e6) ea ?_
            walk_at "go"
            refine u_ixT hsp rfl ?_
            walk_at "go"
            refine u_ixL (SqL.of e6) ea ?_
            walk_at "go"
            refine u_ixT hsp rfl ?_
            walk_at "go"
            refine use_sg p6.src hr hg fun H7 v7 s7 hS7 t7 => ?_
            have p7 := p6.step s7 hS7
            walk_at "go"
            refine u_setL p7.e (ix_put hn) ?_
            have p8 := p7.write (p7.t.set t7 n hn)
            walk_at "go"
            have hss := sum_set (d := 1 + j.cnt) ec
            refine ⟨ws.set n v7, cs.set n (1 + j.cnt), _, _, _, _, _, _, _, by rw [show ((cs.set n (1 + j.cnt)).sum : Int) = (cs.sum : Int) + 1 by omega] <;> rfl, p8, by rw [List.length_set]; exact hl1, ?_⟩
            rw [List.length_set]
            omega
          · skip
            walk_at "go"
            refine rd_split (fun c4 => ?_) (fun c4 => ?_)
            · skip
              walk_at "go"
              refine rd_split (fun c5 => ?_) (fun c5 => ?_)
              · skip
                obtain ⟨x1, c1, ex1, tx1, sx1⟩ := p5.t.last (by omega)
                walk_at "go"
                refine u_pop p5.e ex1 ?_
                have q1 := p5.write p5.t.dropLast
                have tx1 := tx1.mono (Ext.set (u := .lst ws.dropLast) p5.e trivial)
                have eq1 := q1.e
                have ld1 : ws.dropLast.length = ws.length - 1 := List.length_dropLast
                generalize upd H5 tr (.lst ws.dropLast) = H6 at *
                obtain ⟨x2, c2, ex2, tx2, sx2⟩ := q1.t.last (by omega)
                walk_at "go"
                refine u_pop eq1 ex2 ?_
                have q2 := q1.write q1.t.dropLast
                have tx1 := tx1.mono (Ext.set (u := .lst ws.dropLast.dropLast) eq1 trivial)
                have tx2 := tx2.mono (Ext.set (u := .lst ws.dropLast.dropLast) eq1 trivial)
                have ld2 : ws.dropLast.dropLast.length = ws.length - 1 - 1 := by rw [List.length_dropLast, ld1]
                clear q1 eq1 ex1 ex2
                generalize upd H6 tr (.lst ws.dropLast.dropLast) = H7 at *
                have eq2 := q2.e
                walk_at "go"
                refine use_db q2.src tx2 tx1 fun H8 v8 c8 s8 hS8 t8 hc8 => ?_
                have q3 := q2.step s8 hS8
                clear q2 s8 tx1 tx2
                walk_at "go"
                refine u_app q3.e (ls (by omega)) ?_
                have q4 := q3.write (q3.t.snoc t8)
                have e4 := q4.e
                have n4 : (ws.dropLast.dropLast ++ [v8]).length = ws.length - 1 := by rw [List.length_append, ld2] <;> simp <;> omega
                have m4 := sum_snoc cs.dropLast.dropLast c8
                clear q3 t8
                generalize upd H8 tr (.lst (ws.dropLast.dropLast ++ [v8])) = H9 at *
                walk_at "go"
                intro D hD
                refine lc_list (K := K) (a := tr) (xs := ws.dropLast.dropLast ++ [v8]) (fun k H' => ∃ ns : List Int, H' D = some (.lst (ns.map V.int)) ∧ ns = ((cs.dropLast.dropLast ++ [c8]).take k).map (fun (c : Nat) => (c : Int)) ∧ Same H9 H') ⟨[], upd_same, by simp, Same.upd_new (Same.refl H9) hD⟩ ?_ ?_ ?_
                · rintro k H' hk ⟨ns, f1, f2, f3⟩
                  exact SqL.of (f3 _ _ e4)
                · rintro k y H' hy ⟨ns, f1, f2, f3⟩
                  obtain ⟨c, ec, pp, u, j, s, rfl, hsp, hr9, hg, hc⟩ := q4.t.get k y hy
                  have cm := sum_mem (List.mem_of_getElem? ec)
                  have kl : k < (ws.dropLast.dropLast ++ [v8]).length := (List.getElem?_eq_some_iff.mp hy).1
                  walk_at "go"
                  refine ⟨rfl, ?_⟩
                  walk_at "go"
                  refine u_ixT (Ext.of_same f3 _ _ hsp) rfl ?_
                  walk_at "go"
                  refine use_cnt (hr9.mono (Ext.of_same f3) _ _) hg.ok (by omega) fun H10 s10 => ?_
                  have f4 := s10 _ _ f1
                  refine ⟨_, f4, ?_, ns ++ [(j.cnt : Int)], by rw [upd_same, List.map_append] <;> rfl, ?_, Same.upd_new (f3.trans s10) hD⟩
                  · rw [List.length_map, f2, List.length_map, List.length_take]
                    exact ls (by omega)
                  · rw [f2, take_more ec, List.map_append, hc] <;> rfl
                rintro H10 ⟨ns, f1, f2, f3⟩
                have q5 := q4.same f3
                walk_at "go"
                refine ⟨D, ns, rfl, SqL.of f1, ?_⟩
                have fs : ns.sum = ((cs.dropLast.dropLast ++ [c8]).sum : Int) := by
                  rw [f2, q4.t.length, List.take_length]
                  exact sum_int _
                rw [fs]
                walk_at "go"
                refine ⟨ws.dropLast.dropLast ++ [v8], cs.dropLast.dropLast ++ [c8], _, _, _, _, _, _, _, rfl, q5, by omega, ?_⟩
                omega
              · skip
                walk_at "go"
                exact ⟨ws, cs, _, _, _, _, _, _, _, rfl, p5, hl1, hw⟩
            · skip
              walk_at "go"
              exact ⟨ws, cs, _, _, _, _, _, _, _, rfl, p5, hl1, hw⟩
        · skip
          walk_at "go"
          refine rd_split (fun c4 => ?_) (fun c4 => ?_)
          · skip
            walk_at "go"
            refine rd_split (fun c5 => ?_) (fun c5 => ?_)
            · skip
              obtain ⟨x1, c1, ex1, tx1, sx1⟩ := p5.t.last (by omega)
              walk_at "go"
              refine u_pop p5.e ex1 ?_
              have q1 := p5.write p5.t.dropLast
              have tx1 := tx1.mono (Ext.set (u := .lst ws.dropLast) p5.e trivial)
              have eq1 := q1.e
              have ld1 : ws.dropLast.length = ws.length - 1 := List.length_dropLast
              generalize upd H5 tr (.lst ws.dropLast) = H6 at *
              obtain ⟨x2, c2, ex2, tx2, sx2⟩ := q1.t.last (by omega)
              walk_at "go"
              refine u_pop eq1 ex2 ?_
              have q2 := q1.write q1.t.dropLast
              have tx1 := tx1.mono (Ext.set (u := .lst ws.dropLast.dropLast) eq1 trivial)
              have tx2 := tx2.mono (Ext.set (u := .lst ws.dropLast.dropLast) eq1 trivial)
              have ld2 : ws.dropLast.dropLast.length = ws.length - 1 - 1 := by rw [List.length_dropLast, ld1]
              clear q1 eq1 ex1 ex2
              generalize upd H6 tr (.lst ws.dropLast.dropLast) = H7 at *
              have eq2 := q2.e
              walk_at "go"
              refine use_db q2.src tx2 tx1 fun H8 v8 c8 s8 hS8 t8 hc8 => ?_
              have q3 := q2.step s8 hS8
              clear q2 s8 tx1 tx2
              walk_at "go"
              refine u_app q3.e (ls (by omega)) ?_
              have q4 := q3.write (q3.t.snoc t8)
              have e4 := q4.e
              have n4 : (ws.dropLast.dropLast ++ [v8]).length = ws.length - 1 := by rw [List.length_append, ld2] <;> simp <;> omega
              have m4 := sum_snoc cs.dropLast.dropLast c8
              clear q3 t8
              generalize upd H8 tr (.lst (ws.dropLast.dropLast ++ [v8])) = H9 at *
              walk_at "go"
              intro D hD
              refine lc_list (K := K) (a := tr) (xs := ws.dropLast.dropLast ++ [v8]) (fun k H' => ∃ ns : List Int, H' D = some (.lst (ns.map V.int)) ∧ ns = ((cs.dropLast.dropLast ++ [c8]).take k).map (fun (c : Nat) => (c : Int)) ∧ Same H9 H') ⟨[], upd_same, by simp, Same.upd_new (Same.refl H9) hD⟩ ?_ ?_ ?_
              · rintro k H' hk ⟨ns, f1, f2, f3⟩
                exact SqL.of (f3 _ _ e4)
              · rintro k y H' hy ⟨ns, f1, f2, f3⟩
                obtain ⟨c, ec, pp, u, j, s, rfl, hsp, hr9, hg, hc⟩ := q4.t.get k y hy
                have cm := sum_mem (List.mem_of_getElem? ec)
                have kl : k < (ws.dropLast.dropLast ++ [v8]).length := (List.getElem?_eq_some_iff.mp hy).1
                walk_at "go"
                refine ⟨rfl, ?_⟩
                walk_at "go"
                refine u_ixT (Ext.of_same f3 _ _ hsp) rfl ?_
                walk_at "go"
                refine use_cnt (hr9.mono (Ext.of_same f3) _ _) hg.ok (by omega) fun H10 s10 => ?_
                have f4 := s10 _ _ f1
                refine ⟨_, f4, ?_, ns ++ [(j.cnt : Int)], by rw [upd_same, List.map_append] <;> rfl, ?_, Same.upd_new (f3.trans s10) hD⟩
                · rw [List.length_map, f2, List.length_map, List.length_take]
                  exact ls (by omega)
                · rw [f2, take_more ec, List.map_append, hc] <;> rfl
              rintro H10 ⟨ns, f1, f2, f3⟩
              have q5 := q4.same f3
              walk_at "go"
              refine ⟨D, ns, rfl, SqL.of f1, ?_⟩
              have fs : ns.sum = ((cs.dropLast.dropLast ++ [c8]).sum : Int) := by
                rw [f2, q4.t.length, List.take_length]
                exact sum_int _
              rw [fs]
              walk_at "go"
              refine ⟨ws.dropLast.dropLast ++ [v8], cs.dropLast.dropLast ++ [c8], _, _, _, _, _, _, _, rfl, q5, by omega, ?_⟩
              omega
            · skip
              walk_at "go"
              exact ⟨ws, cs, _, _, _, _, _, _, _, rfl, p5, hl1, hw⟩
          · skip
            walk_at "go"
            exact ⟨ws, cs, _, _, _, _, _, _, _, rfl, p5, hl1, hw⟩
    · skip
      walk_at "go"
      refine rd_split (fun c2 => ?_) (fun c2 => ?_)
      · skip
        walk_at "go"
        refine rd_split (fun c3 => ?_) (fun c3 => ?_)
        · skip
          walk_at "go"
          refine use_take p5.src (by omega) (by omega) fun H6 at_ s6 hS6 z0 z1 => ?_
          have p6 := p5.step s6 hS6
          have e6 := p6.e
          obtain ⟨n, rfl, hn⟩ : ∃ n : Nat, at_ = n ∧ n < ws.length := ⟨at_.toNat, by omega, by omega⟩
          have ei : ws[n]? = some ws[n] := List.getElem?_eq_getElem hn
          obtain ⟨c, ec, tc⟩ := p6.t.get _ _ ei
          obtain ⟨pp, u, j, s, hv, hsp, hr, hg, hc⟩ := tc
          have ea : atI ws (n : Int) = some (.ref pp) := by rw [← hv]; exact atI_nat ei
          walk_at "go"
          refine u_ixL (SqL.of e6) ea ?_
          walk_at "go"
          refine u_ixT hsp rfl ?_
          walk_at "go"
          refine u_ixL (SqL.of e6) ea ?_
          walk_at "go"
          refine u_ixT hsp rfl ?_
          walk_at "go"
          refine use_sg p6.src hr hg fun H7 v7 s7 hS7 t7 => ?_
          have p7 := p6.step s7 hS7
          walk_at "go"
          refine u_setL p7.e (ix_put hn) ?_
          have p8 := p7.write (p7.t.set t7 n hn)
          walk_at "go"
          have hss := sum_set (d := 1 + j.cnt) ec
          refine ⟨ws.set n v7, cs.set n (1 + j.cnt), _, _, _, _, _, _, _, by rw [show ((cs.set n (1 + j.cnt)).sum : Int) = (cs.sum : Int) + 1 by omega] <;> rfl, p8, by rw [List.length_set]; exact hl1, ?_⟩
          rw [List.length_set]
          omega
        · skip
          walk_at "go"
          refine rd_split (fun c4 => ?_) (fun c4 => ?_)
          · skip
            walk_at "go"
            refine rd_split (fun c5 => ?_) (fun c5 => ?_)
            · skip
              obtain ⟨x1, c1, ex1, tx1, sx1⟩ := p5.t.last (by omega)
              walk_at "go"
              refine u_pop p5.e ex1 ?_
              have q1 := p5.write p5.t.dropLast
              have tx1 := tx1.mono (Ext.set (u := .lst ws.dropLast) p5.e trivial)
              have eq1 := q1.e
              have ld1 : ws.dropLast.length = ws.length - 1 := List.length_dropLast
              generalize upd H5 tr (.lst ws.dropLast) = H6 at *
              obtain ⟨x2, c2, ex2, tx2, sx2⟩ := q1.t.last (by omega)
              walk_at "go"
              refine u_pop eq1 ex2 ?_
              have q2 := q1.write q1.t.dropLast
              have tx1 := tx1.mono (Ext.set (u := .lst ws.dropLast.dropLast) eq1 trivial)
              have tx2 := tx2.mono (Ext.set (u := .lst ws.dropLast.dropLast) eq1 trivial)
              have ld2 : ws.dropLast.dropLast.length = ws.length - 1 - 1 := by rw [List.length_dropLast, ld1]
              clear q1 eq1 ex1 ex2
              generalize upd H6 tr (.lst ws.dropLast.dropLast) = H7 at *
              have eq2 := q2.e
              walk_at "go"
              refine use_db q2.src tx2 tx1 fun H8 v8 c8 s8 hS8 t8 hc8 => ?_
              have q3 := q2.step s8 hS8
              clear q2 s8 tx1 tx2
              walk_at "go"
              refine u_app q3.e (ls (by omega)) ?_
              have q4 := q3.write (q3.t.snoc t8)
              have e4 := q4.e
              have n4 : (ws.dropLast.dropLast ++ [v8]).length = ws.length - 1 := by rw [List.length_append, ld2] <;> simp <;> omega
              have m4 := sum_snoc cs.dropLast.dropLast c8
              clear q3 t8
              generalize upd H8 tr (.lst (ws.dropLast.dropLast ++ [v8])) = H9 at *
              walk_at "go"
              intro D hD
              refine lc_list (K := K) (a := tr) (xs := ws.dropLast.dropLast ++ [v8]) (fun k H' => ∃ ns : List Int, H' D = some (.lst (ns.map V.int)) ∧ ns = ((cs.dropLast.dropLast ++ [c8]).take k).map (fun (c : Nat) => (c : Int)) ∧ Same H9 H') ⟨[], upd_same, by simp, Same.upd_new (Same.refl H9) hD⟩ ?_ ?_ ?_
              · rintro k H' hk ⟨ns, f1, f2, f3⟩
                exact SqL.of (f3 _ _ e4)
              · rintro k y H' hy ⟨ns, f1, f2, f3⟩
                obtain ⟨c, ec, pp, u, j, s, rfl, hsp, hr9, hg, hc⟩ := q4.t.get k y hy
                have cm := sum_mem (List.mem_of_getElem? ec)
                have kl : k < (ws.dropLast.dropLast ++ [v8]).length := (List.getElem?_eq_some_iff.mp hy).1
                walk_at "go"
                refine ⟨rfl, ?_⟩
                walk_at "go"
                refine u_ixT (Ext.of_same f3 _ _ hsp) rfl ?_
                walk_at "go"
                refine use_cnt (hr9.mono (Ext.of_same f3) _ _) hg.ok (by omega) fun H10 s10 => ?_
                have f4 := s10 _ _ f1
                refine ⟨_, f4, ?_, ns ++ [(j.cnt : Int)], by rw [upd_same, List.map_append] <;> rfl, ?_, Same.upd_new (f3.trans s10) hD⟩
                · rw [List.length_map, f2, List.length_map, List.length_take]
                  exact ls (by omega)
                · rw [f2, take_more ec, List.map_append, hc] <;> rfl
              rintro H10 ⟨ns, f1, f2, f3⟩
              have q5 := q4.same f3
              walk_at "go"
              refine ⟨D, ns, rfl, SqL.of f1, ?_⟩
              have fs : ns.sum = ((cs.dropLast.dropLast ++ [c8]).sum : Int) := by
                rw [f2, q4.t.length, List.take_length]
                exact sum_int _
              rw [fs]
              walk_at "go"
              refine ⟨ws.dropLast.dropLast ++ [v8], cs.dropLast.dropLast ++ [c8], _, _, _, _, _, _, _, rfl, q5, by omega, ?_⟩
              omega
            · skip
              walk_at "go"
              exact ⟨ws, cs, _, _, _, _, _, _, _, rfl, p5, hl1, hw⟩
          · skip
            walk_at "go"
            exact ⟨ws, cs, _, _, _, _, _, _, _, rfl, p5, hl1, hw⟩
      · skip
        walk_at "go"
        refine rd_split (fun c4 => ?_) (fun c4 => ?_)
        · skip
          walk_at "go"
          refine rd_split (fun c5 => ?_) (fun c5 => ?_)
          · skip
            obtain ⟨x1, c1, ex1, tx1, sx1⟩ := p5.t.last (by omega)
            walk_at "go"
            refine u_pop p5.e ex1 ?_
            have q1 := p5.write p5.t.dropLast
            have tx1 := tx1.mono (Ext.set (u := .lst ws.dropLast) p5.e trivial)
            have eq1 := q1.e
            have ld1 : ws.dropLast.length = ws.length - 1 := List.length_dropLast
            generalize upd H5 tr (.lst ws.dropLast) = H6 at *
            obtain ⟨x2, c2, ex2, tx2, sx2⟩ := q1.t.last (by omega)
            walk_at "go"
            refine u_pop eq1 ex2 ?_
            have q2 := q1.write q1.t.dropLast
            have tx1 := tx1.mono (Ext.set (u := .lst ws.dropLast.dropLast) eq1 trivial)
            have tx2 := tx2.mono (Ext.set (u := .lst ws.dropLast.dropLast) eq1 trivial)
            have ld2 : ws.dropLast.dropLast.length = ws.length - 1 - 1 := by rw [List.length_dropLast, ld1]
            clear q1 eq1 ex1 ex2
            generalize upd H6 tr (.lst ws.dropLast.dropLast) = H7 at *
            have eq2 := q2.e
            walk_at "go"
            refine use_db q2.src tx2 tx1 fun H8 v8 c8 s8 hS8 t8 hc8 => ?_
            have q3 := q2.step s8 hS8
            clear q2 s8 tx1 tx2
            walk_at "go"
            refine u_app q3.e (ls (by omega)) ?_
            have q4 := q3.write (q3.t.snoc t8)
            have e4 := q4.e
            have n4 : (ws.dropLast.dropLast ++ [v8]).length = ws.length - 1 := by rw [List.length_append, ld2] <;> simp <;> omega
            have m4 := sum_snoc cs.dropLast.dropLast c8
            clear q3 t8
            generalize upd H8 tr (.lst (ws.dropLast.dropLast ++ [v8])) = H9 at *
            walk_at "go"
            intro D hD
            refine lc_list (K := K) (a := tr) (xs := ws.dropLast.dropLast ++ [v8]) (fun k H' => ∃ ns : List Int, H' D = some (.lst (ns.map V.int)) ∧ ns = ((cs.dropLast.dropLast ++ [c8]).take k).map (fun (c : Nat) => (c : Int)) ∧ Same H9 H') ⟨[], upd_same, by simp, Same.upd_new (Same.refl H9) hD⟩ ?_ ?_ ?_
            · rintro k H' hk ⟨ns, f1, f2, f3⟩
              exact SqL.of (f3 _ _ e4)
            · rintro k y H' hy ⟨ns, f1, f2, f3⟩
              obtain ⟨c, ec, pp, u, j, s, rfl, hsp, hr9, hg, hc⟩ := q4.t.get k y hy
              have cm := sum_mem (List.mem_of_getElem? ec)
              have kl : k < (ws.dropLast.dropLast ++ [v8]).length := (List.getElem?_eq_some_iff.mp hy).1
              walk_at "go"
              refine ⟨rfl, ?_⟩
              walk_at "go"
              refine u_ixT (Ext.of_same f3 _ _ hsp) rfl ?_
              walk_at "go"
              refine use_cnt (hr9.mono (Ext.of_same f3) _ _) hg.ok (by omega) fun H10 s10 => ?_
              have f4 := s10 _ _ f1
              refine ⟨_, f4, ?_, ns ++ [(j.cnt : Int)], by rw [upd_same, List.map_append] <;> rfl, ?_, Same.upd_new (f3.trans s10) hD⟩
              · rw [List.length_map, f2, List.length_map, List.length_take]
                exact ls (by omega)
              · rw [f2, take_more ec, List.map_append, hc] <;> rfl
            rintro H10 ⟨ns, f1, f2, f3⟩
            have q5 := q4.same f3
            walk_at "go"
            refine ⟨D, ns, rfl, SqL.of f1, ?_⟩
            have fs : ns.sum = ((cs.dropLast.dropLast ++ [c8]).sum : Int) := by
              rw [f2, q4.t.length, List.take_length]
              exact sum_int _
            rw [fs]
            walk_at "go"
            refine ⟨ws.dropLast.dropLast ++ [v8], cs.dropLast.dropLast ++ [c8], _, _, _, _, _, _, _, rfl, q5, by omega, ?_⟩
            omega
          · skip
            walk_at "go"
            exact ⟨ws, cs, _, _, _, _, _, _, _, rfl, p5, hl1, hw⟩
        · skip
          walk_at "go"
          exact ⟨ws, cs, _, _, _, _, _, _, _, rfl, p5, hl1, hw⟩
  · rintro σ H' ⟨ws, cs, o3, o7, o8, o9, o10, o11, o12, rfl, p, hl1, hw⟩
    have e := p.e
    have hlen := p.t.length
    have hsl : ws.length ≤ 40 := by omega
    walk_at "go"
    refine forR (fun i σ H' => ∃ (ws2 : List V) (cs2 : List Nat) (p3 p10 p11 : Option V), σ = [some (.ref a), some (.int most), some (.ref ak), p3, some (.ref tr), some (.int want), some (.int (cs.sum : Int)), o7, o8, o9, p10, p11, o12] ∧ Pg K ks a ak tr H ws2 cs2 H' ∧ ws2.length + i = ws.length ∧ (cs2.sum : Int) + 3 * ((ws2.length : Int) - 1) ≤ want) ⟨ws, cs, _, _, _, rfl, p, rfl, hw⟩ ?_ ?_
    · rintro i σ H5 hi ⟨ws2, cs2, p3, p10, p11, rfl, p5, hn, hw2⟩
      have hlen2 := p5.t.length
      have e5 := p5.e
      obtain ⟨x1, c1, ex1, tx1, sx1⟩ := p5.t.last (by omega)
      walk_at "go"
      refine u_pop p5.e ex1 ?_
      have q1 := p5.write p5.t.dropLast
      have tx1 := tx1.mono (Ext.set (u := .lst ws2.dropLast) p5.e trivial)
      have eq1 := q1.e
      have ld1 : ws2.dropLast.length = ws2.length - 1 := List.length_dropLast
      generalize upd H5 tr (.lst ws2.dropLast) = H6 at *
      obtain ⟨x2, c2, ex2, tx2, sx2⟩ := q1.t.last (by omega)
      walk_at "go"
      refine u_pop eq1 ex2 ?_
      have q2 := q1.write q1.t.dropLast
      have tx1 := tx1.mono (Ext.set (u := .lst ws2.dropLast.dropLast) eq1 trivial)
      have tx2 := tx2.mono (Ext.set (u := .lst ws2.dropLast.dropLast) eq1 trivial)
      have ld2 : ws2.dropLast.dropLast.length = ws2.length - 1 - 1 := by rw [List.length_dropLast, ld1]
      clear q1 eq1 ex1 ex2
      generalize upd H6 tr (.lst ws2.dropLast.dropLast) = H7 at *
      have eq2 := q2.e
      walk_at "go"
      refine use_db q2.src tx2 tx1 fun H8 v8 c8 s8 hS8 t8 hc8 => ?_
      have q3 := q2.step s8 hS8
      clear q2 s8 tx1 tx2
      walk_at "go"
      refine u_app q3.e (ls (by omega)) ?_
      have q4 := q3.write (q3.t.snoc t8)
      have e4 := q4.e
      have n4 : (ws2.dropLast.dropLast ++ [v8]).length = ws2.length - 1 := by rw [List.length_append, ld2] <;> simp <;> omega
      have m4 := sum_snoc cs2.dropLast.dropLast c8
      clear q3 t8
      generalize upd H8 tr (.lst (ws2.dropLast.dropLast ++ [v8])) = H9 at *
      walk_at "go"
      refine ⟨ws2.dropLast.dropLast ++ [v8], cs2.dropLast.dropLast ++ [c8], _, _, _, rfl, q4, by omega, ?_⟩
      omega
    · rintro σ H5 ⟨ws2, cs2, p3, p10, p11, rfl, p5, hn, hw2⟩
      have h1l : ws2.length = 1 := by omega
      have e5 := p5.e
      have ei : ws2[0]? = some ws2[0] := List.getElem?_eq_getElem (by omega)
      obtain ⟨c, ec, pp, u, j, s, hv, hsp, hr5, hg, hc⟩ := p5.t.get _ _ ei
      have ea : atI ws2 ((0 : Nat) : Int) = some (.ref pp) := by rw [← hv]; exact atI_nat ei
      have cm := sum_mem (List.mem_of_getElem? ec)
      walk_at "go"
      refine u_ixL (SqL.of e5) ea ?_
      walk_at "go"
      refine u_ixT hsp rfl ?_
      exact q H5 u j s ks p5.sb p5.src hr5 hg (by omega) hk3
end
end Mine

/-! ### H0 -/
namespace Mine
open PySem PySem.Spec L2
/-! ## a program that fits is refused nowhere -/
theorem fits_op {z : Str} (h : z ∈ ops11) : toldFits z [] = true := by
  have k : ∀ y ∈ ops11, toldFits y [] = true := by decide +kernel
  exact k z h
theorem fit1 {z : Str} (h : z ∈ opsSame ∨ z ∈ opsUnit) : toldFits z [] = true ∧ partsFit z 1 = true := by
  have k : ∀ y ∈ opsSame ++ opsUnit, toldFits y [] = true ∧ partsFit y 1 = true := by decide +kernel
  exact k z (by rcases h with h | h <;> simp [h])
theorem fit2 {z : Str} (h : z ∈ opsPair ∨ z = "dot" ∨ z = "outer" ∨ z = "blend" ∨ z = "cat") : toldFits z [] = true ∧ partsFit z 2 = true := by
  have k : ∀ y ∈ opsPair ++ (["dot", "outer", "blend", "cat"] : List Str), toldFits y [] = true ∧ partsFit y 2 = true := by decide +kernel
  exact k z (by rcases h with h | h | h | h | h <;> simp [h])
theorem btw_ok {i lo hi : Int} (h1 : lo ≤ i) (h2 : i ≤ hi) : isBtw (.int i) lo hi = true := by
  show (decide (lo ≤ i) && decide (i ≤ hi)) = true
  rw [decide_eq_true h1, decide_eq_true h2] <;> rfl
/-- one joint fits, told and parts -/
def Fit : Jn → Prop
  | .mk op td parts => toldFits op td = true ∧ partsFit op parts.length = true
theorem Gd.fit {ks : Nat → Int} {j : Jn} {s : Int} (g : Gd ks j s) : ∀ x ∈ j.all, Fit x := by
  induction g with
  | inp i hi h1 h2 =>
    intro x hx
    simp only [Jn.all, Jn.alls, List.mem_singleton] at hx
    subst hx
    refine ⟨?_, by decide +kernel⟩
    rw [fits_in]
    show (isWord (.str (abc i)) && isBtw (.int (ks i)) 1 64) = true
    rw [btw_ok h1 h2, Bool.and_true]
    match i, hi with
    | 0, _ => decide +kernel
    | 1, _ => decide +kernel
    | 2, _ => decide +kernel
    | 3, _ => decide +kernel
  | row ns h1 h2 h =>
    intro x hx
    simp only [Jn.all, Jn.alls, List.mem_singleton] at hx
    subst hx
    refine ⟨?_, by decide +kernel⟩
    rw [fits_row]
    unfold tellsRow rowNums
    rw [List.length_map, decide_eq_true (show (1 : Int) ≤ ns.length by omega), decide_eq_true (show (ns.length : Int) ≤ 64 by omega), Bool.true_and, Bool.true_and, List.all_map, List.all_eq_true]
    exact fun n hn => btw_ok (h n hn).1 (h n hn).2
  | same op h g ih =>
    intro x hx
    simp only [Jn.all, Jn.alls, List.append_nil, List.mem_cons] at hx
    rcases hx with rfl | hx
    · exact fit1 (.inl h)
    · exact ih x hx
  | unit op h g ih =>
    intro x hx
    simp only [Jn.all, Jn.alls, List.append_nil, List.mem_cons] at hx
    rcases hx with rfl | hx
    · exact fit1 (.inr h)
    · exact ih x hx
  | hold n h1 h2 g ih =>
    intro x hx
    simp only [Jn.all, Jn.alls, List.append_nil, List.mem_cons] at hx
    rcases hx with rfl | hx
    · refine ⟨?_, (by decide +kernel : partsFit "hold" ((1 : Nat) : Int) = true)⟩
      rw [fits_hold]
      exact btw_ok h1 h2
    · exact ih x hx
  | part i k h1 h2 h3 g ih =>
    intro x hx
    simp only [Jn.all, Jn.alls, List.append_nil, List.mem_cons] at hx
    have sz := g.sz
    rcases hx with rfl | hx
    · refine ⟨?_, (by decide +kernel : partsFit "part" ((1 : Nat) : Int) = true)⟩
      rw [fits_part]
      show (isBtw (.int k) 0 64 && isBtw (.int i) 0 (k - 1)) = true
      rw [btw_ok (by omega) (by omega), btw_ok (by omega) (by omega)] <;> rfl
    · exact ih x hx
  | rep t h1 h2 h3 g ih =>
    intro x hx
    simp only [Jn.all, Jn.alls, List.append_nil, List.mem_cons] at hx
    rcases hx with rfl | hx
    · refine ⟨?_, (by decide +kernel : partsFit "rep" ((1 : Nat) : Int) = true)⟩
      rw [fits_rep]
      exact btw_ok h1 h2
    · exact ih x hx
  | pair op h g g2 ih1 ih2 =>
    intro x hx
    simp only [Jn.all, Jn.alls, List.append_nil, List.mem_cons, List.mem_append] at hx
    rcases hx with rfl | hx | hx
    · exact fit2 (.inl h)
    · exact ih1 x hx
    · exact ih2 x hx
  | dot g g2 ih1 ih2 =>
    intro x hx
    simp only [Jn.all, Jn.alls, List.append_nil, List.mem_cons, List.mem_append] at hx
    rcases hx with rfl | hx | hx
    · exact fit2 (by simp)
    · exact ih1 x hx
    · exact ih2 x hx
  | outer h g g2 ih1 ih2 =>
    intro x hx
    simp only [Jn.all, Jn.alls, List.append_nil, List.mem_cons, List.mem_append] at hx
    rcases hx with rfl | hx | hx
    · exact fit2 (by simp)
    · exact ih1 x hx
    · exact ih2 x hx
  | blend h g g2 ih1 ih2 =>
    intro x hx
    simp only [Jn.all, Jn.alls, List.append_nil, List.mem_cons, List.mem_append] at hx
    rcases hx with rfl | hx | hx
    · exact fit2 (by simp)
    · exact ih1 x hx
    · exact ih2 x hx
  | cat h g g2 ih1 ih2 =>
    intro x hx
    simp only [Jn.all, Jn.alls, List.append_nil, List.mem_cons, List.mem_append] at hx
    rcases hx with rfl | hx | hx
    · exact fit2 (by simp)
    · exact ih1 x hx
    · exact ih2 x hx
  | cat3 h g g2 g3 ih1 ih2 ih3 =>
    intro x hx
    simp only [Jn.all, Jn.alls, List.append_nil, List.mem_cons, List.mem_append] at hx
    rcases hx with rfl | hx | hx | hx
    · exact ⟨by decide +kernel, (show partsFit "cat" 3 = true by decide +kernel)⟩
    · exact ih1 x hx
    · exact ih2 x hx
    · exact ih3 x hx
  | cat4 h g g2 g3 g4 ih1 ih2 ih3 ih4 =>
    intro x hx
    simp only [Jn.all, Jn.alls, List.append_nil, List.mem_cons, List.mem_append] at hx
    rcases hx with rfl | hx | hx | hx | hx
    · exact ⟨by decide +kernel, (show partsFit "cat" 4 = true by decide +kernel)⟩
    · exact ih1 x hx
    · exact ih2 x hx
    · exact ih3 x hx
    · exact ih4 x hx
/-- the walk meets no fault -/
theorem jf_fit {x : Jn} {n : Int} (h : Fit x) (h1 : n < 40) : jf x.py n = none := by
  obtain ⟨op, td, parts⟩ := x
  unfold jf
  rw [if_neg (by omega)]
  simp only [Jn.py, h.1, pys_length, h.2, if_true]
theorem partsOf_py {op : Str} {td : List PyData} {parts : List Jn} : partsOf (Jn.mk op td parts).py = Jn.pys parts := by
  simp only [Jn.py, partsOf]
theorem walk_fit : ∀ (k : Nat) (st : List Jn) (n : Int), (∀ x ∈ Jn.alls st, Fit x) → n + Jn.cnts st ≤ 40 → walk k (Jn.pys st) n = none
  | 0, _, _, _, _ => rfl
  | k + 1, [], n, _, _ => by simp only [Jn.pys]; exact walk_none
  | k + 1, .mk op td parts :: r, n, h, hn => by
    simp only [Jn.cnts, Jn.cnt] at hn
    have hf : Fit (.mk op td parts) := h _ (by simp [Jn.alls, Jn.all])
    simp only [Jn.pys]
    rw [walk_step, jf_fit hf (by omega), partsOf_py, ← pys_append]
    refine walk_fit k (parts ++ r) (n + 1) (fun x hx => h x ?_) ?_
    · rw [alls_append] at hx
      simp only [Jn.alls, Jn.all, List.mem_append, List.mem_cons] at hx ⊢
      rcases hx with hx | hx
      · exact .inl (.inr hx)
      · exact .inr hx
    · rw [cnts_append]
      omega
theorem Gd.walk {ks : Nat → Int} {j : Jn} {s : Int} (g : Gd ks j s) (h : j.cnt ≤ 40) : Mine.walk 42 [j.py] 0 = none := by
  have := walk_fit 42 [j] 0 (fun x hx => g.fit x (by simpa [Jn.alls] using hx)) (by simp [Jn.cnts]; omega)
  simpa [Jn.pys] using this
end Mine

/-! ### H1 -/
namespace Mine
open PySem PySem.Spec L2
local macro_rules | `(tactic| walk_at "st") => `(tactic| (with_reducible apply iteF))
local macro_rules | `(tactic| walk_at "st") => `(tactic| (with_reducible apply iteT))
local macro_rules | `(tactic| walk_at "st") => `(tactic| (with_reducible apply rd_nopart))
local macro_rules | `(tactic| walk_at "st") => `(tactic| (with_reducible apply rd_partI))
local macro_rules | `(tactic| walk_at "st") => `(tactic| (with_reducible apply rd_part))
local macro_rules | `(tactic| walk_at "st") => `(tactic| (with_reducible apply rd_sl))
local macro_rules | `(tactic| walk_at "st") => `(tactic| (with_reducible apply rd_disp1))
local macro_rules | `(tactic| walk_at "st") => `(tactic| (with_reducible apply rd_dput))
local macro_rules | `(tactic| walk_at "st") => `(tactic| (with_reducible apply rd_dget))
local macro_rules | `(tactic| walk_at "st") => `(tactic| (with_reducible apply rd_din))
local macro_rules | `(tactic| walk_at "st") => `(tactic| (with_reducible apply rd_dnew))
local macro_rules | `(tactic| walk_at "st") => `(tactic| (with_reducible apply rd_ipI))
local macro_rules | `(tactic| walk_at "st") => `(tactic| ((with_reducible apply rd_aug); exact rfl))
local macro_rules | `(tactic| walk_at "st") => `(tactic| (with_reducible apply rd_par3_end))
local macro_rules | `(tactic| walk_at "st") => `(tactic| (with_reducible apply rd_par3))
local macro_rules | `(tactic| walk_at "st") => `(tactic| (with_reducible apply u_mul; focus exact Or.inr cm))
local macro_rules | `(tactic| walk_at "st") => `(tactic| ((with_reducible apply u_pow); (focus (exact ⟨by decide, by decide, by decide⟩))))
local macro_rules | `(tactic| walk_at "st") => `(tactic| (with_reducible apply rd_yes))
local macro_rules | `(tactic| walk_at "st") => `(tactic| (with_reducible apply rd_lc))
local macro_rules | `(tactic| walk_at "st") => `(tactic| ((with_reducible apply rd_itT); (focus first | assumption | exact SqT.of (by assumption) | exact SqT.of upd_same)))
local macro_rules | `(tactic| walk_at "st") => `(tactic| ((with_reducible apply rd_itL); (focus first | assumption | exact SqL.of (by assumption) | exact SqL.of upd_same)))
local macro_rules | `(tactic| walk_at "st") => `(tactic| ((with_reducible apply u_isi); (focus (first | exact Or.inl rfl | exact Or.inr (Or.inl rfl) | exact Or.inr (Or.inr (Or.inl rfl)) | exact Or.inr (Or.inr (Or.inr rfl)))); (focus first | assumption | exact Rp.int _ | exact Rp.str _)))
local macro_rules | `(tactic| walk_at "st") => `(tactic| (with_reducible apply rd_istrE))
local macro_rules | `(tactic| walk_at "st") => `(tactic| (with_reducible apply rd_istr))
local macro_rules | `(tactic| walk_at "st") => `(tactic| ((with_reducible apply rd_seqT); (focus first | assumption | exact SqT.of (by assumption) | exact SqT.of upd_same)))
local macro_rules | `(tactic| walk_at "st") => `(tactic| ((with_reducible apply rd_seqL); (focus first | assumption | exact SqL.of (by assumption) | exact SqL.of upd_same)))
local macro_rules | `(tactic| walk_at "st") => `(tactic| (with_reducible apply rd_iSeq))
local macro_rules | `(tactic| walk_at "st") => `(tactic| (with_reducible apply u_notInS))
local macro_rules | `(tactic| walk_at "st") => `(tactic| (with_reducible apply u_inS))
local macro_rules | `(tactic| walk_at "st") => `(tactic| (with_reducible apply u_notInD))
local macro_rules | `(tactic| walk_at "st") => `(tactic| (with_reducible apply u_inD))
local macro_rules | `(tactic| walk_at "st") => `(tactic| (with_reducible apply rd_callS))
local macro_rules | `(tactic| walk_at "st") => `(tactic| (with_reducible apply rd_raiseE))
local macro_rules | `(tactic| walk_at "st") => `(tactic| (with_reducible apply rd_xf))
local macro_rules | `(tactic| walk_at "st") => `(tactic| (with_reducible apply g_neB))
local macro_rules | `(tactic| walk_at "st") => `(tactic| (with_reducible apply g_neS))
local macro_rules | `(tactic| walk_at "st") => `(tactic| (with_reducible apply g_neI))
local macro_rules | `(tactic| walk_at "st") => `(tactic| (with_reducible apply g_eqS))
local macro_rules | `(tactic| walk_at "st") => `(tactic| (with_reducible apply g_eqI))
local macro_rules | `(tactic| walk_at "st") => `(tactic| (with_reducible apply rd_retN))
local macro_rules | `(tactic| walk_at "st") => `(tactic| (with_reducible apply rd_gnil))
local macro_rules | `(tactic| walk_at "st") => `(tactic| (with_reducible apply rd_gcons))
local macro_rules | `(tactic| walk_at "st") => `(tactic| ((with_reducible apply rd_rng2e); (focus omega)))
local macro_rules | `(tactic| walk_at "st") => `(tactic| ((with_reducible apply rd_rng1e); (focus omega); (focus omega)))
local macro_rules | `(tactic| walk_at "st") => `(tactic| (with_reducible apply rd_rng2))
local macro_rules | `(tactic| walk_at "st") => `(tactic| (with_reducible apply rd_rng1))
local macro_rules | `(tactic| walk_at "st") => `(tactic| (with_reducible apply rd_for))
local macro_rules | `(tactic| walk_at "st") => `(tactic| (with_reducible apply rd_iTup))
local macro_rules | `(tactic| walk_at "st") => `(tactic| (with_reducible apply rd_iList))
local macro_rules | `(tactic| walk_at "st") => `(tactic| (with_reducible apply rd_rev))
local macro_rules | `(tactic| walk_at "st") => `(tactic| (with_reducible apply u_min3))
local macro_rules | `(tactic| walk_at "st") => `(tactic| ((with_reducible apply rd_tyL); focus (first | exact SqL.of (by assumption) | exact SqL.of upd_same)))
local macro_rules | `(tactic| walk_at "st") => `(tactic| (with_reducible apply rd_bm0))
local macro_rules | `(tactic| walk_at "st") => `(tactic| (with_reducible apply rd_bm))
local macro_rules | `(tactic| walk_at "st") => `(tactic| ((with_reducible apply rd_truL); focus (first | assumption | exact SqL.of (by assumption) | exact SqL.of upd_same)))
local macro_rules | `(tactic| walk_at "st") => `(tactic| (with_reducible apply rd_truB))
local macro_rules | `(tactic| walk_at "st") => `(tactic| (with_reducible apply rd_tru))
local macro_rules | `(tactic| walk_at "st") => `(tactic| (with_reducible apply rd_chain3))
local macro_rules | `(tactic| walk_at "st") => `(tactic| ((with_reducible apply u_setL); (focus (first | assumption | exact upd_same)); exact rfl))
local macro_rules | `(tactic| walk_at "st") => `(tactic| ((with_reducible apply u_lenT); focus (first | assumption | exact SqT.of (by assumption) | exact SqT.of upd_same)))
local macro_rules | `(tactic| walk_at "st") => `(tactic| ((with_reducible apply u_lenL); focus (first | assumption | exact SqL.of (by assumption) | exact SqL.of upd_same)))
local macro_rules | `(tactic| walk_at "st") => `(tactic| ((with_reducible apply u_ixL); (focus (first | assumption | exact SqL.of (by assumption) | exact SqL.of upd_same)); exact rfl))
local macro_rules | `(tactic| walk_at "st") => `(tactic| ((with_reducible apply u_mul); focus first | exact Or.inl (by omega) | exact Or.inr (by omega) | exact Or.inl (by decide) | exact Or.inr (by decide)))
local macro_rules | `(tactic| walk_at "st") => `(tactic| ((with_reducible apply u_div); focus first | decide | omega | (constructor <;> first | assumption | omega)))
local macro_rules | `(tactic| walk_at "st") => `(tactic| ((with_reducible apply u_mod); focus first | assumption | decide | omega))
local macro_rules | `(tactic| walk_at "st") => `(tactic| (with_reducible apply u_neg))
local macro_rules | `(tactic| walk_at "st") => `(tactic| (with_reducible apply u_min))
local macro_rules | `(tactic| walk_at "st") => `(tactic| (with_reducible apply u_max))
local macro_rules | `(tactic| walk_at "st") => `(tactic| (with_reducible apply u_intB))
local macro_rules | `(tactic| walk_at "st") => `(tactic| (with_reducible apply u_int))
local macro_rules | `(tactic| walk_at "st") => `(tactic| (with_reducible apply u_neI))
local macro_rules | `(tactic| walk_at "st") => `(tactic| (with_reducible apply u_eqS))
local macro_rules | `(tactic| walk_at "st") => `(tactic| (with_reducible apply u_eqI))
local macro_rules | `(tactic| walk_at "st") => `(tactic| (with_reducible apply u_ge))
local macro_rules | `(tactic| walk_at "st") => `(tactic| (with_reducible apply u_gt))
local macro_rules | `(tactic| walk_at "st") => `(tactic| (with_reducible apply u_le))
local macro_rules | `(tactic| walk_at "st") => `(tactic| (with_reducible apply u_lt))
local macro_rules | `(tactic| walk_at "st") => `(tactic| (with_reducible apply u_sub))
local macro_rules | `(tactic| walk_at "st") => `(tactic| (with_reducible apply u_add))
local macro_rules | `(tactic| walk_at "st") => `(tactic| (with_reducible apply rd_ct))
local macro_rules | `(tactic| walk_at "st") => `(tactic| (with_reducible apply rd_brk))
local macro_rules | `(tactic| walk_at "st") => `(tactic| (with_reducible apply rd_tB))
local macro_rules | `(tactic| walk_at "st") => `(tactic| (with_reducible apply rd_chain))
local macro_rules | `(tactic| walk_at "st") => `(tactic| (with_reducible apply rd_notV))
local macro_rules | `(tactic| walk_at "st") => `(tactic| (with_reducible apply rd_orV))
local macro_rules | `(tactic| walk_at "st") => `(tactic| (with_reducible apply rd_andV))
local macro_rules | `(tactic| walk_at "st") => `(tactic| (with_reducible apply rd_not))
local macro_rules | `(tactic| walk_at "st") => `(tactic| (with_reducible apply rd_or))
local macro_rules | `(tactic| walk_at "st") => `(tactic| (with_reducible apply rd_and))
local macro_rules | `(tactic| walk_at "st") => `(tactic| (with_reducible apply rd_un))
local macro_rules | `(tactic| walk_at "st") => `(tactic| (with_reducible apply rd_par_end))
local macro_rules | `(tactic| walk_at "st") => `(tactic| (with_reducible apply rd_par))
local macro_rules | `(tactic| walk_at "st") => `(tactic| (with_reducible apply rd_gsub))
local macro_rules | `(tactic| walk_at "st") => `(tactic| (with_reducible apply rd_ife))
local macro_rules | `(tactic| walk_at "st") => `(tactic| (with_reducible apply rd_next))
local macro_rules | `(tactic| walk_at "st") => `(tactic| (with_reducible apply rd_drop))
local macro_rules | `(tactic| walk_at "st") => `(tactic| (with_reducible apply rd_lst))
local macro_rules | `(tactic| walk_at "st") => `(tactic| (with_reducible apply rd_tup))
local macro_rules | `(tactic| walk_at "st") => `(tactic| (with_reducible apply rd_call))
local macro_rules | `(tactic| walk_at "st") => `(tactic| (with_reducible apply rd_ret))
local macro_rules | `(tactic| walk_at "st") => `(tactic| (with_reducible apply rd_retE))
local macro_rules | `(tactic| walk_at "st") => `(tactic| (with_reducible apply rd_bl))
local macro_rules | `(tactic| walk_at "st") => `(tactic| (with_reducible apply rd_test))
local macro_rules | `(tactic| walk_at "st") => `(tactic| (with_reducible apply rd_if))
local macro_rules | `(tactic| walk_at "st") => `(tactic| (with_reducible apply rd_nil))
local macro_rules | `(tactic| walk_at "st") => `(tactic| (with_reducible apply rd_cons))
local macro_rules | `(tactic| walk_at "st") => `(tactic| (with_reducible apply rd_cb))
local macro_rules | `(tactic| walk_at "st") => `(tactic| (with_reducible apply rd_op))
local macro_rules | `(tactic| walk_at "st") => `(tactic| (with_reducible apply rd_gname))
local macro_rules | `(tactic| walk_at "st") => `(tactic| (with_reducible apply rd_asg))
local macro_rules | `(tactic| walk_at "st") => `(tactic| (with_reducible apply rd_seq))
local macro_rules | `(tactic| walk_at "st") => `(tactic| (with_reducible apply rd_c))
local macro_rules | `(tactic| walk_at "st") => `(tactic| ((with_reducible apply rd_var); exact rfl))
local macro_rules | `(tactic| walk_at "go") => `(tactic| repeat (walk_at "st"))
local macro_rules | `(tactic| walk_at "sp") => `(tactic| (first | refine rd_split (fun c => ?_) (fun c => ?_) | refine rd_splitN (fun c => ?_) (fun c => ?_) | refine rd_splitB (fun c => ?_) (fun c => ?_)))
local macro_rules | `(tactic| walk_at "nx") => `(tactic| repeat (first | (with_reducible apply iteF) | (with_reducible apply iteT) | (with_reducible apply rd_next)))

section
variable {P : Program} {w : World} {K : PySem.W.Frag} {mg : Str → Option Value} {base : Heap}
theorem Rps.popJ {H : Hp} {xs : List V} {l : Jn} {r : List Jn} (h : Rps K H xs (Jn.pys (l :: r)).reverse) : ∃ u, xs[xs.length - 1]? = some u ∧ Rp K H u l.py ∧ Rps K H xs.dropLast (Jn.pys r).reverse ∧ 0 < xs.length := by
  simp only [Jn.pys, List.reverse_cons] at h
  have hl := h.length
  have e2 : ((Jn.pys r).reverse ++ [l.py])[xs.length - 1]? = some l.py := by
    rw [hl, List.length_append]
    simp
  obtain ⟨u, eu, ru⟩ := h.get e2
  refine ⟨u, eu, ru, ?_, by rw [hl, List.length_append]; simp⟩
  have h3 := h.dropLast
  rw [List.dropLast_concat] at h3
  exact h3
/-- a thing that is refused by its form -/
def JBad (K : PySem.W.Frag) (e : Ecl) (v : V) (H : Hp) (E : XK) : Prop := ∃ (d : PyData) (f : Flt) (n : Int), Rp K H v d ∧ dat d ∧ walk 42 [d] 0 = some (f, n) ∧ Raised E H (e.of f) n
def spJts (K : PySem.W.Frag) (e : Ecl) : Sp := fun vs H Q E => ∃ (v : V), vs = [v] ∧ ((∃ j : Jn, Rp K H v j.py ∧ j.ok ∧ j.cnt ≤ 40 ∧ walk 42 [j.py] 0 = none ∧ ∀ (H' : Hp) (p : Addr) (ws : List V), Same H H' → SqT K H' p ws → Rps K H' ws (Jn.pys j.all) → Q (.ref p) H') ∨ JBad K e v H E)
theorem use_jts {e : Ecl} {v : V} {j : Jn} {H : Hp} {Q : VK} {E : XK} (r : Rp K H v j.py) (h : j.ok) (h1 : j.cnt ≤ 40) (h2 : walk 42 [j.py] 0 = none) (q : ∀ (H' : Hp) (p : Addr) (ws : List V), Same H H' → SqT K H' p ws → Rps K H' ws (Jn.pys j.all) → Q (.ref p) H') : spJts K e [v] H Q E := ⟨v, rfl, .inl ⟨j, r, h, h1, h2, q⟩⟩
abbrev s_joints : Stmt := top 37
theorem sc_joints : FnScope ["program", "found", "waiting", "joint"] ["program"] (defScope s_joints) := ⟨rfl, rfl, rfl, by decide +kernel, rfl, by decide +kernel, by decide +kernel⟩
theorem has_joints {c : Ecl} (O : OwnF K mg "joints" s_joints) (B : Bl mg) (h_made_program : HasF P w K mg base (L2.CX P w) 8 "made_program" ["thing"] (spMade K c)) : HasF P w K mg base (L2.CX P w) 9 "joints" ["program"] (spJts K c) := by
  refine hasX O sc_joints (fun _ _ _ _ _ _ us hl => match us, hl with | [_], _ => rfl) (fun vs H Q E h => ?_) (fun f cdv A outer s_ H vs Q E hr h => ?_)
  · obtain ⟨v, rfl, _⟩ := h
    rfl
  obtain ⟨v, rfl, h⟩ := h
  refine ⟨_, (pss_cons (ps_set (i := 1) sc_joints.nd rfl (by first | exact Or.inl rfl | exact Or.inr rfl) (pe_lst pa_nil)) (pss_cons (ps_set (i := 2) sc_joints.nd rfl (by first | exact Or.inl rfl | exact Or.inr rfl) (pe_lst (pa_cons (pe_callHS h_made_program (hr.mono (by first | decide | omega)) (by rfl) (fun σ => passAt tkX σ) (pa_cons (pv 0) pa_nil)) pa_nil))) (pss_cons (ps_while poX (pt_truthK K (pv 2) (by intro _; rfl)) (pss_cons (ps_set (i := 3) sc_joints.nd rfl (by first | exact Or.inl rfl | exact Or.inr rfl) (pe_bm0K K PySem.F.plainAttrs_list PySem.F.slot_list_pop PySem.F.type_list_pop mt_pop (pv 2))) (pss_cons (ps_expr (pe_bmK K PySem.F.plainAttrs_list PySem.F.slot_list_append PySem.F.type_list_append mt_append (pv 1) (pa_cons (pv 3) pa_nil))) (pss_one (ps_expr (pe_bmK K PySem.F.plainAttrs_list PySem.F.slot_list_extend PySem.F.type_list_extend (kExt K) (pv 2) (pa_cons (pe_revK K (pe_ix (kIx K) (pv 3) pe_int (fun _ _ => rfl))) pa_nil))))))) (pss_one (ps_ret (pe_callTy (kTup K) (by rfl) B.tuple (by decide +kernel) (pa_cons (pv 1) pa_nil))))))), ?_⟩
  refine st0 [some v, none, none, none] rfl ?_
  walk_at "go"
  refine ⟨lk rfl, fun f hf => ?_⟩
  walk_at "go"
  rcases h with ⟨j, r, hok, h40, hw, q⟩ | ⟨d, f0, n0, r, hd, hw, hE⟩
  rotate_left
  · refine use_made (r.mono (Ext.new hf) _ _) hd (fun f' n ef => ?_) (fun ef => ?_)
    · rw [hw] at ef
      cases ef
      exact hE.mono (same_new hf _)
    · rw [hw] at ef
      cases ef
  refine use_made (r.mono (Ext.new hf) _ _) (Jn.dat j hok) (fun f' n ef => ?_) (fun _ H1 s1 => ?_)
  · rw [hw] at ef; cases ef
  have sA : Same H H1 := (same_new hf _).trans s1
  have ef1 : H1 f = some (.lst []) := s1 _ _ upd_same
  walk_at "go"
  refine ⟨lk rfl, fun a ha => ?_⟩
  have nfa : f ≠ a := ne_of_none ef1 ha
  have hHa : H a = none := by
    cases hh : H a with
    | none => rfl
    | some o => rw [sA _ _ hh] at ha; cases ha
  walk_at "go"
  refine rd_while (fun m σ H' => ∃ (fws xs : List V) (dn st : List Jn) (o : Option V), σ = [some v, some (.ref f), some (.ref a), o] ∧ Same H H' ∧ H' f = some (.lst fws) ∧ H' a = some (.lst xs) ∧ Rps K H' fws (Jn.pys dn) ∧ Rps K H' xs (Jn.pys st).reverse ∧ Jn.oks st ∧ dn ++ Jn.alls st = j.all ∧ m = Jn.cnts st ∧ Jn.cnts st ≤ 40) j.cnt
    ⟨[], [v], [], [j], none, rfl, Same.new sA ha, by rw [upd_ne nfa]; exact ef1, upd_same, .nil, by simp only [Jn.pys]; exact .one (((r.mono (Ext.new hf) _ _).mono (Ext.of_same s1) _ _).mono (Ext.new ha) _ _), ⟨hok, trivial⟩, by simp [Jn.alls], by simp [Jn.cnts], by simp [Jn.cnts]; exact h40⟩ ?_
  rintro m σ H' ⟨fws, xs, dn, st, o, rfl, s', ef, ea, hF, hR, hks, hd, rfl, hc⟩
  walk_at "go"
  match st, hR, hks, hd, hc with
  | [], hR, hks, hd, hc =>
    cases hR
    refine iteF ?_
    walk_at "go"
    refine u_tupL (SqL.of ef) fun p hp => ?_
    simp only [Jn.alls, List.append_nil] at hd
    rw [← hd] at q
    exact q _ p fws (Same.new s' hp) (SqT.of upd_same) (hF.mono (Ext.new hp) _ _)
  | .mk op td parts :: r0, hR, hks, hd, hc =>
    obtain ⟨u, eu, ru, hR2, hpos⟩ := hR.popJ
    have hne : (!xs.isEmpty) = true := by cases xs with
      | nil => cases hpos
      | cons _ _ => rfl
    have lx := hR2.length
    rw [List.length_reverse, pys_length, List.length_dropLast] at lx
    have lf := hF.length
    rw [pys_length] at lf
    have hks' := hks
    simp only [Jn.oks, Jn.ok] at hks'
    obtain ⟨⟨_, _, _, hp4, hpk⟩, hrk⟩ := hks'
    simp only [Jn.cnts, Jn.cnt] at hc
    have lall := congrArg List.length hd
    rw [List.length_append, alls_cnt, all_cnt] at lall
    have lr : r0.length ≤ Jn.cnts r0 := by
      clear hR hks hd hc hR2 lx hrk lall
      induction r0 with
      | nil => simp
      | cons x r ih => simp only [List.length_cons, Jn.cnts]; have := cnt_pos x; omega
    rw [hne]
    refine iteT ⟨fun σ' H' => ∃ m', m' < Jn.cnts (.mk op td parts :: r0) ∧ _, fun _ _ h => h, ?_⟩
    walk_at "go"
    refine u_pop ea eu ?_
    have xD : Ext K H' (upd H' a (.lst xs.dropLast)) := Ext.set ea trivial
    have s2 : Same H (upd H' a (.lst xs.dropLast)) := Same.upd_new s' hHa
    have ef2 : (upd H' a (.lst xs.dropLast)) f = some (.lst fws) := by rw [upd_ne nfa]; exact ef
    have ea2 : (upd H' a (.lst xs.dropLast)) a = some (.lst xs.dropLast) := upd_same
    have hF2 := hF.mono xD _ _
    have hR3 := hR2.mono xD _ _
    have ru2 := ru.mono xD _ _
    generalize upd H' a (.lst xs.dropLast) = H2 at *
    walk_at "go"
    refine u_app ef2 (ls (by omega)) ?_
    have xE : Ext K H2 (upd H2 f (.lst (fws ++ [u]))) := Ext.set ef2 trivial
    have s3 : Same H (upd H2 f (.lst (fws ++ [u]))) := Same.upd_new s2 hf
    have ea3 : (upd H2 f (.lst (fws ++ [u]))) a = some (.lst xs.dropLast) := by rw [upd_ne nfa.symm]; exact ea2
    have ef3 : (upd H2 f (.lst (fws ++ [u]))) f = some (.lst (fws ++ [u])) := upd_same
    have hF3 := (hF2.mono xE _ _).append (.one (ru2.mono xE _ _))
    have hR4 := hR3.mono xE _ _
    have ru3 := ru2.mono xE _ _
    clear hF2 hR3 ru2 xE xD ef2 ea2 s2
    generalize upd H2 f (.lst (fws ++ [u])) = H3 at *
    obtain ⟨pj, t, qa, tv, pvs, rfl, hsj, _, _, hsq, hRq⟩ := ru3.jn
    have hlq : pvs.length = parts.length := by rw [hRq.length, pys_length]
    walk_at "go"
    refine u_ixT hsj rfl ?_
    refine rd_revT hsq ?_
    intro b hb
    have nab : a ≠ b := ne_of_none ea3 hb
    have nfb : f ≠ b := ne_of_none ef3 hb
    have xB : Ext K H3 (upd H3 b (.tup pvs.reverse)) := Ext.new hb
    have s4 : Same H (upd H3 b (.tup pvs.reverse)) := Same.new s3 hb
    have ea4 : (upd H3 b (.tup pvs.reverse)) a = some (.lst xs.dropLast) := by rw [upd_ne nab]; exact ea3
    have ef4 : (upd H3 b (.tup pvs.reverse)) f = some (.lst (fws ++ [.ref pj])) := by rw [upd_ne nfb]; exact ef3
    have hB : SqT K (upd H3 b (.tup pvs.reverse)) b pvs.reverse := SqT.of upd_same
    have hF5 := hF3.mono xB _ _
    have hR5 := (hR4.mono xB _ _).append (hRq.mono xB _ _).reverse
    generalize upd H3 b (.tup pvs.reverse) = H4 at *
    walk_at "go"
    refine u_extT ea4 hB ?_ ?_
    · rw [List.length_dropLast, List.length_reverse]
      exact ll (by omega)
    have xF : Ext K H4 (upd H4 a (.lst (xs.dropLast ++ pvs.reverse))) := Ext.set ea4 trivial
    walk_at "go"
    refine ⟨_, ?_, fws ++ [.ref pj], xs.dropLast ++ pvs.reverse, dn ++ [.mk op td parts], parts ++ r0, _, rfl, Same.upd_new s4 hHa, by rw [upd_ne nfa]; exact ef4, upd_same, ?_, ?_, oks_append _ _ hpk hrk, ?_, rfl, ?_⟩
    · rw [cnts_append]
      simp only [Jn.cnts, Jn.cnt]
      omega
    · rw [pys_append]
      have h1 : Jn.pys [Jn.mk op td parts] = [(Jn.mk op td parts).py] := pys1
      rw [h1]
      exact hF5.mono xF _ _
    · rw [pys_append, List.reverse_append]
      exact hR5.mono xF _ _
    · rw [alls_append, ← hd]
      simp [Jn.alls, Jn.all, List.append_assoc]
    · rw [cnts_append]
      omega
end

/-! ### H2 -/
section
variable {P : Program} {w : World} {K : PySem.W.Frag} {mg : Str → Option Value} {base : Heap}
mutual
def Jn.ups (w n : Int) : Jn → List Int
  | .mk _ _ parts => w :: Jn.upsl n (n + 1) parts
def Jn.upsl (w n : Int) : List Jn → List Int
  | [] => []
  | j :: r => j.ups w n ++ Jn.upsl w (n + j.cnt) r
end
def upr : List (Jn × Int) → Int → List Int
  | [], _ => []
  | p :: r, n => p.1.ups p.2 n ++ upr r (n + p.1.cnt)
def cntp : List (Jn × Int) → Nat
  | [] => 0
  | p :: r => p.1.cnt + cntp r
theorem upr_app : ∀ (parts : List Jn) (w : Int) (r : List (Jn × Int)) (n : Int), upr (parts.map (fun j => (j, w)) ++ r) n = Jn.upsl w n parts ++ upr r (n + Jn.cnts parts)
  | [], w, r, n => by simp [Jn.upsl, Jn.cnts]
  | j :: p, w, r, n => by
    simp only [List.map_cons, List.cons_append, upr, Jn.upsl, Jn.cnts, upr_app p w r, List.append_assoc]
    rw [show n + ((j.cnt + Jn.cnts p : Nat) : Int) = n + j.cnt + Jn.cnts p by omega]
theorem cntp_app : ∀ (parts : List Jn) (w : Int) (r : List (Jn × Int)), cntp (parts.map (fun j => (j, w)) ++ r) = Jn.cnts parts + cntp r
  | [], w, r => by simp [Jn.cnts]
  | j :: p, w, r => by simp only [List.map_cons, List.cons_append, cntp, Jn.cnts, cntp_app p w r]; omega
theorem cntp_len : ∀ st : List (Jn × Int), st.length ≤ cntp st
  | [] => Nat.le_refl _
  | p :: r => by simp only [List.length_cons, cntp]; have := cnt_pos p.1; have := cntp_len r; omega
theorem pys_rev : ∀ l : List Jn, (Jn.pys l).reverse = Jn.pys l.reverse
  | [] => rfl
  | x :: l => by rw [List.reverse_cons, pys_append, ← pys_rev l]; simp [Jn.pys]
/-- v is a pair of a joint and a number -/
def Pj (K : PySem.W.Frag) (H : Hp) (v : V) (p : Jn × Int) : Prop := ∃ (b : Addr) (u : V), v = .ref b ∧ SqT K H b [u, .int p.2] ∧ Rp K H u p.1.py ∧ p.1.ok
theorem Pj.mono {H H' : Hp} {v : V} {p : Jn × Int} (h : Pj K H v p) (e : Ext K H H') : Pj K H' v p := by
  obtain ⟨b, u, e1, e2, e3, e4⟩ := h
  exact ⟨b, u, e1, e _ _ e2, e3.mono e _ _, e4⟩
/-- xs are pairs, the last one first in st -/
structure Pjs (K : PySem.W.Frag) (H : Hp) (xs : List V) (st : List (Jn × Int)) : Prop where
  length : xs.length = st.length
  get : ∀ (i : Nat) (v : V), xs[i]? = some v → ∃ p, st.reverse[i]? = some p ∧ Pj K H v p
theorem Pjs.mono {H H' : Hp} {xs : List V} {st : List (Jn × Int)} (h : Pjs K H xs st) (e : Ext K H H') : Pjs K H' xs st :=
  ⟨h.length, fun i v hv => by
    obtain ⟨p, e1, e2⟩ := h.get i v hv
    exact ⟨p, e1, e2.mono e⟩⟩
theorem Pjs.pop {H : Hp} {xs : List V} {p : Jn × Int} {r : List (Jn × Int)} (h : Pjs K H xs (p :: r)) : ∃ u, xs[xs.length - 1]? = some u ∧ Pj K H u p ∧ Pjs K H xs.dropLast r := by
  have hl := h.length
  rw [List.length_cons] at hl
  have hk : xs.length - 1 < xs.length := by omega
  obtain ⟨p', e1, e2⟩ := h.get _ _ (List.getElem?_eq_getElem hk)
  rw [hl, List.reverse_cons, List.getElem?_append_right (by rw [List.length_reverse]; omega), List.length_reverse] at e1
  have e3 : p = p' := by simpa using e1
  refine ⟨_, List.getElem?_eq_getElem hk, by rw [e3]; exact e2, by rw [List.length_dropLast, hl] <;> rfl, fun i v hv => ?_⟩
  rw [List.getElem?_dropLast] at hv
  split at hv
  · rename_i hi
    obtain ⟨p2, f1, f2⟩ := h.get i v hv
    rw [List.reverse_cons, List.getElem?_append_left (by rw [List.length_reverse]; omega)] at f1
    exact ⟨p2, f1, f2⟩
  · cases hv
theorem Pjs.app {H : Hp} {xs ys : List V} {st sp : List (Jn × Int)} (h : Pjs K H xs st) (g : Pjs K H ys sp) : Pjs K H (xs ++ ys) (sp ++ st) :=
  ⟨by rw [List.length_append, List.length_append, h.length, g.length]; omega, fun i v hv => by
    rw [List.reverse_append]
    by_cases hi : i < xs.length
    · rw [List.getElem?_append_left hi] at hv
      obtain ⟨p, e1, e2⟩ := h.get i v hv
      exact ⟨p, by rw [List.getElem?_append_left (by rw [List.length_reverse, ← h.length]; exact hi)]; exact e1, e2⟩
    · rw [List.getElem?_append_right (by omega)] at hv
      obtain ⟨p, e1, e2⟩ := g.get _ v hv
      exact ⟨p, by rw [List.getElem?_append_right (by rw [List.length_reverse, ← h.length]; omega), List.length_reverse, ← h.length]; exact e1, e2⟩⟩
theorem ups_len : ∀ (j : Jn) (w n : Int), (j.ups w n).length = j.cnt := by
  intro j
  exact (Jn.rec (motive_1 := fun j => ∀ w n, (j.ups w n).length = j.cnt) (motive_2 := fun l => ∀ w n, (Jn.upsl w n l).length = Jn.cnts l)
    (fun op td parts ih w n => by simp only [Jn.ups, Jn.cnt, List.length_cons, ih]; omega)
    (fun w n => by simp [Jn.upsl, Jn.cnts])
    (fun j r ih1 ih2 w n => by simp only [Jn.upsl, Jn.cnts, List.length_append, ih1, ih2]) j)
abbrev s_above : Stmt := top 38
theorem sc_above : FnScope ["program", "found", "waiting", "joint", "whole", "number", "part"] ["program"] (defScope s_above) := ⟨rfl, rfl, rfl, by decide +kernel, rfl, by decide +kernel, by decide +kernel⟩
def spAbv (K : PySem.W.Frag) : Sp := fun vs H Q _ => ∃ (v : V) (j : Jn), vs = [v] ∧ Rp K H v j.py ∧ j.ok ∧ j.cnt ≤ 40 ∧ walk 42 [j.py] 0 = none ∧ ∀ (H' : Hp) (p : Addr), Same H H' → SqT K H' p ((j.ups (-1) 0).map V.int) → Q (.ref p) H'
theorem use_abv {v : V} {j : Jn} {H : Hp} {Q : VK} {E : XK} (r : Rp K H v j.py) (h : j.ok) (h1 : j.cnt ≤ 40) (h2 : walk 42 [j.py] 0 = none) (q : ∀ (H' : Hp) (p : Addr), Same H H' → SqT K H' p ((j.ups (-1) 0).map V.int) → Q (.ref p) H') : spAbv K [v] H Q E := ⟨v, j, rfl, r, h, h1, h2, q⟩
theorem has_above {c : Ecl} (O : OwnF K mg "above" s_above) (B : Bl mg) (h_made_program : HasF P w K mg base (L2.CX P w) 8 "made_program" ["thing"] (spMade K c)) : HasF P w K mg base (L2.CX P w) 9 "above" ["program"] (spAbv K) := by
  refine hasX O sc_above (fun _ _ _ _ _ _ us hl => match us, hl with | [_], _ => rfl) (fun vs H Q E h => ?_) (fun f cdv A outer s_ H vs Q E hr h => ?_)
  · obtain ⟨v, j, rfl, _⟩ := h
    rfl
  obtain ⟨v, j, rfl, r, hok, h40, hw, q⟩ := h
  refine ⟨_, (pss_cons (ps_set (i := 1) sc_above.nd rfl (by first | exact Or.inl rfl | exact Or.inr rfl) (pe_lst pa_nil)) (pss_cons (ps_set (i := 2) sc_above.nd rfl (by first | exact Or.inl rfl | exact Or.inr rfl) (pe_lst (pa_cons (pe_tup (pa_cons (pe_callHS h_made_program (hr.mono (by first | decide | omega)) (by rfl) (fun σ => passAt tkX σ) (pa_cons (pv 0) pa_nil)) (pa_cons (pe_un un_neg pe_int) pa_nil))) pa_nil))) (pss_cons (ps_while poX (pt_truthK K (pv 2) (by intro _; rfl)) (pss_cons (ps_asg (pe_bm0K K PySem.F.plainAttrs_list PySem.F.slot_list_pop PySem.F.type_list_pop mt_pop (pv 2)) (pg_tupK (n := 2) K rfl (pgs_cons (pg_name (i := 3) sc_above.nd rfl (by first | exact Or.inl rfl | exact Or.inr rfl)) (pgs_cons (pg_name (i := 4) sc_above.nd rfl (by first | exact Or.inl rfl | exact Or.inr rfl)) pgs_nil)))) (pss_cons (ps_set (i := 5) sc_above.nd rfl (by first | exact Or.inl rfl | exact Or.inr rfl) (pe_callB (kLen K) (by rfl) B.len (by decide +kernel) (pa_cons (pv 1) pa_nil))) (pss_cons (ps_expr (pe_bmK K PySem.F.plainAttrs_list PySem.F.slot_list_append PySem.F.type_list_append mt_append (pv 1) (pa_cons (pv 4) pa_nil))) (pss_one (ps_expr (pe_bmK K PySem.F.plainAttrs_list PySem.F.slot_list_extend PySem.F.type_list_extend (kExt K) (pv 2) (pa_cons (pe_lc (own := [("part", 6)]) (g := gName 6) (tt := tYes) rfl sc_above.nd (pi_tupK K (pe_revK K (pe_ix (kIx K) (pv 3) pe_int (fun _ _ => rfl)))) (blkOk_by (own := [("part", 6)]) (N := ["program", "found", "waiting", "joint", "whole", "number", "part"]) (sc := defScope s_above) (by decide +kernel)) (fun _ _ _ _ _ => (pg_name (i := 6) sc_above.nd rfl (by first | exact Or.inl rfl | exact Or.inr rfl))) (fun _ _ _ _ _ => pts_nil) (fun _ _ _ _ _ => (pe_tup (pa_cons (pv 6) (pa_cons (pv 5) pa_nil))))) pa_nil)))))))) (pss_one (ps_ret (pe_callTy (kTup K) (by rfl) B.tuple (by decide +kernel) (pa_cons (pv 1) pa_nil))))))), ?_⟩
  refine st0 [some v, none, none, none, none, none, none] rfl ?_
  walk_at "go"
  refine ⟨lk rfl, fun f hf => ?_⟩
  walk_at "go"
  refine use_made (r.mono (Ext.new hf) _ _) (Jn.dat j hok) (fun f' n ef => ?_) (fun _ H1 s1 => ?_)
  · rw [hw] at ef; cases ef
  have sA : Same H H1 := (same_new hf _).trans s1
  have ef1 : H1 f = some (.lst []) := s1 _ _ upd_same
  have r1 := (r.mono (Ext.new (o := .lst []) hf) _ _).mono (Ext.of_same s1) _ _
  walk_at "go"
  refine ⟨lk rfl, fun t0 ht0 => ?_⟩
  have nft := ne_of_none ef1 ht0
  have sB : Same H (upd H1 t0 (.tup [v, .int (-1)])) := Same.new sA ht0
  have ef2 : (upd H1 t0 (.tup [v, .int (-1)])) f = some (.lst []) := by rw [upd_ne nft]; exact ef1
  have pj0 : Pj K (upd H1 t0 (.tup [v, .int (-1)])) (.ref t0) (j, -1) := ⟨t0, v, rfl, SqT.of upd_same, r1.mono (Ext.new ht0) _ _, hok⟩
  generalize upd H1 t0 (.tup [v, .int (-1)]) = H2 at *
  walk_at "go"
  refine ⟨lk rfl, fun a ha => ?_⟩
  have nfa : f ≠ a := ne_of_none ef2 ha
  have hHa : H a = none := by
    cases hh : H a with
    | none => rfl
    | some o => rw [sB _ _ hh] at ha; cases ha
  walk_at "go"
  refine rd_while (fun m σ H' => ∃ (fs : List Int) (xs : List V) (st : List (Jn × Int)) (o3 o4 o5 o6 : Option V), σ = [some v, some (.ref f), some (.ref a), o3, o4, o5, o6] ∧ Same H H' ∧ H' f = some (.lst (fs.map V.int)) ∧ H' a = some (.lst xs) ∧ Pjs K H' xs st ∧ fs ++ upr st fs.length = j.ups (-1) 0 ∧ m = cntp st ∧ fs.length + cntp st = j.cnt) j.cnt
    ⟨[], [.ref t0], [(j, -1)], none, none, none, none, rfl, Same.new sB ha, by rw [upd_ne nfa]; exact ef2, upd_same, ⟨rfl, fun i x hx => ?_⟩, by simp [upr], by simp [cntp], by simp [cntp]⟩ ?_
  · match i, hx with
    | 0, hx =>
      have e : V.ref t0 = x := by simpa using hx
      rw [← e]
      exact ⟨_, rfl, pj0.mono (Ext.new ha)⟩
    | i + 1, hx => simp at hx
  rintro m σ H' ⟨fs, xs, st, o3, o4, o5, o6, rfl, s', ef, ea, hP, hu, rfl, hc⟩
  have hlx := hP.length
  walk_at "go"
  match st, hP, hu, hc, hlx with
  | [], hP, hu, hc, hlx =>
    have hx : xs = [] := List.eq_nil_of_length_eq_zero hlx
    subst hx
    refine iteF ?_
    walk_at "go"
    refine u_tupL (SqL.of ef) fun p hp => ?_
    simp only [upr, List.append_nil] at hu
    rw [← hu] at q
    exact q _ p (Same.new s' hp) (SqT.of upd_same)
  | (.mk op td parts, w) :: r0, hP, hu, hc, hlx =>
    obtain ⟨u, eu, ⟨b, u1, rfl, hsb, hru, hko⟩, hP2⟩ := hP.pop
    have hne : (!xs.isEmpty) = true := by cases xs with
      | nil => cases hlx
      | cons _ _ => rfl
    rw [hne]
    refine iteT ⟨fun σ' H' => ∃ m', m' < cntp ((.mk op td parts, w) :: r0) ∧ _, fun _ _ h => h, ?_⟩
    walk_at "go"
    refine u_pop ea eu ?_
    have xD : Ext K H' (upd H' a (.lst xs.dropLast)) := Ext.set ea trivial
    have s2 : Same H (upd H' a (.lst xs.dropLast)) := Same.upd_new s' hHa
    have ef2 : (upd H' a (.lst xs.dropLast)) f = some (.lst (fs.map V.int)) := by rw [upd_ne nfa]; exact ef
    have ea2 : (upd H' a (.lst xs.dropLast)) a = some (.lst xs.dropLast) := upd_same
    have hP3 := hP2.mono xD
    have ru2 := hru.mono xD _ _
    have hsb2 := xD _ _ hsb
    generalize upd H' a (.lst xs.dropLast) = H2 at *
    walk_at "go"
    refine rd_gtup hsb2 rfl ?_
    walk_at "go"
    have lfs : fs.length ≤ 40 := by omega
    simp only [cntp, Jn.cnt] at hc
    have hko' := hko
    simp only [Jn.ok] at hko'
    obtain ⟨_, _, _, hp4, hpk⟩ := hko'
    have lr := cntp_len r0
    have lx2 : xs.length = r0.length + 1 := by simpa using hlx
    refine u_app ef2 (by rw [List.length_map]; exact ls (by omega)) ?_
    rw [List.length_map]
    have xE : Ext K H2 (upd H2 f (.lst (fs.map V.int ++ [.int w]))) := Ext.set ef2 trivial
    have s3 : Same H (upd H2 f (.lst (fs.map V.int ++ [.int w]))) := Same.upd_new s2 hf
    have ea3 : (upd H2 f (.lst (fs.map V.int ++ [.int w]))) a = some (.lst xs.dropLast) := by rw [upd_ne nfa.symm]; exact ea2
    have ef3 : (upd H2 f (.lst (fs.map V.int ++ [.int w]))) f = some (.lst (fs.map V.int ++ [.int w])) := upd_same
    have hP4 := hP3.mono xE
    have ru3 := ru2.mono xE _ _
    clear hP3 ru2 xE xD ef2 ea2 s2 hsb2
    generalize upd H2 f (.lst (fs.map V.int ++ [.int w])) = H3 at *
    obtain ⟨pj, t, qa, tv, pvs, rfl, hsj, _, _, hsq, hRq⟩ := ru3.jn
    have hlq : pvs.length = parts.length := by rw [hRq.length, pys_length]
    walk_at "go"
    refine u_ixT hsj rfl ?_
    refine rd_revT hsq ?_
    intro b2 hb2
    have nab : a ≠ b2 := ne_of_none ea3 hb2
    have nfb : f ≠ b2 := ne_of_none ef3 hb2
    have xB : Ext K H3 (upd H3 b2 (.tup pvs.reverse)) := Ext.new hb2
    have s4 : Same H (upd H3 b2 (.tup pvs.reverse)) := Same.new s3 hb2
    have ea4 : (upd H3 b2 (.tup pvs.reverse)) a = some (.lst xs.dropLast) := by rw [upd_ne nab]; exact ea3
    have ef4 : (upd H3 b2 (.tup pvs.reverse)) f = some (.lst (fs.map V.int ++ [.int w])) := by rw [upd_ne nfb]; exact ef3
    have hB : SqT K (upd H3 b2 (.tup pvs.reverse)) b2 pvs.reverse := SqT.of upd_same
    have hP5 := hP4.mono xB
    have hR5 := (hRq.mono xB _ _).reverse
    clear hP4 xB s3 ea3 ef3 hsj hsq hRq
    generalize upd H3 b2 (.tup pvs.reverse) = H4 at *
    walk_at "go"
    intro D hD
    refine lc_tup (K := K) (a := b2) (xs := pvs.reverse) (fun k H' => ∃ ys, H' D = some (.lst ys) ∧ ys.length = k ∧ (∀ (i : Nat) (y : V), ys[i]? = some y → ∃ jx, parts.reverse[i]? = some jx ∧ Pj K H' y (jx, (fs.length : Int))) ∧ Same H4 H') ⟨[], upd_same, rfl, (fun i y hy => by simp at hy), Same.upd_new (Same.refl H4) hD⟩ ?_ ?_ ?_
    · rintro k H5 hk ⟨ys, f1, f2, f3, f4⟩
      exact Ext.of_same f4 _ _ hB
    · rintro k y H5 hy ⟨ys, f1, f2, f3, f4⟩
      have kl : k < pvs.reverse.length := (List.getElem?_eq_some_iff.mp hy).1
      rw [List.length_reverse] at kl
      obtain ⟨dk, k1, k2⟩ := hR5.getV hy
      rw [pys_rev, pys_get] at k1
      obtain ⟨jx, ex, rfl⟩ := Option.map_eq_some_iff.mp k1
      have jm : jx ∈ parts := List.mem_reverse.mp (List.mem_of_getElem? ex)
      walk_at "go"
      refine ⟨rfl, ?_⟩
      walk_at "go"
      refine ⟨lk rfl, fun t9 ht9 => ?_⟩
      have f5 : (upd H5 t9 (.tup [y, .int (fs.length : Int)])) D = some (.lst ys) := by rw [upd_ne (ne_of_none f1 ht9)]; exact f1
      have x5 : Ext K H5 (upd H5 t9 (.tup [y, .int (fs.length : Int)])) := Ext.new ht9
      have pj5 : Pj K (upd H5 t9 (.tup [y, .int (fs.length : Int)])) (.ref t9) (jx, (fs.length : Int)) := ⟨t9, y, rfl, SqT.of upd_same, (k2.mono (Ext.of_same f4) _ _).mono x5 _ _, oks_mem hpk jm⟩
      have s5 : Same H4 (upd H5 t9 (.tup [y, .int (fs.length : Int)])) := Same.new f4 ht9
      generalize upd H5 t9 (.tup [y, .int (fs.length : Int)]) = H6 at *
      have x6 : Ext K H6 (upd H6 D (.lst (ys ++ [.ref t9]))) := Ext.set f5 trivial
      refine ⟨ys, f5, by rw [f2]; exact ls (by omega), ys ++ [.ref t9], upd_same, by rw [List.length_append, f2] <;> rfl, fun i z hz => ?_, Same.upd_new s5 hD⟩
      by_cases hi : i < ys.length
      · rw [List.getElem?_append_left hi] at hz
        obtain ⟨jz, z1, z2⟩ := f3 i z hz
        exact ⟨jz, z1, (z2.mono x5).mono x6⟩
      · rw [List.getElem?_append_right (by omega)] at hz
        have hi2 : i - ys.length = 0 := by
          by_cases h0 : i - ys.length = 0
          · exact h0
          · obtain ⟨n, hn⟩ : ∃ n, i - ys.length = n + 1 := ⟨i - ys.length - 1, by omega⟩
            rw [hn] at hz; simp at hz
        rw [hi2] at hz
        have e : V.ref t9 = z := by simpa using hz
        rw [← e]
        exact ⟨jx, by rw [show i = k by omega]; exact ex, pj5.mono x6⟩
    rintro H5 ⟨ys, f1, f2, f3, f4⟩
    rw [List.length_reverse] at f2
    refine .inl ⟨a, D, xs.dropLast, ys, rfl, rfl, f4 _ _ ea4, f1, ?_, ?_⟩
    · rw [List.length_dropLast]
      exact ll (by omega)
    have xF : Ext K H5 (upd H5 a (.lst (xs.dropLast ++ ys))) := Ext.set (f4 _ _ ea4) trivial
    have g : Pjs K H5 ys (parts.map fun j => (j, (fs.length : Int))) := ⟨by rw [List.length_map, f2, hlq], fun i y hy => by
      obtain ⟨jx, e1, e2⟩ := f3 i y hy
      exact ⟨_, by rw [← List.map_reverse, List.getElem?_map, e1] <;> rfl, e2⟩⟩
    walk_at "go"
    refine ⟨_, ?_, fs ++ [w], xs.dropLast ++ ys, parts.map (fun j => (j, (fs.length : Int))) ++ r0, _, _, _, _, rfl, Same.upd_new (Same.trans s4 f4) hHa, ?_, upd_same, ((hP5.mono (Ext.of_same f4)).app g).mono xF, ?_, rfl, ?_⟩
    · rw [cntp_app]
      simp only [cntp, Jn.cnt]
      omega
    · rw [upd_ne nfa, f4 _ _ ef4, List.map_append] <;> rfl
    · rw [upr_app, ← hu, List.length_append]
      simp only [upr, Jn.ups, List.append_assoc, List.cons_append, List.nil_append, List.length_singleton, Jn.cnt]
      rw [show ((fs.length + 1 : Nat) : Int) = (fs.length : Int) + 1 by omega, show (fs.length : Int) + 1 + Jn.cnts parts = (fs.length : Int) + ((1 + Jn.cnts parts : Nat) : Int) by omega]
    · rw [cntp_app, List.length_append]
      simp only [List.length_singleton]
      omega
end

/-! ### H3 -/
section
variable {P : Program} {w : World} {K : PySem.W.Frag} {mg : Str → Option Value} {base : Heap}
abbrev s_law_joints : Stmt := top 79
theorem sc_law_joints : FnScope ["program", "left", "found", "turn", "joint", "part"] ["program"] (defScope s_law_joints) := ⟨rfl, rfl, rfl, by decide +kernel, rfl, by decide +kernel, by decide +kernel⟩
def spLj (K : PySem.W.Frag) : Sp := fun vs H Q _ => ∃ (v : V) (j : Jn), vs = [v] ∧ Rp K H v j.py ∧ j.ok ∧ j.cnt ≤ 40 ∧ ∀ (H' : Hp) (b : Addr) (ws : List V), Same H H' → H b = none → H' b = some (.lst ws) → Rps K H' ws (Jn.pys j.all) → Q (.ref b) H'
theorem use_lj {v : V} {j : Jn} {H : Hp} {Q : VK} {E : XK} (r : Rp K H v j.py) (h : j.ok) (h1 : j.cnt ≤ 40) (q : ∀ (H' : Hp) (b : Addr) (ws : List V), Same H H' → H b = none → H' b = some (.lst ws) → Rps K H' ws (Jn.pys j.all) → Q (.ref b) H') : spLj K [v] H Q E := ⟨v, j, rfl, r, h, h1, q⟩
theorem has_law_joints (O : OwnF K mg "_law_joints" s_law_joints) (B : Bl mg) : HasF P w K mg base CX0 1 "_law_joints" ["program"] (spLj K) := by
  refine has0 O sc_law_joints (fun _ _ _ _ _ _ us hl => match us, hl with | [_], _ => rfl) (fun vs H Q E h => ?_) (fun f cdv A outer s_ H vs Q E hr h => ?_)
  · obtain ⟨v, j, rfl, _⟩ := h
    rfl
  obtain ⟨v, j, rfl, r, hok, h40, q⟩ := h
  refine ⟨_, (pss_cons (ps_par (i := 1) (j := 2) (by rfl) sc_law_joints.nd rfl rfl (by decide) rfl rfl (pa_cons (pe_lst (pa_cons (pv 0) pa_nil)) (pa_cons (pe_lst pa_nil) pa_nil)) (by rfl)) (pss_cons (ps_for PassesOwn.never rfl (pi_range1 (by rfl) B.range (pa_cons pe_int pa_nil)) (pg_name (i := 3) sc_law_joints.nd rfl (by first | exact Or.inl rfl | exact Or.inr rfl)) (pss_one (ps_if (pt_truthK K (pv 1) (by intro _; rfl)) (pss_cons (ps_set (i := 4) sc_law_joints.nd rfl (by first | exact Or.inl rfl | exact Or.inr rfl) (pe_bm0K K PySem.F.plainAttrs_list PySem.F.slot_list_pop PySem.F.type_list_pop mt_pop (pv 1))) (pss_cons (ps_expr (pe_bmK K PySem.F.plainAttrs_list PySem.F.slot_list_append PySem.F.type_list_append mt_append (pv 2) (pa_cons (pv 4) pa_nil))) (pss_one (ps_set (i := 1) sc_law_joints.nd rfl (by first | exact Or.inl rfl | exact Or.inr rfl) (pe_op (kAdd K) (pv 1) (pe_revK K (pe_lc (own := [("part", 5)]) (g := gName 5) (tt := tYes) rfl sc_law_joints.nd (pi_tupK K (pe_ix (kIx K) (pv 4) pe_int (fun _ _ => rfl))) (blkOk_by (own := [("part", 5)]) (N := ["program", "left", "found", "turn", "joint", "part"]) (sc := defScope s_law_joints) (by decide +kernel)) (fun _ _ _ _ _ => (pg_name (i := 5) sc_law_joints.nd rfl (by first | exact Or.inl rfl | exact Or.inr rfl))) (fun _ _ _ _ _ => pts_nil) (fun _ _ _ _ _ => (pv 5))))))))) pss_nil))) (pss_one (ps_ret (pv 2))))), ?_⟩
  refine st0 [some v, none, none, none, none, none] rfl ?_
  walk_at "go"
  refine ⟨lk rfl, fun a0 ha0 => ?_⟩
  walk_at "go"
  refine ⟨lk rfl, fun f hf0 => ?_⟩
  have e0 : (upd H a0 (.lst [v])) a0 = some (.lst [v]) := upd_same
  have naf : a0 ≠ f := ne_of_none e0 hf0
  have hf : H f = none := by
    cases hh : H f with
    | none => rfl
    | some o => rw [same_new ha0 (.lst [v]) _ _ hh] at hf0; cases hf0
  walk_at "go"
  refine forR (fun i σ H' => ∃ (a : Addr) (fws xs : List V) (dn st : List Jn) (o3 o4 o5 : Option V), σ = [some v, some (.ref a), some (.ref f), o3, o4, o5] ∧ Same H H' ∧ H a = none ∧ a ≠ f ∧ H' f = some (.lst fws) ∧ H' a = some (.lst xs) ∧ Rps K H' fws (Jn.pys dn) ∧ Rps K H' xs (Jn.pys st).reverse ∧ Jn.oks st ∧ dn ++ Jn.alls st = j.all ∧ (st = [] ∨ dn.length = i))
    ⟨a0, [], [v], [], [j], none, none, none, rfl, Same.new (same_new ha0 _) hf0, ha0, naf, upd_same, by rw [upd_ne naf]; exact e0, .nil, by simp only [Jn.pys]; exact .one ((r.mono (Ext.new ha0) _ _).mono (Ext.new hf0) _ _), ⟨hok, trivial⟩, by simp [Jn.alls], .inr rfl⟩ ?_ ?_
  · rintro i σ H' hi ⟨a, fws, xs, dn, st, o3, o4, o5, rfl, s', hHa, naf, ef, ea, hF, hR, hks, hd, hz⟩
    walk_at "go"
    match st, hR, hks, hd, hz with
    | [], hR, hks, hd, hz =>
      cases hR
      refine iteF ?_
      walk_at "go"
      exact ⟨a, fws, [], dn, [], _, _, _, rfl, s', hHa, naf, ef, ea, hF, .nil, trivial, hd, .inl rfl⟩
    | .mk op td parts :: r0, hR, hks, hd, hz =>
      obtain ⟨u, eu, ru, hR2, hpos⟩ := hR.popJ
      have hdi : dn.length = i := hz.resolve_left (by simp)
      have hne : (!xs.isEmpty) = true := by cases xs with
        | nil => cases hpos
        | cons _ _ => rfl
      have lx := hR2.length
      rw [List.length_reverse, pys_length, List.length_dropLast] at lx
      have lf := hF.length
      rw [pys_length] at lf
      have hks' := hks
      simp only [Jn.oks, Jn.ok] at hks'
      obtain ⟨⟨_, _, _, hp4, hpk⟩, hrk⟩ := hks'
      have lall := congrArg List.length hd
      rw [List.length_append, alls_cnt, all_cnt] at lall
      simp only [Jn.cnts, Jn.cnt] at lall
      have lr : r0.length ≤ Jn.cnts r0 := by
        clear hR hks hd hR2 lx hrk lall hz
        induction r0 with
        | nil => simp
        | cons x r ih => simp only [List.length_cons, Jn.cnts]; have := cnt_pos x; omega
      rw [hne]
      refine iteT ?_
      walk_at "go"
      refine u_pop ea eu ?_
      have xD : Ext K H' (upd H' a (.lst xs.dropLast)) := Ext.set ea trivial
      have s2 : Same H (upd H' a (.lst xs.dropLast)) := Same.upd_new s' hHa
      have ef2 : (upd H' a (.lst xs.dropLast)) f = some (.lst fws) := by rw [upd_ne naf.symm]; exact ef
      have ea2 : (upd H' a (.lst xs.dropLast)) a = some (.lst xs.dropLast) := upd_same
      have hF2 := hF.mono xD _ _
      have hR3 := hR2.mono xD _ _
      have ru2 := ru.mono xD _ _
      generalize upd H' a (.lst xs.dropLast) = H2 at *
      walk_at "go"
      refine u_app ef2 (ls (by omega)) ?_
      have xE : Ext K H2 (upd H2 f (.lst (fws ++ [u]))) := Ext.set ef2 trivial
      have s3 : Same H (upd H2 f (.lst (fws ++ [u]))) := Same.upd_new s2 hf
      have ea3 : (upd H2 f (.lst (fws ++ [u]))) a = some (.lst xs.dropLast) := by rw [upd_ne naf]; exact ea2
      have ef3 : (upd H2 f (.lst (fws ++ [u]))) f = some (.lst (fws ++ [u])) := upd_same
      have hF3 := (hF2.mono xE _ _).append (.one (ru2.mono xE _ _))
      have hR4 := hR3.mono xE _ _
      have ru3 := ru2.mono xE _ _
      clear hF2 hR3 ru2 xE xD ef2 ea2 s2
      generalize upd H2 f (.lst (fws ++ [u])) = H3 at *
      obtain ⟨pj, t, qa, tv, pvs, rfl, hsj, _, _, hsq, hRq⟩ := ru3.jn
      have hlq : pvs.length = parts.length := by rw [hRq.length, pys_length]
      walk_at "go"
      refine u_ixT hsj rfl ?_
      walk_at "go"
      intro D hD
      refine lc_tup (K := K) (a := qa) (xs := pvs) (fun k H' => ∃ vs, H' D = some (.lst vs) ∧ vs = pvs.take k ∧ Same H3 H') ⟨[], upd_same, by simp, Same.upd_new (Same.refl H3) hD⟩ ?_ ?_ ?_
      · rintro k H4 hk ⟨vs, f1, f2, f3⟩
        exact Ext.of_same f3 _ _ hsq
      · rintro k y H4 hy ⟨vs, f1, f2, f3⟩
        walk_at "go"
        refine ⟨rfl, ?_⟩
        walk_at "go"
        refine ⟨vs, f1, ?_, vs ++ [y], upd_same, by rw [f2, take_more hy], Same.upd_new f3 hD⟩
        rw [f2, List.length_take]
        exact ls (by omega)
      rintro H4 ⟨vs, f1, f2, f3⟩
      rw [List.take_length] at f2
      subst f2
      refine rd_revL (SqL.of f1) ?_
      intro b hb
      have nab := ne_of_none (f3 _ _ ea3) hb
      refine u_addL (by rw [upd_ne nab]; exact f3 _ _ ea3) upd_same ?_ fun p2 hp2 => ?_
      · rw [List.length_dropLast, List.length_reverse]
        exact ll (by omega)
      have s5 : Same H3 (upd H4 b (.lst vs.reverse)) := Same.new f3 hb
      have s6 : Same H (upd H4 b (.lst vs.reverse)) := s3.trans s5
      walk_at "go"
      have nfp : f ≠ p2 := ne_of_none (s5 _ _ ef3) hp2
      refine ⟨p2, fws ++ [.ref pj], xs.dropLast ++ vs.reverse, dn ++ [.mk op td parts], parts ++ r0, _, _, _, rfl, Same.new s6 hp2, ?_, nfp.symm, ?_, upd_same, ?_, ?_, oks_append _ _ hpk hrk, ?_, .inr ?_⟩
      · cases hh : H p2 with
        | none => rfl
        | some o => rw [s6 _ _ hh] at hp2; cases hp2
      · rw [upd_ne nfp]; exact s5 _ _ ef3
      · rw [pys_append]
        have h1 : Jn.pys [Jn.mk op td parts] = [(Jn.mk op td parts).py] := pys1
        rw [h1]
        exact (hF3.mono (Ext.of_same s5) _ _).mono (Ext.new hp2) _ _
      · rw [pys_append, List.reverse_append]
        exact (((hR4.mono (Ext.of_same s5) _ _).append (hRq.mono (Ext.of_same s5) _ _).reverse)).mono (Ext.new hp2) _ _
      · rw [alls_append, ← hd]
        simp [Jn.alls, Jn.all, List.append_assoc]
      · rw [List.length_append, hdi] <;> rfl
  · rintro σ H' ⟨a, fws, xs, dn, st, o3, o4, o5, rfl, s', hHa, naf, ef, ea, hF, hR, hks, hd, hz⟩
    walk_at "go"
    have lall := congrArg List.length hd
    rw [List.length_append, alls_cnt, all_cnt] at lall
    have hst : st = [] := by
      rcases hz with h | h
      · exact h
      · exfalso
        have h2 : dn.length = 200 := h
        omega
    subst hst
    simp only [Jn.alls, List.append_nil] at hd
    rw [← hd] at q
    exact q H' f fws s' hf ef hF
end

/-! ### H4 -/
section
variable {P : Program} {w : World} {K : PySem.W.Frag} {mg : Str → Option Value} {base : Heap}
abbrev s_law_over : Stmt := top 80
theorem sc_law_over : FnScope ["program", "left", "found", "turn", "joint", "over", "part"] ["program"] (defScope s_law_over) := ⟨rfl, rfl, rfl, by decide +kernel, rfl, by decide +kernel, by decide +kernel⟩
def spLo (K : PySem.W.Frag) : Sp := fun vs H Q _ => ∃ (v : V) (j : Jn), vs = [v] ∧ Rp K H v j.py ∧ j.ok ∧ j.cnt ≤ 40 ∧ ∀ (H' : Hp) (b : Addr), Same H H' → H b = none → H' b = some (.lst ((j.ups (-1) 0).map V.int)) → Q (.ref b) H'
theorem use_lo {v : V} {j : Jn} {H : Hp} {Q : VK} {E : XK} (r : Rp K H v j.py) (h : j.ok) (h1 : j.cnt ≤ 40) (q : ∀ (H' : Hp) (b : Addr), Same H H' → H b = none → H' b = some (.lst ((j.ups (-1) 0).map V.int)) → Q (.ref b) H') : spLo K [v] H Q E := ⟨v, j, rfl, r, h, h1, q⟩
theorem has_law_over (O : OwnF K mg "_law_over" s_law_over) (B : Bl mg) : HasF P w K mg base CX0 1 "_law_over" ["program"] (spLo K) := by
  refine has0 O sc_law_over (fun _ _ _ _ _ _ us hl => match us, hl with | [_], _ => rfl) (fun vs H Q E h => ?_) (fun f cdv A outer s_ H vs Q E hr h => ?_)
  · obtain ⟨v, j, rfl, _⟩ := h
    rfl
  obtain ⟨v, j, rfl, r, hok, h40, q⟩ := h
  refine ⟨_, (pss_cons (ps_asg (pe_tup (pa_cons (pe_lst (pa_cons (pe_tup (pa_cons (pv 0) (pa_cons (pe_un un_neg pe_int) pa_nil))) pa_nil)) (pa_cons (pe_lst pa_nil) pa_nil))) (pg_tupK (n := 2) K rfl (pgs_cons (pg_name (i := 1) sc_law_over.nd rfl (by first | exact Or.inl rfl | exact Or.inr rfl)) (pgs_cons (pg_name (i := 2) sc_law_over.nd rfl (by first | exact Or.inl rfl | exact Or.inr rfl)) pgs_nil)))) (pss_cons (ps_for PassesOwn.never rfl (pi_range1 (by rfl) B.range (pa_cons pe_int pa_nil)) (pg_name (i := 3) sc_law_over.nd rfl (by first | exact Or.inl rfl | exact Or.inr rfl)) (pss_one (ps_if (pt_truthK K (pv 1) (by intro _; rfl)) (pss_cons (ps_asg (pe_bm0K K PySem.F.plainAttrs_list PySem.F.slot_list_pop PySem.F.type_list_pop mt_pop (pv 1)) (pg_tupK (n := 2) K rfl (pgs_cons (pg_name (i := 4) sc_law_over.nd rfl (by first | exact Or.inl rfl | exact Or.inr rfl)) (pgs_cons (pg_name (i := 5) sc_law_over.nd rfl (by first | exact Or.inl rfl | exact Or.inr rfl)) pgs_nil)))) (pss_cons (ps_set (i := 1) sc_law_over.nd rfl (by first | exact Or.inl rfl | exact Or.inr rfl) (pe_op (kAdd K) (pv 1) (pe_revK K (pe_lc (own := [("part", 6)]) (g := gName 6) (tt := tYes) rfl sc_law_over.nd (pi_tupK K (pe_ix (kIx K) (pv 4) pe_int (fun _ _ => rfl))) (blkOk_by (own := [("part", 6)]) (N := ["program", "left", "found", "turn", "joint", "over", "part"]) (sc := defScope s_law_over) (by decide +kernel)) (fun _ _ _ _ _ => (pg_name (i := 6) sc_law_over.nd rfl (by first | exact Or.inl rfl | exact Or.inr rfl))) (fun _ _ _ _ _ => pts_nil) (fun _ _ _ _ _ => (pe_tup (pa_cons (pv 6) (pa_cons (pe_callB (kLen K) (by rfl) B.len (by decide +kernel) (pa_cons (pv 2) pa_nil)) pa_nil)))))))) (pss_one (ps_expr (pe_bmK K PySem.F.plainAttrs_list PySem.F.slot_list_append PySem.F.type_list_append mt_append (pv 2) (pa_cons (pv 5) pa_nil)))))) pss_nil))) (pss_one (ps_ret (pv 2))))), ?_⟩
  refine st0 [some v, none, none, none, none, none, none] rfl ?_
  walk_at "go"
  refine ⟨lk rfl, fun t0 ht0 => ?_⟩
  have pj0 : Pj K (upd H t0 (.tup [v, .int (-1)])) (.ref t0) (j, -1) := ⟨t0, v, rfl, SqT.of upd_same, r.mono (Ext.new ht0) _ _, hok⟩
  have sA := same_new ht0 (.tup [v, .int (-1)])
  generalize upd H t0 (.tup [v, .int (-1)]) = H1 at *
  walk_at "go"
  refine ⟨lk rfl, fun a0 ha0 => ?_⟩
  have sB : Same H (upd H1 a0 (.lst [.ref t0])) := Same.new sA ha0
  have e0 : (upd H1 a0 (.lst [.ref t0])) a0 = some (.lst [.ref t0]) := upd_same
  have pj1 := pj0.mono (Ext.new (o := .lst [.ref t0]) ha0)
  have hHa0 : H a0 = none := by
    cases hh : H a0 with
    | none => rfl
    | some o => rw [sA _ _ hh] at ha0; cases ha0
  generalize upd H1 a0 (.lst [.ref t0]) = H2 at *
  walk_at "go"
  refine ⟨lk rfl, fun f hf0 => ?_⟩
  have naf : a0 ≠ f := ne_of_none e0 hf0
  have hf : H f = none := by
    cases hh : H f with
    | none => rfl
    | some o => rw [sB _ _ hh] at hf0; cases hf0
  have ef1 : (upd H2 f (.lst [])) f = some (.lst []) := upd_same
  have ea1 : (upd H2 f (.lst [])) a0 = some (.lst [.ref t0]) := by rw [upd_ne naf]; exact e0
  have sC : Same H (upd H2 f (.lst [])) := Same.new sB hf0
  have pj2 := pj1.mono (Ext.new (o := .lst []) hf0)
  generalize upd H2 f (.lst []) = H3 at *
  walk_at "go"
  refine ⟨lk rfl, fun t1 ht1 => ?_⟩
  walk_at "go"
  refine rd_gtup (SqT.of upd_same) rfl ?_
  walk_at "go"
  refine forR (fun i σ H' => ∃ (a : Addr) (fs : List Int) (xs : List V) (st : List (Jn × Int)) (o3 o4 o5 o6 : Option V), σ = [some v, some (.ref a), some (.ref f), o3, o4, o5, o6] ∧ Same H H' ∧ H a = none ∧ a ≠ f ∧ H' f = some (.lst (fs.map V.int)) ∧ H' a = some (.lst xs) ∧ Pjs K H' xs st ∧ fs ++ upr st fs.length = j.ups (-1) 0 ∧ fs.length + cntp st = j.cnt ∧ (st = [] ∨ fs.length = i))
    ⟨a0, [], [.ref t0], [(j, -1)], none, none, none, none, rfl, Same.new sC ht1, hHa0, naf, same_new ht1 _ _ _ ef1, same_new ht1 _ _ _ ea1, ⟨rfl, fun i x hx => ?_⟩, by simp [upr], by simp [cntp], .inr rfl⟩ ?_ ?_
  · match i, hx with
    | 0, hx =>
      have e : V.ref t0 = x := by simpa using hx
      rw [← e]
      exact ⟨_, rfl, pj2.mono (Ext.new ht1)⟩
    | i + 1, hx => simp at hx
  · rintro i σ H' hi ⟨a, fs, xs, st, o3, o4, o5, o6, rfl, s', hHa, naf, ef, ea, hP, hu, hc, hz⟩
    have hlx := hP.length
    walk_at "go"
    match st, hP, hu, hc, hlx, hz with
    | [], hP, hu, hc, hlx, hz =>
      have hx : xs = [] := List.eq_nil_of_length_eq_zero hlx
      subst hx
      refine iteF ?_
      walk_at "go"
      exact ⟨a, fs, [], [], _, _, _, _, rfl, s', hHa, naf, ef, ea, hP, hu, hc, .inl rfl⟩
    | (.mk op td parts, w) :: r0, hP, hu, hc, hlx, hz =>
      have hdi : fs.length = i := hz.resolve_left (by simp)
      obtain ⟨u, eu, ⟨b, u1, rfl, hsb, hru, hko⟩, hP2⟩ := hP.pop
      have hne : (!xs.isEmpty) = true := by cases xs with
        | nil => cases hlx
        | cons _ _ => rfl
      rw [hne]
      refine iteT ?_
      walk_at "go"
      refine u_pop ea eu ?_
      have xD : Ext K H' (upd H' a (.lst xs.dropLast)) := Ext.set ea trivial
      have s2 : Same H (upd H' a (.lst xs.dropLast)) := Same.upd_new s' hHa
      have ef2 : (upd H' a (.lst xs.dropLast)) f = some (.lst (fs.map V.int)) := by rw [upd_ne naf.symm]; exact ef
      have ea2 : (upd H' a (.lst xs.dropLast)) a = some (.lst xs.dropLast) := upd_same
      have hP3 := hP2.mono xD
      have ru2 := hru.mono xD _ _
      have hsb2 := xD _ _ hsb
      generalize upd H' a (.lst xs.dropLast) = H2 at *
      walk_at "go"
      refine rd_gtup hsb2 rfl ?_
      walk_at "go"
      simp only [cntp, Jn.cnt] at hc
      have hko' := hko
      simp only [Jn.ok] at hko'
      obtain ⟨_, _, _, hp4, hpk⟩ := hko'
      have lr := cntp_len r0
      have lx2 : xs.length = r0.length + 1 := by simpa using hlx
      obtain ⟨pj, t, qa, tv, pvs, rfl, hsj, _, _, hsq, hRq⟩ := ru2.jn
      have hlq : pvs.length = parts.length := by rw [hRq.length, pys_length]
      refine u_ixT hsj rfl ?_
      walk_at "go"
      intro D hD
      refine lc_tup (K := K) (a := qa) (xs := pvs) (fun k H' => ∃ ys, H' D = some (.lst ys) ∧ ys.length = k ∧ (∀ (i : Nat) (y : V), ys[i]? = some y → ∃ jx, parts[i]? = some jx ∧ Pj K H' y (jx, (fs.length : Int))) ∧ Same H2 H') ⟨[], upd_same, rfl, (fun i y hy => by simp at hy), Same.upd_new (Same.refl H2) hD⟩ ?_ ?_ ?_
      · rintro k H5 hk ⟨ys, f1, f2, f3, f4⟩
        exact Ext.of_same f4 _ _ hsq
      · rintro k y H5 hy ⟨ys, f1, f2, f3, f4⟩
        have kl : k < pvs.length := (List.getElem?_eq_some_iff.mp hy).1
        obtain ⟨jx, ex, k2⟩ := hRq.part hy
        have jm : jx ∈ parts := List.mem_of_getElem? ex
        walk_at "go"
        refine ⟨rfl, ?_⟩
        walk_at "go"
        refine u_lenL (SqL.of (f4 _ _ ef2)) ?_
        walk_at "go"
        rw [List.length_map]
        refine ⟨lk rfl, fun t9 ht9 => ?_⟩
        have f5 : (upd H5 t9 (.tup [y, .int (fs.length : Int)])) D = some (.lst ys) := by rw [upd_ne (ne_of_none f1 ht9)]; exact f1
        have x5 : Ext K H5 (upd H5 t9 (.tup [y, .int (fs.length : Int)])) := Ext.new ht9
        have pj5 : Pj K (upd H5 t9 (.tup [y, .int (fs.length : Int)])) (.ref t9) (jx, (fs.length : Int)) := ⟨t9, y, rfl, SqT.of upd_same, (k2.mono (Ext.of_same f4) _ _).mono x5 _ _, oks_mem hpk jm⟩
        have s5 : Same H2 (upd H5 t9 (.tup [y, .int (fs.length : Int)])) := Same.new f4 ht9
        generalize upd H5 t9 (.tup [y, .int (fs.length : Int)]) = H6 at *
        have x6 : Ext K H6 (upd H6 D (.lst (ys ++ [.ref t9]))) := Ext.set f5 trivial
        refine ⟨ys, f5, by rw [f2]; exact ls (by omega), ys ++ [.ref t9], upd_same, by rw [List.length_append, f2] <;> rfl, fun i z hz => ?_, Same.upd_new s5 hD⟩
        by_cases hi : i < ys.length
        · rw [List.getElem?_append_left hi] at hz
          obtain ⟨jz, z1, z2⟩ := f3 i z hz
          exact ⟨jz, z1, (z2.mono x5).mono x6⟩
        · rw [List.getElem?_append_right (by omega)] at hz
          have hi2 : i - ys.length = 0 := by
            by_cases h0 : i - ys.length = 0
            · exact h0
            · obtain ⟨n, hn⟩ : ∃ n, i - ys.length = n + 1 := ⟨i - ys.length - 1, by omega⟩
              rw [hn] at hz; simp at hz
          rw [hi2] at hz
          have e : V.ref t9 = z := by simpa using hz
          rw [← e]
          exact ⟨jx, by rw [show i = k by omega]; exact ex, pj5.mono x6⟩
      rintro H5 ⟨ys, f1, f2, f3, f4⟩
      refine rd_revL (SqL.of f1) ?_
      intro b9 hb9
      have nab := ne_of_none (f4 _ _ ea2) hb9
      refine u_addL (by rw [upd_ne nab]; exact f4 _ _ ea2) upd_same ?_ fun p2 hp2 => ?_
      · rw [List.length_dropLast, List.length_reverse]
        exact ll (by omega)
      have xb : Ext K H5 (upd H5 b9 (.lst ys.reverse)) := Ext.new hb9
      have s6 : Same H2 (upd H5 b9 (.lst ys.reverse)) := Same.new f4 hb9
      have g : Pjs K (upd H5 b9 (.lst ys.reverse)) ys.reverse (parts.map fun j => (j, (fs.length : Int))) := ⟨by rw [List.length_map, List.length_reverse, f2, hlq], fun i y hy => by
        rw [← List.map_reverse, List.getElem?_map]
        have hi : i < ys.reverse.length := (List.getElem?_eq_some_iff.mp hy).1
        rw [List.length_reverse] at hi
        rw [List.getElem?_reverse hi] at hy
        obtain ⟨jx, e1, e2⟩ := f3 _ y hy
        refine ⟨_, ?_, e2.mono xb⟩
        rw [List.getElem?_reverse (by omega), show parts.length - 1 - i = ys.length - 1 - i by omega, e1] <;> rfl⟩
      have hP6 := (hP3.mono (Ext.of_same s6)).app g
      have ef6 := s6 _ _ ef2
      have s7 : Same H (upd H5 b9 (.lst ys.reverse)) := s2.trans s6
      generalize upd H5 b9 (.lst ys.reverse) = H6 at *
      have nfp : f ≠ p2 := ne_of_none ef6 hp2
      have ef7 : (upd H6 p2 (.lst (xs.dropLast ++ ys.reverse))) f = some (.lst (fs.map V.int)) := by rw [upd_ne nfp]; exact ef6
      have ep7 : (upd H6 p2 (.lst (xs.dropLast ++ ys.reverse))) p2 = some (.lst (xs.dropLast ++ ys.reverse)) := upd_same
      have hP7 := hP6.mono (Ext.new (o := .lst (xs.dropLast ++ ys.reverse)) hp2)
      have s8 : Same H (upd H6 p2 (.lst (xs.dropLast ++ ys.reverse))) := Same.new s7 hp2
      have hHp : H p2 = none := by
        cases hh : H p2 with
        | none => rfl
        | some o => rw [s7 _ _ hh] at hp2; cases hp2
      generalize upd H6 p2 (.lst (xs.dropLast ++ ys.reverse)) = H7 at *
      walk_at "go"
      refine u_app ef7 (by rw [List.length_map]; exact ls (by omega)) ?_
      walk_at "go"
      refine ⟨p2, fs ++ [w], xs.dropLast ++ ys.reverse, parts.map (fun j => (j, (fs.length : Int))) ++ r0, _, _, _, _, rfl, Same.upd_new s8 hf, hHp, nfp.symm, by rw [upd_same, List.map_append] <;> rfl, by rw [upd_ne nfp.symm]; exact ep7, hP7.mono (Ext.set ef7 trivial), ?_, ?_, .inr (by rw [List.length_append, hdi] <;> rfl)⟩
      · rw [upr_app, ← hu, List.length_append]
        simp only [upr, Jn.ups, List.append_assoc, List.cons_append, List.nil_append, List.length_singleton, Jn.cnt]
        rw [show ((fs.length + 1 : Nat) : Int) = (fs.length : Int) + 1 by omega, show (fs.length : Int) + 1 + Jn.cnts parts = (fs.length : Int) + ((1 + Jn.cnts parts : Nat) : Int) by omega]
      · rw [cntp_app, List.length_append]
        simp only [List.length_singleton]
        omega
  · rintro σ H' ⟨a, fs, xs, st, o3, o4, o5, o6, rfl, s', hHa, naf, ef, ea, hP, hu, hc, hz⟩
    walk_at "go"
    have hst : st = [] := by
      rcases hz with h | h
      · exact h
      · exfalso
        have h2 : fs.length = 200 := h
        omega
    subst hst
    simp only [upr, List.append_nil] at hu
    rw [← hu] at q
    exact q H' f s' hf ef
end

/-! ### H5 -/
section
variable {P : Program} {w : World} {K : PySem.W.Frag} {mg : Str → Option Value} {base : Heap}
abbrev scKin : Scope := { kind := ScopeKind.function, names := [(".0", .local), ("x", .cell), ("range", .globalImplicit), ("len", .globalImplicit), ("over", .cell)], isGenerator := false, isCoroutine := false, more := [] }
abbrev s_law_kin : Stmt := top 81
theorem sc_law_kin : FnScope ["program", "over", "y", "x"] ["program"] (defScope s_law_kin) := ⟨rfl, rfl, rfl, by decide +kernel, rfl, by decide +kernel, by decide +kernel⟩
/-- the numbers of the parts of the joint x -/
def kinN (us : List Int) (x : Nat) : List Nat := (List.range us.length).filter fun y => decide (us[y]? = some (x : Int))
def nV (ns : List Nat) : List V := ns.map fun (n : Nat) => V.int (n : Int)
def Kns (us : List Int) (rows : List V) (H : Hp) (D : Addr) (i : Nat) : Prop := rows.length = i ∧ ∀ x, x < i → ∃ r, rows[x]? = some (.ref r) ∧ r ≠ D ∧ H r = some (.lst (nV (kinN us x)))
def spKin (K : PySem.W.Frag) : Sp := fun vs H Q _ => ∃ (v : V) (j : Jn), vs = [v] ∧ Rp K H v j.py ∧ j.ok ∧ j.cnt ≤ 40 ∧ ∀ (H' : Hp) (b : Addr) (rows : List V), Same H H' → H b = none → H' b = some (.lst rows) → Kns (j.ups (-1) 0) rows H' b j.cnt → Q (.ref b) H'
theorem has_law_kin (O : OwnF K mg "_law_kin" s_law_kin) (B : Bl mg) (h_law_over : HasF P w K mg base CX0 1 "_law_over" ["program"] (spLo K)) : HasF P w K mg base CX0 2 "_law_kin" ["program"] (spKin K) := by
  refine has0 O sc_law_kin (fun _ _ _ _ _ _ us hl => match us, hl with | [_], _ => rfl) (fun vs H Q E h => ?_) (fun f cdv A outer s_ H vs Q E hr h => ?_)
  · obtain ⟨v, j, rfl, _⟩ := h
    rfl
  obtain ⟨v, j, rfl, r, hok, h40, q⟩ := h
  refine ⟨_, (pss_cons (ps_set (i := 1) sc_law_kin.nd rfl (by first | exact Or.inl rfl | exact Or.inr rfl) (pe_callH h_law_over (hr.mono (by first | decide | omega)) (by rfl) pass0 (pa_cons (pv 0) pa_nil))) (pss_one (ps_ret (pe_lc (own := [("x", 3)]) (g := gName 3) (tt := tYes) rfl sc_law_kin.nd (pi_range1 (by rfl) B.range (pa_cons (pe_callB (kLen K) (by rfl) B.len (by decide +kernel) (pa_cons (pv 1) pa_nil)) pa_nil)) (blkOk_by (own := [("x", 3)]) (N := ["program", "over", "y", "x"]) (sc := defScope s_law_kin) (by decide +kernel)) (fun _ _ _ _ _ => (pg_name (i := 3) sc_law_kin.nd rfl (by first | exact Or.inl rfl | exact Or.inr rfl))) (fun _ _ _ _ _ => pts_nil) (fun _ _ _ _ _ => (pe_lc (own := [("y", 2)]) (g := gName 2) (tt := _) rfl sc_law_kin.nd (pi_range1 (by rfl) B.range (pa_cons (pe_callB (kLen K) (by rfl) B.len (by decide +kernel) (pa_cons (pv 1) pa_nil)) pa_nil)) (blkOk_by (own := [("y", 2)]) (N := ["program", "over", "y", "x"]) (sc := scKin) (by decide +kernel)) (fun _ _ _ _ _ => (pg_name (i := 2) sc_law_kin.nd rfl (by first | exact Or.inl rfl | exact Or.inr rfl))) (fun _ _ _ _ _ => (pts_one (pt_cmpR (kEqG K (hU hr)) (pe_ix (kIx K) (pv 1) (pv 2) (fun _ _ => rfl)) (pv 3) (nomark _)))) (fun _ _ _ _ _ => (pv 2)))))))), ?_⟩
  refine st0 [some v, none, none, none] rfl ?_
  walk_at "go"
  refine use_lo r hok h40 fun H1 b s1 hb e1 => ?_
  have hul := ups_len j (-1) 0
  generalize Jn.ups (-1) 0 j = us at *
  walk_at "go"
  rw [List.length_map, hul]
  walk_at "go"
  intro D hD
  have hHD : H D = none := by
    cases hh : H D with
    | none => rfl
    | some o => rw [s1 _ _ hh] at hD; cases hD
  refine lc_range (lo := 0) (n := j.cnt) (fun i H' => ∃ rows, H' D = some (.lst rows) ∧ Kns us rows H' D i ∧ Same H1 H') ⟨[], upd_same, ⟨rfl, fun x hx => absurd hx (by omega)⟩, Same.upd_new (Same.refl H1) hD⟩ ?_ ?_
  · rintro i H' hi ⟨rows, g1, ⟨g2, g3⟩, g4⟩
    have hi' : i < j.cnt := hi
    walk_at "go"
    refine ⟨rfl, ?_⟩
    walk_at "go"
    refine u_lenL (SqL.of (g4 _ _ e1)) ?_
    walk_at "go"
    rw [List.length_map, hul]
    walk_at "go"
    intro D2 hD2
    have n12 : D ≠ D2 := ne_of_none g1 hD2
    refine lc_range (lo := 0) (n := j.cnt) (fun k H2 => ∃ ns : List Nat, H2 D2 = some (.lst (nV ns)) ∧ ns = (List.range k).filter (fun y => decide (us[y]? = some (i : Int))) ∧ Same H' H2) ⟨[], upd_same, by simp, Same.upd_new (Same.refl H') hD2⟩ ?_ ?_
    · rintro k H2 hk ⟨ns, f1, f2, f3⟩
      have hk' : k < j.cnt := hk
      have lns : ns.length ≤ 40 := by
        have := List.length_filter_le (fun y => decide (us[y]? = some (i : Int))) (List.range k)
        rw [← f2, List.length_range] at this
        omega
      have eu : us[k]? = some us[k] := List.getElem?_eq_getElem (by omega)
      have ea : atI (us.map V.int) (0 + (k : Int)) = some (.int us[k]) := by
        rw [Int.zero_add]
        exact atI_nat (by rw [List.getElem?_map, eu] <;> rfl)
      walk_at "go"
      refine ⟨rfl, ?_⟩
      walk_at "go"
      refine u_ixL (SqL.of (f3 _ _ (g4 _ _ e1))) ea ?_
      walk_at "go"
      refine rd_split (fun c => ?_) (fun c => ?_)
      · walk_at "go"
        refine ⟨_, f1, by unfold nV; rw [List.length_map]; exact ls (by omega), ns ++ [k], ?_, ?_, Same.upd_new f3 hD2⟩
        · rw [upd_same]
          unfold nV
          rw [List.map_append]
          show some (HO.lst (List.map (fun (n : Nat) => V.int (n : Int)) ns ++ [V.int (0 + (k : Int))])) = _
          rw [Int.zero_add] <;> rfl
        · rw [List.range_succ, List.filter_append, f2]
          have : decide (us[k]? = some (i : Int)) = true := decide_eq_true (by rw [eu, c, Int.zero_add])
          rw [List.filter_cons, this] <;> rfl
      · refine ⟨ns, f1, ?_, f3⟩
        rw [List.range_succ, List.filter_append, f2]
        have : decide (us[k]? = some (i : Int)) = false := decide_eq_false (by
          rw [eu]
          intro z
          exact c (by rw [Int.zero_add]; exact Option.some.inj z))
        rw [List.filter_cons, this]
        simp
    rintro H2 ⟨ns, f1, f2, f3⟩
    have g5 := f3 _ _ g1
    refine ⟨rows, g5, by rw [g2]; exact ls (by omega), rows ++ [.ref D2], upd_same, ⟨by rw [List.length_append, g2] <;> rfl, fun x hx => ?_⟩, Same.upd_new (g4.trans f3) hD⟩
    by_cases hxi : x < i
    · obtain ⟨r, z1, z2, z3⟩ := g3 x hxi
      exact ⟨r, by rw [List.getElem?_append_left (by omega)]; exact z1, z2, by rw [upd_ne z2]; exact f3 _ _ z3⟩
    · have hx2 : x = i := by omega
      subst hx2
      refine ⟨D2, by rw [List.getElem?_append_right (by omega), g2]; simp, n12.symm, ?_⟩
      rw [upd_ne n12.symm, f1, f2]
      unfold kinN
      rw [hul]
  · rintro H2 ⟨rows, g1, g2, g3⟩
    exact q H2 D rows (s1.trans g3) hHD g1 g2
end

/-! ### H6 -/
section
variable {P : Program} {w : World} {K : PySem.W.Frag} {mg : Str → Option Value} {base : Heap}
/-- the size of a joint by what is told and its parts' sizes -/
def szOf (z : Str) (td : List PyData) (ps : List Int) : Option Int :=
  if z = "row" then some td.length else if z = "in" then (match td with | [_, .int k] => some k | _ => none) else if z ∈ ([Str.ofString "sum", Str.ofString "top", Str.ofString "dot"] : List Str) then some 1 else if z = "cat" then some ps.sum
  else if z = "outer" then (match ps with | [a, b] => some (a * b) | _ => none) else if z = "blend" then (match ps with | [a, b] => some (a + b - 1) | _ => none) else if z = "part" then (match td with | [.int i, .int k] => some (k - i) | _ => none)
  else if z = "rep" then (match td, ps with | [.int t], [a] => some (t * a) | _, _ => none) else ps.head?
theorem u_sum {a : Addr} {ns : List Int} {H : Hp} {Q : VK} (s : SqL K H a (ns.map V.int)) (h : Q (.int ns.sum) H) : rSum K [.ref a] H Q := ⟨a, ns, rfl, s, h⟩
abbrev s_size_of : Stmt := top 59
theorem sc_size_of : FnScope ["op", "told", "part_sizes"] ["op", "told", "part_sizes"] (defScope s_size_of) := ⟨rfl, rfl, rfl, by decide +kernel, rfl, by decide +kernel, by decide +kernel⟩
def spSz (K : PySem.W.Frag) : Sp := fun vs H Q _ => ∃ (z : Str) (a b : Addr) (tv : List V) (td : List PyData) (ps : List Int) (s : Int), vs = [.str z, .ref a, .ref b] ∧ SqT K H a tv ∧ Rps K H tv td ∧ SqL K H b (ps.map V.int) ∧ (∀ p ∈ ps, 1 ≤ p ∧ p ≤ 64) ∧ td.length ≤ 64 ∧ szOf z td ps = some s ∧ ∀ H', Same H H' → Q (.int s) H'
theorem has_size_of (O : OwnF K mg "size_of" s_size_of) (B : Bl mg) (BS : mg "sum" = none) : HasF P w K mg base CX0 1 "size_of" ["op", "told", "part_sizes"] (spSz K) := by
  refine has0 O sc_size_of (fun _ _ _ _ _ _ us hl => match us, hl with | [_, _, _], _ => rfl) (fun vs H Q E h => ?_) (fun f cdv A outer s_ H vs Q E hr h => ?_)
  · obtain ⟨z, a, b, tv, td, ps, s, rfl, _⟩ := h
    rfl
  obtain ⟨z, a, b, tv, td, ps, s, rfl, hT, hR, hL, hps, h64, hz, q⟩ := h
  have ltv := hR.length
  unfold szOf at hz
  refine ⟨_, (pss_cons (ps_if (pt_cmpR (kEqG K (hU hr)) (pv 0) pe_str (nomark _)) (pss_one (ps_ret (pe_callB (kLen K) (by rfl) B.len (by decide +kernel) (pa_cons (pv 1) pa_nil)))) pss_nil) (pss_cons (ps_if (pt_cmpR (kEqG K (hU hr)) (pv 0) pe_str (nomark _)) (pss_one (ps_ret (pe_ix (kIx K) (pv 1) pe_int (fun _ _ => rfl)))) pss_nil) (pss_cons (ps_if (pt_cmpR (kIn K) (pv 0) (pe_tup (pa_cons pe_str (pa_cons pe_str (pa_cons pe_str pa_nil)))) (by rfl)) (pss_one (ps_ret pe_int)) pss_nil) (pss_cons (ps_if (pt_cmpR (kEqG K (hU hr)) (pv 0) pe_str (nomark _)) (pss_one (ps_ret (pe_callB (kSum K rfl) (by rfl) BS (by decide +kernel) (pa_cons (pv 2) pa_nil)))) pss_nil) (pss_cons (ps_if (pt_cmpR (kEqG K (hU hr)) (pv 0) pe_str (nomark _)) (pss_one (ps_ret (pe_op (kMul K) (pe_ix (kIx K) (pv 2) pe_int (fun _ _ => rfl)) (pe_ix (kIx K) (pv 2) pe_int (fun _ _ => rfl))))) pss_nil) (pss_cons (ps_if (pt_cmpR (kEqG K (hU hr)) (pv 0) pe_str (nomark _)) (pss_one (ps_ret (pe_op subU (pe_op (kAdd K) (pe_ix (kIx K) (pv 2) pe_int (fun _ _ => rfl)) (pe_ix (kIx K) (pv 2) pe_int (fun _ _ => rfl))) pe_int))) pss_nil) (pss_cons (ps_if (pt_cmpR (kEqG K (hU hr)) (pv 0) pe_str (nomark _)) (pss_one (ps_ret (pe_op subU (pe_ix (kIx K) (pv 1) pe_int (fun _ _ => rfl)) (pe_ix (kIx K) (pv 1) pe_int (fun _ _ => rfl))))) pss_nil) (pss_cons (ps_if (pt_cmpR (kEqG K (hU hr)) (pv 0) pe_str (nomark _)) (pss_one (ps_ret (pe_op (kMul K) (pe_ix (kIx K) (pv 1) pe_int (fun _ _ => rfl)) (pe_ix (kIx K) (pv 2) pe_int (fun _ _ => rfl))))) pss_nil) (pss_one (ps_ret (pe_ix (kIx K) (pv 2) pe_int (fun _ _ => rfl)))))))))))), ?_⟩
  refine st0 [some (.str z), some (.ref a), some (.ref b)] rfl ?_
  walk_at "go"
  refine rd_split (fun c => ?_) (fun c => ?_)
  · rw [if_pos c] at hz
    cases hz
    walk_at "go"
    rw [ltv]
    exact q _ (Same.refl H)
  rw [if_neg c] at hz
  walk_at "go"
  refine rd_split (fun c1 => ?_) (fun c1 => ?_)
  · rw [if_pos c1] at hz
    split at hz
    · rename_i x k
      cases hz
      cases hR with
      | cons r1 r2 =>
        cases r2 with
        | cons r3 r4 =>
          cases r4
          cases r3
          walk_at "go"
          refine u_ixT hT rfl ?_
          exact q _ (Same.refl H)
    · cases hz
  rw [if_neg c1] at hz
  walk_at "go"
  refine ⟨lk rfl, fun p1 hp1 => ?_⟩
  have s1 := same_new hp1 (.tup [V.str (Str.ofString "sum"), .str (Str.ofString "top"), .str (Str.ofString "dot")])
  have m1 : inV (.str z) ([Str.ofString "sum", Str.ofString "top", Str.ofString "dot"].map V.str) = decide (z ∈ ([Str.ofString "sum", Str.ofString "top", Str.ofString "dot"] : List Str)) := inV_str z _
  walk_at "go"
  refine u_inT (xs := [Str.ofString "sum", Str.ofString "top", Str.ofString "dot"].map V.str) (SqT.of upd_same) rfl (flat_strs _) ?_
  rw [m1]
  walk_at "go"
  have hT1 := Ext.of_same (K := K) s1 _ _ hT
  have hL1 : SqL K (upd H p1 (.tup [V.str (Str.ofString "sum"), .str (Str.ofString "top"), .str (Str.ofString "dot")])) b (ps.map V.int) := Same.seq s1 hL
  generalize upd H p1 (.tup [V.str (Str.ofString "sum"), .str (Str.ofString "top"), .str (Str.ofString "dot")]) = H1 at *
  refine rd_split (fun c2 => ?_) (fun c2 => ?_)
  · rw [if_pos c2] at hz
    cases hz
    walk_at "go"
    exact q _ s1
  rw [if_neg c2] at hz
  walk_at "go"
  refine rd_split (fun c3 => ?_) (fun c3 => ?_)
  · rw [if_pos c3] at hz
    cases hz
    walk_at "go"
    exact u_sum hL1 (q _ s1)
  rw [if_neg c3] at hz
  walk_at "go"
  refine rd_split (fun c4 => ?_) (fun c4 => ?_)
  · rw [if_pos c4] at hz
    split at hz
    · rename_i x y
      cases hz
      have bx := hps x (by simp)
      walk_at "go"
      exact q _ s1
    · cases hz
  rw [if_neg c4] at hz
  walk_at "go"
  refine rd_split (fun c5 => ?_) (fun c5 => ?_)
  · rw [if_pos c5] at hz
    split at hz
    · cases hz
      walk_at "go"
      exact q _ s1
    · cases hz
  rw [if_neg c5] at hz
  walk_at "go"
  refine rd_split (fun c6 => ?_) (fun c6 => ?_)
  · rw [if_pos c6] at hz
    split at hz
    · cases hz
      cases hR with
      | cons r1 r2 =>
        cases r2 with
        | cons r3 r4 =>
          cases r4
          cases r3
          cases r1
          walk_at "go"
          refine u_ixT hT1 rfl ?_
          walk_at "go"
          refine u_ixT hT1 rfl ?_
          walk_at "go"
          exact q _ s1
    · cases hz
  rw [if_neg c6] at hz
  walk_at "go"
  refine rd_split (fun c7 => ?_) (fun c7 => ?_)
  · rw [if_pos c7] at hz
    split at hz
    · rename_i t x
      cases hz
      have bx := hps x (by simp)
      cases hR with
      | cons r1 r2 =>
        cases r2
        cases r1
        walk_at "go"
        refine u_ixT hT1 rfl ?_
        walk_at "go"
        exact q _ s1
    · cases hz
  rw [if_neg c7] at hz
  walk_at "go"
  cases ps with
  | nil => cases hz
  | cons x r =>
    cases hz
    exact u_ixL hL1 (show atI ((s :: r).map V.int) ((0 : Nat) : Int) = some (.int s) from atI_nat rfl) (q _ s1)
end
end Mine

/-! ### H8 -/
set_option maxHeartbeats 400000
namespace Mine
open PySem PySem.Spec L2
/-! ## parts by number -/
/-- the numbers of the joints of a row of boughs, the first one's n -/
def tops (n : Nat) : List Jn → List Nat
  | [] => []
  | j :: r => n :: tops (n + j.cnt) r
/-- where x stands, numbered from n on -/
def posn (x : Int) : Nat → List Int → List Nat
  | _, [] => []
  | n, u :: r => if u = x then n :: posn x (n + 1) r else posn x (n + 1) r
theorem posn_app (x : Int) : ∀ (a b : List Int) (n : Nat), posn x n (a ++ b) = posn x n a ++ posn x (n + a.length) b
  | [], b, n => by simp [posn]
  | u :: r, b, n => by
    have e : n + (u :: r).length = n + 1 + r.length := by simp; omega
    simp only [List.cons_append, posn, posn_app x r b (n + 1), e]
    split <;> simp
theorem posn_no {x : Int} : ∀ {a : List Int} {n : Nat}, (∀ u ∈ a, u ≠ x) → posn x n a = []
  | [], _, _ => rfl
  | u :: r, n, h => by
    simp only [posn]
    rw [if_neg (h u List.mem_cons_self)]
    exact posn_no fun y hy => h y (List.mem_cons_of_mem _ hy)
theorem ups_in : ∀ (j : Jn) (w n : Int), ∀ u ∈ j.ups w n, u = w ∨ (n ≤ u ∧ u < n + j.cnt) := by
  intro j
  exact (Jn.rec (motive_1 := fun j => ∀ w n, ∀ u ∈ Jn.ups w n j, u = w ∨ (n ≤ u ∧ u < n + j.cnt)) (motive_2 := fun l => ∀ w n, ∀ u ∈ Jn.upsl w n l, u = w ∨ (n ≤ u ∧ u < n + Jn.cnts l))
    (fun op td parts ih w n u hu => by
      simp only [Jn.ups, List.mem_cons] at hu
      simp only [Jn.cnt]
      rcases hu with rfl | hu
      · exact .inl rfl
      · have := ih n (n + 1) u hu
        omega)
    (fun w n u hu => by simp [Jn.upsl] at hu)
    (fun j r ih1 ih2 w n u hu => by
      simp only [Jn.upsl, List.mem_append] at hu
      simp only [Jn.cnts]
      rcases hu with hu | hu
      · have := ih1 w n u hu; omega
      · have := ih2 w (n + j.cnt) u hu; omega) j)
theorem upsl_in : ∀ (l : List Jn) (w n : Int), ∀ u ∈ Jn.upsl w n l, u = w ∨ (n ≤ u ∧ u < n + Jn.cnts l)
  | [], w, n, u, hu => by simp [Jn.upsl] at hu
  | j :: r, w, n, u, hu => by
    simp only [Jn.upsl, List.mem_append] at hu
    simp only [Jn.cnts]
    rcases hu with hu | hu
    · have := ups_in j w n u hu; omega
    · have := upsl_in r w (n + j.cnt) u hu; omega
theorem posn_top {w : Int} {j : Jn} {n : Nat} (h : w < n) : posn w n (j.ups w n) = [n] := by
  obtain ⟨op, td, parts⟩ := j
  simp only [Jn.ups, posn, if_true]
  rw [posn_no]
  intro u hu
  have := upsl_in parts n (n + 1) u hu
  omega
theorem posn_tops {w : Int} : ∀ (l : List Jn) (n : Nat), w < n → posn w n (Jn.upsl w n l) = tops n l
  | [], n, h => rfl
  | j :: r, n, h => by
    simp only [Jn.upsl, posn_app, tops, posn_top h, ups_len]
    have := posn_tops r (n + j.cnt) (w := w) (by omega)
    rw [show (n : Int) + (j.cnt : Int) = ((n + j.cnt : Nat) : Int) by omega, this] <;> rfl
/-- the numbers of the parts of the joint x -/
theorem kin_at : ∀ (j : Jn) (w : Int) (n x : Nat), w < n → n ≤ x → x < n + j.cnt → ∀ op td parts, j.all[x - n]? = some (.mk op td parts) → posn x n (j.ups w n) = tops (x + 1) parts := by
  intro j
  exact (Jn.rec (motive_1 := fun j => ∀ (w : Int) (n x : Nat), w < n → n ≤ x → x < n + j.cnt → ∀ op td parts, j.all[x - n]? = some (.mk op td parts) → posn x n (j.ups w n) = tops (x + 1) parts)
    (motive_2 := fun l => ∀ (w : Int) (n x : Nat), w < n → n ≤ x → x < n + Jn.cnts l → ∀ op td parts, (Jn.alls l)[x - n]? = some (.mk op td parts) → posn x n (Jn.upsl w n l) = tops (x + 1) parts)
    (fun op td ps ih w n x hw h1 h2 op' td' parts e => by
      simp only [Jn.ups, posn]
      rw [if_neg (by omega)]
      simp only [Jn.all] at e
      simp only [Jn.cnt] at h2
      by_cases hx : x = n
      · subst hx
        rw [Nat.sub_self] at e
        have e' : ps = parts := by
          have := Option.some.inj e
          cases this
          rfl
        subst e'
        have := posn_tops (w := x) ps (x + 1) (by omega)
        rw [show (x : Int) + 1 = ((x + 1 : Nat) : Int) by omega]
        exact this
      · obtain ⟨y, hy⟩ : ∃ y, x - n = y + 1 := ⟨x - n - 1, by omega⟩
        rw [hy, List.getElem?_cons_succ, show y = x - (n + 1) by omega] at e
        have := ih n (n + 1) x (by omega) (by omega) (by omega) op' td' parts e
        rw [show (n : Int) + 1 = ((n + 1 : Nat) : Int) by omega]
        exact this)
    (fun w n x hw h1 h2 op td parts e => by simp [Jn.alls] at e)
    (fun j r ih1 ih2 w n x hw h1 h2 op td parts e => by
      simp only [Jn.upsl, posn_app, ups_len]
      simp only [Jn.cnts] at h2
      simp only [Jn.alls] at e
      rw [show (n : Int) + (j.cnt : Int) = ((n + j.cnt : Nat) : Int) by omega]
      by_cases hx : x < n + j.cnt
      · rw [List.getElem?_append_left (by rw [all_cnt]; omega)] at e
        rw [ih1 w n x hw h1 hx op td parts e, posn_no, List.append_nil]
        intro u hu
        have := upsl_in r w _ u hu
        omega
      · rw [List.getElem?_append_right (by rw [all_cnt]; omega), all_cnt, show x - n - j.cnt = x - (n + j.cnt) by omega] at e
        rw [ih2 w (n + j.cnt) x (by omega) (by omega) (by omega) op td parts e, posn_no, List.nil_append]
        intro u hu
        have := ups_in j w n u hu
        omega) j)
theorem filter_posn (x : Int) : ∀ (us : List Int) (n : Nat), ((List.range us.length).filter fun y => decide (us[y]? = some x)).map (· + n) = posn x n us
  | [], n => rfl
  | u :: r, n => by
    have ih := filter_posn x r (n + 1)
    simp only [posn]
    rw [List.length_cons, List.range_succ_eq_map, List.filter_cons, List.filter_map, ← ih]
    have e0 : decide ((u :: r)[0]? = some x) = decide (u = x) := by simp
    rw [e0]
    have e1 : ((fun y => decide ((u :: r)[y]? = some x)) ∘ Nat.succ) = fun y => decide (r[y]? = some x) := by
      funext y
      simp
    rw [e1]
    by_cases c : u = x
    · simp [c, Function.comp_def, Nat.add_assoc, Nat.add_comm 1 n]
    · simp [c, Function.comp_def, Nat.add_assoc, Nat.add_comm 1 n]
end Mine

/-! ### H9 -/
set_option maxHeartbeats 400000
namespace Mine
open PySem PySem.Spec L2
/-! ## joints and sizes by number -/
theorem tops_len : ∀ (l : List Jn) (n : Nat), (tops n l).length = l.length
  | [], n => rfl
  | j :: r, n => by simp only [tops, List.length_cons, tops_len r]
theorem alls_top : ∀ (l : List Jn) (n i : Nat) (j : Jn), l[i]? = some j → ∃ t, (tops n l)[i]? = some t ∧ n ≤ t ∧ t < n + Jn.cnts l ∧ (Jn.alls l)[t - n]? = some j
  | [], n, i, j, e => by simp at e
  | x :: r, n, 0, j, e => by
    have q : x = j := by simpa using e
    subst q
    have := cnt_pos x
    refine ⟨n, rfl, Nat.le_refl _, by simp only [Jn.cnts]; omega, ?_⟩
    rw [Nat.sub_self]
    obtain ⟨op, td, parts⟩ := x
    simp [Jn.alls, Jn.all]
  | x :: r, n, i + 1, j, e => by
    obtain ⟨t, t1, t2, t3, t4⟩ := alls_top r (n + x.cnt) i j (by simpa using e)
    refine ⟨t, by simpa [tops] using t1, by omega, by simp only [Jn.cnts]; omega, ?_⟩
    simp only [Jn.alls]
    rw [List.getElem?_append_right (by rw [all_cnt]; omega), all_cnt, show t - n - x.cnt = t - (n + x.cnt) by omega]
    exact t4
/-- what stands behind a joint is its parts' joints -/
theorem all_behind : ∀ (j : Jn) (x : Nat) (op : Str) (td : List PyData) (parts : List Jn), j.all[x]? = some (.mk op td parts) → x + Jn.cnts parts < j.cnt ∧ ∀ k, k < Jn.cnts parts → j.all[x + 1 + k]? = (Jn.alls parts)[k]? := by
  intro j
  exact (Jn.rec (motive_1 := fun j => ∀ (x : Nat) (op : Str) (td : List PyData) (parts : List Jn), j.all[x]? = some (.mk op td parts) → x + Jn.cnts parts < j.cnt ∧ ∀ k, k < Jn.cnts parts → j.all[x + 1 + k]? = (Jn.alls parts)[k]?)
    (motive_2 := fun l => ∀ (x : Nat) (op : Str) (td : List PyData) (parts : List Jn), (Jn.alls l)[x]? = some (.mk op td parts) → x + Jn.cnts parts < Jn.cnts l ∧ ∀ k, k < Jn.cnts parts → (Jn.alls l)[x + 1 + k]? = (Jn.alls parts)[k]?)
    (fun op td ps ih x op' td' parts e => by
      simp only [Jn.all, Jn.cnt] at e ⊢
      cases x with
      | zero =>
        have e' := Option.some.inj e
        cases e'
        exact ⟨by omega, fun k hk => by rw [show 0 + 1 + k = k + 1 by omega, List.getElem?_cons_succ]⟩
      | succ y =>
        rw [List.getElem?_cons_succ] at e
        obtain ⟨b1, b2⟩ := ih y op' td' parts e
        exact ⟨by omega, fun k hk => by
          rw [show y + 1 + 1 + k = (y + 1 + k) + 1 by omega, List.getElem?_cons_succ]
          exact b2 k hk⟩)
    (fun x op td parts e => by simp [Jn.alls] at e)
    (fun j r ih1 ih2 x op td parts e => by
      simp only [Jn.alls, Jn.cnts] at e ⊢
      by_cases hx : x < j.cnt
      · rw [List.getElem?_append_left (by rw [all_cnt]; exact hx)] at e
        obtain ⟨b1, b2⟩ := ih1 x op td parts e
        exact ⟨by omega, fun k hk => by
          rw [List.getElem?_append_left (by rw [all_cnt]; omega)]
          exact b2 k hk⟩
      · rw [List.getElem?_append_right (by rw [all_cnt]; omega), all_cnt] at e
        obtain ⟨b1, b2⟩ := ih2 _ op td parts e
        exact ⟨by omega, fun k hk => by
          rw [List.getElem?_append_right (by rw [all_cnt]; omega), all_cnt, show x + 1 + k - j.cnt = x - j.cnt + 1 + k by omega]
          exact b2 k hk⟩) j)
/-- the parts of the joint x stand at their numbers -/
theorem part_at {j : Jn} {x i : Nat} {op : Str} {td : List PyData} {parts : List Jn} {p : Jn} (h : j.all[x]? = some (.mk op td parts)) (hp : parts[i]? = some p) : ∃ t, (tops (x + 1) parts)[i]? = some t ∧ x < t ∧ t < j.cnt ∧ j.all[t]? = some p := by
  obtain ⟨b1, b2⟩ := all_behind j x op td parts h
  obtain ⟨t, t1, t2, t3, t4⟩ := alls_top parts (x + 1) i p hp
  refine ⟨t, t1, by omega, by omega, ?_⟩
  have := b2 (t - (x + 1)) (by omega)
  rw [show x + 1 + (t - (x + 1)) = t by omega, t4] at this
  exact this
/-! ## the sizes -/
/-- every joint of a program that fits has its size -/
theorem Gd.sub {ks : Nat → Int} {j : Jn} {s : Int} (g : Gd ks j s) : ∀ x ∈ j.all, ∃ t, Gd ks x t := by
  have top : ∀ {j : Jn} {s : Int}, Gd ks j s → ∀ (op : Str) (td : List PyData) (l : List Jn), (∀ p ∈ l, ∀ x ∈ p.all, ∃ t, Gd ks x t) → j = .mk op td l → ∀ x ∈ j.all, ∃ t, Gd ks x t := by
    intro j s g op td l hl e x hx
    subst e
    simp only [Jn.all, List.mem_cons] at hx
    rcases hx with rfl | hx
    · exact ⟨s, g⟩
    · clear g
      induction l with
      | nil => simp [Jn.alls] at hx
      | cons p r ih =>
        simp only [Jn.alls, List.mem_append] at hx
        rcases hx with hx | hx
        · exact hl p List.mem_cons_self x hx
        · exact ih (fun q hq => hl q (List.mem_cons_of_mem _ hq)) hx
  have l1 : ∀ {j : Jn}, (∀ x ∈ j.all, ∃ t, Gd ks x t) → ∀ p ∈ [j], ∀ x ∈ p.all, ∃ t, Gd ks x t := fun h p hp => by
    rw [show p = _ by simpa using hp]; exact h
  have l2 : ∀ {j l : Jn}, (∀ x ∈ j.all, ∃ t, Gd ks x t) → (∀ x ∈ l.all, ∃ t, Gd ks x t) → ∀ p ∈ [j, l], ∀ x ∈ p.all, ∃ t, Gd ks x t := fun h k p hp => by
    simp only [List.mem_cons, List.not_mem_nil, or_false] at hp
    rcases hp with rfl | rfl
    · exact h
    · exact k
  have lc : ∀ {j : Jn} {l : List Jn}, (∀ x ∈ j.all, ∃ t, Gd ks x t) → (∀ p ∈ l, ∀ x ∈ p.all, ∃ t, Gd ks x t) → ∀ p ∈ j :: l, ∀ x ∈ p.all, ∃ t, Gd ks x t := fun h k p hp => by
    rcases List.mem_cons.mp hp with rfl | hp
    · exact h
    · exact k p hp
  induction g with
  | inp i hi h1 h2 => exact top (.inp i hi h1 h2) _ _ _ (fun _ z => by cases z) rfl
  | row ns h1 h2 h => exact top (.row ns h1 h2 h) _ _ _ (fun _ z => by cases z) rfl
  | same op h g ih => exact top (.same op h g) _ _ _ (l1 ih) rfl
  | unit op h g ih => exact top (.unit op h g) _ _ _ (l1 ih) rfl
  | hold n h1 h2 g ih => exact top (.hold n h1 h2 g) _ _ _ (l1 ih) rfl
  | part i k h1 h2 h3 g ih => exact top (.part i k h1 h2 h3 g) _ _ _ (l1 ih) rfl
  | rep t h1 h2 h3 g ih => exact top (.rep t h1 h2 h3 g) _ _ _ (l1 ih) rfl
  | pair op h g g2 ih1 ih2 => exact top (.pair op h g g2) _ _ _ (l2 ih1 ih2) rfl
  | dot g g2 ih1 ih2 => exact top (.dot g g2) _ _ _ (l2 ih1 ih2) rfl
  | outer h g g2 ih1 ih2 => exact top (.outer h g g2) _ _ _ (l2 ih1 ih2) rfl
  | blend h g g2 ih1 ih2 => exact top (.blend h g g2) _ _ _ (l2 ih1 ih2) rfl
  | cat h g g2 ih1 ih2 => exact top (.cat h g g2) _ _ _ (l2 ih1 ih2) rfl
  | cat3 h g g2 g3 ih1 ih2 ih3 => exact top (.cat3 h g g2 g3) _ _ _ (lc ih1 (l2 ih2 ih3)) rfl
  | cat4 h g g2 g3 g4 ih1 ih2 ih3 ih4 => exact top (.cat4 h g g2 g3 g4) _ _ _ (lc ih1 (lc ih2 (l2 ih3 ih4))) rfl
end Mine

/-! ### HA -/
set_option maxHeartbeats 400000
namespace Mine
open PySem PySem.Spec L2
theorem ne_same {op : Str} (h : op ∈ opsSame) : op ≠ "row" ∧ op ≠ "in" ∧ op ∉ ([Str.ofString "sum", Str.ofString "top", Str.ofString "dot"] : List Str) ∧ op ≠ "outer" ∧ op ≠ "blend" ∧ op ≠ "part" ∧ op ≠ "rep" := by
  have k : ∀ y ∈ opsSame, y ≠ "row" ∧ y ≠ "in" ∧ y ∉ ([Str.ofString "sum", Str.ofString "top", Str.ofString "dot"] : List Str) ∧ y ≠ "outer" ∧ y ≠ "blend" ∧ y ≠ "part" ∧ y ≠ "rep" := by decide +kernel
  exact k op h
theorem sz_same {op : Str} {s : Int} (h : op ∈ opsSame) : szOf op [] [s] = some s := by
  obtain ⟨h1, h2, h3, h4, h5, h6, h7⟩ := ne_same h
  unfold szOf
  rw [if_neg h1, if_neg h2, if_neg h3]
  split
  · simp
  · rfl
theorem sz_unit {op : Str} {s : Int} (h : op ∈ opsUnit) : szOf op [] [s] = some 1 := by
  have k : ∀ y ∈ opsUnit, y ≠ "row" ∧ y ≠ "in" ∧ y ∈ ([Str.ofString "sum", Str.ofString "top", Str.ofString "dot"] : List Str) := by decide +kernel
  obtain ⟨h1, h2, h3⟩ := k op h
  unfold szOf
  rw [if_neg h1, if_neg h2, if_pos h3]
theorem sz_pair {op : Str} {s : Int} (h : op ∈ opsPair) : szOf op [] [s, s] = some s := by
  have k : ∀ y ∈ opsPair, y ≠ "row" ∧ y ≠ "in" ∧ y ∉ ([Str.ofString "sum", Str.ofString "top", Str.ofString "dot"] : List Str) ∧ y ≠ "cat" ∧ y ≠ "outer" ∧ y ≠ "blend" ∧ y ≠ "part" ∧ y ≠ "rep" := by decide +kernel
  obtain ⟨h1, h2, h3, h4, h5, h6, h7, h8⟩ := k op h
  unfold szOf
  rw [if_neg h1, if_neg h2, if_neg h3, if_neg h4, if_neg h5, if_neg h6, if_neg h7, if_neg h8] <;> rfl
/-- sizes of a row of programs that fit -/
inductive Gds (ks : Nat → Int) : List Jn → List Int → Prop
  | nil : Gds ks [] []
  | cons {j : Jn} {s : Int} {l : List Jn} {ps : List Int} : Gd ks j s → Gds ks l ps → Gds ks (j :: l) (s :: ps)
theorem Gd.step {ks : Nat → Int} {op : Str} {td : List PyData} {parts : List Jn} {s : Int} (g : Gd ks (.mk op td parts) s) : ∃ ps, Gds ks parts ps ∧ szOf op td ps = some s := by
  cases g with
  | inp i hi h1 h2 => exact ⟨[], .nil, rfl⟩
  | row ns h1 h2 h => exact ⟨[], .nil, by show some ((ns.map PyData.int).length : Int) = _; rw [List.length_map]⟩
  | same op h g => exact ⟨[_], .cons g .nil, sz_same h⟩
  | unit op h g => exact ⟨[_], .cons g .nil, sz_unit h⟩
  | hold n h1 h2 g => exact ⟨[_], .cons g .nil, rfl⟩
  | part i k h1 h2 h3 g => exact ⟨[_], .cons g .nil, rfl⟩
  | rep t h1 h2 h3 g => exact ⟨[_], .cons g .nil, by rw [Int.mul_comm] <;> rfl⟩
  | pair op h g g2 => exact ⟨[_, _], .cons g (.cons g2 .nil), sz_pair h⟩
  | dot g g2 => exact ⟨[_, _], .cons g (.cons g2 .nil), rfl⟩
  | outer h g g2 => exact ⟨[_, _], .cons g (.cons g2 .nil), rfl⟩
  | blend h g g2 => exact ⟨[_, _], .cons g (.cons g2 .nil), rfl⟩
  | cat h g g2 => exact ⟨[_, _], .cons g (.cons g2 .nil), by show some ([_, _] : List Int).sum = _; simp⟩
  | cat3 h g g2 g3 => exact ⟨[_, _, _], .cons g (.cons g2 (.cons g3 .nil)), by show some ([_, _, _] : List Int).sum = _; simp [Int.add_assoc]⟩
  | cat4 h g g2 g3 g4 => exact ⟨[_, _, _, _], .cons g (.cons g2 (.cons g3 (.cons g4 .nil))), by show some ([_, _, _, _] : List Int).sum = _; simp [Int.add_assoc]⟩
/-- a program that fits has one size -/
theorem Gd.one {ks : Nat → Int} {j : Jn} {s : Int} (g : Gd ks j s) : ∀ {t : Int}, Gd ks j t → s = t := by
  have k : ∀ {op : Str} {td : List PyData} {parts : List Jn} {s t : Int}, (∀ {ps qs : List Int}, Gds ks parts ps → Gds ks parts qs → ps = qs) → Gd ks (.mk op td parts) s → Gd ks (.mk op td parts) t → s = t := by
    intro op td parts s t h g1 g2
    obtain ⟨ps, a1, a2⟩ := g1.step
    obtain ⟨qs, b1, b2⟩ := g2.step
    rw [h a1 b1, b2] at a2
    exact (Option.some.inj a2).symm
  have p0 : ∀ {ps qs : List Int}, Gds ks [] ps → Gds ks [] qs → ps = qs := fun a b => by cases a; cases b; rfl
  have p1 : ∀ {j : Jn} {s : Int}, (∀ {t : Int}, Gd ks j t → s = t) → ∀ {ps qs : List Int}, Gds ks [j] ps → Gds ks [j] qs → ps = qs := by
    intro j s ih ps qs a b
    cases a with
    | cons a1 a2 =>
      cases a2
      cases b with
      | cons b1 b2 =>
        cases b2
        rw [← ih a1, ← ih b1]
  have p2 : ∀ {j l : Jn} {s r : Int}, (∀ {t : Int}, Gd ks j t → s = t) → (∀ {t : Int}, Gd ks l t → r = t) → ∀ {ps qs : List Int}, Gds ks [j, l] ps → Gds ks [j, l] qs → ps = qs := by
    intro j l s r ih ih2 ps qs a b
    cases a with
    | cons a1 a2 =>
      cases a2 with
      | cons a3 a4 =>
        cases a4
        cases b with
        | cons b1 b2 =>
          cases b2 with
          | cons b3 b4 =>
            cases b4
            rw [← ih a1, ← ih b1, ← ih2 a3, ← ih2 b3]
  have pc : ∀ {j : Jn} {l : List Jn} {s : Int}, (∀ {t : Int}, Gd ks j t → s = t) → (∀ {ps qs : List Int}, Gds ks l ps → Gds ks l qs → ps = qs) → (∃ t, Gd ks j t) → ∀ {ps qs : List Int}, Gds ks (j :: l) ps → Gds ks (j :: l) qs → ps = qs := by
    intro j l s ih ih2 _ ps qs a b
    cases a with
    | cons a1 a2 =>
      cases b with
      | cons b1 b2 => rw [← ih a1, ← ih b1, ih2 a2 b2]
  induction g with
  | inp i hi h1 h2 => exact fun x => k p0 (.inp i hi h1 h2) x
  | row ns h1 h2 h => exact fun x => k p0 (.row ns h1 h2 h) x
  | same op h g ih => exact fun x => k (p1 ih) (.same op h g) x
  | unit op h g ih => exact fun x => k (p1 ih) (.unit op h g) x
  | hold n h1 h2 g ih => exact fun x => k (p1 ih) (.hold n h1 h2 g) x
  | part i k2 h1 h2 h3 g ih => exact fun x => k (p1 ih) (.part i k2 h1 h2 h3 g) x
  | rep t h1 h2 h3 g ih => exact fun x => k (p1 ih) (.rep t h1 h2 h3 g) x
  | pair op h g g2 ih1 ih2 => exact fun x => k (p2 ih1 ih2) (.pair op h g g2) x
  | dot g g2 ih1 ih2 => exact fun x => k (p2 ih1 ih2) (.dot g g2) x
  | outer h g g2 ih1 ih2 => exact fun x => k (p2 ih1 ih2) (.outer h g g2) x
  | blend h g g2 ih1 ih2 => exact fun x => k (p2 ih1 ih2) (.blend h g g2) x
  | cat h g g2 ih1 ih2 => exact fun x => k (p2 ih1 ih2) (.cat h g g2) x
  | cat3 h g g2 g3 ih1 ih2 ih3 => exact fun x => k (pc ih1 (p2 ih2 ih3) ⟨_, g⟩) (.cat3 h g g2 g3) x
  | cat4 h g g2 g3 g4 ih1 ih2 ih3 ih4 => exact fun x => k (pc ih1 (pc ih2 (p2 ih3 ih4) ⟨_, g2⟩) ⟨_, g⟩) (.cat4 h g g2 g3 g4) x
end Mine

/-! ### I0 -/
set_option maxHeartbeats 400000
namespace Mine
open PySem PySem.Spec L2
/-! ## sizes by number -/
theorem lt_of_get {α : Type} {l : List α} {k : Nat} {e : α} (h : l[k]? = some e) : k < l.length := by
  rcases Nat.lt_or_ge k l.length with z | z
  · exact z
  · rw [List.getElem?_eq_none z] at h
    cases h
theorem kinN_tops {j : Jn} {x : Nat} {op : Str} {td : List PyData} {parts : List Jn} (h : j.all[x]? = some (.mk op td parts)) : kinN (j.ups (-1) 0) x = tops (x + 1) parts := by
  have hx := lt_of_get h
  rw [all_cnt] at hx
  have e := filter_posn (x : Int) (j.ups (-1) 0) 0
  simp only [Nat.add_zero, List.map_id'] at e
  unfold kinN
  rw [e]
  exact kin_at j (-1) 0 x (by omega) (Nat.zero_le _) (by omega) op td parts h
theorem gds_ex {ks : Nat → Int} : ∀ {l : List Jn}, (∀ x ∈ l, ∃ t, Gd ks x t) → ∃ ss, Gds ks l ss
  | [], _ => ⟨[], .nil⟩
  | j :: r, h => by
    obtain ⟨t, ht⟩ := h j List.mem_cons_self
    obtain ⟨ss, hs⟩ := gds_ex (l := r) fun x hx => h x (List.mem_cons_of_mem _ hx)
    exact ⟨t :: ss, .cons ht hs⟩
theorem Gds.len {ks : Nat → Int} : ∀ {l : List Jn} {ss : List Int}, Gds ks l ss → ss.length = l.length
  | _, _, .nil => rfl
  | _, _, .cons _ t => by rw [List.length_cons, List.length_cons, Gds.len t]
theorem Gds.get {ks : Nat → Int} : ∀ {l : List Jn} {ss : List Int} {i : Nat} {j : Jn}, Gds ks l ss → l[i]? = some j → ∃ t, ss[i]? = some t ∧ Gd ks j t
  | _, _, _, _, .nil, e => by simp at e
  | _, _, 0, j, .cons h _, e => by
    simp only [List.getElem?_cons_zero, Option.some.injEq] at e
    subst e
    exact ⟨_, rfl, h⟩
  | _, _, i + 1, j, .cons _ t, e => by
    obtain ⟨s, h1, h2⟩ := Gds.get (i := i) (j := j) t (by simpa using e)
    exact ⟨s, by simpa using h1, h2⟩
theorem Gds.ins {ks : Nat → Int} {l : List Jn} {ss : List Int} (g : Gds ks l ss) : ∀ p ∈ ss, 1 ≤ p ∧ p ≤ 64 := by
  induction g with
  | nil => exact fun _ z => (by cases z)
  | cons h t ih =>
    intro p hp
    rcases List.mem_cons.mp hp with rfl | hp
    · exact h.sz
    · exact ih p hp
/-- the size of the joint x, and those of its parts by their numbers -/
theorem sz_at {ks : Nat → Int} {j : Jn} {S : List Int} (hS : Gds ks j.all S) {x : Nat} {op : Str} {td : List PyData} {parts : List Jn} (h : j.all[x]? = some (.mk op td parts)) :
    ∃ ps s, Gds ks parts ps ∧ szOf op td ps = some s ∧ S[x]? = some s ∧ Gd ks (.mk op td parts) s ∧ (kinN (j.ups (-1) 0) x).length = ps.length ∧ ∀ (i n : Nat), (kinN (j.ups (-1) 0) x)[i]? = some n → x < n ∧ n < j.cnt ∧ ∃ p, ps[i]? = some p ∧ S[n]? = some p := by
  obtain ⟨s, h1, h2⟩ := hS.get h
  obtain ⟨ps, g1, g2⟩ := h2.step
  rw [kinN_tops h]
  refine ⟨ps, s, g1, g2, h1, h2, by rw [tops_len, g1.len], fun i n hi => ?_⟩
  have il := lt_of_get hi
  rw [tops_len] at il
  obtain ⟨t, t1, t2, t3, t4⟩ := part_at h (List.getElem?_eq_getElem il)
  rw [hi, Option.some.injEq] at t1
  subst t1
  obtain ⟨q, q1, q2⟩ := hS.get t4
  obtain ⟨p, p1, p2⟩ := g1.get (List.getElem?_eq_getElem il)
  refine ⟨t2, t3, p, p1, ?_⟩
  rw [q1, q2.one p2]
/-- what is checked of a joint -/
def ckOk (op : Str) (td : List PyData) (ps : List Int) : Prop :=
  (op ∈ ([Str.ofString "add", Str.ofString "sub", Str.ofString "mul", Str.ofString "dot"] : List Str) → ∃ p, ps = [p, p]) ∧ (op = "part" → ∃ i k p, td = [.int i, .int k] ∧ ps = [p] ∧ k ≤ p)
theorem Gd.ck {ks : Nat → Int} {op : Str} {td : List PyData} {parts : List Jn} {s : Int} {ps : List Int} (g : Gd ks (.mk op td parts) s) (h : Gds ks parts ps) : ckOk op td ps := by
  have no : ∀ {op : Str}, op ∉ ([Str.ofString "add", Str.ofString "sub", Str.ofString "mul", Str.ofString "dot"] : List Str) → op ≠ "part" → ∀ {td : List PyData} {ps : List Int}, ckOk op td ps := fun h1 h2 => ⟨fun z => absurd z h1, fun z => absurd z h2⟩
  have pp : ∀ {j l : Jn} {s : Int}, Gd ks j s → Gd ks l s → Gds ks [j, l] ps → ∃ p, ps = [p, p] := by
    intro j l s a b hh
    cases hh with
    | cons b1 b2 =>
      cases b2 with
      | cons b3 b4 =>
        cases b4
        exact ⟨s, by rw [b1.one a, b3.one b]⟩
  cases g with
  | inp i hi h1 h2 => exact no (by decide +kernel) (by decide +kernel)
  | row ns h1 h2 h => exact no (by decide +kernel) (by decide +kernel)
  | same op hm g =>
    have k : ∀ y ∈ opsSame, y ∉ ([Str.ofString "add", Str.ofString "sub", Str.ofString "mul", Str.ofString "dot"] : List Str) ∧ y ≠ "part" := by decide +kernel
    exact no (k op hm).1 (k op hm).2
  | unit op hm g =>
    have k : ∀ y ∈ opsUnit, y ∉ ([Str.ofString "add", Str.ofString "sub", Str.ofString "mul", Str.ofString "dot"] : List Str) ∧ y ≠ "part" := by decide +kernel
    exact no (k op hm).1 (k op hm).2
  | hold n h1 h2 g => exact no (by decide +kernel) (by decide +kernel)
  | part i k h1 h2 h3 g =>
    refine ⟨fun z => absurd z (by decide +kernel), fun _ => ?_⟩
    cases h with
    | cons b1 b2 =>
      cases b2
      exact ⟨i, k, _, rfl, rfl, by rw [b1.one g]; exact h3⟩
  | rep t h1 h2 h3 g => exact no (by decide +kernel) (by decide +kernel)
  | pair op hm g g2 =>
    have k : ∀ y ∈ opsPair, y ≠ "part" := by decide +kernel
    exact ⟨fun _ => pp g g2 h, fun z => absurd z (k op hm)⟩
  | dot g g2 => exact ⟨fun _ => pp g g2 h, fun z => absurd z (by decide +kernel)⟩
  | outer hh g g2 => exact no (by decide +kernel) (by decide +kernel)
  | blend hh g g2 => exact no (by decide +kernel) (by decide +kernel)
  | cat hh g g2 => exact no (by decide +kernel) (by decide +kernel)
  | cat3 hh g g2 g3 => exact no (by decide +kernel) (by decide +kernel)
  | cat4 hh g g2 g3 g4 => exact no (by decide +kernel) (by decide +kernel)
/-- an input among the joints: its letter tells its size -/
theorem Gd.name {ks : Nat → Int} {td : List PyData} {parts : List Jn} {s : Int} (g : Gd ks (.mk "in" td parts) s) : ∃ i : Nat, i < 4 ∧ td = [.str (abc i), .int (ks i)] := by
  generalize hop : (Str.ofString "in") = op at g
  cases g with
  | inp i hi h1 h2 => exact ⟨i, hi, rfl⟩
  | row ns h1 h2 h => exact absurd hop (by decide +kernel)
  | same op hm g =>
    have k : ∀ y ∈ opsSame, ¬ Str.ofString "in" = y := by decide +kernel
    exact absurd hop (k op hm)
  | unit op hm g =>
    have k : ∀ y ∈ opsUnit, ¬ Str.ofString "in" = y := by decide +kernel
    exact absurd hop (k op hm)
  | hold n h1 h2 g => exact absurd hop (by decide +kernel)
  | part i k h1 h2 h3 g => exact absurd hop (by decide +kernel)
  | rep t h1 h2 h3 g => exact absurd hop (by decide +kernel)
  | pair op hm g g2 =>
    have k : ∀ y ∈ opsPair, ¬ Str.ofString "in" = y := by decide +kernel
    exact absurd hop (k op hm)
  | dot g g2 => exact absurd hop (by decide +kernel)
  | outer hh g g2 => exact absurd hop (by decide +kernel)
  | blend hh g g2 => exact absurd hop (by decide +kernel)
  | cat hh g g2 => exact absurd hop (by decide +kernel)
  | cat3 hh g g2 g3 => exact absurd hop (by decide +kernel)
  | cat4 hh g g2 g3 g4 => exact absurd hop (by decide +kernel)
theorem abc_inj {i k : Nat} (hi : i < 4) (hk : k < 4) (h : abc i = abc k) : i = k := by
  have f : ∀ a : Fin 4, ∀ b : Fin 4, abc a.1 = abc b.1 → a = b := by decide +kernel
  exact congrArg Fin.val (f ⟨i, hi⟩ ⟨k, hk⟩ h)
end Mine

/-! ### J0 -/
set_option maxHeartbeats 400000
namespace Mine
open PySem PySem.Spec L2
/-! ## programs of the form, whatever their sizes -/
structure Fx (j : Jn) : Prop where
  ok : j.ok
  fit : ∀ x ∈ j.all, Fit x
mutual
def Jn.wd : Jn → Int
  | .mk op td parts => (szOf op td (Jn.wds parts)).getD 0
def Jn.wds : List Jn → List Int
  | [] => []
  | j :: r => j.wd :: Jn.wds r
end
theorem wds_map : ∀ l : List Jn, Jn.wds l = l.map Jn.wd
  | [] => by simp only [Jn.wds, List.map_nil]
  | j :: r => by simp only [Jn.wds, List.map_cons, wds_map r]
theorem parts_many {z : Str} {n : Nat} (h : partsFit z n = true) (h1 : z ≠ "row") (h2 : z ≠ "in") : 1 ≤ n := by
  unfold partsFit arity at h
  by_cases c0 : z ∈ op0
  · exfalso
    have k : ∀ y ∈ op0, y = "row" ∨ y = "in" := by decide +kernel
    exact (k z c0).elim h1 h2
  rw [if_neg c0] at h
  by_cases c1 : z ∈ op1
  · rw [if_pos c1] at h
    simp only [Bool.and_eq_true, decide_eq_true_eq] at h
    omega
  rw [if_neg c1] at h
  by_cases c2 : z ∈ op2
  · rw [if_pos c2] at h
    simp only [Bool.and_eq_true, decide_eq_true_eq] at h
    omega
  rw [if_neg c2] at h
  by_cases c3 : z = "cat"
  · rw [if_pos c3] at h
    simp only [Bool.and_eq_true, decide_eq_true_eq] at h
    omega
  rw [if_neg c3] at h
  cases h
theorem parts_two {z : Str} {n : Nat} (h : partsFit z n = true) (hz : z ∈ op2) : n = 2 := by
  have e : arity z = some (2, 2) := by
    have k : ∀ y ∈ op2, arity y = some (2, 2) := by decide +kernel
    exact k z hz
  unfold partsFit at h
  rw [e] at h
  simp only [Bool.and_eq_true, decide_eq_true_eq] at h
  omega
theorem parts_one {z : Str} {n : Nat} (h : partsFit z n = true) (hz : z ∈ op1) : n = 1 := by
  have e : arity z = some (1, 1) := by
    have k : ∀ y ∈ op1, arity y = some (1, 1) := by decide +kernel
    exact k z hz
  unfold partsFit at h
  rw [e] at h
  simp only [Bool.and_eq_true, decide_eq_true_eq] at h
  omega
theorem btw_get {d : PyData} {lo hi : Int} (h : isBtw d lo hi = true) : ∃ i, d = .int i ∧ lo ≤ i ∧ i ≤ hi := by
  cases d with
  | int i =>
    simp only [isBtw, Bool.and_eq_true, decide_eq_true_eq] at h
    exact ⟨i, rfl, h.1, h.2⟩
  | _ => cases h
theorem told_in {td : List PyData} (h : toldFits "in" td = true) : ∃ z k, td = [.str z, .int k] ∧ 1 ≤ k ∧ k ≤ 64 := by
  rw [fits_in] at h
  unfold tellsInput at h
  split at h
  · rename_i a b
    rw [Bool.and_eq_true] at h
    obtain ⟨k, rfl, h1, h2⟩ := btw_get h.2
    cases a with
    | str z => exact ⟨z, k, rfl, h1, h2⟩
    | _ => exact absurd h.1 (by simp [isWord])
  · cases h
theorem told_part {td : List PyData} (h : toldFits "part" td = true) : ∃ i k, td = [.int i, .int k] ∧ 0 ≤ i ∧ i < k ∧ k ≤ 64 := by
  rw [fits_part] at h
  unfold tellsStretch at h
  split at h
  · rename_i a k
    rw [Bool.and_eq_true] at h
    obtain ⟨i, rfl, h1, h2⟩ := btw_get h.2
    obtain ⟨k', e, h3, h4⟩ := btw_get h.1
    cases e
    exact ⟨i, k, rfl, h1, by omega, h4⟩
  · cases h
theorem told_rep {td : List PyData} (h : toldFits "rep" td = true) : ∃ t, td = [.int t] ∧ 1 ≤ t ∧ t ≤ 16 := by
  rw [fits_rep] at h
  unfold tellsTimes at h
  split at h
  · obtain ⟨i, rfl, h1, h2⟩ := btw_get h
    exact ⟨i, rfl, h1, h2⟩
  · cases h
theorem sum_pos : ∀ {ps : List Int}, (∀ p ∈ ps, 1 ≤ p) → 0 ≤ ps.sum
  | [], _ => by simp
  | a :: r, h => by
    have h1 := h a List.mem_cons_self
    have h2 := sum_pos (ps := r) fun p hp => h p (List.mem_cons_of_mem _ hp)
    rw [List.sum_cons]
    omega
theorem two_of {ps : List Int} (h : ps.length = 2) : ∃ a b, ps = [a, b] := by
  match ps, h with
  | [a, b], _ => exact ⟨a, b, rfl⟩
theorem one_of {ps : List Int} (h : ps.length = 1) : ∃ a, ps = [a] := by
  match ps, h with
  | [a], _ => exact ⟨a, rfl⟩
theorem Fit.some {op : Str} {td : List PyData} {parts : List Jn} {ps : List Int} (h : Fit (.mk op td parts)) (hl : ps.length = parts.length) (hp : ∀ p ∈ ps, 1 ≤ p) : ∃ s, szOf op td ps = some s ∧ 1 ≤ s := by
  obtain ⟨h1, h2⟩ := h
  rw [← hl] at h2
  unfold szOf
  by_cases c : op = "row"
  · subst c
    rw [if_pos rfl]
    rw [fits_row] at h1
    unfold tellsRow at h1
    simp only [Bool.and_eq_true, decide_eq_true_eq] at h1
    exact ⟨_, rfl, h1.1.1⟩
  rw [if_neg c]
  by_cases c1 : op = "in"
  · subst c1
    obtain ⟨z, k, rfl, k1, k2⟩ := told_in h1
    rw [if_pos rfl]
    exact ⟨k, rfl, k1⟩
  rw [if_neg c1]
  split
  · exact ⟨1, rfl, by omega⟩
  split
  · have hn := parts_many h2 c c1
    match ps, hn, hp with
    | a :: r, _, hp =>
      have := hp a List.mem_cons_self
      have := sum_pos (ps := r) fun p hq => hp p (List.mem_cons_of_mem _ hq)
      exact ⟨_, rfl, by rw [List.sum_cons]; omega⟩
  split
  · rename_i c4
    subst c4
    obtain ⟨a, b, rfl⟩ := two_of (parts_two h2 (by decide +kernel))
    exact ⟨_, rfl, one_le_mul (hp a (by simp)) (hp b (by simp))⟩
  split
  · rename_i c5
    subst c5
    obtain ⟨a, b, rfl⟩ := two_of (parts_two h2 (by decide +kernel))
    have := hp a (by simp)
    have := hp b (by simp)
    exact ⟨_, rfl, by omega⟩
  split
  · rename_i c6
    subst c6
    obtain ⟨i, k, rfl, k1, k2, k3⟩ := told_part h1
    exact ⟨_, rfl, by omega⟩
  split
  · rename_i c7
    subst c7
    obtain ⟨t, rfl, k1, k2⟩ := told_rep h1
    obtain ⟨a, rfl⟩ := one_of (parts_one h2 (by decide +kernel))
    exact ⟨_, rfl, one_le_mul k1 (hp a (by simp))⟩
  · have hn := parts_many h2 c c1
    match ps, hn, hp with
    | a :: r, _, hp => exact ⟨a, rfl, hp a List.mem_cons_self⟩
theorem all_self : ∀ j : Jn, j ∈ j.all
  | .mk op td parts => by simp only [Jn.all]; exact List.mem_cons_self
mutual
theorem wd_pos : ∀ j : Jn, (∀ x ∈ j.all, Fit x) → 1 ≤ j.wd
  | .mk op td parts, h => by
    have h1 : Fit (.mk op td parts) := h _ (all_self _)
    have h2 := wds_pos parts fun x hx => h x (by simp only [Jn.all]; exact List.mem_cons_of_mem _ hx)
    obtain ⟨s, e, hs⟩ := h1.some (ps := Jn.wds parts) (by rw [wds_map, List.length_map]) h2
    simp only [Jn.wd, e, Option.getD_some]
    exact hs
theorem wds_pos : ∀ l : List Jn, (∀ x ∈ Jn.alls l, Fit x) → ∀ p ∈ Jn.wds l, 1 ≤ p
  | [], _ => by simp [Jn.wds]
  | j :: r, h => by
    have a := wd_pos j fun x hx => h x (by simp only [Jn.alls]; exact List.mem_append_left _ hx)
    have b := wds_pos r fun x hx => h x (by simp only [Jn.alls]; exact List.mem_append_right _ hx)
    intro p hp
    simp only [Jn.wds, List.mem_cons] at hp
    rcases hp with rfl | hp
    · exact a
    · exact b p hp
end
mutual
theorem ok_all : ∀ j : Jn, j.ok → ∀ x ∈ j.all, x.ok
  | .mk op td parts, h, x, hx => by
    simp only [Jn.all, List.mem_cons] at hx
    rcases hx with rfl | hx
    · exact h
    · simp only [Jn.ok] at h
      exact oks_all parts h.2.2.2.2 x hx
theorem oks_all : ∀ l : List Jn, Jn.oks l → ∀ x ∈ Jn.alls l, x.ok
  | [], _, x, hx => by simp [Jn.alls] at hx
  | j :: r, h, x, hx => by
    simp only [Jn.oks] at h
    simp only [Jn.alls, List.mem_append] at hx
    rcases hx with hx | hx
    · exact ok_all j h.1 x hx
    · exact oks_all r h.2 x hx
end
mutual
theorem all_sub : ∀ j : Jn, ∀ y ∈ j.all, ∀ x ∈ y.all, x ∈ j.all
  | .mk op td parts, y, hy, x, hx => by
    have hy' := hy
    simp only [Jn.all, List.mem_cons] at hy
    rcases hy with rfl | hy
    · exact hx
    · simp only [Jn.all]
      exact List.mem_cons_of_mem _ (alls_sub parts y hy x hx)
theorem alls_sub : ∀ l : List Jn, ∀ y ∈ Jn.alls l, ∀ x ∈ y.all, x ∈ Jn.alls l
  | [], y, hy, _, _ => by simp [Jn.alls] at hy
  | j :: r, y, hy, x, hx => by
    simp only [Jn.alls, List.mem_append] at hy ⊢
    rcases hy with hy | hy
    · exact .inl (all_sub j y hy x hx)
    · exact .inr (alls_sub r y hy x hx)
end
theorem Fx.sub {j y : Jn} (h : Fx j) (hy : y ∈ j.all) : Fx y := ⟨ok_all j h.ok y hy, fun x hx => h.fit x (all_sub j y hy x hx)⟩
theorem Fx.pos {j : Jn} (h : Fx j) : 1 ≤ j.wd := wd_pos j h.fit
theorem Fx.walk {j : Jn} (g : Fx j) (h : j.cnt ≤ 40) : Mine.walk 42 [j.py] 0 = none := by
  have := walk_fit 42 [j] 0 (fun x hx => g.fit x (by simpa [Jn.alls] using hx)) (by simp [Jn.cnts]; omega)
  simpa [Jn.pys] using this
theorem Gd.fx {ks : Nat → Int} {j : Jn} {s : Int} (g : Gd ks j s) : Fx j := ⟨g.ok, g.fit⟩
theorem wd_at {j : Jn} (hf : Fx j) {x : Nat} {op : Str} {td : List PyData} {parts : List Jn} (h : j.all[x]? = some (.mk op td parts)) :
    ∃ s, szOf op td (Jn.wds parts) = some s ∧ 1 ≤ s ∧ (Jn.mk op td parts).wd = s ∧ (∀ p ∈ Jn.wds parts, 1 ≤ p) ∧ (Jn.wds parts).length = parts.length ∧ (kinN (j.ups (-1) 0) x).length = (Jn.wds parts).length ∧
      ∀ (i n : Nat), (kinN (j.ups (-1) 0) x)[i]? = some n → x < n ∧ n < j.cnt ∧ ∃ p, (Jn.wds parts)[i]? = some p ∧ (Jn.wds j.all)[n]? = some p := by
  have hx := hf.sub (List.mem_of_getElem? h)
  have h1 : Fit (.mk op td parts) := hx.fit _ (all_self _)
  have h2 := wds_pos parts fun y hy => hx.fit y (by simp only [Jn.all]; exact List.mem_cons_of_mem _ hy)
  have hl : (Jn.wds parts).length = parts.length := by rw [wds_map, List.length_map]
  obtain ⟨s, e, hs⟩ := h1.some hl h2
  refine ⟨s, e, hs, by simp only [Jn.wd, e, Option.getD_some], h2, hl, by rw [kinN_tops h, tops_len, hl], fun i n hi => ?_⟩
  rw [kinN_tops h] at hi
  have il := lt_of_get hi
  rw [tops_len] at il
  obtain ⟨t, t1, t2, t3, t4⟩ := part_at h (List.getElem?_eq_getElem il)
  rw [hi, Option.some.injEq] at t1
  subst t1
  refine ⟨t2, t3, (parts[i]).wd, ?_, ?_⟩
  · rw [wds_map, List.getElem?_map, List.getElem?_eq_getElem il] <;> rfl
  · rw [wds_map, List.getElem?_map, t4] <;> rfl
/-! ## the faults of sizes -/
inductive Fk | uneq | part | great | inp
  deriving DecidableEq
def pairOps : List Str := [Str.ofString "add", Str.ofString "sub", Str.ofString "mul", Str.ofString "dot"]
def tdK : List PyData → Int
  | [_, .int k] => k
  | _ => 0
def badO (op : Str) (td : List PyData) (ps : List Int) : Option Fk :=
  if op ∈ pairOps ∧ ps.getD 0 0 ≠ ps.getD 1 0 then some .uneq else if op = "part" ∧ ps.getD 0 0 < tdK td then some .part else if 64 < (szOf op td ps).getD 0 then some .great else none
def Jn.bad : Jn → Option Fk
  | .mk op td parts => badO op td (Jn.wds parts)
def fb : List Jn → Nat → Option (Fk × Nat)
  | [], _ => none
  | y :: r, n => match fb r (n + 1) with
    | some z => some z
    | none => y.bad.map fun k => (k, n)
theorem fb_none : ∀ {l : List Jn} {n : Nat}, (∀ (i : Nat) w, l[i]? = some w → w.bad = none) → fb l n = none
  | [], _, _ => rfl
  | y :: r, n, h => by
    have h1 := h 0 y rfl
    have h2 := fb_none (l := r) (n := n + 1) fun i w hw => h (i + 1) w (by simpa using hw)
    unfold fb
    rw [h2, h1]
    rfl
theorem fb_at : ∀ {l : List Jn} {n x : Nat} {y : Jn} {k : Fk}, l[x]? = some y → y.bad = some k → (∀ (z : Nat) w, x < z → l[z]? = some w → w.bad = none) → fb l n = some (k, n + x)
  | [], _, _, _, _, h, _, _ => by simp at h
  | a :: r, n, 0, y, k, h, hb, hn => by
    have e : a = y := by simpa using h
    subst e
    have h2 := fb_none (l := r) (n := n + 1) fun i w hw => hn (i + 1) w (by omega) (by simpa using hw)
    unfold fb
    rw [h2, hb]
    rfl
  | a :: r, n, x + 1, y, k, h, hb, hn => by
    have h2 := fb_at (l := r) (n := n + 1) (x := x) (by simpa using h) hb fun z w hz hw => hn (z + 1) w (by omega) (by simpa using hw)
    unfold fb
    rw [h2]
    simp only [Option.some.injEq, Prod.mk.injEq, true_and]
    omega
def nSet (d : Str → Option Int) (z : Str) (k : Int) : Str → Option Int := fun y => if y = z then some k else d y
theorem nSet_self {d : Str → Option Int} {z : Str} {k : Int} (h : d z = some k) : nSet d z k = d := by
  funext y
  unfold nSet
  split
  · rename_i e
    rw [e, h]
  · rfl
def nf : List Jn → (Str → Option Int) → Option Str
  | [], _ => none
  | .mk op td _ :: r, d => if op = "in" then (match td with
    | [.str z, .int k] => if (d z).getD k = k then nf r (nSet d z k) else some z
    | _ => nf r d) else nf r d
theorem nf_other {op : Str} {td : List PyData} {parts r : List Jn} {d : Str → Option Int} (h : op ≠ "in") : nf (.mk op td parts :: r) d = nf r d := by
  conv => lhs; unfold nf
  rw [if_neg h]
theorem nf_in {z : Str} {k : Int} {parts r : List Jn} {d : Str → Option Int} : nf (.mk "in" [.str z, .int k] parts :: r) d = if (d z).getD k = k then nf r (nSet d z k) else some z := by
  rw [nf] <;> rfl
def Jn.fault (j : Jn) : Option (Fk × PyData) := match fb j.all 0 with
  | some (k, x) => some (k, .int x)
  | none => (nf j.all fun _ => none).map fun z => (.inp, .str z)
theorem fault_at {j : Jn} {x : Nat} {y : Jn} {k : Fk} (h : j.all[x]? = some y) (hb : y.bad = some k) (hn : ∀ (z : Nat) w, x < z → j.all[z]? = some w → w.bad = none) : j.fault = some (k, .int (x : Int)) := by
  unfold Jn.fault
  rw [fb_at (n := 0) h hb hn, Nat.zero_add]
theorem fault_in {j : Jn} {z : Str} (h : ∀ (i : Nat) w, j.all[i]? = some w → w.bad = none) (hz : nf j.all (fun _ => none) = some z) : j.fault = some (.inp, .str z) := by
  unfold Jn.fault
  rw [fb_none h, hz]
  rfl
theorem fault_no {j : Jn} (h : ∀ (i : Nat) w, j.all[i]? = some w → w.bad = none) (hz : nf j.all (fun _ => none) = none) : j.fault = none := by
  unfold Jn.fault
  rw [fb_none h, hz]
  rfl
theorem drop_get {l : List Jn} {i : Nat} {y : Jn} (h : l[i]? = some y) : l.drop i = y :: l.drop (i + 1) := by
  have := lt_of_get h
  rw [List.drop_eq_getElem_cons this]
  rw [List.getElem?_eq_getElem this, Option.some.injEq] at h
  rw [h]
/-! ## a bough in another's place -/
mutual
def Jn.put (new : Jn) (x : Nat) : Jn → Nat → Jn
  | .mk op td parts, n => if n = x then new else .mk op td (Jn.puts new x parts (n + 1))
def Jn.puts (new : Jn) (x : Nat) : List Jn → Nat → List Jn
  | [], _ => []
  | j :: r, n => Jn.put new x j n :: Jn.puts new x r (n + j.cnt)
end
theorem puts_len {new : Jn} {x : Nat} : ∀ (l : List Jn) (n : Nat), (Jn.puts new x l n).length = l.length
  | [], n => by simp [Jn.puts]
  | j :: r, n => by simp only [Jn.puts, List.length_cons, puts_len r]
mutual
theorem put_ok {new : Jn} {x : Nat} (hn : new.ok) : ∀ (j : Jn) (n : Nat), j.ok → (Jn.put new x j n).ok
  | .mk op td parts, n, h => by
    simp only [Jn.put]
    split
    · exact hn
    · simp only [Jn.ok] at h ⊢
      exact ⟨h.1, h.2.1, h.2.2.1, by rw [puts_len]; exact h.2.2.2.1, puts_ok hn parts _ h.2.2.2.2⟩
theorem puts_ok {new : Jn} {x : Nat} (hn : new.ok) : ∀ (l : List Jn) (n : Nat), Jn.oks l → Jn.oks (Jn.puts new x l n)
  | [], n, h => by simp only [Jn.puts, Jn.oks]
  | j :: r, n, h => by
    simp only [Jn.oks] at h
    simp only [Jn.puts, Jn.oks]
    exact ⟨put_ok hn j n h.1, puts_ok hn r _ h.2⟩
end
mutual
theorem put_fit {new : Jn} {x : Nat} (hn : ∀ y ∈ new.all, Fit y) : ∀ (j : Jn) (n : Nat), (∀ y ∈ j.all, Fit y) → ∀ y ∈ (Jn.put new x j n).all, Fit y
  | .mk op td parts, n, h => by
    simp only [Jn.put]
    split
    · exact hn
    · intro y hy
      simp only [Jn.all, List.mem_cons] at hy
      rcases hy with rfl | hy
      · have h1 : Fit (.mk op td parts) := h _ (all_self _)
        exact ⟨h1.1, by rw [puts_len]; exact h1.2⟩
      · exact puts_fit hn parts _ (fun z hz => h z (by simp only [Jn.all]; exact List.mem_cons_of_mem _ hz)) y hy
theorem puts_fit {new : Jn} {x : Nat} (hn : ∀ y ∈ new.all, Fit y) : ∀ (l : List Jn) (n : Nat), (∀ y ∈ Jn.alls l, Fit y) → ∀ y ∈ Jn.alls (Jn.puts new x l n), Fit y
  | [], n, h => by simp [Jn.puts, Jn.alls]
  | j :: r, n, h => by
    intro y hy
    simp only [Jn.puts, Jn.alls, List.mem_append] at hy
    simp only [Jn.alls, List.mem_append] at h
    rcases hy with hy | hy
    · exact put_fit hn j n (fun z hz => h z (.inl hz)) y hy
    · exact puts_fit hn r _ (fun z hz => h z (.inr hz)) y hy
end
theorem put_fx {new j : Jn} {x n : Nat} (hn : Fx new) (h : Fx j) : Fx (Jn.put new x j n) := ⟨put_ok hn.ok j n h.ok, put_fit hn.fit j n h.fit⟩
mutual
theorem put_no {new : Jn} {x : Nat} : ∀ (j : Jn) (n : Nat), (x < n ∨ n + j.cnt ≤ x) → Jn.put new x j n = j
  | .mk op td parts, n, h => by
    simp only [Jn.cnt] at h
    simp only [Jn.put]
    rw [if_neg (by omega), puts_no parts (n + 1) (by omega)]
theorem puts_no {new : Jn} {x : Nat} : ∀ (l : List Jn) (n : Nat), (x < n ∨ n + Jn.cnts l ≤ x) → Jn.puts new x l n = l
  | [], n, _ => by simp only [Jn.puts]
  | j :: r, n, h => by
    simp only [Jn.cnts] at h
    simp only [Jn.puts]
    rw [put_no j n (by omega), puts_no r (n + j.cnt) (by omega)]
end
mutual
theorem put_cnt {new : Jn} {x m : Nat} : ∀ (j : Jn) (n : Nat), (∀ y, n ≤ x → j.all[x - n]? = some y → new.cnt ≤ y.cnt + m) → (Jn.put new x j n).cnt ≤ j.cnt + m
  | .mk op td parts, n, h => by
    simp only [Jn.put]
    split
    · rename_i e
      exact h _ (by omega) (by rw [e, Nat.sub_self]; simp only [Jn.all, List.getElem?_cons_zero])
    · rename_i e
      simp only [Jn.cnt]
      have := puts_cnt (new := new) (x := x) (m := m) parts (n + 1) fun y hy h2 => h y (by omega) (by
        simp only [Jn.all]
        rw [show x - n = (x - (n + 1)) + 1 by omega, List.getElem?_cons_succ]
        exact h2)
      omega
theorem puts_cnt {new : Jn} {x m : Nat} : ∀ (l : List Jn) (n : Nat), (∀ y, n ≤ x → (Jn.alls l)[x - n]? = some y → new.cnt ≤ y.cnt + m) → Jn.cnts (Jn.puts new x l n) ≤ Jn.cnts l + m
  | [], n, _ => by simp [Jn.puts]
  | j :: r, n, h => by
    simp only [Jn.puts, Jn.cnts]
    simp only [Jn.alls] at h
    have hc := cnt_pos j
    by_cases c : x < n + j.cnt
    · rw [puts_no r (n + j.cnt) (.inl c)]
      have := put_cnt (new := new) (x := x) (m := m) j n fun y hy h2 => h y hy (by rw [List.getElem?_append_left (lt_of_get h2)]; exact h2)
      omega
    · rw [put_no j n (.inr (by omega))]
      have := puts_cnt (new := new) (x := x) (m := m) r (n + j.cnt) fun y hy h2 => h y (by omega) (by
        rw [List.getElem?_append_right (by rw [all_cnt]; omega), all_cnt, show x - n - j.cnt = x - (n + j.cnt) by omega]
        exact h2)
      omega
end
end Mine

/-! ### I1 -/
namespace Mine
open PySem PySem.Spec L2
local macro_rules | `(tactic| walk_at "st") => `(tactic| (with_reducible apply iteF))
local macro_rules | `(tactic| walk_at "st") => `(tactic| (with_reducible apply iteT))
local macro_rules | `(tactic| walk_at "st") => `(tactic| ((with_reducible apply rd_tyF); (focus assumption)))
local macro_rules | `(tactic| walk_at "st") => `(tactic| (with_reducible apply rd_tupF))
local macro_rules | `(tactic| walk_at "st") => `(tactic| (with_reducible apply rd_bmT))
local macro_rules | `(tactic| walk_at "st") => `(tactic| (with_reducible apply rd_dc))
local macro_rules | `(tactic| walk_at "st") => `(tactic| (with_reducible apply u_notB))
local macro_rules | `(tactic| walk_at "st") => `(tactic| (with_reducible apply u_repB))
local macro_rules | `(tactic| walk_at "st") => `(tactic| (with_reducible apply u_isB))
local macro_rules | `(tactic| walk_at "st") => `(tactic| (with_reducible apply rd_nopart))
local macro_rules | `(tactic| walk_at "st") => `(tactic| (with_reducible apply rd_partI))
local macro_rules | `(tactic| walk_at "st") => `(tactic| (with_reducible apply rd_part))
local macro_rules | `(tactic| walk_at "st") => `(tactic| (with_reducible apply rd_sl))
local macro_rules | `(tactic| walk_at "st") => `(tactic| (with_reducible apply rd_disp1))
local macro_rules | `(tactic| walk_at "st") => `(tactic| (with_reducible apply rd_dput))
local macro_rules | `(tactic| walk_at "st") => `(tactic| (with_reducible apply rd_dget))
local macro_rules | `(tactic| walk_at "st") => `(tactic| (with_reducible apply rd_din))
local macro_rules | `(tactic| walk_at "st") => `(tactic| (with_reducible apply rd_dnew))
local macro_rules | `(tactic| walk_at "st") => `(tactic| ((with_reducible apply rd_gtup); (focus first | assumption | exact SqT.of (by assumption) | exact SqT.of upd_same); (focus rfl)))
local macro_rules | `(tactic| walk_at "st") => `(tactic| (with_reducible apply rd_lc2))
local macro_rules | `(tactic| walk_at "st") => `(tactic| (with_reducible apply rd_zip))
local macro_rules | `(tactic| walk_at "st") => `(tactic| ((with_reducible apply u_enL); (focus first | assumption | exact SqL.of (by assumption) | exact SqL.of upd_same)))
local macro_rules | `(tactic| walk_at "st") => `(tactic| ((with_reducible apply u_enT); (focus first | assumption | exact SqT.of (by assumption) | exact SqT.of upd_same)))
local macro_rules | `(tactic| walk_at "st") => `(tactic| (with_reducible apply rd_rng3))
local macro_rules | `(tactic| walk_at "st") => `(tactic| (with_reducible apply rd_rg1))
local macro_rules | `(tactic| walk_at "st") => `(tactic| (with_reducible apply rd_revR))
local macro_rules | `(tactic| walk_at "st") => `(tactic| (with_reducible apply rd_enA))
local macro_rules | `(tactic| walk_at "st") => `(tactic| (with_reducible apply rd_ipI))
local macro_rules | `(tactic| walk_at "st") => `(tactic| ((with_reducible apply rd_aug); exact rfl))
local macro_rules | `(tactic| walk_at "st") => `(tactic| (with_reducible apply rd_par3_end))
local macro_rules | `(tactic| walk_at "st") => `(tactic| (with_reducible apply rd_par3))
local macro_rules | `(tactic| walk_at "st") => `(tactic| (with_reducible apply u_mul; focus exact Or.inr cm))
local macro_rules | `(tactic| walk_at "st") => `(tactic| ((with_reducible apply u_pow); (focus (exact ⟨by decide, by decide, by decide⟩))))
local macro_rules | `(tactic| walk_at "st") => `(tactic| (with_reducible apply rd_yes))
local macro_rules | `(tactic| walk_at "st") => `(tactic| (with_reducible apply rd_lc))
local macro_rules | `(tactic| walk_at "st") => `(tactic| ((with_reducible apply rd_itT); (focus first | assumption | exact SqT.of (by assumption) | exact SqT.of upd_same)))
local macro_rules | `(tactic| walk_at "st") => `(tactic| ((with_reducible apply rd_itL); (focus first | assumption | exact SqL.of (by assumption) | exact SqL.of upd_same)))
local macro_rules | `(tactic| walk_at "st") => `(tactic| ((with_reducible apply u_isi); (focus (first | exact Or.inl rfl | exact Or.inr (Or.inl rfl) | exact Or.inr (Or.inr (Or.inl rfl)) | exact Or.inr (Or.inr (Or.inr rfl)))); (focus first | assumption | exact Rp.int _ | exact Rp.str _)))
local macro_rules | `(tactic| walk_at "st") => `(tactic| (with_reducible apply rd_istrE))
local macro_rules | `(tactic| walk_at "st") => `(tactic| (with_reducible apply rd_istr))
local macro_rules | `(tactic| walk_at "st") => `(tactic| ((with_reducible apply rd_seqT); (focus first | assumption | exact SqT.of (by assumption) | exact SqT.of upd_same)))
local macro_rules | `(tactic| walk_at "st") => `(tactic| ((with_reducible apply rd_seqL); (focus first | assumption | exact SqL.of (by assumption) | exact SqL.of upd_same)))
local macro_rules | `(tactic| walk_at "st") => `(tactic| (with_reducible apply rd_iSeq))
local macro_rules | `(tactic| walk_at "st") => `(tactic| (with_reducible apply u_notInS))
local macro_rules | `(tactic| walk_at "st") => `(tactic| (with_reducible apply u_inS))
local macro_rules | `(tactic| walk_at "st") => `(tactic| (with_reducible apply u_notInD))
local macro_rules | `(tactic| walk_at "st") => `(tactic| (with_reducible apply u_inD))
local macro_rules | `(tactic| walk_at "st") => `(tactic| (with_reducible apply rd_callS))
local macro_rules | `(tactic| walk_at "st") => `(tactic| (with_reducible apply rd_raiseE))
local macro_rules | `(tactic| walk_at "st") => `(tactic| (with_reducible apply rd_xf))
local macro_rules | `(tactic| walk_at "st") => `(tactic| (with_reducible apply g_neB))
local macro_rules | `(tactic| walk_at "st") => `(tactic| (with_reducible apply g_neS))
local macro_rules | `(tactic| walk_at "st") => `(tactic| (with_reducible apply g_neI))
local macro_rules | `(tactic| walk_at "st") => `(tactic| (with_reducible apply g_eqS))
local macro_rules | `(tactic| walk_at "st") => `(tactic| (with_reducible apply g_eqI))
local macro_rules | `(tactic| walk_at "st") => `(tactic| (with_reducible apply rd_retN))
local macro_rules | `(tactic| walk_at "st") => `(tactic| (with_reducible apply rd_gnil))
local macro_rules | `(tactic| walk_at "st") => `(tactic| (with_reducible apply rd_gcons))
local macro_rules | `(tactic| walk_at "st") => `(tactic| ((with_reducible apply rd_rng2e); (focus omega)))
local macro_rules | `(tactic| walk_at "st") => `(tactic| ((with_reducible apply rd_rng1e); (focus omega); (focus omega)))
local macro_rules | `(tactic| walk_at "st") => `(tactic| (with_reducible apply rd_rng2))
local macro_rules | `(tactic| walk_at "st") => `(tactic| (with_reducible apply rd_rng1))
local macro_rules | `(tactic| walk_at "st") => `(tactic| (with_reducible apply rd_for))
local macro_rules | `(tactic| walk_at "st") => `(tactic| (with_reducible apply rd_iTup))
local macro_rules | `(tactic| walk_at "st") => `(tactic| (with_reducible apply rd_iList))
local macro_rules | `(tactic| walk_at "st") => `(tactic| (with_reducible apply rd_rev))
local macro_rules | `(tactic| walk_at "st") => `(tactic| (with_reducible apply u_min3))
local macro_rules | `(tactic| walk_at "st") => `(tactic| ((with_reducible apply rd_tyL); focus (first | exact SqL.of (by assumption) | exact SqL.of upd_same)))
local macro_rules | `(tactic| walk_at "st") => `(tactic| (with_reducible apply rd_bm0))
local macro_rules | `(tactic| walk_at "st") => `(tactic| (with_reducible apply rd_bm))
local macro_rules | `(tactic| walk_at "st") => `(tactic| ((with_reducible apply rd_truL); focus (first | assumption | exact SqL.of (by assumption) | exact SqL.of upd_same)))
local macro_rules | `(tactic| walk_at "st") => `(tactic| (with_reducible apply rd_truB))
local macro_rules | `(tactic| walk_at "st") => `(tactic| (with_reducible apply rd_tru))
local macro_rules | `(tactic| walk_at "st") => `(tactic| (with_reducible apply rd_chain3))
local macro_rules | `(tactic| walk_at "st") => `(tactic| ((with_reducible apply u_setL); (focus (first | assumption | exact upd_same)); exact rfl))
local macro_rules | `(tactic| walk_at "st") => `(tactic| ((with_reducible apply u_lenT); focus (first | assumption | exact SqT.of (by assumption) | exact SqT.of upd_same)))
local macro_rules | `(tactic| walk_at "st") => `(tactic| ((with_reducible apply u_lenL); focus (first | assumption | exact SqL.of (by assumption) | exact SqL.of upd_same)))
local macro_rules | `(tactic| walk_at "st") => `(tactic| ((with_reducible apply u_ixL); (focus (first | assumption | exact SqL.of (by assumption) | exact SqL.of upd_same)); exact rfl))
local macro_rules | `(tactic| walk_at "st") => `(tactic| ((with_reducible apply u_mul); focus first | exact Or.inl (by omega) | exact Or.inr (by omega) | exact Or.inl (by decide) | exact Or.inr (by decide)))
local macro_rules | `(tactic| walk_at "st") => `(tactic| ((with_reducible apply u_div); focus first | decide | omega | (constructor <;> first | assumption | omega)))
local macro_rules | `(tactic| walk_at "st") => `(tactic| ((with_reducible apply u_mod); focus first | assumption | decide | omega))
local macro_rules | `(tactic| walk_at "st") => `(tactic| (with_reducible apply u_neg))
local macro_rules | `(tactic| walk_at "st") => `(tactic| (with_reducible apply u_min))
local macro_rules | `(tactic| walk_at "st") => `(tactic| (with_reducible apply u_max))
local macro_rules | `(tactic| walk_at "st") => `(tactic| (with_reducible apply u_intB))
local macro_rules | `(tactic| walk_at "st") => `(tactic| (with_reducible apply u_int))
local macro_rules | `(tactic| walk_at "st") => `(tactic| (with_reducible apply u_neI))
local macro_rules | `(tactic| walk_at "st") => `(tactic| (with_reducible apply u_eqS))
local macro_rules | `(tactic| walk_at "st") => `(tactic| (with_reducible apply u_eqI))
local macro_rules | `(tactic| walk_at "st") => `(tactic| (with_reducible apply u_ge))
local macro_rules | `(tactic| walk_at "st") => `(tactic| (with_reducible apply u_gt))
local macro_rules | `(tactic| walk_at "st") => `(tactic| (with_reducible apply u_le))
local macro_rules | `(tactic| walk_at "st") => `(tactic| (with_reducible apply u_lt))
local macro_rules | `(tactic| walk_at "st") => `(tactic| (with_reducible apply u_sub))
local macro_rules | `(tactic| walk_at "st") => `(tactic| (with_reducible apply u_add))
local macro_rules | `(tactic| walk_at "st") => `(tactic| (with_reducible apply rd_ct))
local macro_rules | `(tactic| walk_at "st") => `(tactic| (with_reducible apply rd_brk))
local macro_rules | `(tactic| walk_at "st") => `(tactic| (with_reducible apply rd_tB))
local macro_rules | `(tactic| walk_at "st") => `(tactic| (with_reducible apply rd_chain))
local macro_rules | `(tactic| walk_at "st") => `(tactic| (with_reducible apply rd_notV))
local macro_rules | `(tactic| walk_at "st") => `(tactic| (with_reducible apply rd_orV))
local macro_rules | `(tactic| walk_at "st") => `(tactic| (with_reducible apply rd_andV))
local macro_rules | `(tactic| walk_at "st") => `(tactic| (with_reducible apply rd_not))
local macro_rules | `(tactic| walk_at "st") => `(tactic| (with_reducible apply rd_or))
local macro_rules | `(tactic| walk_at "st") => `(tactic| (with_reducible apply rd_and))
local macro_rules | `(tactic| walk_at "st") => `(tactic| (with_reducible apply rd_un))
local macro_rules | `(tactic| walk_at "st") => `(tactic| (with_reducible apply rd_par_end))
local macro_rules | `(tactic| walk_at "st") => `(tactic| (with_reducible apply rd_par))
local macro_rules | `(tactic| walk_at "st") => `(tactic| (with_reducible apply rd_gsub))
local macro_rules | `(tactic| walk_at "st") => `(tactic| (with_reducible apply rd_ife))
local macro_rules | `(tactic| walk_at "st") => `(tactic| (with_reducible apply rd_next))
local macro_rules | `(tactic| walk_at "st") => `(tactic| (with_reducible apply rd_drop))
local macro_rules | `(tactic| walk_at "st") => `(tactic| (with_reducible apply rd_lst))
local macro_rules | `(tactic| walk_at "st") => `(tactic| (with_reducible apply rd_tup))
local macro_rules | `(tactic| walk_at "st") => `(tactic| (with_reducible apply rd_call))
local macro_rules | `(tactic| walk_at "st") => `(tactic| (with_reducible apply rd_ret))
local macro_rules | `(tactic| walk_at "st") => `(tactic| (with_reducible apply rd_retE))
local macro_rules | `(tactic| walk_at "st") => `(tactic| (with_reducible apply rd_bl))
local macro_rules | `(tactic| walk_at "st") => `(tactic| (with_reducible apply rd_test))
local macro_rules | `(tactic| walk_at "st") => `(tactic| (with_reducible apply rd_if))
local macro_rules | `(tactic| walk_at "st") => `(tactic| (with_reducible apply rd_nil))
local macro_rules | `(tactic| walk_at "st") => `(tactic| (with_reducible apply rd_cons))
local macro_rules | `(tactic| walk_at "st") => `(tactic| (with_reducible apply rd_cb))
local macro_rules | `(tactic| walk_at "st") => `(tactic| (with_reducible apply rd_op))
local macro_rules | `(tactic| walk_at "st") => `(tactic| (with_reducible apply rd_gname))
local macro_rules | `(tactic| walk_at "st") => `(tactic| (with_reducible apply rd_asg))
local macro_rules | `(tactic| walk_at "st") => `(tactic| (with_reducible apply rd_seq))
local macro_rules | `(tactic| walk_at "st") => `(tactic| (with_reducible apply rd_c))
local macro_rules | `(tactic| walk_at "st") => `(tactic| ((with_reducible apply rd_var); exact rfl))
local macro_rules | `(tactic| walk_at "go") => `(tactic| repeat (walk_at "st"))
local macro_rules | `(tactic| walk_at "sp") => `(tactic| (first | refine rd_split (fun c => ?_) (fun c => ?_) | refine rd_splitN (fun c => ?_) (fun c => ?_) | refine rd_splitB (fun c => ?_) (fun c => ?_)))
local macro_rules | `(tactic| walk_at "nx") => `(tactic| repeat (first | (with_reducible apply iteF) | (with_reducible apply iteT) | (with_reducible apply rd_next)))

section
variable {P : Program} {w : World} {K : PySem.W.Frag} {mg : Str → Option Value} {base : Heap}
/-- own new lists, one for each number below i -/
structure Rws (H0 H : Hp) (D : Addr) (rows : List V) (f : Nat → List Nat) (i : Nat) : Prop where
  len : rows.length = i
  get : ∀ x, x < i → ∃ r, rows[x]? = some (V.ref r) ∧ r ≠ D ∧ H0 r = none ∧ H r = some (.lst (nV (f x)))
  inj : ∀ (x y : Nat) (r : Addr), rows[x]? = some (V.ref r) → rows[y]? = some (V.ref r) → x = y
theorem Rws.nil (H0 H : Hp) (D : Addr) (f : Nat → List Nat) : Rws H0 H D [] f 0 := ⟨rfl, fun x h => absurd h (Nat.not_lt_zero _), fun x y r h => by simp at h⟩
theorem Rws.same {H0 H H' : Hp} {D : Addr} {rows : List V} {f : Nat → List Nat} {i : Nat} (h : Rws H0 H D rows f i) (s : Same H H') : Rws H0 H' D rows f i := ⟨h.len, fun x hx => by
  obtain ⟨r, h1, h2, h3, h4⟩ := h.get x hx
  exact ⟨r, h1, h2, h3, s _ _ h4⟩, h.inj⟩
theorem Rws.outD {H0 H : Hp} {D : Addr} {rows : List V} {f : Nat → List Nat} {i : Nat} {o : HO} (h : Rws H0 H D rows f i) : Rws H0 (upd H D o) D rows f i := ⟨h.len, fun x hx => by
  obtain ⟨r, h1, h2, h3, h4⟩ := h.get x hx
  exact ⟨r, h1, h2, h3, by rw [upd_ne h2]; exact h4⟩, h.inj⟩
theorem Rws.snoc {H0 H : Hp} {D r : Addr} {rows : List V} {f : Nat → List Nat} {i : Nat} (h : Rws H0 H D rows f i) (hr : H r = none) (n : r ≠ D) (h0 : H0 r = none) (e : f i = []) : Rws H0 (upd H r (.lst [])) D (rows ++ [.ref r]) f (i + 1) := by
  have nr : ∀ x q, rows[x]? = some (V.ref q) → q ≠ r := fun x q hx z => by
    have hl := lt_of_get hx
    rw [h.len] at hl
    obtain ⟨q', h1, _, _, h4⟩ := h.get x hl
    rw [hx] at h1
    cases h1
    rw [z, hr] at h4
    cases h4
  refine ⟨by rw [List.length_append, h.len] <;> rfl, fun x hx => ?_, fun x y q hx hy => ?_⟩
  · rcases Nat.lt_or_ge x i with z | z
    · obtain ⟨q, h1, h2, h3, h4⟩ := h.get x z
      exact ⟨q, by rw [List.getElem?_append_left (by rw [h.len]; exact z)]; exact h1, h2, h3, by rw [upd_ne (nr x q h1)]; exact h4⟩
    · have : x = i := by omega
      subst this
      exact ⟨r, by rw [List.getElem?_append_right (by rw [h.len]; exact Nat.le_refl _), h.len]; simp, n, h0, by rw [upd_same, e] <;> rfl⟩
  · have cs : ∀ x, (rows ++ [V.ref r])[x]? = some (V.ref q) → (x < i ∧ rows[x]? = some (V.ref q)) ∨ (x = i ∧ q = r) := fun x hx => by
      rcases Nat.lt_or_ge x i with z | z
      · rw [List.getElem?_append_left (by rw [h.len]; exact z)] at hx
        exact .inl ⟨z, hx⟩
      · have hl := lt_of_get hx
        rw [List.length_append, h.len] at hl
        have e1 : x = i := by
          have : x < i + 1 := hl
          omega
        rw [List.getElem?_append_right (by rw [h.len]; exact z), h.len, e1, Nat.sub_self] at hx
        have : V.ref r = V.ref q := by simpa using hx
        cases this
        exact .inr ⟨e1, rfl⟩
    rcases cs x hx with ⟨a1, a2⟩ | ⟨a1, a2⟩ <;> rcases cs y hy with ⟨b1, b2⟩ | ⟨b1, b2⟩
    · exact h.inj x y q a2 b2
    · exact absurd b2 (nr x q a2)
    · exact absurd a2 (nr y q b2)
    · rw [a1, b1]
theorem Rws.put {H0 H : Hp} {D r : Addr} {rows : List V} {f : Nat → List Nat} {i w : Nat} {l : List Nat} (h : Rws H0 H D rows f i) (hw : rows[w]? = some (V.ref r)) : Rws H0 (upd H r (.lst (nV l))) D rows (fun x => if x = w then l else f x) i := by
  refine ⟨h.len, fun x hx => ?_, h.inj⟩
  obtain ⟨q, h1, h2, h3, h4⟩ := h.get x hx
  by_cases c : x = w
  · subst c
    rw [hw] at h1
    cases h1
    exact ⟨r, hw, h2, h3, by rw [upd_same, if_pos rfl]⟩
  · have nq : q ≠ r := fun z => by
      subst z
      exact c (h.inj x w q h1 hw)
    exact ⟨q, h1, h2, h3, by rw [upd_ne nq, if_neg c]; exact h4⟩
theorem Rws.eqf {H0 H : Hp} {D : Addr} {rows : List V} {f g : Nat → List Nat} {i : Nat} (h : Rws H0 H D rows f i) (e : ∀ x, x < i → f x = g x) : Rws H0 H D rows g i := ⟨h.len, fun x hx => by
  rw [← e x hx]
  exact h.get x hx, h.inj⟩
def spPn (K : PySem.W.Frag) : Sp := fun vs H Q _ => ∃ (v : V) (j : Jn), vs = [v] ∧ Rp K H v j.py ∧ j.ok ∧ j.cnt ≤ 40 ∧ walk 42 [j.py] 0 = none ∧
  ∀ (H' : Hp) (p : Addr) (rows : List V), Same H H' → SqT K H' p rows → rows.length = j.cnt → (∀ x, x < j.cnt → ∃ r, rows[x]? = some (V.ref r) ∧ SqT K H' r (nV (kinN (j.ups (-1) 0) x))) → Q (.ref p) H'
theorem use_pn {K : PySem.W.Frag} {v : V} {j : Jn} {H : Hp} {Q : VK} {E : XK} (r : Rp K H v j.py) (h : j.ok) (h1 : j.cnt ≤ 40) (h2 : walk 42 [j.py] 0 = none) (q : ∀ (H' : Hp) (p : Addr) (rows : List V), Same H H' → SqT K H' p rows → rows.length = j.cnt → (∀ x, x < j.cnt → ∃ r, rows[x]? = some (V.ref r) ∧ SqT K H' r (nV (kinN (j.ups (-1) 0) x))) → Q (.ref p) H') : spPn K [v] H Q E := ⟨v, j, rfl, r, h, h1, h2, q⟩
/-- the numbers below i of the parts of x -/
def kinTo (us : List Int) (i x : Nat) : List Nat := (List.range i).filter fun y => decide (us[y]? = some (x : Int))
theorem kinTo_len (us : List Int) (i x : Nat) : (kinTo us i x).length ≤ i := Nat.le_trans (List.length_filter_le _ _) (by rw [List.length_range]; exact Nat.le_refl _)
theorem kinTo_succ (us : List Int) (i x : Nat) : kinTo us (i + 1) x = if us[i]? = some (x : Int) then kinTo us i x ++ [i] else kinTo us i x := by
  unfold kinTo
  rw [List.range_succ, List.filter_append, List.filter_cons]
  split
  · rename_i h
    rw [if_pos (of_decide_eq_true h)] <;> rfl
  · rename_i h
    rw [if_neg (fun z => h (decide_eq_true z))]
    simp
abbrev s_part_numbers : Stmt := top 40
theorem sc_part_numbers : FnScope ["program", "wholes", "found", "_", "number", "whole", "parts"] ["program"] (defScope s_part_numbers) := ⟨rfl, rfl, rfl, by decide +kernel, rfl, by decide +kernel, by decide +kernel⟩
theorem has_part_numbers (O : OwnF K mg "part_numbers" s_part_numbers) (B : Bl mg) (h_above : HasF P w K mg base (L2.CX P w) 9 "above" ["program"] (spAbv K)) : HasF P w K mg base (L2.CX P w) 10 "part_numbers" ["program"] (spPn K) := by
  refine hasX O sc_part_numbers (fun _ _ _ _ _ _ us hl => match us, hl with | [_], _ => rfl) (fun vs H Q E h => ?_) (fun f cdv A outer s_ H vs Q E hr h => ?_)
  · obtain ⟨v, j, rfl, _⟩ := h
    rfl
  obtain ⟨v, j, rfl, r, hok, h40, hwk, q⟩ := h
  refine ⟨_, (pss_cons (ps_set (i := 1) sc_part_numbers.nd rfl (by first | exact Or.inl rfl | exact Or.inr rfl) (pe_callHS h_above (hr.mono (by first | decide | omega)) (by rfl) (fun σ => passAt tkX σ) (pa_cons (pv 0) pa_nil))) (pss_cons (ps_setLc (i := 2) (own := [("_", 3)]) (g := gName 3) (tt := tYes) rfl sc_part_numbers.nd rfl rfl (sw_true rfl rfl rfl (by decide +kernel)) (pi_tupK K (pv 1)) (blkOk_by (own := [("_", 3)]) (N := ["program", "wholes", "found", "_", "number", "whole", "parts"]) (sc := defScope s_part_numbers) (by decide +kernel)) (fun _ _ _ _ _ => (pg_name (i := 3) sc_part_numbers.nd rfl (by first | exact Or.inl rfl | exact Or.inr rfl))) (fun _ _ _ _ _ => pts_nil) (fun _ _ _ _ _ => (pe_lst pa_nil))) (pss_cons (ps_for poX rfl (pi_enAK K (by rfl) B.enumerate (pa_cons (pv 1) pa_nil)) (pg_tupK (n := 2) K rfl (pgs_cons (pg_name (i := 4) sc_part_numbers.nd rfl (by first | exact Or.inl rfl | exact Or.inr rfl)) (pgs_cons (pg_name (i := 5) sc_part_numbers.nd rfl (by first | exact Or.inl rfl | exact Or.inr rfl)) pgs_nil))) (pss_one (ps_if (pt_cmpR geU (pv 5) pe_int (nomark _)) (pss_one (ps_expr (pe_bmK K PySem.F.plainAttrs_list PySem.F.slot_list_append PySem.F.type_list_append mt_append (pe_ix (kIx K) (pv 2) (pv 5) (fun _ _ => rfl)) (pa_cons (pv 4) pa_nil)))) pss_nil))) (pss_one (ps_ret (pe_callTy (kTup K) (by rfl) B.tuple (by decide +kernel) (pa_cons (pe_lc (own := [("parts", 6)]) (g := gName 6) (tt := tYes) rfl sc_part_numbers.nd (pi_listK K (pv 2)) (blkOk_by (own := [("parts", 6)]) (N := ["program", "wholes", "found", "_", "number", "whole", "parts"]) (sc := defScope s_part_numbers) (by decide +kernel)) (fun _ _ _ _ _ => (pg_name (i := 6) sc_part_numbers.nd rfl (by first | exact Or.inl rfl | exact Or.inr rfl))) (fun _ _ _ _ _ => pts_nil) (fun _ _ _ _ _ => (pe_callTy (kTup K) (by rfl) B.tuple (by decide +kernel) (pa_cons (pv 6) pa_nil)))) pa_nil))))))), ?_⟩
  refine st0 [some v, none, none, none, none, none, none] rfl ?_
  walk_at "go"
  refine use_abv r hok h40 hwk fun H1 pa s1 ea => ?_
  have hul := ups_len j (-1) 0
  have hui := ups_in j (-1) 0
  generalize Jn.ups (-1) 0 j = us at *
  have lus : (us.map V.int).length = j.cnt := by rw [List.length_map, hul]
  walk_at "go"
  intro D hD
  refine lc_tup (xs := us.map V.int) (fun i H' => ∃ rows, H' D = some (.lst rows) ∧ Rws H1 H' D rows (fun _ => []) i ∧ Same H1 H') ⟨[], upd_same, Rws.nil _ _ _ _, Same.upd_new (Same.refl H1) hD⟩ ?_ ?_ ?_
  · rintro i H' hi ⟨rows, g1, g2, g3⟩
    exact Ext.of_same g3 _ _ ea
  · rintro i x H' hx ⟨rows, g1, g2, g3⟩
    have hi := lt_of_get hx
    rw [lus] at hi
    walk_at "go"
    refine ⟨rfl, ?_⟩
    walk_at "go"
    refine ⟨lk rfl, fun p hp => ?_⟩
    have n1 : D ≠ p := ne_of_none g1 hp
    have hp1 : H1 p = none := by
      cases hh : H1 p with
      | none => rfl
      | some o => rw [g3 _ _ hh] at hp; cases hp
    refine ⟨rows, by rw [upd_ne n1]; exact g1, by rw [g2.len]; exact ls (by omega), rows ++ [.ref p], upd_same, (g2.snoc hp n1.symm hp1 rfl).outD, Same.upd_new (Same.new g3 hp) hD⟩
  rintro H2 ⟨rows, g1, g2, g3⟩
  rw [lus] at g2
  have ea2 := Ext.of_same (K := K) g3 _ _ ea
  walk_at "go"
  refine HE.forET (xs := us.map V.int) (fun i σ H' => ∃ (o4 o5 : Option V), σ = [some v, some (.ref pa), some (.ref D), none, o4, o5, none] ∧ Rws H1 H' D rows (kinTo us i) j.cnt ∧ Same H1 H' ∧ H' D = some (.lst rows)) ⟨_, _, rfl, g2.eqf (fun x _ => rfl), g3, g1⟩ ?_ ?_ ?_
  · rintro i σ H' hi ⟨o4, o5, rfl, k1, k2, k3⟩
    exact Ext.of_same k2 _ _ ea
  · rintro i x t σ H' hx ⟨o4, o5, rfl, k1, k2, k3⟩ ht
    rw [List.getElem?_map, Option.map_eq_some_iff] at hx
    obtain ⟨u, hu, rfl⟩ := hx
    have hi := lt_of_get hu
    have st : Same H' (upd H' t (.tup [.int (i : Nat), .int u])) := same_new ht _
    have k4 := k1.same st
    have k5 := k2.trans st
    have k6 := st _ _ k3
    have sT : SqT K (upd H' t (.tup [.int (i : Nat), .int u])) t [.int (i : Nat), .int u] := SqT.of upd_same
    generalize upd H' t (.tup [.int (i : Nat), .int u]) = H3 at *
    walk_at "go"
    refine rd_split (fun c => ?_) (fun c => ?_)
    · have hr := hui u (List.mem_of_getElem? hu)
      obtain ⟨m, rfl⟩ : ∃ m : Nat, u = m := ⟨u.toNat, by omega⟩
      have hm : m < j.cnt := by omega
      obtain ⟨ra, e1, e2, e3, e4⟩ := k4.get m hm
      walk_at "go"
      refine u_ixL (SqL.of k6) (atI_nat e1) ?_
      walk_at "go"
      refine u_app e4 ?_ ?_
      · unfold nV
        rw [List.length_map]
        exact ls (Nat.le_trans (kinTo_len _ _ _) (by omega))
      walk_at "go"
      have e5 : nV (kinTo us i m) ++ [V.int (i : Nat)] = nV (kinTo us i m ++ [i]) := by
        unfold nV
        rw [List.map_append] <;> rfl
      rw [e5]
      refine ⟨_, _, rfl, (k4.put e1).eqf (fun x hx => ?_), Same.upd_new k5 e3, by rw [upd_ne e2.symm]; exact k6⟩
      rw [kinTo_succ, hu]
      by_cases cx : x = m
      · subst cx
        rw [if_pos rfl, if_pos rfl]
      · rw [if_neg cx, if_neg (fun z => cx (by have := Option.some.inj z; omega))]
    · walk_at "go"
      refine ⟨_, _, rfl, k4.eqf (fun x hx => ?_), k5, k6⟩
      rw [kinTo_succ, hu, if_neg (fun z => c (by have := Option.some.inj z; omega))]
  rintro σ H4 ⟨o4, o5, rfl, k1, k2, k3⟩
  rw [lus, ← hul] at k1
  walk_at "go"
  intro D2 hD2
  have nD : D ≠ D2 := ne_of_none k3 hD2
  refine lc_list (xs := rows) (fun i H' => ∃ ts, H' D2 = some (.lst ts) ∧ ts.length = i ∧ (∀ x, x < i → ∃ r, ts[x]? = some (V.ref r) ∧ SqT K H' r (nV (kinN us x))) ∧ Same H4 H') ⟨[], upd_same, rfl, fun x hx => absurd hx (Nat.not_lt_zero _), Same.upd_new (Same.refl H4) hD2⟩ ?_ ?_ ?_
  · rintro i H' hi ⟨ts, y1, y2, y3, y4⟩
    exact SqL.of (y4 _ _ k3)
  · rintro i x H' hx ⟨ts, y1, y2, y3, y4⟩
    have hi := lt_of_get hx
    rw [k1.len] at hi
    obtain ⟨ra, e1, e2, e3, e4⟩ := k1.get i hi
    rw [hx] at e1
    cases e1
    walk_at "go"
    refine ⟨rfl, ?_⟩
    walk_at "go"
    refine u_tupL (SqL.of (y4 _ _ e4)) fun p hp => ?_
    have n1 : D2 ≠ p := ne_of_none y1 hp
    have x1 : Ext K H' (upd (upd H' p (.tup (nV (kinTo us us.length i)))) D2 (.lst (ts ++ [.ref p]))) := (Ext.new hp).trans (Ext.set (o := .lst ts) (by rw [upd_ne n1]; exact y1) trivial)
    refine ⟨ts, by rw [upd_ne n1]; exact y1, by rw [y2]; exact ls (by omega), ts ++ [.ref p], upd_same, by rw [List.length_append, y2] <;> rfl, fun x hx2 => ?_, Same.upd_new (Same.new y4 hp) hD2⟩
    rcases Nat.lt_or_ge x i with z | z
    · obtain ⟨r2, z1, z2⟩ := y3 x z
      exact ⟨r2, by rw [List.getElem?_append_left (by omega)]; exact z1, x1 _ _ z2⟩
    · have : x = i := by omega
      subst this
      exact ⟨p, by rw [List.getElem?_append_right (by omega), y2]; simp, SqT.of (by rw [upd_ne n1.symm]; exact upd_same)⟩
  rintro H5 ⟨ts, y1, y2, y3, y4⟩
  rw [k1.len] at y2 y3
  walk_at "go"
  refine u_tupL (SqL.of y1) fun p hp => ?_
  refine q _ p ts (Same.new ((s1.trans k2).trans y4) hp) (SqT.of upd_same) (by rw [y2, hul]) (fun x hx => ?_)
  obtain ⟨r2, z1, z2⟩ := y3 x (by rw [hul]; exact hx)
  exact ⟨r2, z1, Ext.new hp _ _ z2⟩
end

/-! ### I2 -/
section
variable {P : Program} {w : World} {K : PySem.W.Frag} {mg : Str → Option Value} {base : Heap}
/-- the classes of the faults -/
structure Fcl where
  uneq : Addr
  part : Addr
  great : Addr
  inp : Addr
def Fcl.of (c : Fcl) : Fk → Addr
  | .uneq => c.uneq
  | .part => c.part
  | .great => c.great
  | .inp => c.inp
def RaisedV (E : XK) (H : Hp) (C : Addr) (v : V) : Prop := ∀ (H' : Hp) (d : Addr), Same H H' → H' d = some (.xd [("what", v)]) → E (.ref C) (some d) H'
theorem RaisedV.mono {E : XK} {H H1 : Hp} {C : Addr} {v : V} (h : RaisedV E H C v) (s : Same H H1) : RaisedV E H1 C v := fun H' d s' e => h H' d (s.trans s') e
def spCk (K : PySem.W.Frag) (c : Fcl) : Sp := fun vs H Q E => ∃ (z : Str) (a b : Addr) (tv : List V) (td : List PyData) (ps : List Int) (n : Int) (s : Int), vs = [.str z, .ref a, .ref b, .int n] ∧ SqT K H a tv ∧ Rps K H tv td ∧ SqL K H b (ps.map V.int) ∧ (∀ p ∈ ps, 1 ≤ p ∧ p ≤ 64) ∧ td.length ≤ 64 ∧ szOf z td ps = some s ∧
  (z ∈ pairOps → ∃ p q, ps = [p, q]) ∧ (z = "part" → ∃ i k p, td = [.int i, .int k] ∧ ps = [p]) ∧ (∀ k, badO z td ps = some k → RaisedV E H (c.of k) (.int n)) ∧ (badO z td ps = none → ∀ H', Same H H' → Q (.int s) H')
abbrev s_checked_size : Stmt := top 61
theorem sc_checked_size : FnScope ["op", "told", "part_sizes", "number", "size"] ["op", "told", "part_sizes", "number"] (defScope s_checked_size) := ⟨rfl, rfl, rfl, by decide +kernel, rfl, by decide +kernel, by decide +kernel⟩
theorem has_checked_size {fI : Addr} {c : Fcl} (O : OwnF K mg "checked_size" s_checked_size) (B : Bl mg) (C : Cst mg) (hI : InitF P w K mg base fI) (M_Unequal : ErrC K mg fI "Unequal" c.uneq) (M_BadPart : ErrC K mg fI "BadPart" c.part) (M_TooGreat : ErrC K mg fI "TooGreat" c.great) (h_size_of : HasF P w K mg base CX0 1 "size_of" ["op", "told", "part_sizes"] (spSz K)) : HasF P w K mg base (L2.CX P w) 3 "checked_size" ["op", "told", "part_sizes", "number"] (spCk K c) := by
  refine hasX O sc_checked_size (fun _ _ _ _ _ _ us hl => match us, hl with | [_, _, _, _], _ => rfl) (fun vs H Q E h => ?_) (fun f cdv A outer s_ H vs Q E hr h => ?_)
  · obtain ⟨z, a, b, tv, td, ps, n, s, rfl, _⟩ := h
    rfl
  obtain ⟨z, a, b, tv, td, ps, n, s, rfl, hT, hR, hL, hps, h64, hz, hpr, hpt, hbad, q⟩ := h
  refine ⟨_, (pss_cons (ps_if (PW.pt (pw_and (pt_cmpR (kIn K) (pv 0) (pe_tup (pa_cons pe_str (pa_cons pe_str (pa_cons pe_str (pa_cons pe_str pa_nil))))) (by rfl)) (pw_and1 (pt_cmpR (kNeG K (hU hr)) (pe_ix (kIx K) (pv 2) pe_int (fun _ _ => rfl)) (pe_ix (kIx K) (pv 2) pe_int (fun _ _ => rfl)) (nomark _))))) (pss_one (ps_raiseE K hI M_Unequal rfl (hr.mono (by decide)) tkX (pv 3) (by rfl))) pss_nil) (pss_cons (ps_if (PW.pt (pw_and (pt_cmpR (kEqG K (hU hr)) (pv 0) pe_str (nomark _)) (pw_and1 (pt_cmpR gtU (pe_ix (kIx K) (pv 1) pe_int (fun _ _ => rfl)) (pe_ix (kIx K) (pv 2) pe_int (fun _ _ => rfl)) (nomark _))))) (pss_one (ps_raiseE K hI M_BadPart rfl (hr.mono (by decide)) tkX (pv 3) (by rfl))) pss_nil) (pss_cons (ps_set (i := 4) sc_checked_size.nd rfl (by first | exact Or.inl rfl | exact Or.inr rfl) (pe_callH h_size_of (hr.mono (by first | decide | omega)) (by rfl) pass0 (pa_cons (pv 0) (pa_cons (pv 1) (pa_cons (pv 2) pa_nil))))) (pss_cons (ps_if (pt_cmpR gtU (pv 4) (pe_globI C.LONGEST_ROW (by rfl)) (nomark _)) (pss_one (ps_raiseE K hI M_TooGreat rfl (hr.mono (by decide)) tkX (pv 3) (by rfl))) pss_nil) (pss_one (ps_ret (pv 4))))))), ?_⟩
  refine st0 [some (.str z), some (.ref a), some (.ref b), some (.int n), none] rfl ?_
  walk_at "go"
  refine ⟨lk rfl, fun p1 hp1 => ?_⟩
  have s1 := same_new hp1 (.tup [V.str (Str.ofString "add"), .str (Str.ofString "sub"), .str (Str.ofString "mul"), .str (Str.ofString "dot")])
  have m1 : inV (.str z) ([Str.ofString "add", Str.ofString "sub", Str.ofString "mul", Str.ofString "dot"].map V.str) = decide (z ∈ pairOps) := inV_str z _
  walk_at "go"
  refine u_inT (xs := [Str.ofString "add", Str.ofString "sub", Str.ofString "mul", Str.ofString "dot"].map V.str) (SqT.of upd_same) rfl (flat_strs _) ?_
  rw [m1]
  walk_at "go"
  have hT1 := Ext.of_same (K := K) s1 _ _ hT
  have hR1 := hR.mono (Ext.of_same (K := K) s1) _ _
  have hL1 : SqL K (upd H p1 (.tup [V.str (Str.ofString "add"), .str (Str.ofString "sub"), .str (Str.ofString "mul"), .str (Str.ofString "dot")])) b (ps.map V.int) := Same.seq s1 hL
  generalize upd H p1 (.tup [V.str (Str.ofString "add"), .str (Str.ofString "sub"), .str (Str.ofString "mul"), .str (Str.ofString "dot")]) = H1 at *
  have np : z ∈ pairOps → z ≠ "part" := by
    have k : ∀ y ∈ pairOps, y ≠ "part" := by decide +kernel
    exact k z
  refine rd_split (fun c => ?_) (fun c => ?_)
  · obtain ⟨p, p', rfl⟩ := hpr c
    have i0 : atI ([p, p'].map V.int) 0 = some (.int p) := rfl
    have i1 : atI ([p, p'].map V.int) 1 = some (.int p') := rfl
    walk_at "go"
    by_cases e : p = p'
    · rw [decide_eq_true e, Bool.not_true]
      refine iteF ?_
      walk_at "go"
      refine rd_split (fun c5 => absurd c5 (np c)) (fun c5 => ?_)
      walk_at "go"
      refine ⟨z, a, b, _, _, _, s, rfl, hT1, hR1, hL1, hps, h64, hz, fun H2 s2 => ?_⟩
      have eb : badO z td [p, p'] = if 64 < s then some .great else none := by
        unfold badO
        rw [if_neg (fun z => z.2 e), if_neg (fun z => c5 z.1), hz] <;> rfl
      walk_at "go"
      refine rd_split (fun c9 => ?_) (fun c9 => ?_)
      · walk_at "go"
        rw [if_pos (by omega)] at eb
        exact u_raise M_TooGreat.c M_TooGreat.n fun d hd => hbad _ eb _ d (Same.new (s1.trans s2) hd) upd_same
      · walk_at "go"
        rw [if_neg (by omega)] at eb
        exact q eb _ (s1.trans s2)
    · rw [decide_eq_false e, Bool.not_false]
      refine iteT ?_
      walk_at "go"
      have eb : badO z td [p, p'] = some .uneq := by
        unfold badO
        rw [if_pos ⟨c, e⟩]
      exact u_raise M_Unequal.c M_Unequal.n fun d hd => hbad _ eb _ d (Same.new s1 hd) upd_same
  · walk_at "go"
    have hfin : (z = "part" → ¬ ps.getD 0 0 < tdK td) → badO z td ps = if 64 < s then some .great else none := fun h => by
      unfold badO
      rw [if_neg (fun y => c y.1), if_neg (fun y => h y.1 y.2), hz] <;> rfl
    refine rd_split (fun c5 => ?_) (fun c5 => ?_)
    · obtain ⟨i, k, p, rfl, rfl⟩ := hpt c5
      obtain ⟨x, y, d, e, rfl, ed, r1, r2⟩ := hR1.pair (by rw [hR1.length] <;> rfl)
      cases ed
      cases r2
      have hR2 : Rps K H1 [x, .int k] [.int i, .int k] := .cons r1 (.cons (.int _) .nil)
      have i0 : atI ([p].map V.int) 0 = some (.int p) := rfl
      walk_at "go"
      refine u_ixT hT1 rfl ?_
      walk_at "go"
      refine rd_split (fun c6 => ?_) (fun c6 => ?_)
      · walk_at "go"
        have eb : badO z [.int i, .int k] [p] = some .part := by
          unfold badO
          rw [if_neg (fun y => c y.1), if_pos ⟨c5, by show p < k; omega⟩]
        exact u_raise M_BadPart.c M_BadPart.n fun d hd => hbad _ eb _ d (Same.new s1 hd) upd_same
      walk_at "go"
      refine ⟨z, a, b, _, _, _, s, rfl, hT1, hR2, hL1, hps, h64, hz, fun H2 s2 => ?_⟩
      have eb := hfin (fun _ => by show ¬ p < k; omega)
      walk_at "go"
      refine rd_split (fun c9 => ?_) (fun c9 => ?_)
      · walk_at "go"
        rw [if_pos (by omega)] at eb
        exact u_raise M_TooGreat.c M_TooGreat.n fun d hd => hbad _ eb _ d (Same.new (s1.trans s2) hd) upd_same
      · walk_at "go"
        rw [if_neg (by omega)] at eb
        exact q eb _ (s1.trans s2)
    · walk_at "go"
      refine ⟨z, a, b, _, _, _, s, rfl, hT1, hR1, hL1, hps, h64, hz, fun H2 s2 => ?_⟩
      have eb := hfin (fun y => absurd y c5)
      walk_at "go"
      refine rd_split (fun c9 => ?_) (fun c9 => ?_)
      · walk_at "go"
        rw [if_pos (by omega)] at eb
        exact u_raise M_TooGreat.c M_TooGreat.n fun d hd => hbad _ eb _ d (Same.new (s1.trans s2) hd) upd_same
      · walk_at "go"
        rw [if_neg (by omega)] at eb
        exact q eb _ (s1.trans s2)
end

/-! ### I3 -/
section
variable {P : Program} {w : World} {K : PySem.W.Frag} {mg : Str → Option Value} {base : Heap}
theorem rd_dsetd {σ : St} {H : Hp} {Q : VK} {td ty tx : TE} (h : td σ H fun x H1 => ∃ a, x = .ref a ∧ IsD H1 a ∧ ty σ H1 fun y H2 => tx σ H2 fun z H3 => ∃ (kvs : List (Key × V)) (k : Key), H3 a = some (.dK kvs) ∧ y = kV k ∧ kvs.length < sizeLine ∧ (∀ v, valV kvs k = some v → Q v H3) ∧ (valV kvs k = none → Q z (upd H3 a (.dK (putK kvs k z))))) : tDSetd td ty tx σ H Q := h
theorem pys_map : ∀ l : List Jn, Jn.pys l = l.map Jn.py
  | [] => rfl
  | j :: r => by simp only [Jn.pys, List.map_cons, pys_map r]
/-- the names seen, as the dict holds them -/
def Nms (kvs : List (Key × V)) (d : Str → Option Int) : Prop := ∀ z, valV kvs (Sum.inr z) = (d z).map V.int
def spCn (K : PySem.W.Frag) (c : Fcl) : Sp := fun vs H Q E => ∃ (a : Addr) (ws : List V) (l : List Jn), vs = [.ref a] ∧ SqT K H a ws ∧ Rps K H ws (Jn.pys l) ∧ (∀ x ∈ l, Fit x) ∧ l.length ≤ 40 ∧
  (∀ z, nf l (fun _ => none) = some z → RaisedV E H c.inp (.str z)) ∧ (nf l (fun _ => none) = none → ∀ H', Same H H' → Q .non H')
abbrev s_check_names : Stmt := top 62
theorem sc_check_names : FnScope ["rows", "first", "op", "told", "_", "name", "k"] ["rows"] (defScope s_check_names) := ⟨rfl, rfl, rfl, by decide +kernel, rfl, by decide +kernel, by decide +kernel⟩
theorem has_check_names {fI : Addr} {c : Fcl} (O : OwnF K mg "check_names" s_check_names) (hI : InitF P w K mg base fI) (M_BadInput : ErrC K mg fI "BadInput" c.inp) : HasF P w K mg base (L2.CX P w) 3 "check_names" ["rows"] (spCn K c) := by
  refine hasX O sc_check_names (fun _ _ _ _ _ _ us hl => match us, hl with | [_], _ => rfl) (fun vs H Q E h => ?_) (fun f cdv A outer s_ H vs Q E hr h => ?_)
  · obtain ⟨a, ws, l, rfl, _⟩ := h
    rfl
  obtain ⟨a, ws, l, rfl, hW, hR, hF, h40, hbad, q⟩ := h
  have lw : ws.length = l.length := by rw [hR.length, pys_length]
  refine ⟨_, (pss_cons (ps_set (i := 1) sc_check_names.nd rfl (by first | exact Or.inl rfl | exact Or.inr rfl) pe_dnewK) (pss_one (ps_for poX rfl (pi_tupK K (pv 0)) (pg_tupK (n := 3) K rfl (pgs_cons (pg_name (i := 2) sc_check_names.nd rfl (by first | exact Or.inl rfl | exact Or.inr rfl)) (pgs_cons (pg_name (i := 3) sc_check_names.nd rfl (by first | exact Or.inl rfl | exact Or.inr rfl)) (pgs_cons (pg_name (i := 4) sc_check_names.nd rfl (by first | exact Or.inl rfl | exact Or.inr rfl)) pgs_nil)))) (pss_one (ps_if (pt_cmpR (kEqG K (hU hr)) (pv 2) pe_str (nomark _)) (pss_cons (ps_asg (pv 3) (pg_tupK (n := 2) K rfl (pgs_cons (pg_name (i := 5) sc_check_names.nd rfl (by first | exact Or.inl rfl | exact Or.inr rfl)) (pgs_cons (pg_name (i := 6) sc_check_names.nd rfl (by first | exact Or.inl rfl | exact Or.inr rfl)) pgs_nil)))) (pss_one (ps_if (pt_cmpR (kNeG K (hU hr)) (pe_dsetd (pv 1) (pv 5) (pv 6) ⟨by rfl, by rfl, by rfl, by rfl⟩) (pv 6) (nomark _)) (pss_one (ps_raiseE K hI M_BadInput rfl (hr.mono (by decide)) tkX (pv 5) (by rfl))) pss_nil))) pss_nil))))), ?_⟩
  refine st0 [some (.ref a), none, none, none, none, none, none] rfl ?_
  walk_at "go"
  intro p hp
  have hW1 := Ext.new (K := K) (o := .dK []) hp _ _ hW
  walk_at "go"
  refine forT (xs := ws) (fun i σ H' => ∃ (o2 o3 o4 o5 o6 : Option V) (kvs : List (Key × V)) (d : Str → Option Int), σ = [some (.ref a), some (.ref p), o2, o3, o4, o5, o6] ∧ Same H H' ∧ H' p = some (.dK kvs) ∧ kvs.length ≤ i ∧ Nms kvs d ∧ nf (l.drop i) d = nf l (fun _ => none))
    ⟨_, _, _, _, _, [], fun _ => none, rfl, same_new hp _, upd_same, Nat.le_refl _, fun z => rfl, rfl⟩ ?_ ?_ ?_
  · rintro i σ H' hi ⟨o2, o3, o4, o5, o6, kvs, d, rfl, s1, _⟩
    exact Ext.of_same s1 _ _ hW
  · rintro i x σ H' hx ⟨o2, o3, o4, o5, o6, kvs, d, rfl, s1, e1, e2, e3, e4⟩
    obtain ⟨dd, hd, rd⟩ := hR.getV hx
    obtain ⟨j, hj, rfl⟩ : ∃ j, l[i]? = some j ∧ dd = j.py := by
      rw [pys_map, List.getElem?_map, Option.map_eq_some_iff] at hd
      obtain ⟨j, h1, h2⟩ := hd
      exact ⟨j, h1, h2.symm⟩
    have il := lt_of_get hj
    have gj := hF j (List.mem_of_getElem? hj)
    rw [drop_get hj] at e4
    obtain ⟨op, td, parts⟩ := j
    obtain ⟨pj, t, qa, tv, pv', rfl, hsj, hT, hTd, hq, hQ⟩ := (rd.mono (Ext.of_same s1) _ _).jn
    walk_at "go"
    refine rd_split (fun c => ?_) (fun c => ?_)
    · subst c
      obtain ⟨z, k, rfl, k1, k2⟩ := told_in gj.1
      rw [nf_in] at e4
      obtain ⟨x, y, d', e, rfl, ed, r1, r2⟩ := hTd.pair (by rw [hTd.length] <;> rfl)
      cases ed
      cases r1
      cases r2
      walk_at "go"
      refine rd_dsetd ?_
      walk_at "go"
      refine ⟨p, rfl, .inl ⟨kvs, .inl e1⟩, ?_⟩
      walk_at "go"
      refine ⟨kvs, Sum.inr z, e1, rfl, ls (by omega), fun u hu => ?_, fun hu => ?_⟩
      · rw [e3 z, Option.map_eq_some_iff] at hu
        obtain ⟨k', hk', rfl⟩ := hu
        rw [hk', Option.getD_some] at e4
        walk_at "go"
        by_cases ek : k' = k
        · subst ek
          rw [decide_eq_true rfl, Bool.not_true]
          refine iteF ?_
          walk_at "go"
          rw [if_pos rfl, nSet_self hk'] at e4
          exact ⟨_, _, _, _, _, kvs, d, rfl, s1, e1, by omega, e3, e4⟩
        · rw [decide_eq_false ek, Bool.not_false]
          refine iteT ?_
          walk_at "go"
          rw [if_neg ek] at e4
          exact u_raise M_BadInput.c M_BadInput.n fun d hd => hbad _ e4.symm _ d (Same.new s1 hd) upd_same
      · rw [e3 z, Option.map_eq_none_iff] at hu
        rw [hu, Option.getD_none, if_pos rfl] at e4
        walk_at "go"
        rw [decide_eq_true rfl, Bool.not_true]
        refine iteF ?_
        walk_at "go"
        refine ⟨_, _, _, _, _, _, nSet d z k, rfl, Same.upd_new s1 hp, upd_same, Nat.le_trans (length_putK _ _ _) (by omega), fun y => ?_, e4⟩
        rw [valV_put]
        unfold nSet
        by_cases ey : y = z
        · subst ey
          rw [if_pos rfl, if_pos rfl] <;> rfl
        · rw [if_neg (fun w => ey (Sum.inr.inj w)), if_neg ey, e3 y]
    · walk_at "go"
      rw [nf_other c] at e4
      exact ⟨_, _, _, _, _, kvs, d, rfl, s1, e1, by omega, e3, e4⟩
  · rintro σ H' ⟨o2, o3, o4, o5, o6, kvs, d, rfl, s1, e1, e2, e3, e4⟩
    rw [lw, List.drop_length] at e4
    walk_at "go"
    exact q (e4.symm.trans (by simp only [nf])) _ s1
end

/-! ### I4 -/
section
variable {P : Program} {w : World} {K : PySem.W.Frag} {mg : Str → Option Value} {base : Heap}
def spSs (K : PySem.W.Frag) (c : Fcl) : Sp := fun vs H Q E => ∃ (v : V) (j : Jn), vs = [v] ∧ Rp K H v j.py ∧ Fx j ∧ j.cnt ≤ 40 ∧ (∀ k z, j.fault = some (k, .str z) → RaisedV E H (c.of k) (.str z)) ∧ (∀ k n, j.fault = some (k, .int n) → RaisedV E H (c.of k) (.int n)) ∧
  (j.fault = none → ∀ (H' : Hp) (q : Addr), Same H H' → SqT K H' q ((Jn.wds j.all).map V.int) → Q (.ref q) H')
def spSy (K : PySem.W.Frag) (c : Fcl) (e : Ecl) : Sp := fun vs H Q E => ∃ v : V, vs = [v] ∧ (spSs K c [v] H Q E ∨ JBad K e v H E)
theorem HasF.weak {P : Program} {w : World} {K : PySem.W.Frag} {mg : Str → Option Value} {base : Heap} {CX : CXT} {k : Nat} {x : Str} {ps : List Str} {sp sp' : Sp} (F : HasF P w K mg base CX k x ps sp) (h : ∀ vs H Q E, sp' vs H Q E → sp vs H Q E) : HasF P w K mg base CX k x ps sp' := by
  obtain ⟨f, fd, h1, h2⟩ := F
  exact ⟨f, fd, h1.imp h, h2⟩
theorem spSs.sz {K : PySem.W.Frag} {c : Fcl} {e : Ecl} (vs : List V) (H : Hp) (Q : VK) (E : XK) (h : spSs K c vs H Q E) : spSy K c e vs H Q E := by
  have h' := h
  obtain ⟨v, j, rfl, _⟩ := h'
  exact ⟨v, rfl, .inl h⟩
theorem Fx.shape {op : Str} {td : List PyData} {parts : List Jn} (h : Fit (.mk op td parts)) : (op ∈ pairOps → ∃ p q, Jn.wds parts = [p, q]) ∧ (op = "part" → ∃ i k p, td = [.int i, .int k] ∧ Jn.wds parts = [p]) := by
  have hl : (Jn.wds parts).length = parts.length := by rw [wds_map, List.length_map]
  obtain ⟨h1, h2⟩ := h
  rw [← hl] at h2
  refine ⟨fun c => ?_, fun c => ?_⟩
  · have k : ∀ y ∈ pairOps, y ∈ op2 := by decide +kernel
    exact two_of (parts_two h2 (k op c))
  · subst c
    obtain ⟨i, k, e, _⟩ := told_part h1
    obtain ⟨p, ep⟩ := one_of (parts_one h2 (by decide +kernel))
    exact ⟨i, k, p, e, ep⟩
/-- without a fault a size is 64 at most -/
theorem bad_le {op : Str} {td : List PyData} {parts : List Jn} (h : (Jn.mk op td parts).bad = none) : (Jn.mk op td parts).wd ≤ 64 := by
  simp only [Jn.bad, badO] at h
  simp only [Jn.wd]
  split at h
  · cases h
  split at h
  · cases h
  split at h
  · cases h
  · omega
theorem bad_le' {j : Jn} (h : j.bad = none) : j.wd ≤ 64 := by
  obtain ⟨op, td, parts⟩ := j
  exact bad_le h
abbrev s_sizes : Stmt := top 63
theorem sc_sizes : FnScope ["program", "rows", "parts", "found", "number", "op", "told", "_", "part_sizes", "part"] ["program"] (defScope s_sizes) := ⟨rfl, rfl, rfl, by decide +kernel, rfl, by decide +kernel, by decide +kernel⟩
theorem has_sizes {c : Fcl} {e : Ecl} (O : OwnF K mg "sizes" s_sizes) (B : Bl mg) (BR : mg "reversed" = none) (h_joints : HasF P w K mg base (L2.CX P w) 9 "joints" ["program"] (spJts K e)) (h_part_numbers : HasF P w K mg base (L2.CX P w) 10 "part_numbers" ["program"] (spPn K)) (h_checked_size : HasF P w K mg base (L2.CX P w) 3 "checked_size" ["op", "told", "part_sizes", "number"] (spCk K c)) (h_check_names : HasF P w K mg base (L2.CX P w) 3 "check_names" ["rows"] (spCn K c)) : HasF P w K mg base (L2.CX P w) 11 "sizes" ["program"] (spSy K c e) := by
  refine hasX O sc_sizes (fun _ _ _ _ _ _ us hl => match us, hl with | [_], _ => rfl) (fun vs H Q E h => ?_) (fun f cdv A outer s_ H vs Q E hr h => ?_)
  · obtain ⟨v, rfl, _⟩ := h
    rfl
  obtain ⟨v, rfl, h⟩ := h
  refine ⟨_, (pss_cons (ps_set (i := 1) sc_sizes.nd rfl (by first | exact Or.inl rfl | exact Or.inr rfl) (pe_callHS h_joints (hr.mono (by first | decide | omega)) (by rfl) (fun σ => passAt tkX σ) (pa_cons (pv 0) pa_nil))) (pss_cons (ps_set (i := 2) sc_sizes.nd rfl (by first | exact Or.inl rfl | exact Or.inr rfl) (pe_callHS h_part_numbers (hr.mono (by first | decide | omega)) (by rfl) (fun σ => passAt tkX σ) (pa_cons (pv 0) pa_nil))) (pss_cons (ps_set (i := 3) sc_sizes.nd rfl (by first | exact Or.inl rfl | exact Or.inr rfl) (pe_op (kMul K) (pe_lst (pa_cons pe_int pa_nil)) (pe_callB (kLen K) (by rfl) B.len (by decide +kernel) (pa_cons (pv 1) pa_nil)))) (pss_cons (ps_for poX rfl (pi_revR (by rfl) BR (prg_1 (by rfl) B.range (pe_callB (kLen K) (by rfl) B.len (by decide +kernel) (pa_cons (pv 1) pa_nil)))) (pg_name (i := 4) sc_sizes.nd rfl (by first | exact Or.inl rfl | exact Or.inr rfl)) (pss_cons (ps_asg (pe_ix (kIx K) (pv 1) (pv 4) (fun _ _ => rfl)) (pg_tupK (n := 3) K rfl (pgs_cons (pg_name (i := 5) sc_sizes.nd rfl (by first | exact Or.inl rfl | exact Or.inr rfl)) (pgs_cons (pg_name (i := 6) sc_sizes.nd rfl (by first | exact Or.inl rfl | exact Or.inr rfl)) (pgs_cons (pg_name (i := 7) sc_sizes.nd rfl (by first | exact Or.inl rfl | exact Or.inr rfl)) pgs_nil))))) (pss_cons (ps_setLc (i := 8) (own := [("part", 9)]) (g := gName 9) (tt := tYes) rfl sc_sizes.nd rfl rfl (sw_true rfl rfl rfl (by decide +kernel)) (pi_tupK K (pe_ix (kIx K) (pv 2) (pv 4) (fun _ _ => rfl))) (blkOk_by (own := [("part", 9)]) (N := ["program", "rows", "parts", "found", "number", "op", "told", "_", "part_sizes", "part"]) (sc := defScope s_sizes) (by decide +kernel)) (fun _ _ _ _ _ => (pg_name (i := 9) sc_sizes.nd rfl (by first | exact Or.inl rfl | exact Or.inr rfl))) (fun _ _ _ _ _ => pts_nil) (fun _ _ _ _ _ => (pe_ix (kIx K) (pv 3) (pv 9) (fun _ _ => rfl)))) (pss_one (ps_asg (pe_callHS h_checked_size (hr.mono (by first | decide | omega)) (by rfl) (fun σ => passAt tkX σ) (pa_cons (pv 5) (pa_cons (pv 6) (pa_cons (pv 8) (pa_cons (pv 4) pa_nil))))) (pg_sub (pv 3) (pv 4) set_list)))))) (pss_cons (ps_expr (pe_callHS h_check_names (hr.mono (by first | decide | omega)) (by rfl) (fun σ => passAt tkX σ) (pa_cons (pv 1) pa_nil))) (pss_one (ps_ret (pe_callTy (kTup K) (by rfl) B.tuple (by decide +kernel) (pa_cons (pv 3) pa_nil))))))))), ?_⟩
  refine st0 [some v, none, none, none, none, none, none, none, none, none] rfl ?_
  walk_at "go"
  rcases h with ⟨v', j, ev, r, g, h40, hbS, hbI, q⟩ | hb
  rotate_left
  · exact ⟨v, rfl, .inr hb⟩
  cases ev
  have hok := g.ok
  have hwk := g.walk h40
  have lS : (Jn.wds j.all).length = j.cnt := by rw [wds_map, List.length_map, all_cnt]
  refine use_jts r hok h40 hwk fun H1 pr ws s1 hW hR => ?_
  walk_at "go"
  refine use_pn (r.mono (Ext.of_same s1) _ _) hok h40 hwk fun H2 pp rows s2 hP lP hrows => ?_
  have hW2 := Ext.of_same (K := K) s2 _ _ hW
  have hR2 := hR.mono (Ext.of_same (K := K) s2) _ _
  have lw : ws.length = j.cnt := by rw [hR.length, pys_length, all_cnt]
  walk_at "go"
  refine ⟨lk rfl, fun pz hpz => ?_⟩
  walk_at "go"
  refine u_lenT (Ext.new hpz _ _ hW2) ?_
  rw [lw]
  refine u_rep1 upd_same (by omega) fun pf hpf => ?_
  have s3 : Same H2 (upd (upd H2 pz (.lst [.int 0])) pf (.lst (List.replicate j.cnt (.int 0)))) := Same.new (same_new hpz _) hpf
  have hpf2 : H2 pf = none := by
    cases hh : H2 pf with
    | none => rfl
    | some o => rw [same_new hpz (.lst [V.int 0]) _ _ hh] at hpf; cases hpf
  have e0 : (List.replicate j.cnt (V.int 0)) = (List.replicate j.cnt (0 : Int)).map V.int := by rw [List.map_replicate]
  rw [e0]
  rw [e0] at s3
  have f0 : (upd (upd H2 pz (.lst [.int 0])) pf (.lst ((List.replicate j.cnt (0 : Int)).map V.int))) pf = some (.lst ((List.replicate j.cnt (0 : Int)).map V.int)) := upd_same
  generalize upd (upd H2 pz (.lst [.int 0])) pf (.lst ((List.replicate j.cnt (0 : Int)).map V.int)) = H3 at *
  have hW3 := Ext.of_same (K := K) s3 _ _ hW2
  walk_at "go"
  rw [lw]
  refine ⟨by omega, by omega, by omega, by omega, ?_⟩
  rw [show ((j.cnt : Int) - 0).toNat = j.cnt by omega]
  refine forC (fun i σ H' => ∃ (fds : List Int) (o4 o5 o6 o7 o8 : Option V), σ = [some v, some (.ref pr), some (.ref pp), some (.ref pf), o4, o5, o6, o7, o8, none] ∧ Same H2 H' ∧ H' pf = some (.lst (fds.map V.int)) ∧ fds.length = j.cnt ∧ ∀ y, j.cnt - i ≤ y → y < j.cnt → fds[y]? = (Jn.wds j.all)[y]? ∧ ∀ w, j.all[y]? = some w → w.bad = none)
    ⟨_, _, _, _, _, _, rfl, s3, f0, by rw [List.length_replicate], fun y h1 h2 => absurd h2 (by omega)⟩ ?_ ?_
  · rintro i σ H4 hi ⟨fds, o4, o5, o6, o7, o8, rfl, s4, f4, l4, h4⟩
    obtain ⟨x, hx⟩ : ∃ x, x = j.cnt - 1 - i := ⟨_, rfl⟩
    have hxc : x < j.cnt := by omega
    have ex : (0 + ((j.cnt : Nat) : Int) - 1 + (i : Int) * -1) = (x : Int) := by omega
    rw [ex]
    obtain ⟨xj, hxj⟩ : ∃ xj, j.all[x]? = some xj := ⟨_, List.getElem?_eq_getElem (by rw [all_cnt]; exact hxc)⟩
    obtain ⟨op, td, parts⟩ := xj
    obtain ⟨sz, hsz, hs1, hwd, hpp, hlp, lkin, hkin⟩ := wd_at g hxj
    have gfx := g.sub (List.mem_of_getElem? hxj)
    have gok := gfx.ok
    obtain ⟨shp1, shp2⟩ := Fx.shape (gfx.fit _ (all_self _))
    have hbx : (Jn.mk op td parts).bad = badO op td (Jn.wds parts) := by simp only [Jn.bad]
    have hSx : (Jn.wds j.all)[x]? = some sz := by rw [wds_map, List.getElem?_map, hxj, ← hwd] <;> rfl
    have hfit : ∀ p ∈ Jn.wds parts, 1 ≤ p ∧ p ≤ 64 := fun p hp => by
      obtain ⟨i', hi'⟩ := List.getElem?_of_mem hp
      obtain ⟨n, hn⟩ : ∃ n, (kinN (j.ups (-1) 0) x)[i']? = some n := ⟨_, List.getElem?_eq_getElem (by rw [lkin]; exact lt_of_get hi')⟩
      obtain ⟨n1, n2, p', hp1, hp2⟩ := hkin i' n hn
      rw [hi', Option.some.injEq] at hp1
      subst hp1
      refine ⟨hpp p hp, ?_⟩
      have hyn := lt_of_get hp2
      rw [lS] at hyn
      obtain ⟨w, hw⟩ : ∃ w, j.all[n]? = some w := ⟨_, List.getElem?_eq_getElem (by rw [all_cnt]; exact hyn)⟩
      rw [wds_map, List.getElem?_map, hw] at hp2
      have hp3 : w.wd = p := by simpa using hp2
      rw [← hp3]
      exact bad_le' ((h4 n (by omega) n2).2 w hw)
    obtain ⟨ps, eps0⟩ : ∃ ps, ps = Jn.wds parts := ⟨_, rfl⟩
    rw [← eps0] at hsz hpp hlp lkin hkin shp1 shp2 hbx hfit
    simp only [Jn.ok] at gok
    obtain ⟨u, hu, ru⟩ := hR2.get (i := x) (d := (Jn.mk op td parts).py) (by rw [pys_map, List.getElem?_map, hxj] <;> rfl)
    obtain ⟨pj, ta, qa, tv, pvs, rfl, hsj, hT, hTd, hq, hQ⟩ := (ru.mono (Ext.of_same s4) _ _).jn
    obtain ⟨rk, hrk, hrk2⟩ := hrows x hxc
    have hW4 := Ext.of_same (K := K) s4 _ _ hW2
    have hP4 := Ext.of_same (K := K) s4 _ _ hP
    have hrk4 := Ext.of_same (K := K) s4 _ _ hrk2
    walk_at "go"
    refine u_ixT hW4 (atI_nat hu) ?_
    walk_at "go"
    refine u_ixT hP4 (atI_nat hrk) ?_
    walk_at "go"
    intro D hD
    refine lc_tup (xs := nV (kinN (j.ups (-1) 0) x)) (fun k H' => H' D = some (.lst ((ps.take k).map V.int)) ∧ Same H4 H') ⟨upd_same, Same.upd_new (Same.refl H4) hD⟩ ?_ ?_ ?_
    · rintro k H' hk ⟨g1, g2⟩
      exact Ext.of_same g2 _ _ hrk4
    · rintro k y H' hy ⟨g1, g2⟩
      unfold nV at hy
      rw [List.getElem?_map, Option.map_eq_some_iff] at hy
      obtain ⟨n, hn, rfl⟩ := hy
      obtain ⟨n1, n2, p, hp1, hp2⟩ := hkin k n hn
      have e3 : atI (fds.map V.int) (n : Int) = some (.int p) := atI_nat (by rw [List.getElem?_map, (h4 n (by omega) n2).1, hp2] <;> rfl)
      walk_at "go"
      refine ⟨rfl, ?_⟩
      walk_at "go"
      refine u_ixL (SqL.of (g2 _ _ f4)) e3 ?_
      refine ⟨_, g1, ?_, ?_, Same.upd_new g2 hD⟩
      · rw [List.length_map, List.length_take]
        have := lt_of_get hp1
        have := hlp
        have := gok.2.2.2.1
        exact ls (by omega)
      · rw [upd_same, List.take_add_one, hp1, List.map_append] <;> rfl
    rintro H5 ⟨g1, g2⟩
    have eps : (nV (kinN (j.ups (-1) 0) x)).length = ps.length := by
      unfold nV
      rw [List.length_map, lkin]
    rw [eps, List.take_length] at g1
    walk_at "go"
    refine ⟨op, ta, D, tv, td, ps, x, sz, rfl, Ext.of_same g2 _ _ hT, hTd.mono (Ext.of_same g2) _ _, SqL.of g1, hfit, gok.2.1, hsz, shp1, shp2, fun k hk => ?_, fun hk H6 s6 => ?_⟩
    · have ef := fault_at hxj (hbx.trans hk) fun z w hz hw => (h4 z (by omega) (by have := lt_of_get hw; rw [all_cnt] at this; exact this)).2 w hw
      exact (hbI _ _ ef).mono ((s1.trans s2).trans (s4.trans g2))
    have f6 := (g2.trans s6) _ _ f4
    walk_at "go"
    refine u_setL f6 (n := x) ?_ ?_
    · unfold ixN
      rw [if_pos (by omega), if_pos (by rw [List.length_map]; omega)]
      rfl
    refine ⟨fds.set x sz, _, _, _, _, _, rfl, Same.upd_new ((s4.trans g2).trans s6) hpf2, by rw [upd_same, List.map_set], by rw [List.length_set]; exact l4, fun y h1 h2 => ?_⟩
    by_cases c : y = x
    · subst c
      rw [List.getElem?_set_self (by omega), hSx]
      refine ⟨rfl, fun w hw => ?_⟩
      rw [hxj, Option.some.injEq] at hw
      subst hw
      exact hbx.trans hk
    · rw [List.getElem?_set_ne (Ne.symm c)]
      exact h4 y (by omega) h2
  · rintro σ H4 ⟨fds, o4, o5, o6, o7, o8, rfl, s4, f4, l4, h4⟩
    have hall : ∀ (i : Nat) w, j.all[i]? = some w → w.bad = none := fun i w hw => (h4 i (by omega) (by have := lt_of_get hw; rw [all_cnt] at this; exact this)).2 w hw
    have efd : fds = Jn.wds j.all := by
      apply List.ext_getElem?
      intro y
      rcases Nat.lt_or_ge y j.cnt with z | z
      · exact (h4 y (by omega) z).1
      · rw [List.getElem?_eq_none (by omega), List.getElem?_eq_none (by omega)]
    subst efd
    have hW4 := Ext.of_same (K := K) s4 _ _ hW2
    have hR4 := hR2.mono (Ext.of_same (K := K) s4) _ _
    walk_at "go"
    refine ⟨pr, ws, j.all, rfl, hW4, hR4, g.fit, by rw [all_cnt]; exact h40, fun z hz => (hbS _ _ (fault_in hall hz)).mono ((s1.trans s2).trans s4), fun hz H5 s5 => ?_⟩
    walk_at "go"
    refine u_tupL (SqL.of (s5 _ _ f4)) fun l hl => ?_
    exact q (fault_no hall hz) _ l (Same.new (((s1.trans s2).trans s4).trans s5) hl) (SqT.of upd_same)
end
end Mine

/-! ### J2 -/
set_option maxHeartbeats 400000
namespace Mine
open PySem PySem.Spec L2
/-! ## a program that fits has no fault -/
mutual
theorem gd_wd {ks : Nat → Int} : ∀ (j : Jn) {s : Int}, Gd ks j s → j.wd = s
  | .mk op td parts, s, g => by
    obtain ⟨ps, h1, h2⟩ := g.step
    simp only [Jn.wd, gds_wds parts h1, h2, Option.getD_some]
theorem gds_wds {ks : Nat → Int} : ∀ (l : List Jn) {ss : List Int}, Gds ks l ss → Jn.wds l = ss
  | [], ss, h => by cases h; simp only [Jn.wds]
  | j :: r, ss, h => by
    cases h with
    | cons a b => simp only [Jn.wds, gd_wd j a, gds_wds r b]
end
theorem Gd.nobad {ks : Nat → Int} {j : Jn} {s : Int} (g : Gd ks j s) : j.bad = none := by
  have hs := g.sz
  obtain ⟨op, td, parts⟩ := j
  obtain ⟨ps, h1, h2⟩ := g.step
  obtain ⟨c1, c2⟩ := g.ck h1
  have e := gds_wds parts h1
  simp only [Jn.bad]
  rw [e]
  unfold badO
  rw [if_neg, if_neg, if_neg]
  · rw [h2, Option.getD_some]
    omega
  · rintro ⟨h, z⟩
    obtain ⟨i, k, p, rfl, rfl, hk⟩ := c2 h
    have z' : p < k := z
    omega
  · rintro ⟨h, z⟩
    obtain ⟨p, rfl⟩ := c1 h
    exact z rfl
theorem nf_gd {ks : Nat → Int} : ∀ (l : List Jn) (d : Str → Option Int), (∀ x ∈ l, ∃ t, Gd ks x t) → (∀ z k, d z = some k → ∃ i, i < 4 ∧ z = abc i ∧ k = ks i) → nf l d = none
  | [], _, _, _ => by simp only [nf]
  | .mk op td parts :: r, d, h, hd => by
    by_cases c : op = "in"
    · subst c
      obtain ⟨t, g⟩ := h _ List.mem_cons_self
      obtain ⟨i, hi, rfl⟩ := g.name
      have e : (d (abc i)).getD (ks i) = ks i := by
        cases hz : d (abc i) with
        | none => rfl
        | some k =>
          obtain ⟨i2, hi2, ez, ek⟩ := hd _ _ hz
          have := abc_inj hi hi2 ez
          subst this
          exact ek
      rw [nf_in, if_pos e]
      refine nf_gd r _ (fun x hx => h x (List.mem_cons_of_mem _ hx)) fun z k hz => ?_
      unfold nSet at hz
      split at hz
      · rename_i ez
        cases hz
        exact ⟨i, hi, ez, rfl⟩
      · exact hd z k hz
    · rw [nf_other c]
      exact nf_gd r d (fun x hx => h x (List.mem_cons_of_mem _ hx)) hd
theorem Gd.nofault {ks : Nat → Int} {j : Jn} {s : Int} (g : Gd ks j s) : j.fault = none := by
  refine fault_no (fun i w hw => ?_) (nf_gd _ _ g.sub fun z k hz => by cases hz)
  obtain ⟨t, gw⟩ := g.sub w (List.mem_of_getElem? hw)
  exact gw.nobad
end Mine

/-! ### V0 -/
namespace Mine
open PySem PySem.Spec L2
/-! # values: what a joint reckons of its parts' rows -/
def topI : List Int → Int
  | [] => 0
  | a :: r => if r = [] then a else if topI r < a then a else topI r
theorem topI_mem : ∀ {ns : List Int}, ns ≠ [] → topI ns ∈ ns
  | [], h => absurd rfl h
  | a :: r, _ => by
    unfold topI
    by_cases c : r = []
    · rw [if_pos c]; exact List.mem_cons_self
    · rw [if_neg c]
      by_cases c2 : topI r < a
      · rw [if_pos c2]; exact List.mem_cons_self
      · rw [if_neg c2]; exact List.mem_cons_of_mem _ (topI_mem c)
theorem topI_le : ∀ {ns : List Int}, ∀ y ∈ ns, y ≤ topI ns
  | [], y, h => by cases h
  | a :: r, y, h => by
    unfold topI
    by_cases c : r = []
    · rw [if_pos c]
      rw [c] at h
      rw [List.mem_singleton] at h
      omega
    · rw [if_neg c]
      have k := fun hy : y ∈ r => topI_le (ns := r) y hy
      by_cases c2 : topI r < a
      · rw [if_pos c2]
        rcases List.mem_cons.mp h with rfl | h
        · omega
        · have := k h
          omega
      · rw [if_neg c2]
        rcases List.mem_cons.mp h with rfl | h
        · omega
        · exact k h
theorem topI_of {ns : List Int} {m : Int} (h : m ∈ ns) (hm : ∀ y ∈ ns, y ≤ m) : m = topI ns := by
  have h1 := hm _ (topI_mem (List.ne_nil_of_mem h))
  have h2 := topI_le m h
  omega
def leI (a b : Int) : Bool := decide (a ≤ b)
def sortI (ns : List Int) : List Int := ns.mergeSort leI
theorem sortI_perm (ns : List Int) : (sortI ns).Perm ns := List.mergeSort_perm ns leI
theorem sortI_le (ns : List Int) : (sortI ns).Pairwise (· ≤ ·) := by
  have h := List.pairwise_mergeSort (le := leI) (fun a b c h1 h2 => decide_eq_true (Int.le_trans (of_decide_eq_true h1) (of_decide_eq_true h2))) (fun a b => by
    rcases Int.le_total a b with h | h
    · rw [show leI a b = true from decide_eq_true h, Bool.true_or]
    · rw [show leI b a = true from decide_eq_true h, Bool.or_true]) ns
  exact h.imp fun c => of_decide_eq_true c
theorem sortI_of {ns ms : List Int} (h : ms.Perm ns) (hm : ms.Pairwise (· ≤ ·)) : ms = sortI ns :=
  List.Perm.eq_of_pairwise (le := (· ≤ ·)) (fun a b _ _ h1 h2 => Int.le_antisymm h1 h2) hm (sortI_le ns) (h.trans (sortI_perm ns).symm)
def zipI (f : Int → Int → Int) (a b : List Int) : List Int := List.zipWith (fun x y => f x y) a b
/-- all products, row by row -/
def crossI (a b : List Int) : List Int := a.flatMap fun x => b.map fun y => x * y % 1000003
/-- the first n places of b, each with a, laid on acc from i on -/
def blRow (i : Nat) (a : Int) (b : List Int) (acc : List Int) : Nat → List Int
  | 0 => acc
  | n + 1 => (blRow i a b acc n).set (i + n) (((blRow i a b acc n).getD (i + n) 0 + a * b.getD n 0) % 1000003)
def blAll (a b : List Int) : Nat → List Int
  | 0 => List.replicate (a.length + b.length - 1) 0
  | n + 1 => blRow n (a.getD n 0) b (blAll a b n) b.length
theorem blRow_len (i : Nat) (a : Int) (b acc : List Int) : ∀ n, (blRow i a b acc n).length = acc.length
  | 0 => rfl
  | n + 1 => by
    show ((blRow i a b acc n).set _ _).length = _
    rw [List.length_set, blRow_len i a b acc n]
theorem blAll_len (a b : List Int) : ∀ n, (blAll a b n).length = a.length + b.length - 1
  | 0 => by show (List.replicate _ _).length = _; rw [List.length_replicate]
  | n + 1 => by
    show (blRow n _ b (blAll a b n) b.length).length = _
    rw [blRow_len, blAll_len a b n]
/-- ints of a row -/
def inR (n : Int) : Prop := 0 ≤ n ∧ n ≤ 1000002
def Inr (ns : List Int) : Prop := ∀ n ∈ ns, inR n
theorem inR_mod (x : Int) : inR (x % 1000003) := ⟨Int.emod_nonneg _ (by decide), by have := Int.emod_lt_of_pos x (show (0 : Int) < 1000003 by decide); omega⟩
theorem Inr.set {ns : List Int} {i : Nat} {v : Int} (h : Inr ns) (hv : inR v) : Inr (ns.set i v) := fun n hn => by
  rcases List.mem_or_eq_of_mem_set hn with h1 | rfl
  · exact h n h1
  · exact hv
theorem blRow_in {i : Nat} {a : Int} {b acc : List Int} (h : Inr acc) : ∀ n, Inr (blRow i a b acc n)
  | 0 => h
  | n + 1 => (blRow_in h n).set (inR_mod _)
theorem blAll_in (a b : List Int) : ∀ n, Inr (blAll a b n)
  | 0 => fun n hn => by
    rw [List.eq_of_mem_replicate hn]
    exact ⟨by decide, by decide⟩
  | n + 1 => blRow_in (blAll_in a b n) _
abbrev ActF := List PyData → List (List Int) → List Int
abbrev ActP := List PyData → List (List Int) → Prop
def frs (rs : List (List Int)) : List Int := rs.headD []
def snd (rs : List (List Int)) : List Int := (rs.drop 1).headD []
def p1 : ActP := fun _ rs => ∃ r, rs = [r]
def p2 : ActP := fun _ rs => ∃ r t, rs = [r, t]
def p2e : ActP := fun _ rs => ∃ r t, rs = [r, t] ∧ r.length = t.length
def pn : ActP := fun _ rs => rs.length ≤ 4
def pPart : ActP := fun td rs => ∃ (r : List Int) (i k : Nat), rs = [r] ∧ td = [.int i, .int k] ∧ i < k ∧ k ≤ r.length
def pRep : ActP := fun td rs => ∃ (r : List Int) (t : Nat), rs = [r] ∧ td = [.int t] ∧ 1 ≤ t ∧ t ≤ 16
def tdI (td : List PyData) (n : Nat) : Nat := match td[n]? with
  | some (.int i) => i.toNat
  | _ => 0
def fRev : ActF := fun _ rs => (frs rs).reverse
def fSort : ActF := fun _ rs => sortI (frs rs)
def fSum : ActF := fun _ rs => [(frs rs).sum % 1000003]
def fTop : ActF := fun _ rs => [topI (frs rs)]
def fAdd : ActF := fun _ rs => zipI (fun x y => (x + y) % 1000003) (frs rs) (snd rs)
def fSub : ActF := fun _ rs => zipI (fun x y => (x - y) % 1000003) (frs rs) (snd rs)
def fMul : ActF := fun _ rs => zipI (fun x y => x * y % 1000003) (frs rs) (snd rs)
def fDot : ActF := fun _ rs => [(zipI (fun x y => x * y) (frs rs) (snd rs)).sum % 1000003]
def fCat : ActF := fun _ rs => rs.flatten
def fOuter : ActF := fun _ rs => crossI (frs rs) (snd rs)
def fBlend : ActF := fun _ rs => blAll (frs rs) (snd rs) (frs rs).length
def fPart : ActF := fun td rs => ((frs rs).drop (tdI td 0)).take (tdI td 1 - tdI td 0)
def fRep : ActF := fun td rs => (List.replicate (tdI td 0) (frs rs)).flatten
def fHold : ActF := fun _ rs => frs rs
def acts (z : Str) : Option (ActF × ActP) := if z = "rev" then some (fRev, p1) else if z = "sort" then some (fSort, p1) else if z = "sum" then some (fSum, p1) else if z = "top" then some (fTop, p1)
  else if z = "add" then some (fAdd, p2e) else if z = "sub" then some (fSub, p2e) else if z = "mul" then some (fMul, p2e) else if z = "dot" then some (fDot, p2e) else if z = "cat" then some (fCat, pn)
  else if z = "outer" then some (fOuter, p2) else if z = "blend" then some (fBlend, p2) else if z = "part" then some (fPart, pPart) else if z = "rep" then some (fRep, pRep) else if z = "hold" then some (fHold, p1) else none
def rk (z : Str) (td : List PyData) (rs : List (List Int)) : List Int := match acts z with
  | some (f, _) => f td rs
  | none => []
def lens (rs : List (List Int)) : List Int := rs.map fun r => (r.length : Int)
theorem zipI_len {f : Int → Int → Int} {a b : List Int} (h : a.length = b.length) : (zipI f a b).length = a.length := by
  unfold zipI
  rw [List.length_zipWith, h, Nat.min_self]
theorem zipI_in {f : Int → Int → Int} (hf : ∀ x y, inR (f x y)) {a b : List Int} : Inr (zipI f a b) := fun n hn => by
  unfold zipI at hn
  obtain ⟨i, hi, rfl⟩ := List.mem_iff_getElem.mp hn
  rw [List.getElem_zipWith]
  exact hf _ _
theorem sum_len (rs : List (List Int)) : ((rs.flatten.length : Nat) : Int) = (lens rs).sum := by
  induction rs with
  | nil => rfl
  | cons a r ih =>
    simp only [lens, List.flatten_cons, List.length_append, List.map_cons, List.sum_cons] at ih ⊢
    omega
theorem crossI_len (a b : List Int) : (crossI a b).length = a.length * b.length := by
  unfold crossI
  induction a with
  | nil => simp
  | cons x r ih => rw [List.flatMap_cons, List.length_append, ih, List.length_map, List.length_cons, Nat.succ_mul, Nat.add_comm]
end Mine

/-! ### V1 -/
set_option maxHeartbeats 2000000
namespace Mine
open PySem PySem.Spec L2
theorem one_row {rs : List (List Int)} (h : rs.length = 1) : ∃ r, rs = [r] := by
  match rs, h with
  | [r], _ => exact ⟨r, rfl⟩
theorem two_row {rs : List (List Int)} (h : rs.length = 2) : ∃ r t, rs = [r, t] := by
  match rs, h with
  | [r, t], _ => exact ⟨r, t, rfl⟩
def acts14 : List Str := ["rev", "sort", "sum", "top", "add", "sub", "mul", "dot", "cat", "outer", "blend", "part", "rep", "hold"]
theorem op14 {z : Str} {td : List PyData} (h : toldFits z td = true) (h1 : z ≠ "row") (h2 : z ≠ "in") : z ∈ acts14 := by
  obtain ⟨lo, hi, ea⟩ := fits_arity h
  unfold arity at ea
  have k0 : ∀ y ∈ op0, y = "row" ∨ y = "in" := by decide +kernel
  have k1 : ∀ y ∈ Mine.op1, y ∈ acts14 := by decide +kernel
  have k2 : ∀ y ∈ op2, y ∈ acts14 := by decide +kernel
  split at ea
  · rename_i c
    rcases k0 z c with e | e
    · exact absurd e h1
    · exact absurd e h2
  split at ea
  · rename_i c; exact k1 z c
  split at ea
  · rename_i c; exact k2 z c
  split at ea
  · rename_i c; rw [c]; decide +kernel
  · cases ea
structure RkOk (z : Str) (td : List PyData) (rs : List (List Int)) (f : ActF) (p : ActP) : Prop where
  e : acts z = some (f, p)
  p : p td rs
  r : Inr (f td rs)
  l : szOf z td (lens rs) = some ((f td rs).length : Int)
theorem Inr.nil : Inr [] := fun _ h => nomatch h
theorem Inr.one {n : Int} (h : inR n) : Inr [n] := fun m hm => by rw [List.mem_singleton] at hm; rw [hm]; exact h
theorem rk_ok {z : Str} {td : List PyData} {rs : List (List Int)} (hf : toldFits z td = true) (hp : partsFit z rs.length = true) (h1 : z ≠ "row") (h2 : z ≠ "in") (hb : badO z td (lens rs) = none) (hr : ∀ r ∈ rs, Inr r ∧ 1 ≤ r.length) :
    ∃ f p, RkOk z td rs f p := by
  have hz := op14 hf h1 h2
  simp only [acts14, List.mem_cons, List.not_mem_nil, or_false] at hz
  have pairE : ∀ {r t : List Int}, z ∈ pairOps → rs = [r, t] → r.length = t.length := fun {r t} hm e => by
    subst e
    unfold badO at hb
    split at hb
    · cases hb
    · rename_i c
      have c' : ¬ ((r.length : Int) ≠ (t.length : Int)) := fun y => c ⟨hm, y⟩
      omega
  rcases hz with rfl | rfl | rfl | rfl | rfl | rfl | rfl | rfl | rfl | rfl | rfl | rfl | rfl | rfl
  · obtain ⟨r, rfl⟩ := one_row (parts_one hp (by decide +kernel))
    exact ⟨_, _, rfl, ⟨r, rfl⟩, fun n hn => (hr r (by simp)).1 n (List.mem_reverse.mp hn), by show some _ = some ((List.length (List.reverse r) : Nat) : Int); rw [List.length_reverse] <;> rfl⟩
  · obtain ⟨r, rfl⟩ := one_row (parts_one hp (by decide +kernel))
    exact ⟨_, _, rfl, ⟨r, rfl⟩, fun n hn => (hr r (by simp)).1 n ((sortI_perm r).mem_iff.mp hn), by show some _ = some ((List.length (sortI r) : Nat) : Int); rw [(sortI_perm r).length_eq] <;> rfl⟩
  · obtain ⟨r, rfl⟩ := one_row (parts_one hp (by decide +kernel))
    exact ⟨_, _, rfl, ⟨r, rfl⟩, Inr.one (inR_mod _), rfl⟩
  · obtain ⟨r, rfl⟩ := one_row (parts_one hp (by decide +kernel))
    refine ⟨_, _, rfl, ⟨r, rfl⟩, Inr.one ((hr r (by simp)).1 _ (topI_mem fun e => ?_)), rfl⟩
    have := (hr r (by simp)).2
    rw [show r = [] from e] at this
    exact absurd this (by decide)
  · obtain ⟨r, t, rfl⟩ := two_row (parts_two hp (by decide +kernel))
    have e := pairE (by decide +kernel) rfl
    exact ⟨_, _, rfl, ⟨r, t, rfl, e⟩, zipI_in fun _ _ => inR_mod _, by show some _ = some ((List.length (zipI _ r t) : Nat) : Int); rw [zipI_len e] <;> rfl⟩
  · obtain ⟨r, t, rfl⟩ := two_row (parts_two hp (by decide +kernel))
    have e := pairE (by decide +kernel) rfl
    exact ⟨_, _, rfl, ⟨r, t, rfl, e⟩, zipI_in fun _ _ => inR_mod _, by show some _ = some ((List.length (zipI _ r t) : Nat) : Int); rw [zipI_len e] <;> rfl⟩
  · obtain ⟨r, t, rfl⟩ := two_row (parts_two hp (by decide +kernel))
    have e := pairE (by decide +kernel) rfl
    exact ⟨_, _, rfl, ⟨r, t, rfl, e⟩, zipI_in fun _ _ => inR_mod _, by show some _ = some ((List.length (zipI _ r t) : Nat) : Int); rw [zipI_len e] <;> rfl⟩
  · obtain ⟨r, t, rfl⟩ := two_row (parts_two hp (by decide +kernel))
    exact ⟨_, _, rfl, ⟨r, t, rfl, pairE (by decide +kernel) rfl⟩, Inr.one (inR_mod _), rfl⟩
  · refine ⟨_, _, rfl, ?_, fun n hn => ?_, ?_⟩
    · unfold partsFit at hp
      rw [show arity "cat" = some (1, 4) by decide +kernel] at hp
      have hp' : (decide ((1 : Int) ≤ (rs.length : Int)) && decide ((rs.length : Int) ≤ 4)) = true := hp
      rw [Bool.and_eq_true, decide_eq_true_eq, decide_eq_true_eq] at hp'
      show rs.length ≤ 4
      omega
    · obtain ⟨r, h, hn⟩ := List.mem_flatten.mp hn
      exact (hr r h).1 n hn
    · show some _ = some ((List.length rs.flatten : Nat) : Int)
      rw [sum_len] <;> rfl
  · obtain ⟨r, t, rfl⟩ := two_row (parts_two hp (by decide +kernel))
    refine ⟨_, _, rfl, ⟨r, t, rfl⟩, fun n hn => ?_, ?_⟩
    · obtain ⟨x, _, hn⟩ := List.mem_flatMap.mp (show n ∈ crossI r t from hn)
      obtain ⟨y, _, rfl⟩ := List.mem_map.mp hn
      exact inR_mod _
    · show some _ = some ((List.length (crossI r t) : Nat) : Int)
      rw [crossI_len, Int.natCast_mul] <;> rfl
  · obtain ⟨r, t, rfl⟩ := two_row (parts_two hp (by decide +kernel))
    refine ⟨_, _, rfl, ⟨r, t, rfl⟩, blAll_in r t _, ?_⟩
    show some ((r.length : Int) + (t.length : Int) - 1) = some ((List.length (blAll r t r.length) : Nat) : Int)
    rw [blAll_len]
    have := (hr r (by simp)).2
    congr 1
    omega
  · obtain ⟨r, rfl⟩ := one_row (parts_one hp (by decide +kernel))
    obtain ⟨i, k, rfl, k1, k2, k3⟩ := told_part hf
    have hk : k ≤ (r.length : Int) := by
      unfold badO at hb
      split at hb
      · cases hb
      split at hb
      · cases hb
      · rename_i c
        have c' : ¬ ((r.length : Int) < k) := fun y => c ⟨rfl, y⟩
        omega
    obtain ⟨i, rfl⟩ := Int.eq_ofNat_of_zero_le k1
    obtain ⟨k, rfl⟩ := Int.eq_ofNat_of_zero_le (show (0 : Int) ≤ k by omega)
    refine ⟨_, _, rfl, ⟨r, i, k, rfl, rfl, by omega, by omega⟩, fun n hn => (hr r (by simp)).1 n (List.mem_of_mem_drop (List.mem_of_mem_take hn)), ?_⟩
    show some ((k : Int) - (i : Int)) = some ((List.length (((frs [r]).drop i).take (k - i)) : Nat) : Int)
    rw [List.length_take, List.length_drop]
    show some ((k : Int) - (i : Int)) = some ((min (k - i) (r.length - i) : Nat) : Int)
    congr 1
    omega
  · obtain ⟨r, rfl⟩ := one_row (parts_one hp (by decide +kernel))
    obtain ⟨t, rfl, k1, k2⟩ := told_rep hf
    obtain ⟨t, rfl⟩ := Int.eq_ofNat_of_zero_le (show (0 : Int) ≤ t by omega)
    refine ⟨_, _, rfl, ⟨r, t, rfl, rfl, by omega, by omega⟩, fun n hn => ?_, ?_⟩
    · obtain ⟨x, h, hn⟩ := List.mem_flatten.mp (show n ∈ (List.replicate t r).flatten from hn)
      rw [List.eq_of_mem_replicate h] at hn
      exact (hr r (by simp)).1 n hn
    · show some ((t : Int) * (r.length : Int)) = some ((List.length (List.replicate t r).flatten : Nat) : Int)
      rw [List.length_flatten, List.map_replicate, List.sum_replicate_nat, Int.natCast_mul] <;> rfl
  · obtain ⟨r, rfl⟩ := one_row (parts_one hp (by decide +kernel))
    exact ⟨_, _, rfl, ⟨r, rfl⟩, (hr r (by simp)).1, rfl⟩
def intD : PyData → Int
  | .int i => i
  | _ => 0
def nameD : List PyData → Str
  | [.str z, _] => z
  | _ => "a"
mutual
/-- a program's value, what is handed by its names -/
def Jn.val (hd : Str → List Int) : Jn → List Int
  | .mk op td parts => if op = "row" then td.map intD else if op = "in" then hd (nameD td) else rk op td (Jn.vals hd parts)
def Jn.vals (hd : Str → List Int) : List Jn → List (List Int)
  | [] => []
  | j :: r => j.val hd :: Jn.vals hd r
end
theorem vals_map (hd : Str → List Int) : ∀ l : List Jn, Jn.vals hd l = l.map (Jn.val hd)
  | [] => by simp only [Jn.vals, List.map_nil]
  | j :: r => by simp only [Jn.vals, List.map_cons, vals_map hd r]
/-- what is handed fits the inputs of a program -/
def Hnd (hd : Str → List Int) (j : Jn) : Prop := ∀ (z : Str) (k : Int) (ps : List Jn), Jn.mk "in" [.str z, .int k] ps ∈ j.all → ((hd z).length : Int) = k ∧ Inr (hd z)
theorem Hnd.sub {hd : Str → List Int} {j y : Jn} (h : Hnd hd j) (hy : y ∈ j.all) : Hnd hd y := fun z k ps m => h z k ps (all_sub j y hy _ m)
theorem told_row {td : List PyData} (h : toldFits "row" td = true) : ∃ ns : List Int, td = ns.map PyData.int ∧ Inr ns ∧ 1 ≤ ns.length ∧ ns.length ≤ 64 := by
  rw [fits_row] at h
  unfold tellsRow rowNums at h
  simp only [Bool.and_eq_true, decide_eq_true_eq] at h
  refine ⟨td.map intD, ?_, fun n hn => ?_, by rw [List.length_map]; omega, by rw [List.length_map]; omega⟩
  · rw [List.map_map]
    refine (List.map_congr_left fun d hd => ?_).trans (List.map_id td) |>.symm
    obtain ⟨i, rfl, _⟩ := btw_get (List.all_eq_true.mp h.2 d hd)
    rfl
  · obtain ⟨d, hd, rfl⟩ := List.mem_map.mp hn
    obtain ⟨i, rfl, a, b⟩ := btw_get (List.all_eq_true.mp h.2 d hd)
    exact ⟨a, by show i ≤ 1000002; omega⟩
theorem map_intD (ns : List Int) : (ns.map PyData.int).map intD = ns := by
  rw [List.map_map]
  exact (List.map_congr_left fun _ _ => rfl).trans (List.map_id ns)
theorem val_row {hd : Str → List Int} {td : List PyData} {ps : List Jn} : (Jn.mk "row" td ps).val hd = td.map intD := by
  simp only [Jn.val, if_pos]
theorem val_in {hd : Str → List Int} {td : List PyData} {ps : List Jn} : (Jn.mk "in" td ps).val hd = hd (nameD td) := by
  simp only [Jn.val]
  rw [if_neg (by decide +kernel)]
  exact if_pos trivial
theorem val_op {hd : Str → List Int} {op : Str} {td : List PyData} {ps : List Jn} (h1 : op ≠ "row") (h2 : op ≠ "in") : (Jn.mk op td ps).val hd = rk op td (Jn.vals hd ps) := by
  simp only [Jn.val]
  rw [if_neg h1, if_neg h2]
mutual
theorem val_ok {hd : Str → List Int} : ∀ (j : Jn), (∀ x ∈ j.all, Fit x) → (∀ x ∈ j.all, x.bad = none) → Hnd hd j → Inr (j.val hd) ∧ ((j.val hd).length : Int) = j.wd
  | .mk op td parts, hf, hb, hh => by
    have f0 : Fit (.mk op td parts) := hf _ (all_self _)
    have b0 : (Jn.mk op td parts).bad = none := hb _ (all_self _)
    have up : ∀ x, x ∈ Jn.alls parts → x ∈ (Jn.mk op td parts).all := fun x hx => by simp only [Jn.all]; exact List.mem_cons_of_mem _ hx
    have ih := vals_ok parts (fun x hx => hf x (up x hx)) (fun x hx => hb x (up x hx)) (fun z k ps m => hh z k ps (up _ m))
    by_cases c1 : op = "row"
    · subst c1
      obtain ⟨ns, rfl, a, b, c⟩ := told_row f0.1
      rw [val_row, map_intD]
      refine ⟨a, ?_⟩
      simp only [Jn.wd]
      unfold szOf
      rw [if_pos rfl, Option.getD_some, List.length_map]
    by_cases c2 : op = "in"
    · subst c2
      obtain ⟨z, k, rfl, a, b⟩ := told_in f0.1
      rw [val_in]
      obtain ⟨e1, e2⟩ := hh z k parts (all_self _)
      refine ⟨e2, ?_⟩
      simp only [Jn.wd]
      unfold szOf
      rw [if_neg c1, if_pos rfl]
      exact e1
    rw [val_op c1 c2]
    have el : lens (Jn.vals hd parts) = Jn.wds parts := ih.2
    have ep : (Jn.vals hd parts).length = parts.length := by rw [vals_map, List.length_map]
    have wp := wds_pos parts fun x hx => hf x (up x hx)
    obtain ⟨f, p, k⟩ := rk_ok (rs := Jn.vals hd parts) f0.1 (by rw [ep]; exact f0.2) c1 c2 (by rw [el]; exact b0) (fun r hr => ⟨ih.1 r hr, by
      have := wp _ (by rw [← el]; exact List.mem_map_of_mem hr)
      omega⟩)
    have er : rk op td (Jn.vals hd parts) = f td (Jn.vals hd parts) := by unfold rk; rw [k.e]
    rw [er]
    refine ⟨k.r, ?_⟩
    simp only [Jn.wd]
    rw [← el, k.l, Option.getD_some]
theorem vals_ok {hd : Str → List Int} : ∀ (l : List Jn), (∀ x ∈ Jn.alls l, Fit x) → (∀ x ∈ Jn.alls l, x.bad = none) → (∀ (z : Str) (k : Int) (ps : List Jn), Jn.mk "in" [.str z, .int k] ps ∈ Jn.alls l → ((hd z).length : Int) = k ∧ Inr (hd z)) → (∀ r ∈ Jn.vals hd l, Inr r) ∧ lens (Jn.vals hd l) = Jn.wds l
  | [], _, _, _ => by simp [Jn.vals, lens, Jn.wds]
  | j :: r, hf, hb, hh => by
    have u1 : ∀ x, x ∈ j.all → x ∈ Jn.alls (j :: r) := fun x hx => by simp only [Jn.alls]; exact List.mem_append_left _ hx
    have u2 : ∀ x, x ∈ Jn.alls r → x ∈ Jn.alls (j :: r) := fun x hx => by simp only [Jn.alls]; exact List.mem_append_right _ hx
    have a := val_ok j (fun x hx => hf x (u1 x hx)) (fun x hx => hb x (u1 x hx)) (fun z k ps m => hh z k ps (u1 _ m))
    have b := vals_ok r (fun x hx => hf x (u2 x hx)) (fun x hx => hb x (u2 x hx)) (fun z k ps m => hh z k ps (u2 _ m))
    simp only [Jn.vals, Jn.wds]
    refine ⟨fun t ht => ?_, ?_⟩
    · rcases List.mem_cons.mp ht with rfl | ht
      · exact a.1
      · exact b.1 t ht
    · show (((Jn.val hd j).length : Int) :: lens (Jn.vals hd r)) = _
      rw [a.2, b.2]
end
end Mine

/-! ### V2 -/
namespace Mine
open PySem PySem.Spec L2
local macro_rules | `(tactic| walk_at "st") => `(tactic| (with_reducible apply iteF))
local macro_rules | `(tactic| walk_at "st") => `(tactic| (with_reducible apply iteT))
local macro_rules | `(tactic| walk_at "st") => `(tactic| ((with_reducible apply rd_tyF); (focus assumption)))
local macro_rules | `(tactic| walk_at "st") => `(tactic| (with_reducible apply rd_tupF))
local macro_rules | `(tactic| walk_at "st") => `(tactic| (with_reducible apply rd_bmT))
local macro_rules | `(tactic| walk_at "st") => `(tactic| (with_reducible apply rd_dc))
local macro_rules | `(tactic| walk_at "st") => `(tactic| (with_reducible apply u_notB))
local macro_rules | `(tactic| walk_at "st") => `(tactic| (with_reducible apply u_repB))
local macro_rules | `(tactic| walk_at "st") => `(tactic| (with_reducible apply u_isB))
local macro_rules | `(tactic| walk_at "st") => `(tactic| (with_reducible apply rd_nopart))
local macro_rules | `(tactic| walk_at "st") => `(tactic| (with_reducible apply rd_partI))
local macro_rules | `(tactic| walk_at "st") => `(tactic| (with_reducible apply rd_part))
local macro_rules | `(tactic| walk_at "st") => `(tactic| (with_reducible apply rd_sl))
local macro_rules | `(tactic| walk_at "st") => `(tactic| (with_reducible apply rd_disp1))
local macro_rules | `(tactic| walk_at "st") => `(tactic| (with_reducible apply rd_dput))
local macro_rules | `(tactic| walk_at "st") => `(tactic| (with_reducible apply rd_dget))
local macro_rules | `(tactic| walk_at "st") => `(tactic| (with_reducible apply rd_din))
local macro_rules | `(tactic| walk_at "st") => `(tactic| (with_reducible apply rd_dnew))
local macro_rules | `(tactic| walk_at "st") => `(tactic| ((with_reducible apply rd_gtup); (focus first | assumption | exact SqT.of (by assumption) | exact SqT.of upd_same); (focus rfl)))
local macro_rules | `(tactic| walk_at "st") => `(tactic| (with_reducible apply rd_lc2))
local macro_rules | `(tactic| walk_at "st") => `(tactic| (with_reducible apply rd_zip))
local macro_rules | `(tactic| walk_at "st") => `(tactic| ((with_reducible apply u_enL); (focus first | assumption | exact SqL.of (by assumption) | exact SqL.of upd_same)))
local macro_rules | `(tactic| walk_at "st") => `(tactic| ((with_reducible apply u_enT); (focus first | assumption | exact SqT.of (by assumption) | exact SqT.of upd_same)))
local macro_rules | `(tactic| walk_at "st") => `(tactic| (with_reducible apply rd_rng3))
local macro_rules | `(tactic| walk_at "st") => `(tactic| (with_reducible apply rd_rg1))
local macro_rules | `(tactic| walk_at "st") => `(tactic| (with_reducible apply rd_revR))
local macro_rules | `(tactic| walk_at "st") => `(tactic| (with_reducible apply rd_enA))
local macro_rules | `(tactic| walk_at "st") => `(tactic| (with_reducible apply rd_ipI))
local macro_rules | `(tactic| walk_at "st") => `(tactic| ((with_reducible apply rd_aug); exact rfl))
local macro_rules | `(tactic| walk_at "st") => `(tactic| (with_reducible apply rd_par3_end))
local macro_rules | `(tactic| walk_at "st") => `(tactic| (with_reducible apply rd_par3))
local macro_rules | `(tactic| walk_at "st") => `(tactic| (with_reducible apply u_mul; focus exact Or.inr cm))
local macro_rules | `(tactic| walk_at "st") => `(tactic| ((with_reducible apply u_pow); (focus (exact ⟨by decide, by decide, by decide⟩))))
local macro_rules | `(tactic| walk_at "st") => `(tactic| (with_reducible apply rd_yes))
local macro_rules | `(tactic| walk_at "st") => `(tactic| (with_reducible apply rd_lc))
local macro_rules | `(tactic| walk_at "st") => `(tactic| ((with_reducible apply rd_itT); (focus first | assumption | exact SqT.of (by assumption) | exact SqT.of upd_same)))
local macro_rules | `(tactic| walk_at "st") => `(tactic| ((with_reducible apply rd_itL); (focus first | assumption | exact SqL.of (by assumption) | exact SqL.of upd_same)))
local macro_rules | `(tactic| walk_at "st") => `(tactic| ((with_reducible apply u_isi); (focus (first | exact Or.inl rfl | exact Or.inr (Or.inl rfl) | exact Or.inr (Or.inr (Or.inl rfl)) | exact Or.inr (Or.inr (Or.inr rfl)))); (focus first | assumption | exact Rp.int _ | exact Rp.str _)))
local macro_rules | `(tactic| walk_at "st") => `(tactic| (with_reducible apply rd_istrE))
local macro_rules | `(tactic| walk_at "st") => `(tactic| (with_reducible apply rd_istr))
local macro_rules | `(tactic| walk_at "st") => `(tactic| ((with_reducible apply rd_seqT); (focus first | assumption | exact SqT.of (by assumption) | exact SqT.of upd_same)))
local macro_rules | `(tactic| walk_at "st") => `(tactic| ((with_reducible apply rd_seqL); (focus first | assumption | exact SqL.of (by assumption) | exact SqL.of upd_same)))
local macro_rules | `(tactic| walk_at "st") => `(tactic| (with_reducible apply rd_iSeq))
local macro_rules | `(tactic| walk_at "st") => `(tactic| (with_reducible apply u_notInS))
local macro_rules | `(tactic| walk_at "st") => `(tactic| (with_reducible apply u_inS))
local macro_rules | `(tactic| walk_at "st") => `(tactic| (with_reducible apply u_notInD))
local macro_rules | `(tactic| walk_at "st") => `(tactic| (with_reducible apply u_inD))
local macro_rules | `(tactic| walk_at "st") => `(tactic| (with_reducible apply rd_callS))
local macro_rules | `(tactic| walk_at "st") => `(tactic| (with_reducible apply rd_raiseE))
local macro_rules | `(tactic| walk_at "st") => `(tactic| (with_reducible apply rd_xf))
local macro_rules | `(tactic| walk_at "st") => `(tactic| (with_reducible apply g_neB))
local macro_rules | `(tactic| walk_at "st") => `(tactic| (with_reducible apply g_neS))
local macro_rules | `(tactic| walk_at "st") => `(tactic| (with_reducible apply g_neI))
local macro_rules | `(tactic| walk_at "st") => `(tactic| (with_reducible apply g_eqS))
local macro_rules | `(tactic| walk_at "st") => `(tactic| (with_reducible apply g_eqI))
local macro_rules | `(tactic| walk_at "st") => `(tactic| (with_reducible apply rd_retN))
local macro_rules | `(tactic| walk_at "st") => `(tactic| (with_reducible apply rd_gnil))
local macro_rules | `(tactic| walk_at "st") => `(tactic| (with_reducible apply rd_gcons))
local macro_rules | `(tactic| walk_at "st") => `(tactic| ((with_reducible apply rd_rng2e); (focus omega)))
local macro_rules | `(tactic| walk_at "st") => `(tactic| ((with_reducible apply rd_rng1e); (focus omega); (focus omega)))
local macro_rules | `(tactic| walk_at "st") => `(tactic| (with_reducible apply rd_rng2))
local macro_rules | `(tactic| walk_at "st") => `(tactic| (with_reducible apply rd_rng1))
local macro_rules | `(tactic| walk_at "st") => `(tactic| (with_reducible apply rd_for))
local macro_rules | `(tactic| walk_at "st") => `(tactic| (with_reducible apply rd_iTup))
local macro_rules | `(tactic| walk_at "st") => `(tactic| (with_reducible apply rd_iList))
local macro_rules | `(tactic| walk_at "st") => `(tactic| (with_reducible apply rd_rev))
local macro_rules | `(tactic| walk_at "st") => `(tactic| (with_reducible apply u_min3))
local macro_rules | `(tactic| walk_at "st") => `(tactic| ((with_reducible apply rd_tyL); focus (first | exact SqL.of (by assumption) | exact SqL.of upd_same)))
local macro_rules | `(tactic| walk_at "st") => `(tactic| (with_reducible apply rd_bm0))
local macro_rules | `(tactic| walk_at "st") => `(tactic| (with_reducible apply rd_bm))
local macro_rules | `(tactic| walk_at "st") => `(tactic| ((with_reducible apply rd_truL); focus (first | assumption | exact SqL.of (by assumption) | exact SqL.of upd_same)))
local macro_rules | `(tactic| walk_at "st") => `(tactic| (with_reducible apply rd_truB))
local macro_rules | `(tactic| walk_at "st") => `(tactic| (with_reducible apply rd_tru))
local macro_rules | `(tactic| walk_at "st") => `(tactic| (with_reducible apply rd_chain3))
local macro_rules | `(tactic| walk_at "st") => `(tactic| ((with_reducible apply u_setL); (focus (first | assumption | exact upd_same)); exact rfl))
local macro_rules | `(tactic| walk_at "st") => `(tactic| ((with_reducible apply u_lenT); focus (first | assumption | exact SqT.of (by assumption) | exact SqT.of upd_same)))
local macro_rules | `(tactic| walk_at "st") => `(tactic| ((with_reducible apply u_lenL); focus (first | assumption | exact SqL.of (by assumption) | exact SqL.of upd_same)))
local macro_rules | `(tactic| walk_at "st") => `(tactic| ((with_reducible apply u_ixL); (focus (first | assumption | exact SqL.of (by assumption) | exact SqL.of upd_same)); exact rfl))
local macro_rules | `(tactic| walk_at "st") => `(tactic| ((with_reducible apply u_mul); focus first | exact Or.inl (by omega) | exact Or.inr (by omega) | exact Or.inl (by decide) | exact Or.inr (by decide)))
local macro_rules | `(tactic| walk_at "st") => `(tactic| ((with_reducible apply u_div); focus first | decide | omega | (constructor <;> first | assumption | omega)))
local macro_rules | `(tactic| walk_at "st") => `(tactic| ((with_reducible apply u_mod); focus first | assumption | decide | omega))
local macro_rules | `(tactic| walk_at "st") => `(tactic| (with_reducible apply u_neg))
local macro_rules | `(tactic| walk_at "st") => `(tactic| (with_reducible apply u_min))
local macro_rules | `(tactic| walk_at "st") => `(tactic| (with_reducible apply u_max))
local macro_rules | `(tactic| walk_at "st") => `(tactic| (with_reducible apply u_intB))
local macro_rules | `(tactic| walk_at "st") => `(tactic| (with_reducible apply u_int))
local macro_rules | `(tactic| walk_at "st") => `(tactic| (with_reducible apply u_neI))
local macro_rules | `(tactic| walk_at "st") => `(tactic| (with_reducible apply u_eqS))
local macro_rules | `(tactic| walk_at "st") => `(tactic| (with_reducible apply u_eqI))
local macro_rules | `(tactic| walk_at "st") => `(tactic| (with_reducible apply u_ge))
local macro_rules | `(tactic| walk_at "st") => `(tactic| (with_reducible apply u_gt))
local macro_rules | `(tactic| walk_at "st") => `(tactic| (with_reducible apply u_le))
local macro_rules | `(tactic| walk_at "st") => `(tactic| (with_reducible apply u_lt))
local macro_rules | `(tactic| walk_at "st") => `(tactic| (with_reducible apply u_sub))
local macro_rules | `(tactic| walk_at "st") => `(tactic| (with_reducible apply u_add))
local macro_rules | `(tactic| walk_at "st") => `(tactic| (with_reducible apply rd_ct))
local macro_rules | `(tactic| walk_at "st") => `(tactic| (with_reducible apply rd_brk))
local macro_rules | `(tactic| walk_at "st") => `(tactic| (with_reducible apply rd_tB))
local macro_rules | `(tactic| walk_at "st") => `(tactic| (with_reducible apply rd_chain))
local macro_rules | `(tactic| walk_at "st") => `(tactic| (with_reducible apply rd_notV))
local macro_rules | `(tactic| walk_at "st") => `(tactic| (with_reducible apply rd_orV))
local macro_rules | `(tactic| walk_at "st") => `(tactic| (with_reducible apply rd_andV))
local macro_rules | `(tactic| walk_at "st") => `(tactic| (with_reducible apply rd_not))
local macro_rules | `(tactic| walk_at "st") => `(tactic| (with_reducible apply rd_or))
local macro_rules | `(tactic| walk_at "st") => `(tactic| (with_reducible apply rd_and))
local macro_rules | `(tactic| walk_at "st") => `(tactic| (with_reducible apply rd_un))
local macro_rules | `(tactic| walk_at "st") => `(tactic| (with_reducible apply rd_par_end))
local macro_rules | `(tactic| walk_at "st") => `(tactic| (with_reducible apply rd_par))
local macro_rules | `(tactic| walk_at "st") => `(tactic| (with_reducible apply rd_gsub))
local macro_rules | `(tactic| walk_at "st") => `(tactic| (with_reducible apply rd_ife))
local macro_rules | `(tactic| walk_at "st") => `(tactic| (with_reducible apply rd_next))
local macro_rules | `(tactic| walk_at "st") => `(tactic| (with_reducible apply rd_drop))
local macro_rules | `(tactic| walk_at "st") => `(tactic| (with_reducible apply rd_lst))
local macro_rules | `(tactic| walk_at "st") => `(tactic| (with_reducible apply rd_tup))
local macro_rules | `(tactic| walk_at "st") => `(tactic| (with_reducible apply rd_call))
local macro_rules | `(tactic| walk_at "st") => `(tactic| (with_reducible apply rd_ret))
local macro_rules | `(tactic| walk_at "st") => `(tactic| (with_reducible apply rd_retE))
local macro_rules | `(tactic| walk_at "st") => `(tactic| (with_reducible apply rd_bl))
local macro_rules | `(tactic| walk_at "st") => `(tactic| (with_reducible apply rd_test))
local macro_rules | `(tactic| walk_at "st") => `(tactic| (with_reducible apply rd_if))
local macro_rules | `(tactic| walk_at "st") => `(tactic| (with_reducible apply rd_nil))
local macro_rules | `(tactic| walk_at "st") => `(tactic| (with_reducible apply rd_cons))
local macro_rules | `(tactic| walk_at "st") => `(tactic| (with_reducible apply rd_cb))
local macro_rules | `(tactic| walk_at "st") => `(tactic| (with_reducible apply rd_op))
local macro_rules | `(tactic| walk_at "st") => `(tactic| (with_reducible apply rd_gname))
local macro_rules | `(tactic| walk_at "st") => `(tactic| (with_reducible apply rd_asg))
local macro_rules | `(tactic| walk_at "st") => `(tactic| (with_reducible apply rd_seq))
local macro_rules | `(tactic| walk_at "st") => `(tactic| (with_reducible apply rd_c))
local macro_rules | `(tactic| walk_at "st") => `(tactic| ((with_reducible apply rd_var); exact rfl))
local macro_rules | `(tactic| walk_at "go") => `(tactic| repeat (walk_at "st"))
local macro_rules | `(tactic| walk_at "sp") => `(tactic| (first | refine rd_split (fun c => ?_) (fun c => ?_) | refine rd_splitN (fun c => ?_) (fun c => ?_) | refine rd_splitB (fun c => ?_) (fun c => ?_)))
local macro_rules | `(tactic| walk_at "nx") => `(tactic| repeat (first | (with_reducible apply iteF) | (with_reducible apply iteT) | (with_reducible apply rd_next)))

section
variable {P : Program} {w : World} {K : PySem.W.Frag} {mg : Str → Option Value} {base : Heap}
theorem lcG2 {H : Hp} {a : Addr} {xs : List V} {σ : L2.St} {g : TG} {tt : TT} {vs : List Nat} {Qd : Hp → Prop} {BB : (Hp → Prop) → L2.St → Hp → Prop} (Pv : Nat → Hp → Prop) (h0 : Pv 0 H) (hl : ∀ i H, i ≤ xs.length → Pv i H → SqL K H a xs)
    (hs : ∀ i x H, xs[i]? = some x → Pv i H → g x (wipe σ vs) H fun σ2 H2 => wipe σ2 vs = wipe σ vs ∧ tt σ2 H2 fun b H3 => if b = true then BB (Pv (i + 1)) σ2 H3 else Pv (i + 1) H3) (hd : ∀ H, Pv xs.length H → Qd H) :
    ∃ W : Nat → Nat → Hp → Prop, (∃ m, W 0 m H) ∧ ∀ i m H, W i m H →
      ((Itl K a).stop i H ∧ Qd H) ∨ ((Itl K a).go i H ∧ ∃ Nx : Hp → Prop, (∀ H', Nx H' → ∃ m', m' < m ∧ W (i + 1) m' H') ∧ ∀ x H', (Itl K a).yld i H x H' → g x (wipe σ vs) H' fun σ2 H2 => wipe σ2 vs = wipe σ vs ∧ tt σ2 H2 fun b H3 =>
        if b = true then BB Nx σ2 H3 else Nx H3) := by
  refine ⟨fun i m H => m = xs.length - i ∧ i ≤ xs.length ∧ Pv i H, ⟨xs.length, by simp, Nat.zero_le _, h0⟩, ?_⟩
  rintro i m H ⟨rfl, hi, pv⟩
  have sq := hl i H hi pv
  rcases Nat.lt_or_ge i xs.length with hlt | hlt
  · refine .inr ⟨⟨xs, _, sq, List.getElem?_eq_getElem hlt⟩, Pv (i + 1), fun H' p' => ⟨xs.length - (i + 1), by omega, rfl, hlt, p'⟩, fun x H' y => ?_⟩
    obtain ⟨e1, e2⟩ := y
    subst e1
    exact hs i x _ (e2 xs sq) pv
  · obtain rfl : i = xs.length := by omega
    exact .inl ⟨⟨xs, sq, Nat.le_refl _⟩, hd H pv⟩
theorem u_zipT {H : Hp} {a b : Addr} {xs ys : List V} {R1 R2 : Addr → Addr → Prop} (s : SqT K H a xs) (t : SqT K H b ys) (h : R2 a b) : ∃ a' b' xs' ys', [V.ref a, V.ref b] = [V.ref a', V.ref b'] ∧ ((SqL K H a' xs' ∧ SqL K H b' ys' ∧ R1 a' b') ∨ (SqT K H a' xs' ∧ SqT K H b' ys' ∧ R2 a' b')) := ⟨a, b, xs, ys, rfl, .inr ⟨s, t, h⟩⟩
/-- a row of ints at v -/
def Rw (K : PySem.W.Frag) (H : Hp) (v : V) (ns : List Int) : Prop := ∃ q, v = .ref q ∧ SqT K H q (ns.map V.int)
theorem Rw.mono {H H' : Hp} {v : V} {ns : List Int} (h : Rw K H v ns) (e : Ext K H H') : Rw K H' v ns := by
  obtain ⟨q, rfl, s⟩ := h
  exact ⟨q, rfl, e _ _ s⟩
structure RwL (K : PySem.W.Frag) (H : Hp) (rv : List V) (rs : List (List Int)) : Prop where
  len : rv.length = rs.length
  get : ∀ (i : Nat) r, rs[i]? = some r → ∃ v, rv[i]? = some v ∧ Rw K H v r
theorem RwL.mono {H H' : Hp} {rv : List V} {rs : List (List Int)} (h : RwL K H rv rs) (e : Ext K H H') : RwL K H' rv rs := ⟨h.len, fun i r hr => by
  obtain ⟨v, a, b⟩ := h.get i r hr
  exact ⟨v, a, b.mono e⟩⟩
theorem RwL.one {H : Hp} {rv : List V} {r : List Int} (h : RwL K H rv [r]) : ∃ q, rv = [.ref q] ∧ SqT K H q (r.map V.int) := by
  have hl := h.len
  obtain ⟨v, e, q, rfl, s⟩ := h.get 0 r rfl
  match rv, hl, e with
  | [x], _, e =>
    have : x = .ref q := by simpa using e
    exact ⟨q, by rw [this], s⟩
theorem RwL.two {H : Hp} {rv : List V} {r t : List Int} (h : RwL K H rv [r, t]) : ∃ q u, rv = [.ref q, .ref u] ∧ SqT K H q (r.map V.int) ∧ SqT K H u (t.map V.int) := by
  have hl := h.len
  obtain ⟨v, e, q, rfl, s⟩ := h.get 0 r rfl
  obtain ⟨v2, e2, q2, rfl, s2⟩ := h.get 1 t rfl
  match rv, hl, e, e2 with
  | [x, y], _, e, e2 =>
    have h1 : x = .ref q := by simpa using e
    have h2 : y = .ref q2 := by simpa using e2
    exact ⟨q, q2, by rw [h1, h2], s, s2⟩
theorem row_new {H : Hp} {p : Addr} {xs : List V} {ns : List Int} (h : xs = ns.map V.int) : SqT K (upd H p (.tup xs)) p (ns.map V.int) := by
  subst h
  exact SqT.of upd_same
theorem get_i {ns : List Int} {i : Nat} {x : V} (h : (ns.map V.int)[i]? = some x) : ∃ n, ns[i]? = some n ∧ x = .int n ∧ n ∈ ns := by
  rw [List.getElem?_map, Option.map_eq_some_iff] at h
  obtain ⟨n, h1, rfl⟩ := h
  exact ⟨n, h1, rfl, List.mem_of_getElem? h1⟩
def OkRs (rs : List (List Int)) : Prop := ∀ r ∈ rs, Inr r ∧ 1 ≤ r.length ∧ r.length ≤ 64
/-- an action: its row by what is told and the parts' rows -/
def spAc (K : PySem.W.Frag) (f : ActF) (p : ActP) : Sp := fun vs H Q _ => ∃ (a b : Addr) (tv : List V) (td : List PyData) (rv : List V) (rs : List (List Int)), vs = [.ref a, .ref b] ∧ SqT K H a tv ∧ Rps K H tv td ∧ SqL K H b rv ∧ RwL K H rv rs ∧ OkRs rs ∧ p td rs ∧
  ∀ (H' : Hp) (q : Addr), Same H H' → SqT K H' q ((f td rs).map V.int) → Q (.ref q) H'
abbrev s_turned : Stmt := top 42
theorem sc_turned : FnScope ["told", "rows"] ["told", "rows"] (defScope s_turned) := ⟨rfl, rfl, rfl, by decide +kernel, rfl, by decide +kernel, by decide +kernel⟩
theorem has_turned (O : OwnF K mg "turned" s_turned) : HasF P w K mg base CX0 1 "turned" ["told", "rows"] (spAc K fRev p1) := by
  refine has0 O sc_turned (fun _ _ _ _ _ _ us hl => match us, hl with | [_, _], _ => rfl) (fun vs H Q E h => ?_) (fun f cdv A outer s_ H vs Q E hr h => ?_)
  · obtain ⟨a, b, tv, td, rv, rs, rfl, _⟩ := h
    rfl
  obtain ⟨a, b, tv, td, rv, rs, rfl, hT, hR, hL, hW, hk, ⟨r, rfl⟩, q⟩ := h
  obtain ⟨c, rfl, hc⟩ := hW.one
  refine ⟨_, (pss_one (ps_ret (pe_revK K (pe_ix (kIx K) (pv 1) pe_int (fun _ _ => rfl))))), ?_⟩
  refine st0 [some (.ref a), some (.ref b)] rfl ?_
  walk_at "go"
  exact rd_revT hc fun p hp => q _ p (same_new hp _) (row_new (List.map_reverse).symm)
abbrev s_ascending : Stmt := top 43
theorem sc_ascending : FnScope ["told", "rows"] ["told", "rows"] (defScope s_ascending) := ⟨rfl, rfl, rfl, by decide +kernel, rfl, by decide +kernel, by decide +kernel⟩
theorem has_ascending (O : OwnF K mg "ascending" s_ascending) (B : Bl mg) : HasF P w K mg base CX0 1 "ascending" ["told", "rows"] (spAc K fSort p1) := by
  refine has0 O sc_ascending (fun _ _ _ _ _ _ us hl => match us, hl with | [_, _], _ => rfl) (fun vs H Q E h => ?_) (fun f cdv A outer s_ H vs Q E hr h => ?_)
  · obtain ⟨a, b, tv, td, rv, rs, rfl, _⟩ := h
    rfl
  obtain ⟨a, b, tv, td, rv, rs, rfl, hT, hR, hL, hW, hk, ⟨r, rfl⟩, q⟩ := h
  obtain ⟨c, rfl, hc⟩ := hW.one
  refine ⟨_, (pss_one (ps_ret (pe_callTy (kTup K) (by rfl) B.tuple (by decide +kernel) (pa_cons (pe_callB (HE.kSortTI K) (by rfl) B.sorted (by decide +kernel) (pa_cons (pe_ix (kIx K) (pv 1) pe_int (fun _ _ => rfl)) pa_nil)) pa_nil)))), ?_⟩
  refine st0 [some (.ref a), some (.ref b)] rfl ?_
  walk_at "go"
  refine ⟨c, r, rfl, hc, fun ns' p hp1 hp2 hp => ?_⟩
  walk_at "go"
  refine u_tupL (SqL.of upd_same) fun l hl => ?_
  exact q _ l (Same.new (same_new hp _) hl) (row_new (by rw [sortI_of hp1 hp2] <;> rfl))
abbrev s_total : Stmt := top 44
theorem sc_total : FnScope ["told", "rows"] ["told", "rows"] (defScope s_total) := ⟨rfl, rfl, rfl, by decide +kernel, rfl, by decide +kernel, by decide +kernel⟩
theorem has_total (O : OwnF K mg "total" s_total) (C : Cst mg) (BS : mg "sum" = none) : HasF P w K mg base CX0 1 "total" ["told", "rows"] (spAc K fSum p1) := by
  refine has0 O sc_total (fun _ _ _ _ _ _ us hl => match us, hl with | [_, _], _ => rfl) (fun vs H Q E h => ?_) (fun f cdv A outer s_ H vs Q E hr h => ?_)
  · obtain ⟨a, b, tv, td, rv, rs, rfl, _⟩ := h
    rfl
  obtain ⟨a, b, tv, td, rv, rs, rfl, hT, hR, hL, hW, hk, ⟨r, rfl⟩, q⟩ := h
  obtain ⟨c, rfl, hc⟩ := hW.one
  refine ⟨_, (pss_one (ps_ret (pe_tup (pa_cons (pe_op modU (pe_callB (kSumT K rfl) (by rfl) BS (by decide +kernel) (pa_cons (pe_ix (kIx K) (pv 1) pe_int (fun _ _ => rfl)) pa_nil)) (pe_globI C.MODULUS (by rfl))) pa_nil)))), ?_⟩
  refine st0 [some (.ref a), some (.ref b)] rfl ?_
  walk_at "go"
  refine ⟨c, r, rfl, hc, ?_⟩
  walk_at "go"
  refine ⟨lk rfl, fun p hp => ?_⟩
  exact q _ p (same_new hp _) (row_new rfl)
abbrev s_greatest : Stmt := top 45
theorem sc_greatest : FnScope ["told", "rows"] ["told", "rows"] (defScope s_greatest) := ⟨rfl, rfl, rfl, by decide +kernel, rfl, by decide +kernel, by decide +kernel⟩
theorem has_greatest (O : OwnF K mg "greatest" s_greatest) (B : Bl mg) : HasF P w K mg base CX0 1 "greatest" ["told", "rows"] (spAc K fTop p1) := by
  refine has0 O sc_greatest (fun _ _ _ _ _ _ us hl => match us, hl with | [_, _], _ => rfl) (fun vs H Q E h => ?_) (fun f cdv A outer s_ H vs Q E hr h => ?_)
  · obtain ⟨a, b, tv, td, rv, rs, rfl, _⟩ := h
    rfl
  obtain ⟨a, b, tv, td, rv, rs, rfl, hT, hR, hL, hW, hk, ⟨r, rfl⟩, q⟩ := h
  obtain ⟨c, rfl, hc⟩ := hW.one
  refine ⟨_, (pss_one (ps_ret (pe_tup (pa_cons (pe_callB (kMaxT K rfl) (by rfl) B.max (by decide +kernel) (pa_cons (pe_ix (kIx K) (pv 1) pe_int (fun _ _ => rfl)) pa_nil)) pa_nil)))), ?_⟩
  refine st0 [some (.ref a), some (.ref b)] rfl ?_
  walk_at "go"
  refine ⟨c, r, rfl, hc, (hk r (by simp)).2.1, fun m hm hm2 => ?_⟩
  walk_at "go"
  refine ⟨lk rfl, fun p hp => ?_⟩
  exact q _ p (same_new hp _) (row_new (by rw [topI_of hm hm2] <;> rfl))
abbrev s_unchanged : Stmt := top 55
theorem sc_unchanged : FnScope ["told", "rows"] ["told", "rows"] (defScope s_unchanged) := ⟨rfl, rfl, rfl, by decide +kernel, rfl, by decide +kernel, by decide +kernel⟩
theorem has_unchanged (O : OwnF K mg "unchanged" s_unchanged) : HasF P w K mg base CX0 1 "unchanged" ["told", "rows"] (spAc K fHold p1) := by
  refine has0 O sc_unchanged (fun _ _ _ _ _ _ us hl => match us, hl with | [_, _], _ => rfl) (fun vs H Q E h => ?_) (fun f cdv A outer s_ H vs Q E hr h => ?_)
  · obtain ⟨a, b, tv, td, rv, rs, rfl, _⟩ := h
    rfl
  obtain ⟨a, b, tv, td, rv, rs, rfl, hT, hR, hL, hW, hk, ⟨r, rfl⟩, q⟩ := h
  obtain ⟨c, rfl, hc⟩ := hW.one
  refine ⟨_, (pss_one (ps_ret (pe_ix (kIx K) (pv 1) pe_int (fun _ _ => rfl)))), ?_⟩
  refine st0 [some (.ref a), some (.ref b)] rfl ?_
  walk_at "go"
  exact q _ c (Same.refl H) hc
abbrev s_cut : Stmt := top 53
theorem sc_cut : FnScope ["told", "rows"] ["told", "rows"] (defScope s_cut) := ⟨rfl, rfl, rfl, by decide +kernel, rfl, by decide +kernel, by decide +kernel⟩
theorem has_cut (O : OwnF K mg "cut" s_cut) : HasF P w K mg base CX0 1 "cut" ["told", "rows"] (spAc K fPart pPart) := by
  refine has0 O sc_cut (fun _ _ _ _ _ _ us hl => match us, hl with | [_, _], _ => rfl) (fun vs H Q E h => ?_) (fun f cdv A outer s_ H vs Q E hr h => ?_)
  · obtain ⟨a, b, tv, td, rv, rs, rfl, _⟩ := h
    rfl
  obtain ⟨a, b, tv, td, rv, rs, rfl, hT, hR, hL, hW, hk, ⟨r, i, k, rfl, rfl, h1, h2⟩, q⟩ := h
  obtain ⟨c, rfl, hc⟩ := hW.one
  cases hR with
  | cons r1 r2 =>
    cases r2 with
    | cons r3 r4 =>
      cases r4
      cases r3
      cases r1
      refine ⟨_, (pss_one (ps_ret (pe_slice (kSl K) (pe_ix (kIx K) (pv 1) pe_int (fun _ _ => rfl)) (po_some (pe_ix (kIx K) (pv 0) pe_int (fun _ _ => rfl))) (po_some (pe_ix (kIx K) (pv 0) pe_int (fun _ _ => rfl)))))), ?_⟩
      refine st0 [some (.ref a), some (.ref b)] rfl ?_
      walk_at "go"
      refine u_ixT hT rfl ?_
      walk_at "go"
      refine u_ixT hT rfl ?_
      walk_at "go"
      refine u_slS hc fun q1 H1 s1 hq1 => q H1 q1 s1 ?_
      rw [cut_mid _ i k (by rw [List.length_map]; omega) (by rw [List.length_map]; exact h2), ← List.map_drop, ← List.map_take] at hq1
      exact hq1
abbrev s_repeated : Stmt := top 54
theorem sc_repeated : FnScope ["told", "rows"] ["told", "rows"] (defScope s_repeated) := ⟨rfl, rfl, rfl, by decide +kernel, rfl, by decide +kernel, by decide +kernel⟩
theorem has_repeated (O : OwnF K mg "repeated" s_repeated) : HasF P w K mg base CX0 1 "repeated" ["told", "rows"] (spAc K fRep pRep) := by
  refine has0 O sc_repeated (fun _ _ _ _ _ _ us hl => match us, hl with | [_, _], _ => rfl) (fun vs H Q E h => ?_) (fun f cdv A outer s_ H vs Q E hr h => ?_)
  · obtain ⟨a, b, tv, td, rv, rs, rfl, _⟩ := h
    rfl
  obtain ⟨a, b, tv, td, rv, rs, rfl, hT, hR, hL, hW, hk, ⟨r, k, rfl, rfl, h1, h2⟩, q⟩ := h
  obtain ⟨c, rfl, hc⟩ := hW.one
  obtain ⟨_, k1, k2⟩ := hk r (by simp)
  have ne : r.map V.int ≠ [] := fun e => by
    have := congrArg List.length e
    rw [List.length_map] at this
    simp at this
    rw [this] at k1
    exact absurd k1 (by decide)
  cases hR with
  | cons r1 r2 =>
    cases r2
    cases r1
    refine ⟨_, (pss_one (ps_ret (pe_op (kMulV K) (pe_ix (kIx K) (pv 1) pe_int (fun _ _ => rfl)) (pe_ix (kIx K) (pv 0) pe_int (fun _ _ => rfl))))), ?_⟩
    refine st0 [some (.ref a), some (.ref b)] rfl ?_
    walk_at "go"
    refine u_ixT hT rfl ?_
    walk_at "go"
    rcases Nat.lt_or_ge k 2 with z | z
    · obtain rfl : k = 1 := by omega
      refine .inr ⟨c, _, rfl, rfl, hc, ne, q _ c (Same.refl H) ?_⟩
      have e : fRep [.int ((1 : Nat) : Int)] [r] = r := by
        show (List.replicate 1 r).flatten = r
        simp
      rw [e]
      exact hc
    · refine .inl (.inr (.inr ⟨c, k, _, rfl, rfl, hc, ne, by omega, by omega, by rw [List.length_map]; omega, fun p hp => q _ p (same_new hp _) (row_new ?_)⟩))
      show (List.replicate ((k : Nat) : Int).toNat (r.map V.int)).flatten = ((List.replicate ((k : Nat) : Int).toNat r).flatten).map V.int
      rw [List.map_flatten, List.map_replicate]
end

/-! ### V3 -/
section
variable {P : Program} {w : World} {K : PySem.W.Frag} {mg : Str → Option Value} {base : Heap}
theorem take_snocI {ns : List Int} {i : Nat} {n : Int} (h : ns[i]? = some n) : (ns.take (i + 1)).map V.int = (ns.take i).map V.int ++ [V.int n] := by
  rw [List.take_add_one, h, List.map_append] <;> rfl
theorem zipI_at {f : Int → Int → Int} {a b : List Int} {i : Nat} {x y : Int} (h1 : a[i]? = some x) (h2 : b[i]? = some y) : (zipI f a b)[i]? = some (f x y) := by
  unfold zipI
  rw [List.getElem?_zipWith, h1, h2]
theorem le64 {n : Nat} (h : n ≤ 64) : n < sizeLine := ls (by omega)
theorem zip_bd {i j : Int} (h1 : inR i) (h2 : inR j) : CMul i j := Or.inl (by unfold inR at *; omega)
abbrev s_added : Stmt := top 46
theorem sc_added : FnScope ["told", "rows", "a", "b"] ["told", "rows"] (defScope s_added) := ⟨rfl, rfl, rfl, by decide +kernel, rfl, by decide +kernel, by decide +kernel⟩
theorem has_added (O : OwnF K mg "added" s_added) (B : Bl mg) (C : Cst mg) : HasF P w K mg base CX0 1 "added" ["told", "rows"] (spAc K fAdd p2e) := by
  refine has0 O sc_added (fun _ _ _ _ _ _ us hl => match us, hl with | [_, _], _ => rfl) (fun vs H Q E h => ?_) (fun f cdv A outer s_ H vs Q E hr h => ?_)
  · obtain ⟨a, b, tv, td, rv, rs, rfl, _⟩ := h
    rfl
  obtain ⟨a, b, tv, td, rv, rs, rfl, hT, hR, hL, hW, hk, ⟨r, t, rfl, hrt⟩, q⟩ := h
  obtain ⟨c, d, rfl, hc, hd⟩ := hW.two
  obtain ⟨kr, kr1, kr2⟩ := hk r (by simp)
  obtain ⟨kt, kt1, kt2⟩ := hk t (by simp)
  refine ⟨_, (pss_one (ps_ret (pe_callTy (kTup K) (by rfl) B.tuple (by decide +kernel) (pa_cons (pe_lc (own := [("a", 2), ("b", 3)]) (g := _) (tt := tYes) rfl sc_added.nd (pi_zipK K (by rfl) B.zip (pa_cons (pe_ix (kIx K) (pv 1) pe_int (fun _ _ => rfl)) (pa_cons (pe_ix (kIx K) (pv 1) pe_int (fun _ _ => rfl)) pa_nil))) (blkOk_by (own := [("a", 2), ("b", 3)]) (N := ["told", "rows", "a", "b"]) (sc := defScope s_added) (by decide +kernel)) (fun _ _ _ _ _ => (pg_tupK (n := 2) K rfl (pgs_cons (pg_name (i := 2) sc_added.nd rfl (by first | exact Or.inl rfl | exact Or.inr rfl)) (pgs_cons (pg_name (i := 3) sc_added.nd rfl (by first | exact Or.inl rfl | exact Or.inr rfl)) pgs_nil)))) (fun _ _ _ _ _ => pts_nil) (fun _ _ _ _ _ => (pe_op modU (pe_op (kAdd K) (pv 2) (pv 3)) (pe_globI C.MODULUS (by rfl))))) pa_nil)))), ?_⟩
  refine st0 [some (.ref a), some (.ref b), none, none] rfl ?_
  walk_at "go"
  refine u_zipT hc hd ?_
  intro D hD
  refine lc_zip (xs := r.map V.int) (ys := t.map V.int) (.inr rfl) (by rw [List.length_map, List.length_map, hrt]) (fun i H' => H' D = some (.lst (((zipI (fun x y => (x + y) % 1000003) r t).take i).map V.int)) ∧ Same H H') ⟨upd_same, same_new hD _⟩ ?_ ?_ ?_
  · rintro i H' hi ⟨h1, h2⟩
    exact .inr ⟨rfl, Ext.of_same h2 _ _ hc, Ext.of_same h2 _ _ hd⟩
  · rintro i x y T H' hx hy ⟨h1, h2⟩ hT'
    obtain ⟨x, ex, rfl, mx⟩ := get_i hx
    obtain ⟨y, ey, rfl, my⟩ := get_i hy
    have kx := kr x mx
    have ky := kt y my
    unfold inR at kx ky
    have nD : D ≠ T := ne_of_none h1 hT'
    walk_at "go"
    refine ⟨rfl, ?_⟩
    walk_at "go"
    refine ⟨_, by rw [upd_ne nD]; exact h1, ?_, ?_, Same.upd_new (Same.new h2 hT') hD⟩
    · rw [List.length_map, List.length_take, zipI_len hrt]
      exact le64 (by omega)
    · rw [upd_same, take_snocI (zipI_at (f := fun x y => (x + y) % 1000003) ex ey)]
  · rintro H' ⟨h1, h2⟩
    rw [List.length_map, ← zipI_len (f := fun x y => (x + y) % 1000003) hrt, List.take_length] at h1
    walk_at "go"
    refine u_tupL (SqL.of h1) fun l hl => ?_
    exact q _ l (Same.new h2 hl) (row_new rfl)
abbrev s_subtracted : Stmt := top 47
theorem sc_subtracted : FnScope ["told", "rows", "a", "b"] ["told", "rows"] (defScope s_subtracted) := ⟨rfl, rfl, rfl, by decide +kernel, rfl, by decide +kernel, by decide +kernel⟩
theorem has_subtracted (O : OwnF K mg "subtracted" s_subtracted) (B : Bl mg) (C : Cst mg) : HasF P w K mg base CX0 1 "subtracted" ["told", "rows"] (spAc K fSub p2e) := by
  refine has0 O sc_subtracted (fun _ _ _ _ _ _ us hl => match us, hl with | [_, _], _ => rfl) (fun vs H Q E h => ?_) (fun f cdv A outer s_ H vs Q E hr h => ?_)
  · obtain ⟨a, b, tv, td, rv, rs, rfl, _⟩ := h
    rfl
  obtain ⟨a, b, tv, td, rv, rs, rfl, hT, hR, hL, hW, hk, ⟨r, t, rfl, hrt⟩, q⟩ := h
  obtain ⟨c, d, rfl, hc, hd⟩ := hW.two
  obtain ⟨kr, kr1, kr2⟩ := hk r (by simp)
  obtain ⟨kt, kt1, kt2⟩ := hk t (by simp)
  refine ⟨_, (pss_one (ps_ret (pe_callTy (kTup K) (by rfl) B.tuple (by decide +kernel) (pa_cons (pe_lc (own := [("a", 2), ("b", 3)]) (g := _) (tt := tYes) rfl sc_subtracted.nd (pi_zipK K (by rfl) B.zip (pa_cons (pe_ix (kIx K) (pv 1) pe_int (fun _ _ => rfl)) (pa_cons (pe_ix (kIx K) (pv 1) pe_int (fun _ _ => rfl)) pa_nil))) (blkOk_by (own := [("a", 2), ("b", 3)]) (N := ["told", "rows", "a", "b"]) (sc := defScope s_subtracted) (by decide +kernel)) (fun _ _ _ _ _ => (pg_tupK (n := 2) K rfl (pgs_cons (pg_name (i := 2) sc_subtracted.nd rfl (by first | exact Or.inl rfl | exact Or.inr rfl)) (pgs_cons (pg_name (i := 3) sc_subtracted.nd rfl (by first | exact Or.inl rfl | exact Or.inr rfl)) pgs_nil)))) (fun _ _ _ _ _ => pts_nil) (fun _ _ _ _ _ => (pe_op modU (pe_op subU (pv 2) (pv 3)) (pe_globI C.MODULUS (by rfl))))) pa_nil)))), ?_⟩
  refine st0 [some (.ref a), some (.ref b), none, none] rfl ?_
  walk_at "go"
  refine u_zipT hc hd ?_
  intro D hD
  refine lc_zip (xs := r.map V.int) (ys := t.map V.int) (.inr rfl) (by rw [List.length_map, List.length_map, hrt]) (fun i H' => H' D = some (.lst (((zipI (fun x y => (x - y) % 1000003) r t).take i).map V.int)) ∧ Same H H') ⟨upd_same, same_new hD _⟩ ?_ ?_ ?_
  · rintro i H' hi ⟨h1, h2⟩
    exact .inr ⟨rfl, Ext.of_same h2 _ _ hc, Ext.of_same h2 _ _ hd⟩
  · rintro i x y T H' hx hy ⟨h1, h2⟩ hT'
    obtain ⟨x, ex, rfl, mx⟩ := get_i hx
    obtain ⟨y, ey, rfl, my⟩ := get_i hy
    have kx := kr x mx
    have ky := kt y my
    unfold inR at kx ky
    have nD : D ≠ T := ne_of_none h1 hT'
    walk_at "go"
    refine ⟨rfl, ?_⟩
    walk_at "go"
    refine ⟨_, by rw [upd_ne nD]; exact h1, ?_, ?_, Same.upd_new (Same.new h2 hT') hD⟩
    · rw [List.length_map, List.length_take, zipI_len hrt]
      exact le64 (by omega)
    · rw [upd_same, take_snocI (zipI_at (f := fun x y => (x - y) % 1000003) ex ey)]
  · rintro H' ⟨h1, h2⟩
    rw [List.length_map, ← zipI_len (f := fun x y => (x - y) % 1000003) hrt, List.take_length] at h1
    walk_at "go"
    refine u_tupL (SqL.of h1) fun l hl => ?_
    exact q _ l (Same.new h2 hl) (row_new rfl)
abbrev s_multiplied : Stmt := top 48
theorem sc_multiplied : FnScope ["told", "rows", "a", "b"] ["told", "rows"] (defScope s_multiplied) := ⟨rfl, rfl, rfl, by decide +kernel, rfl, by decide +kernel, by decide +kernel⟩
theorem has_multiplied (O : OwnF K mg "multiplied" s_multiplied) (B : Bl mg) (C : Cst mg) : HasF P w K mg base CX0 1 "multiplied" ["told", "rows"] (spAc K fMul p2e) := by
  refine has0 O sc_multiplied (fun _ _ _ _ _ _ us hl => match us, hl with | [_, _], _ => rfl) (fun vs H Q E h => ?_) (fun f cdv A outer s_ H vs Q E hr h => ?_)
  · obtain ⟨a, b, tv, td, rv, rs, rfl, _⟩ := h
    rfl
  obtain ⟨a, b, tv, td, rv, rs, rfl, hT, hR, hL, hW, hk, ⟨r, t, rfl, hrt⟩, q⟩ := h
  obtain ⟨c, d, rfl, hc, hd⟩ := hW.two
  obtain ⟨kr, kr1, kr2⟩ := hk r (by simp)
  obtain ⟨kt, kt1, kt2⟩ := hk t (by simp)
  refine ⟨_, (pss_one (ps_ret (pe_callTy (kTup K) (by rfl) B.tuple (by decide +kernel) (pa_cons (pe_lc (own := [("a", 2), ("b", 3)]) (g := _) (tt := tYes) rfl sc_multiplied.nd (pi_zipK K (by rfl) B.zip (pa_cons (pe_ix (kIx K) (pv 1) pe_int (fun _ _ => rfl)) (pa_cons (pe_ix (kIx K) (pv 1) pe_int (fun _ _ => rfl)) pa_nil))) (blkOk_by (own := [("a", 2), ("b", 3)]) (N := ["told", "rows", "a", "b"]) (sc := defScope s_multiplied) (by decide +kernel)) (fun _ _ _ _ _ => (pg_tupK (n := 2) K rfl (pgs_cons (pg_name (i := 2) sc_multiplied.nd rfl (by first | exact Or.inl rfl | exact Or.inr rfl)) (pgs_cons (pg_name (i := 3) sc_multiplied.nd rfl (by first | exact Or.inl rfl | exact Or.inr rfl)) pgs_nil)))) (fun _ _ _ _ _ => pts_nil) (fun _ _ _ _ _ => (pe_op modU (pe_op (kMul K) (pv 2) (pv 3)) (pe_globI C.MODULUS (by rfl))))) pa_nil)))), ?_⟩
  refine st0 [some (.ref a), some (.ref b), none, none] rfl ?_
  walk_at "go"
  refine u_zipT hc hd ?_
  intro D hD
  refine lc_zip (xs := r.map V.int) (ys := t.map V.int) (.inr rfl) (by rw [List.length_map, List.length_map, hrt]) (fun i H' => H' D = some (.lst (((zipI (fun x y => x * y % 1000003) r t).take i).map V.int)) ∧ Same H H') ⟨upd_same, same_new hD _⟩ ?_ ?_ ?_
  · rintro i H' hi ⟨h1, h2⟩
    exact .inr ⟨rfl, Ext.of_same h2 _ _ hc, Ext.of_same h2 _ _ hd⟩
  · rintro i x y T H' hx hy ⟨h1, h2⟩ hT'
    obtain ⟨x, ex, rfl, mx⟩ := get_i hx
    obtain ⟨y, ey, rfl, my⟩ := get_i hy
    have kx := kr x mx
    have ky := kt y my
    unfold inR at kx ky
    have nD : D ≠ T := ne_of_none h1 hT'
    walk_at "go"
    refine ⟨rfl, ?_⟩
    walk_at "go"
    refine ⟨_, by rw [upd_ne nD]; exact h1, ?_, ?_, Same.upd_new (Same.new h2 hT') hD⟩
    · rw [List.length_map, List.length_take, zipI_len hrt]
      exact le64 (by omega)
    · rw [upd_same, take_snocI (zipI_at (f := fun x y => x * y % 1000003) ex ey)]
  · rintro H' ⟨h1, h2⟩
    rw [List.length_map, ← zipI_len (f := fun x y => x * y % 1000003) hrt, List.take_length] at h1
    walk_at "go"
    refine u_tupL (SqL.of h1) fun l hl => ?_
    exact q _ l (Same.new h2 hl) (row_new rfl)
abbrev s_dotted : Stmt := top 49
theorem sc_dotted : FnScope ["told", "rows", "a", "b"] ["told", "rows"] (defScope s_dotted) := ⟨rfl, rfl, rfl, by decide +kernel, rfl, by decide +kernel, by decide +kernel⟩
theorem has_dotted (O : OwnF K mg "dotted" s_dotted) (B : Bl mg) (C : Cst mg) (BS : mg "sum" = none) : HasF P w K mg base CX0 1 "dotted" ["told", "rows"] (spAc K fDot p2e) := by
  refine has0 O sc_dotted (fun _ _ _ _ _ _ us hl => match us, hl with | [_, _], _ => rfl) (fun vs H Q E h => ?_) (fun f cdv A outer s_ H vs Q E hr h => ?_)
  · obtain ⟨a, b, tv, td, rv, rs, rfl, _⟩ := h
    rfl
  obtain ⟨a, b, tv, td, rv, rs, rfl, hT, hR, hL, hW, hk, ⟨r, t, rfl, hrt⟩, q⟩ := h
  obtain ⟨c, d, rfl, hc, hd⟩ := hW.two
  obtain ⟨kr, kr1, kr2⟩ := hk r (by simp)
  obtain ⟨kt, kt1, kt2⟩ := hk t (by simp)
  refine ⟨_, (pss_one (ps_ret (pe_tup (pa_cons (pe_op modU (pe_callB (kSum K rfl) (by rfl) BS (by decide +kernel) (pa_cons (pe_lc (own := [("a", 2), ("b", 3)]) (g := _) (tt := tYes) rfl sc_dotted.nd (pi_zipK K (by rfl) B.zip (pa_cons (pe_ix (kIx K) (pv 1) pe_int (fun _ _ => rfl)) (pa_cons (pe_ix (kIx K) (pv 1) pe_int (fun _ _ => rfl)) pa_nil))) (blkOk_by (own := [("a", 2), ("b", 3)]) (N := ["told", "rows", "a", "b"]) (sc := defScope s_dotted) (by decide +kernel)) (fun _ _ _ _ _ => (pg_tupK (n := 2) K rfl (pgs_cons (pg_name (i := 2) sc_dotted.nd rfl (by first | exact Or.inl rfl | exact Or.inr rfl)) (pgs_cons (pg_name (i := 3) sc_dotted.nd rfl (by first | exact Or.inl rfl | exact Or.inr rfl)) pgs_nil)))) (fun _ _ _ _ _ => pts_nil) (fun _ _ _ _ _ => (pe_op (kMul K) (pv 2) (pv 3)))) pa_nil)) (pe_globI C.MODULUS (by rfl))) pa_nil)))), ?_⟩
  refine st0 [some (.ref a), some (.ref b), none, none] rfl ?_
  walk_at "go"
  refine u_zipT hc hd ?_
  intro D hD
  refine lc_zip (xs := r.map V.int) (ys := t.map V.int) (.inr rfl) (by rw [List.length_map, List.length_map, hrt]) (fun i H' => H' D = some (.lst (((zipI (fun x y => x * y) r t).take i).map V.int)) ∧ Same H H') ⟨upd_same, same_new hD _⟩ ?_ ?_ ?_
  · rintro i H' hi ⟨h1, h2⟩
    exact .inr ⟨rfl, Ext.of_same h2 _ _ hc, Ext.of_same h2 _ _ hd⟩
  · rintro i x y T H' hx hy ⟨h1, h2⟩ hT'
    obtain ⟨x, ex, rfl, mx⟩ := get_i hx
    obtain ⟨y, ey, rfl, my⟩ := get_i hy
    have kx := kr x mx
    have ky := kt y my
    unfold inR at kx ky
    have nD : D ≠ T := ne_of_none h1 hT'
    walk_at "go"
    refine ⟨rfl, ?_⟩
    walk_at "go"
    refine ⟨_, by rw [upd_ne nD]; exact h1, ?_, ?_, Same.upd_new (Same.new h2 hT') hD⟩
    · rw [List.length_map, List.length_take, zipI_len hrt]
      exact le64 (by omega)
    · rw [upd_same, take_snocI (zipI_at (f := fun x y => x * y) ex ey)]
  · rintro H' ⟨h1, h2⟩
    rw [List.length_map, ← zipI_len (f := fun x y => x * y) hrt, List.take_length] at h1
    walk_at "go"
    refine u_sum (SqL.of h1) ?_
    walk_at "go"
    refine ⟨lk rfl, fun p hp => ?_⟩
    exact q _ p (Same.new h2 hp) (row_new rfl)
end

/-! ### V4 -/
section
variable {P : Program} {w : World} {K : PySem.W.Frag} {mg : Str → Option Value} {base : Heap}
theorem atI_getD {ns : List Int} {n : Nat} (h : n < ns.length) : atI (ns.map V.int) ((n : Nat) : Int) = some (.int (ns.getD n 0)) := by
  refine atI_nat ?_
  rw [List.getElem?_map, List.getElem?_eq_getElem h, List.getD_eq_getElem?_getD, List.getElem?_eq_getElem h] <;> rfl
theorem flat_take (rs : List (List Int)) (k : Nat) {r : List Int} (h : rs[k]? = some r) : (rs.take (k + 1)).flatten = (rs.take k).flatten ++ r := by
  rw [List.take_add_one, h, List.flatten_append]
  simp
theorem okrs_len : ∀ {rs : List (List Int)}, OkRs rs → rs.flatten.length ≤ rs.length * 64
  | [], _ => by simp
  | r :: t, h => by
    have a := (h r (by simp)).2.2
    have b := okrs_len (rs := t) fun x hx => h x (List.mem_cons_of_mem _ hx)
    rw [List.flatten_cons, List.length_append, List.length_cons, Nat.succ_mul]
    omega
theorem okrs_take {rs : List (List Int)} (h : OkRs rs) (k : Nat) : OkRs (rs.take k) := fun r hr => h r (List.mem_of_mem_take hr)
abbrev s_joined : Stmt := top 50
theorem sc_joined : FnScope ["told", "rows", "row", "n"] ["told", "rows"] (defScope s_joined) := ⟨rfl, rfl, rfl, by decide +kernel, rfl, by decide +kernel, by decide +kernel⟩
theorem has_joined (O : OwnF K mg "joined" s_joined) (B : Bl mg) : HasF P w K mg base CX0 1 "joined" ["told", "rows"] (spAc K fCat pn) := by
  refine has0 O sc_joined (fun _ _ _ _ _ _ us hl => match us, hl with | [_, _], _ => rfl) (fun vs H Q E h => ?_) (fun f cdv A outer s_ H vs Q E hr h => ?_)
  · obtain ⟨a, b, tv, td, rv, rs, rfl, _⟩ := h
    rfl
  obtain ⟨a, b, tv, td, rv, rs, rfl, hT, hR, hL, hW, hk, hp, q⟩ := h
  have hp : rs.length ≤ 4 := hp
  have hwl := hW.len
  refine ⟨_, (pss_one (ps_ret (pe_callTy (kTup K) (by rfl) B.tuple (by decide +kernel) (pa_cons (pe_lc2 (own := [("row", 2), ("n", 3)]) (g := gName 2) (tt := tYes) (g1 := gName 3) (tt1 := tYes) (vs1 := [3]) rfl sc_joined.nd (pi_listK K (pv 1)) (blkOk_by (own := [("row", 2), ("n", 3)]) (N := ["told", "rows", "row", "n"]) (sc := defScope s_joined) (by decide +kernel)) (by decide) (fun _ _ _ _ _ => (pg_name (i := 2) sc_joined.nd rfl (by first | exact Or.inl rfl | exact Or.inr rfl))) (fun _ _ _ _ _ => pts_nil) (fun _ _ _ _ _ => (pi_tupK K (pv 2))) (fun _ _ _ _ _ => (pg_name (i := 3) sc_joined.nd rfl (by first | exact Or.inl rfl | exact Or.inr rfl))) (fun _ _ _ _ _ => pts_nil) (fun _ _ _ _ _ => (pv 3))) pa_nil)))), ?_⟩
  refine st0 [some (.ref a), some (.ref b), none, none] rfl ?_
  walk_at "go"
  intro D hD
  refine lcG2 (xs := rv) (fun k H' => H' D = some (.lst ((rs.take k).flatten.map V.int)) ∧ Same H H') ⟨upd_same, same_new hD _⟩ ?_ ?_ ?_
  · rintro k H' hk' ⟨h1, h2⟩
    exact Same.seq h2 hL
  · rintro k x H' hx ⟨h1, h2⟩
    have hkl := lt_of_get hx
    rw [hwl] at hkl
    obtain ⟨v, hv, c, rfl, hc⟩ := hW.get k rs[k] (List.getElem?_eq_getElem hkl)
    rw [hx, Option.some.injEq] at hv
    subst hv
    have er : rs[k]? = some rs[k] := List.getElem?_eq_getElem hkl
    have rl := (hk rs[k] (List.getElem_mem hkl)).2.2
    have tl := okrs_len (okrs_take hk k)
    rw [List.length_take] at tl
    generalize rs[k] = r at *
    have hc1 := Ext.of_same (K := K) h2 _ _ hc
    walk_at "go"
    refine ⟨rfl, ?_⟩
    walk_at "go"
    refine lcG (xs := r.map V.int) (fun l H2 => H2 D = some (.lst (((rs.take k).flatten ++ r.take l).map V.int)) ∧ Same H H2) ⟨by rw [List.take_zero, List.append_nil]; exact h1, h2⟩ ?_ ?_ ?_
    · rintro l H2 hl ⟨g1, g2⟩
      exact Ext.of_same g2 _ _ hc
    · rintro l y H2 hy ⟨g1, g2⟩
      obtain ⟨y, ey, rfl, _⟩ := get_i hy
      walk_at "go"
      refine ⟨rfl, ?_⟩
      walk_at "go"
      refine ⟨_, g1, ?_, ?_, Same.upd_new g2 hD⟩
      · rw [List.length_map, List.length_append, List.length_take]
        exact ls (by omega)
      · rw [upd_same, List.take_add_one, ey, ← List.append_assoc, List.map_append (l₂ := (some y).toList)] <;> rfl
    · rintro H2 ⟨g1, g2⟩
      rw [List.length_map, List.take_length] at g1
      exact ⟨by rw [flat_take rs k er]; exact g1, g2⟩
  · rintro H' ⟨h1, h2⟩
    rw [hwl, List.take_length] at h1
    walk_at "go"
    refine u_tupL (SqL.of h1) fun l hl => ?_
    exact q _ l (Same.new h2 hl) (row_new rfl)
theorem cross_take (r t : List Int) (k : Nat) {x : Int} (h : r[k]? = some x) : crossI (r.take (k + 1)) t = crossI (r.take k) t ++ t.map fun y => x * y % 1000003 := by
  unfold crossI
  rw [List.take_add_one, h, List.flatMap_append]
  simp
abbrev s_crossed : Stmt := top 51
theorem sc_crossed : FnScope ["told", "rows", "a", "b"] ["told", "rows"] (defScope s_crossed) := ⟨rfl, rfl, rfl, by decide +kernel, rfl, by decide +kernel, by decide +kernel⟩
theorem has_crossed (O : OwnF K mg "crossed" s_crossed) (B : Bl mg) (C : Cst mg) : HasF P w K mg base CX0 1 "crossed" ["told", "rows"] (spAc K fOuter p2) := by
  refine has0 O sc_crossed (fun _ _ _ _ _ _ us hl => match us, hl with | [_, _], _ => rfl) (fun vs H Q E h => ?_) (fun f cdv A outer s_ H vs Q E hr h => ?_)
  · obtain ⟨a, b, tv, td, rv, rs, rfl, _⟩ := h
    rfl
  obtain ⟨a, b, tv, td, rv, rs, rfl, hT, hR, hL, hW, hk, ⟨r, t, rfl⟩, q⟩ := h
  obtain ⟨c, d, rfl, hc, hd⟩ := hW.two
  obtain ⟨kr, kr1, kr2⟩ := hk r (by simp)
  obtain ⟨kt, kt1, kt2⟩ := hk t (by simp)
  refine ⟨_, (pss_one (ps_ret (pe_callTy (kTup K) (by rfl) B.tuple (by decide +kernel) (pa_cons (pe_lc2 (own := [("a", 2), ("b", 3)]) (g := gName 2) (tt := tYes) (g1 := gName 3) (tt1 := tYes) (vs1 := [3]) rfl sc_crossed.nd (pi_tupK K (pe_ix (kIx K) (pv 1) pe_int (fun _ _ => rfl))) (blkOk_by (own := [("a", 2), ("b", 3)]) (N := ["told", "rows", "a", "b"]) (sc := defScope s_crossed) (by decide +kernel)) (by decide) (fun _ _ _ _ _ => (pg_name (i := 2) sc_crossed.nd rfl (by first | exact Or.inl rfl | exact Or.inr rfl))) (fun _ _ _ _ _ => pts_nil) (fun _ _ _ _ _ => (pi_tupK K (pe_ix (kIx K) (pv 1) pe_int (fun _ _ => rfl)))) (fun _ _ _ _ _ => (pg_name (i := 3) sc_crossed.nd rfl (by first | exact Or.inl rfl | exact Or.inr rfl))) (fun _ _ _ _ _ => pts_nil) (fun _ _ _ _ _ => (pe_op modU (pe_op (kMul K) (pv 2) (pv 3)) (pe_globI C.MODULUS (by rfl))))) pa_nil)))), ?_⟩
  refine st0 [some (.ref a), some (.ref b), none, none] rfl ?_
  walk_at "go"
  intro D hD
  refine lcG (xs := r.map V.int) (fun k H' => H' D = some (.lst ((crossI (r.take k) t).map V.int)) ∧ Same H H') ⟨upd_same, same_new hD _⟩ ?_ ?_ ?_
  · rintro k H' hk' ⟨h1, h2⟩
    exact Ext.of_same h2 _ _ hc
  · rintro k x H' hx ⟨h1, h2⟩
    obtain ⟨x, ex, rfl, mx⟩ := get_i hx
    have kx := kr x mx
    unfold inR at kx
    have hL1 := Same.seq h2 hL
    have hd1 := Ext.of_same (K := K) h2 _ _ hd
    have kl := lt_of_get ex
    have tl : (crossI (r.take k) t).length ≤ 64 * 64 := by
      rw [crossI_len, List.length_take]
      exact Nat.mul_le_mul (by omega) kt2
    walk_at "go"
    refine ⟨rfl, ?_⟩
    walk_at "go"
    refine lcG (xs := t.map V.int) (fun l H2 => H2 D = some (.lst ((crossI (r.take k) t ++ (t.take l).map fun y => x * y % 1000003).map V.int)) ∧ Same H H2) ⟨by rw [List.take_zero, List.map_nil, List.append_nil]; exact h1, h2⟩ ?_ ?_ ?_
    · rintro l H2 hl ⟨g1, g2⟩
      exact Ext.of_same g2 _ _ hd
    · rintro l y H2 hy ⟨g1, g2⟩
      obtain ⟨y, ey, rfl, my⟩ := get_i hy
      have ky := kt y my
      unfold inR at ky
      walk_at "go"
      refine ⟨rfl, ?_⟩
      walk_at "go"
      refine ⟨_, g1, ?_, ?_, Same.upd_new g2 hD⟩
      · rw [List.length_map, List.length_append, List.length_map, List.length_take]
        exact ls (by omega)
      · rw [upd_same, List.take_add_one, ey, List.map_append (l₂ := (some y).toList), ← List.append_assoc, List.map_append (l₂ := (some y).toList.map _)] <;> rfl
    · rintro H2 ⟨g1, g2⟩
      rw [List.length_map, List.take_length] at g1
      exact ⟨by rw [cross_take r t k ex]; exact g1, g2⟩
  · rintro H' ⟨h1, h2⟩
    rw [List.length_map, List.take_length] at h1
    walk_at "go"
    refine u_tupL (SqL.of h1) fun l hl => ?_
    exact q _ l (Same.new h2 hl) (row_new rfl)
end

/-! ### V5 -/
section
variable {P : Program} {w : World} {K : PySem.W.Frag} {mg : Str → Option Value} {base : Heap}
theorem ix_pt {n j : Nat} (hj : j < n) : ixN n (j : Int) = some j := by
  simp [ixN]
  omega
theorem set_map {ns : List Int} {n : Nat} {v : Int} : (ns.map V.int).set n (.int v) = (ns.set n v).map V.int := (List.map_set).symm
theorem getD_some {ns : List Int} {n : Nat} {x : Int} (h : ns[n]? = some x) : ns.getD n 0 = x := by
  rw [List.getD_eq_getElem?_getD, h] <;> rfl
abbrev s_blended : Stmt := top 52
theorem sc_blended : FnScope ["told", "rows", "one", "two", "found", "i", "a", "j", "b"] ["told", "rows"] (defScope s_blended) := ⟨rfl, rfl, rfl, by decide +kernel, rfl, by decide +kernel, by decide +kernel⟩
theorem has_blended (O : OwnF K mg "blended" s_blended) (B : Bl mg) (C : Cst mg) : HasF P w K mg base CX0 1 "blended" ["told", "rows"] (spAc K fBlend p2) := by
  refine has0 O sc_blended (fun _ _ _ _ _ _ us hl => match us, hl with | [_, _], _ => rfl) (fun vs H Q E h => ?_) (fun f cdv A outer s_ H vs Q E hr h => ?_)
  · obtain ⟨a, b, tv, td, rv, rs, rfl, _⟩ := h
    rfl
  obtain ⟨a, b, tv, td, rv, rs, rfl, hT, hR, hL, hW, hk, ⟨r, t, rfl⟩, q⟩ := h
  obtain ⟨c, d, rfl, hc, hd⟩ := hW.two
  obtain ⟨kr, kr1, kr2⟩ := hk r (by simp)
  obtain ⟨kt, kt1, kt2⟩ := hk t (by simp)
  refine ⟨_, (pss_cons (ps_asg (pv 1) (pg_lstK (n := 2) K rfl (pgs_cons (pg_name (i := 2) sc_blended.nd rfl (by first | exact Or.inl rfl | exact Or.inr rfl)) (pgs_cons (pg_name (i := 3) sc_blended.nd rfl (by first | exact Or.inl rfl | exact Or.inr rfl)) pgs_nil)))) (pss_cons (ps_set (i := 4) sc_blended.nd rfl (by first | exact Or.inl rfl | exact Or.inr rfl) (pe_op (kMul K) (pe_lst (pa_cons pe_int pa_nil)) (pe_op subU (pe_op (kAdd K) (pe_callB (kLen K) (by rfl) B.len (by decide +kernel) (pa_cons (pv 2) pa_nil)) (pe_callB (kLen K) (by rfl) B.len (by decide +kernel) (pa_cons (pv 3) pa_nil))) pe_int))) (pss_cons (ps_for PassesOwn.never rfl (pi_enAK K (by rfl) B.enumerate (pa_cons (pv 2) pa_nil)) (pg_tupK (n := 2) K rfl (pgs_cons (pg_name (i := 5) sc_blended.nd rfl (by first | exact Or.inl rfl | exact Or.inr rfl)) (pgs_cons (pg_name (i := 6) sc_blended.nd rfl (by first | exact Or.inl rfl | exact Or.inr rfl)) pgs_nil))) (pss_one (ps_for PassesOwn.never rfl (pi_enAK K (by rfl) B.enumerate (pa_cons (pv 3) pa_nil)) (pg_tupK (n := 2) K rfl (pgs_cons (pg_name (i := 7) sc_blended.nd rfl (by first | exact Or.inl rfl | exact Or.inr rfl)) (pgs_cons (pg_name (i := 8) sc_blended.nd rfl (by first | exact Or.inl rfl | exact Or.inr rfl)) pgs_nil))) (pss_one (ps_asg (pe_op modU (pe_op (kAdd K) (pe_ix (kIx K) (pv 4) (pe_op (kAdd K) (pv 5) (pv 7)) (fun _ _ => rfl)) (pe_op (kMul K) (pv 6) (pv 8))) (pe_globI C.MODULUS (by rfl))) (pg_sub (pv 4) (pe_op (kAdd K) (pv 5) (pv 7)) set_list)))))) (pss_one (ps_ret (pe_callTy (kTup K) (by rfl) B.tuple (by decide +kernel) (pa_cons (pv 4) pa_nil))))))), ?_⟩
  refine st0 [some (.ref a), some (.ref b), none, none, none, none, none, none, none] rfl ?_
  walk_at "go"
  refine rd_glst hL rfl ?_
  walk_at "go"
  refine ⟨lk rfl, fun pz hpz => ?_⟩
  have hc1 := (Ext.new (K := K) (o := .lst [.int 0]) hpz) _ _ hc
  have hd1 := (Ext.new (K := K) (o := .lst [.int 0]) hpz) _ _ hd
  walk_at "go"
  rw [List.length_map, List.length_map]
  have en : ((r.length : Int) + (t.length : Int) - 1) = ((r.length + t.length - 1 : Nat) : Int) := by omega
  rw [en]
  refine u_rep1 upd_same (by omega) fun pf hpf => ?_
  have s1 : Same H (upd (upd H pz (.lst [.int 0])) pf (.lst (List.replicate (r.length + t.length - 1) (.int 0)))) := Same.new (same_new hpz _) hpf
  have hf0 : H pf = none := by
    cases hh : H pf with
    | none => rfl
    | some o => rw [same_new hpz _ _ _ hh] at hpf; cases hpf
  have f1 : upd (upd H pz (.lst [.int 0])) pf (.lst (List.replicate (r.length + t.length - 1) (.int 0))) pf = some (.lst ((blAll r t 0).map V.int)) := by
    rw [upd_same]
    show _ = some (HO.lst ((List.replicate _ (0 : Int)).map V.int))
    rw [List.map_replicate]
  generalize upd (upd H pz (.lst [.int 0])) pf (.lst (List.replicate (r.length + t.length - 1) (.int 0))) = H1 at *
  have hc2 := Ext.of_same (K := K) s1 _ _ hc
  have hd2 := Ext.of_same (K := K) s1 _ _ hd
  walk_at "go"
  refine HE.forET (xs := r.map V.int) (fun i σ H' => ∃ (o5 o6 o7 o8 : Option V), σ = [some (.ref a), some (.ref b), some (.ref c), some (.ref d), some (.ref pf), o5, o6, o7, o8] ∧ H' pf = some (.lst ((blAll r t i).map V.int)) ∧ Same H H') ⟨_, _, _, _, rfl, f1, s1⟩ ?_ ?_ ?_
  · rintro i σ H' hi ⟨o5, o6, o7, o8, rfl, h1, h2⟩
    exact Ext.of_same h2 _ _ hc
  · rintro i x T σ H' hx ⟨o5, o6, o7, o8, rfl, h1, h2⟩ hT'
    obtain ⟨x, ex, rfl, mx⟩ := get_i hx
    have kx := kr x mx
    unfold inR at kx
    have il := lt_of_get ex
    have s3 := Same.new (o := .tup [.int (i : Nat), .int x]) h2 hT'
    have sT : SqT K (upd H' T (.tup [.int (i : Nat), .int x])) T [.int (i : Nat), .int x] := SqT.of upd_same
    have f3 := same_new hT' (.tup [.int (i : Nat), .int x]) _ _ h1
    generalize upd H' T (.tup [.int (i : Nat), .int x]) = H3 at *
    have hd3 := Ext.of_same (K := K) s3 _ _ hd
    walk_at "go"
    have eA : blAll r t (i + 1) = blRow i x t (blAll r t i) t.length := by
      show blRow i (r.getD i 0) t (blAll r t i) t.length = _
      rw [getD_some ex]
    have lA := blAll_len r t i
    generalize blAll r t i = acc at *
    refine HE.forET (xs := t.map V.int) (fun j σ H' => ∃ (o7 o8 : Option V), σ = [some (.ref a), some (.ref b), some (.ref c), some (.ref d), some (.ref pf), some (.int (i : Nat)), some (.int x), o7, o8] ∧ H' pf = some (.lst ((blRow i x t acc j).map V.int)) ∧ Same H H') ⟨_, _, rfl, f3, s3⟩ ?_ ?_ ?_
    · rintro j σ H' hj ⟨o7, o8, rfl, g1, g2⟩
      exact Ext.of_same g2 _ _ hd
    · rintro j y T2 σ H' hy ⟨o7, o8, rfl, g1, g2⟩ hT2
      obtain ⟨y, ey, rfl, my⟩ := get_i hy
      have ky := kt y my
      unfold inR at ky
      have jl := lt_of_get ey
      have s4 := Same.new (o := .tup [.int (j : Nat), .int y]) g2 hT2
      have sT2 : SqT K (upd H' T2 (.tup [.int (j : Nat), .int y])) T2 [.int (j : Nat), .int y] := SqT.of upd_same
      have f4 := same_new hT2 (.tup [.int (j : Nat), .int y]) _ _ g1
      generalize upd H' T2 (.tup [.int (j : Nat), .int y]) = H4 at *
      have lB := blRow_len i x t acc j
      have eB : blRow i x t acc (j + 1) = (blRow i x t acc j).set (i + j) (((blRow i x t acc j).getD (i + j) 0 + x * t.getD j 0) % 1000003) := rfl
      rw [getD_some ey] at eB
      generalize blRow i x t acc j = bc at *
      have eij : (i : Int) + (j : Int) = ((i + j : Nat) : Int) := by omega
      walk_at "go"
      rw [eij]
      refine u_ixL (SqL.of f4) (atI_getD (by omega)) ?_
      walk_at "go"
      rw [eij]
      refine u_setL f4 (ix_pt (by rw [List.length_map]; omega)) ?_
      exact ⟨_, _, rfl, by rw [upd_same, set_map, eB], Same.upd_new s4 hf0⟩
    · rintro σ H' ⟨o7, o8, rfl, g1, g2⟩
      rw [List.length_map, ← eA] at g1
      exact ⟨_, _, _, _, rfl, g1, g2⟩
  · rintro σ H' ⟨o5, o6, o7, o8, rfl, h1, h2⟩
    rw [List.length_map] at h1
    walk_at "go"
    refine u_tupL (SqL.of h1) fun l hl => ?_
    exact q _ l (Same.new h2 hl) (row_new rfl)
/-- the table of actions -/
structure ActTab (P : Program) (w : World) (K : PySem.W.Frag) (mg : Str → Option Value) (base : Heap) (a : Addr) (g : Str → Option Value) : Prop where
  tab : Tab w K mg "ACTIONS" a g
  yes : ∀ z f p, acts z = some (f, p) → ∃ b, g z = some (.ref b) ∧ Held P w K mg base 1 b (spAc K f p)
def spRk (K : PySem.W.Frag) : Sp := fun vs H Q _ => ∃ (z : Str) (a b : Addr) (tv : List V) (td : List PyData) (rv : List V) (rs : List (List Int)) (f : ActF) (p : ActP), vs = [.str z, .ref a, .ref b] ∧ SqT K H a tv ∧ Rps K H tv td ∧ SqL K H b rv ∧ RwL K H rv rs ∧ OkRs rs ∧ acts z = some (f, p) ∧ p td rs ∧
  ∀ (H' : Hp) (q : Addr), Same H H' → SqT K H' q ((f td rs).map V.int) → Q (.ref q) H'
abbrev s_reckoned : Stmt := top 57
theorem sc_reckoned : FnScope ["op", "told", "rows", "action"] ["op", "told", "rows"] (defScope s_reckoned) := ⟨rfl, rfl, rfl, by decide +kernel, rfl, by decide +kernel, by decide +kernel⟩
theorem has_reckoned {aA : Addr} {gA : Str → Option Value} (O : OwnF K mg "reckoned" s_reckoned) (TA : ActTab P w K mg base aA gA) : HasF P w K mg base CX0 2 "reckoned" ["op", "told", "rows"] (spRk K) := by
  refine has0 O sc_reckoned (fun _ _ _ _ _ _ us hl => match us, hl with | [_, _, _], _ => rfl) (fun vs H Q E h => ?_) (fun f cdv A outer s_ H vs Q E hr h => ?_)
  · obtain ⟨z, a, b, tv, td, rv, rs, f, p, rfl, _⟩ := h
    rfl
  obtain ⟨z, a, b, tv, td, rv, rs, f, p, rfl, hT, hR, hL, hW, hk, ez, hp, q⟩ := h
  have T_ACTIONS := TA.tab
  obtain ⟨c, ec, hH⟩ := TA.yes z f p ez
  refine ⟨_, (pss_cons (ps_set (i := 3) sc_reckoned.nd rfl (by first | exact Or.inl rfl | exact Or.inr rfl) (pe_ix (ix_tab T_ACTIONS) (pe_globR T_ACTIONS.m (by rfl)) (pv 0) (fun _ _ => rfl))) (pss_one (ps_ret (pe_callV (P := P) (w := w) (K := K) (mg := mg) (base := base) (k := 1) (i := 3) rfl rfl rfl rfl rfl (hr.mono (by decide)) rfl (Or.inl rfl) (pa_cons (pv 1) (pa_cons (pv 2) pa_nil)))))), ?_⟩
  refine st0 [some (.str z), some (.ref a), some (.ref b), none] rfl ?_
  walk_at "go"
  refine u_ixTab ec (show RelV (.ref c) (.ref c) from rfl) ?_
  walk_at "go"
  refine rd_callV rfl hH ?_
  walk_at "go"
  exact ⟨a, b, tv, td, rv, rs, rfl, hT, hR, hL, hW, hk, hp, q⟩
end

/-! ### V6 -/
section
variable {P : Program} {w : World} {K : PySem.W.Frag} {mg : Str → Option Value} {base : Heap}
/-- is it a row of k numbers -/
def isRow (d : PyData) (k : Int) : Bool := match d with
  | .tuple ds => decide ((ds.length : Int) = k) && rowNums ds
  | _ => false
theorem isRow_tup {ds : List PyData} {k : Int} : isRow (.tuple ds) k = (decide ((ds.length : Int) = k) && rowNums ds) := rfl
def spRo (K : PySem.W.Frag) : Sp := fun vs H Q _ => ∃ (v : V) (d : PyData) (k : Int), vs = [v, .int k] ∧ Rp K H v d ∧ dat d ∧ ∀ H', Same H H' → Q (.bl (isRow d k)) H'
abbrev s_is_row_of : Stmt := top 65
theorem sc_is_row_of : FnScope ["thing", "k"] ["thing", "k"] (defScope s_is_row_of) := ⟨rfl, rfl, rfl, by decide +kernel, rfl, by decide +kernel, by decide +kernel⟩
theorem has_is_row_of (O : OwnF K mg "is_row_of" s_is_row_of) (B : Bl mg) (h_are_row_numbers : HasF P w K mg base CX0 3 "are_row_numbers" ["things"] (spAsks K rowNums)) : HasF P w K mg base CX0 4 "is_row_of" ["thing", "k"] (spRo K) := by
  refine has0 O sc_is_row_of (fun _ _ _ _ _ _ us hl => match us, hl with | [_, _], _ => rfl) (fun vs H Q E h => ?_) (fun f cdv A outer s_ H vs Q E hr h => ?_)
  · obtain ⟨v, d, k, rfl, _⟩ := h
    rfl
  obtain ⟨v, d, k, rfl, r, hd, q⟩ := h
  refine ⟨_, (pss_one (ps_ret (pe_and (pe_callB (kIsi K) (by rfl) B.isinstance (by decide +kernel) (pa_cons (pv 0) (pa_cons (pe_bltn (v := .ty "tuple") (by rfl) B.tuple (by decide +kernel) rfl) pa_nil))) (pe_and (pe_cmpR (kEqG K (hU hr)) (pe_callB (kLen K) (by rfl) B.len (by decide +kernel) (pa_cons (pv 0) pa_nil)) (pv 1) (nomark _)) (pe_one (pe_callH h_are_row_numbers (hr.mono (by first | decide | omega)) (by rfl) pass0 (pa_cons (pv 0) pa_nil))))))), ?_⟩
  refine st0 [some v, some (.int k)] rfl ?_
  walk_at "go"
  cases r with
  | tup hs hR =>
    obtain ⟨hl, hds⟩ := hd
    refine iteT ?_
    walk_at "go"
    rw [hR.length]
    refine rd_split (fun c => ?_) (fun c => ?_)
    · walk_at "go"
      refine use_asks hs hR hl hds fun H' s' => ?_
      have := q H' s'
      rw [isRow_tup, decide_eq_true c, Bool.true_and] at this
      exact this
    · have := q H (Same.refl H)
      rw [isRow_tup, decide_eq_false c, Bool.false_and] at this
      exact this
  | int i => exact iteF (q H (Same.refl H))
  | non => exact iteF (q H (Same.refl H))
  | bl b => exact iteF (q H (Same.refl H))
  | str z => exact iteF (q H (Same.refl H))
/-- the names of a list of joints, as they first appear -/
def addN (acc : List (Str × Int)) (z : Str) (k : Int) : List (Str × Int) := if z ∈ acc.map Prod.fst then acc else acc ++ [(z, k)]
def stepN (acc : List (Str × Int)) : Jn → List (Str × Int)
  | .mk op td _ => if op = "in" then (match td with
    | [.str z, .int k] => addN acc z k
    | _ => acc) else acc
def nmsOf (l : List Jn) : List (Str × Int) := l.foldl stepN []
theorem nmsOf_take {l : List Jn} {i : Nat} {j : Jn} (h : l[i]? = some j) : nmsOf (l.take (i + 1)) = stepN (nmsOf (l.take i)) j := by
  unfold nmsOf
  rw [List.take_add_one, h, List.foldl_append] <;> rfl
theorem addN_len (acc : List (Str × Int)) (z : Str) (k : Int) : (addN acc z k).length ≤ acc.length + 1 := by
  unfold addN
  split
  · omega
  · rw [List.length_append] <;> exact Nat.le_refl _
theorem stepN_in {acc : List (Str × Int)} {z : Str} {k : Int} {ps : List Jn} : stepN acc (.mk "in" [.str z, .int k] ps) = addN acc z k := by
  show (if ("in" : Str) = "in" then addN acc z k else acc) = _
  exact if_pos rfl
theorem stepN_other {acc : List (Str × Int)} {op : Str} {td : List PyData} {ps : List Jn} (h : op ≠ "in") : stepN acc (.mk op td ps) = acc := if_neg h
theorem stepN_len (acc : List (Str × Int)) (j : Jn) : (stepN acc j).length ≤ acc.length + 1 := by
  obtain ⟨op, td, ps⟩ := j
  by_cases h : op = "in"
  · subst h
    simp only [stepN, if_true]
    split
    · exact addN_len _ _ _
    · omega
  · rw [stepN_other h]
    omega
theorem nmsOf_len : ∀ (l : List Jn) (i : Nat), (nmsOf (l.take i)).length ≤ i
  | l, 0 => by rw [List.take_zero] <;> exact Nat.le_refl _
  | l, i + 1 => by
    cases h : l[i]? with
    | none => 
      rw [List.getElem?_eq_none_iff] at h
      rw [List.take_of_length_le (by omega)]
      have := nmsOf_len l i
      rw [List.take_of_length_le h] at this
      omega
    | some j =>
      rw [nmsOf_take h]
      have := nmsOf_len l i
      have := stepN_len (nmsOf (l.take i)) j
      omega
def kvN (l : List (Str × Int)) : List (Key × V) := l.map fun p => (Sum.inr p.1, V.int p.2)
theorem kvN_none (l : List (Str × Int)) (z : Str) : valV (kvN l) (Sum.inr z) = none ↔ z ∉ l.map Prod.fst := by
  induction l with
  | nil => simp [kvN, valV_nil]
  | cons p r ih =>
    by_cases e : p.1 = z
    · have : valV (kvN (p :: r)) (Sum.inr z) = some (.int p.2) := valV_pos (p := (Sum.inr p.1, V.int p.2)) (by rw [e])
      rw [this]
      simp [e]
    · have : valV (kvN (p :: r)) (Sum.inr z) = valV (kvN r) (Sum.inr z) := valV_neg (p := (Sum.inr p.1, V.int p.2)) (fun h => e (Sum.inr.inj h))
      rw [this, ih, List.map_cons, List.mem_cons]
      exact ⟨fun h y => y.elim (fun y => e y.symm) h, fun h y => h (.inr y)⟩
theorem putK_new {kvs : List (Key × V)} {k : Key} {v : V} (h : valV kvs k = none) : putK kvs k v = kvs ++ [(k, v)] := by
  unfold putK
  rw [if_neg (by rw [valV_any, h]; simp)]
/-- pairs of a name and a number -/
structure PrsN (K : PySem.W.Frag) (H : Hp) (ts : List V) (l : List (Str × Int)) : Prop where
  len : ts.length = l.length
  get : ∀ (i : Nat) p, l[i]? = some p → ∃ t, ts[i]? = some (.ref t) ∧ SqT K H t [.str p.1, .int p.2]
def spNs (K : PySem.W.Frag) : Sp := fun vs H Q _ => ∃ (v : V) (j : Jn), vs = [v] ∧ Rp K H v j.py ∧ Fx j ∧ j.cnt ≤ 40 ∧ ∀ (H' : Hp) (q : Addr) (ts : List V), Same H H' → SqT K H' q ts → PrsN K H' ts (nmsOf j.all) → Q (.ref q) H'
theorem paired_prs {H : Hp} : ∀ {ts : List Addr} {l : List (Str × Int)}, Paired (fun (t : Addr) (q : Key × V) => H t = some (.tup [kV q.1, q.2])) ts (kvN l) → PrsN K H (ts.map V.ref) l := by
  intro ts l
  induction l generalizing ts with
  | nil =>
    intro h
    cases h
    exact ⟨rfl, fun i p h => by simp at h⟩
  | cons p r ih =>
    intro h
    cases h with
    | cons h t =>
      have k := ih t
      refine ⟨by rw [List.map_cons, List.length_cons, List.length_cons, k.len], fun i q e => ?_⟩
      cases i with
      | zero =>
        obtain rfl := Option.some.inj e
        exact ⟨_, rfl, SqT.of h⟩
      | succ i =>
        obtain ⟨t, e1, e2⟩ := k.get i q e
        exact ⟨t, e1, e2⟩
abbrev s_names : Stmt := top 39
theorem sc_names : FnScope ["program", "first", "op", "told", "_", "name", "k"] ["program"] (defScope s_names) := ⟨rfl, rfl, rfl, by decide +kernel, rfl, by decide +kernel, by decide +kernel⟩
theorem has_names {e : Ecl} (O : OwnF K mg "names" s_names) (B : Bl mg) (h_joints : HasF P w K mg base (L2.CX P w) 9 "joints" ["program"] (spJts K e)) : HasF P w K mg base (L2.CX P w) 10 "names" ["program"] (spNs K) := by
  refine hasX O sc_names (fun _ _ _ _ _ _ us hl => match us, hl with | [_], _ => rfl) (fun vs H Q E h => ?_) (fun f cdv A outer s_ H vs Q E hr h => ?_)
  · obtain ⟨v, j, rfl, _⟩ := h
    rfl
  obtain ⟨v, j, rfl, r, g, h40, q⟩ := h
  refine ⟨_, (pss_cons (ps_set (i := 1) sc_names.nd rfl (by first | exact Or.inl rfl | exact Or.inr rfl) pe_dnewK) (pss_cons (ps_for poX rfl (pi_tupK K (pe_callHS h_joints (hr.mono (by first | decide | omega)) (by rfl) (fun σ => passAt tkX σ) (pa_cons (pv 0) pa_nil))) (pg_tupK (n := 3) K rfl (pgs_cons (pg_name (i := 2) sc_names.nd rfl (by first | exact Or.inl rfl | exact Or.inr rfl)) (pgs_cons (pg_name (i := 3) sc_names.nd rfl (by first | exact Or.inl rfl | exact Or.inr rfl)) (pgs_cons (pg_name (i := 4) sc_names.nd rfl (by first | exact Or.inl rfl | exact Or.inr rfl)) pgs_nil)))) (pss_one (ps_if (pt_cmpR (kEqG K (hU hr)) (pv 2) pe_str (nomark _)) (pss_cons (ps_asg (pv 3) (pg_tupK (n := 2) K rfl (pgs_cons (pg_name (i := 5) sc_names.nd rfl (by first | exact Or.inl rfl | exact Or.inr rfl)) (pgs_cons (pg_name (i := 6) sc_names.nd rfl (by first | exact Or.inl rfl | exact Or.inr rfl)) pgs_nil)))) (pss_one (ps_expr (pe_dsetd (pv 1) (pv 5) (pv 6) ⟨by rfl, by rfl, by rfl, by rfl⟩)))) pss_nil))) (pss_one (ps_ret (HE.pe_tupItems rfl (pv 1) (by rfl) B.tuple (by decide +kernel)))))), ?_⟩
  refine st0 [some v, none, none, none, none, none, none] rfl ?_
  walk_at "go"
  intro p hp
  walk_at "go"
  refine use_jts (r.mono (Ext.new (o := .dK []) hp) _ _) g.ok h40 (g.walk h40) fun H1 pr ws s1 hW hR => ?_
  have lw : ws.length = j.all.length := by rw [hR.length, pys_length]
  have lc : j.all.length = j.cnt := all_cnt j
  have hp1 : H1 p = some (.dK (kvN (nmsOf (j.all.take 0)))) := s1 _ _ upd_same
  have s01 : Same H H1 := (same_new hp _).trans s1
  have hfit := g.fit
  generalize j.all = js at *
  walk_at "go"
  refine forT (xs := ws) (fun i σ H' => ∃ (o2 o3 o4 o5 o6 : Option V), σ = [some v, some (.ref p), o2, o3, o4, o5, o6] ∧ Same H H' ∧ H' p = some (.dK (kvN (nmsOf (js.take i)))) ∧ SqT K H' pr ws ∧ Rps K H' ws (Jn.pys js)) ⟨_, _, _, _, _, rfl, s01, hp1, hW, hR⟩ ?_ ?_ ?_
  · rintro i σ H' hi ⟨o2, o3, o4, o5, o6, rfl, t1, t2, t3, t4⟩
    exact t3
  · rintro i x σ H' hx ⟨o2, o3, o4, o5, o6, rfl, t1, t2, t3, t4⟩
    obtain ⟨dd, hd, rd⟩ := t4.getV hx
    obtain ⟨j, hj, rfl⟩ : ∃ j, js[i]? = some j ∧ dd = j.py := by
      rw [pys_map, List.getElem?_map, Option.map_eq_some_iff] at hd
      obtain ⟨j, h1, h2⟩ := hd
      exact ⟨j, h1, h2.symm⟩
    have il := lt_of_get hj
    have gj := hfit j (List.mem_of_getElem? hj)
    have en := nmsOf_take hj
    have el := nmsOf_len js i
    obtain ⟨op, td, parts⟩ := j
    obtain ⟨pj, t, qa, tv, pv', rfl, hsj, hT, hTd, hq, hQ⟩ := rd.jn
    walk_at "go"
    refine rd_split (fun c => ?_) (fun c => ?_)
    · subst c
      obtain ⟨z, k, rfl, k1, k2⟩ := told_in gj.1
      obtain ⟨x, y, d', e, rfl, ed, r1, r2⟩ := hTd.pair (by rw [hTd.length] <;> rfl)
      cases ed
      cases r1
      cases r2
      have en' : nmsOf (js.take (i + 1)) = addN (nmsOf (js.take i)) z k := by
        rw [en, stepN_in]
      walk_at "go"
      refine rd_dsetd ?_
      walk_at "go"
      refine ⟨p, rfl, .inl ⟨_, .inl t2⟩, ?_⟩
      walk_at "go"
      refine ⟨_, Sum.inr z, t2, rfl, ?_, fun u hu => ?_, fun hu => ?_⟩
      · unfold kvN
        rw [List.length_map]
        exact ls (by omega)
      · walk_at "go"
        refine ⟨_, _, _, _, _, rfl, t1, ?_, t3, t4⟩
        rw [en']
        unfold addN
        rw [if_pos (by
          refine Classical.byContradiction fun w => ?_
          rw [(kvN_none _ z).mpr w] at hu
          cases hu)]
        exact t2
      · walk_at "go"
        have ex : Ext K H' (upd H' p (.dK (putK (kvN (nmsOf (js.take i))) (Sum.inr z) (.int k)))) := Ext.set t2 trivial
        refine ⟨_, _, _, _, _, rfl, Same.upd_new t1 hp, ?_, ex _ _ t3, t4.mono ex _ _⟩
        rw [upd_same, en', putK_new hu]
        unfold addN
        rw [if_neg ((kvN_none _ z).mp hu)]
        unfold kvN
        rw [List.map_append] <;> rfl
    · walk_at "go"
      refine ⟨_, _, _, _, _, rfl, t1, ?_, t3, t4⟩
      rw [en, stepN_other c]
      exact t2
  · rintro σ H' ⟨o2, o3, o4, o5, o6, rfl, t1, t2, t3, t4⟩
    rw [lw, List.take_length] at t2
    walk_at "go"
    refine rd_tupItems ?_
    walk_at "go"
    refine ⟨p, _, rfl, t2, fun H2 pt ts f1 f2 f3 f4 o hdn => ?_⟩
    have s2 : Same H' H2 := f1
    refine q _ pt (ts.map V.ref) (Same.new (t1.trans s2) f3) ?_ ?_
    · exact HE.FT.sq ⟨o, upd_same, hdn⟩
    · have k := paired_prs (K := K) f4
      exact ⟨k.len, fun i p hp => by
        obtain ⟨t, e1, e2⟩ := k.get i p hp
        exact ⟨t, e1, (Ext.new f3) _ _ e2⟩⟩
end

/-! ### V7 -/
section
variable {P : Program} {w : World} {K : PySem.W.Frag} {mg : Str → Option Value} {base : Heap}
/-- what a dict of handed things tells of a name -/
def GvN (K : PySem.W.Frag) (H : Hp) (kvs : List (Key × V)) (gv : Str → Option PyData) : Prop := ∀ z, match gv z with
  | none => valV kvs (Sum.inr z) = none
  | some d => ∃ u, valV kvs (Sum.inr z) = some u ∧ Rp K H u d ∧ dat d
theorem GvN.mono {H H' : Hp} {kvs : List (Key × V)} {gv : Str → Option PyData} (h : GvN K H kvs gv) (e : Ext K H H') : GvN K H' kvs gv := fun z => by
  have := h z
  cases c : gv z with
  | none => rw [c] at this; exact this
  | some d =>
    rw [c] at this
    obtain ⟨u, h1, h2, h3⟩ := this
    exact ⟨u, h1, h2.mono e _ _, h3⟩
def badN (gv : Str → Option PyData) (p : Str × Int) : Bool := match gv p.1 with
  | none => true
  | some d => !isRow d p.2
/-- the first name that is wrong -/
def ciN (l : List (Str × Int)) (gv : Str → Option PyData) : Option Str := (l.find? (badN gv)).map Prod.fst
def spCi (K : PySem.W.Frag) (c : Fcl) : Sp := fun vs H Q E => ∃ (v : V) (j : Jn) (g : Addr) (kvs : List (Key × V)) (gv : Str → Option PyData), vs = [v, .ref g] ∧ Rp K H v j.py ∧ Fx j ∧ j.cnt ≤ 40 ∧ H g = some (.dK kvs) ∧ GvN K H kvs gv ∧
  (∀ z, ciN (nmsOf j.all) gv = some z → RaisedV E H c.inp (.str z)) ∧ (ciN (nmsOf j.all) gv = none → ∀ H', Same H H' → Q .non H')
theorem ciN_drop {l : List (Str × Int)} {gv : Str → Option PyData} {i : Nat} {p : Str × Int} (h : l[i]? = some p) : ciN (l.drop i) gv = if badN gv p = true then some p.1 else ciN (l.drop (i + 1)) gv := by
  have hl := lt_of_get h
  have e : l[i] = p := by
    rw [List.getElem?_eq_getElem hl, Option.some.injEq] at h
    exact h
  unfold ciN
  rw [List.drop_eq_getElem_cons hl, e, List.find?_cons]
  cases badN gv p <;> rfl
abbrev s_check_inputs : Stmt := top 66
theorem sc_check_inputs : FnScope ["program", "given", "name", "k"] ["program", "given"] (defScope s_check_inputs) := ⟨rfl, rfl, rfl, by decide +kernel, rfl, by decide +kernel, by decide +kernel⟩
theorem has_check_inputs {fI : Addr} {c : Fcl} (O : OwnF K mg "check_inputs" s_check_inputs) (hI : InitF P w K mg base fI) (M_BadInput : ErrC K mg fI "BadInput" c.inp) (h_names : HasF P w K mg base (L2.CX P w) 10 "names" ["program"] (spNs K)) (h_is_row_of : HasF P w K mg base CX0 4 "is_row_of" ["thing", "k"] (spRo K)) : HasF P w K mg base (L2.CX P w) 11 "check_inputs" ["program", "given"] (spCi K c) := by
  refine hasX O sc_check_inputs (fun _ _ _ _ _ _ us hl => match us, hl with | [_, _], _ => rfl) (fun vs H Q E h => ?_) (fun f cdv A outer s_ H vs Q E hr h => ?_)
  · obtain ⟨v, j, g, kvs, gv, rfl, _⟩ := h
    rfl
  obtain ⟨v, j, g, kvs, gv, rfl, r, hj, h40, hg, hv, hbad, q⟩ := h
  refine ⟨_, (pss_one (ps_for poX rfl (pi_tupK K (pe_callHS h_names (hr.mono (by first | decide | omega)) (by rfl) (fun σ => passAt tkX σ) (pa_cons (pv 0) pa_nil))) (pg_tupK (n := 2) K rfl (pgs_cons (pg_name (i := 2) sc_check_inputs.nd rfl (by first | exact Or.inl rfl | exact Or.inr rfl)) (pgs_cons (pg_name (i := 3) sc_check_inputs.nd rfl (by first | exact Or.inl rfl | exact Or.inr rfl)) pgs_nil))) (pss_one (ps_if (PW.pt (pw_or (pt_cmp (pc_dnotin (hu_of hr) (pv 2) (pv 1))) (pw_or1 (pt_not (pt_val (pe_callH h_is_row_of (hr.mono (by first | decide | omega)) (by rfl) pass0 (pa_cons (pe_dget (hu_of hr) (pv 1) (pv 2) (fun _ _ => rfl)) (pa_cons (pv 3) pa_nil)))))))) (pss_one (ps_raiseE K hI M_BadInput rfl (hr.mono (by decide)) tkX (pv 2) (by rfl))) pss_nil)))), ?_⟩
  refine st0 [some v, some (.ref g), none, none] rfl ?_
  walk_at "go"
  refine ⟨v, j, rfl, r, hj, h40, fun H1 qn ts s1 hQ hP => ?_⟩
  generalize nmsOf j.all = l at *
  have ll' := hP.len
  walk_at "go"
  refine forT (xs := ts) (fun i σ H' => ∃ (o2 o3 : Option V), σ = [some v, some (.ref g), o2, o3] ∧ Same H H' ∧ ciN (l.drop i) gv = ciN l gv ∧ SqT K H' qn ts ∧ PrsN K H' ts l) ⟨_, _, rfl, s1, rfl, hQ, hP⟩ ?_ ?_ ?_
  · rintro i σ H' hi ⟨o2, o3, rfl, t1, t2, t3, t4⟩
    exact t3
  · rintro i x σ H' hx ⟨o2, o3, rfl, t1, t2, t3, t4⟩
    have il := lt_of_get hx
    rw [ll'] at il
    have el : l[i]? = some l[i] := List.getElem?_eq_getElem il
    generalize l[i] = pz at *
    obtain ⟨z, k⟩ := pz
    obtain ⟨t, et, st⟩ := t4.get i _ el
    rw [hx, Option.some.injEq] at et
    subst et
    have eb := ciN_drop (gv := gv) el
    rw [t2] at eb
    have hg1 := t1 _ _ hg
    have hv1 := hv.mono (Ext.of_same t1) z
    have hbd : ∀ d : Option PyData, gv z = d → badN gv (z, k) = (match d with | none => true | some d => !isRow d k) := fun d e => by
      subst e
      rfl
    walk_at "go"
    refine rd_dnotin ?_
    walk_at "go"
    refine u_dinS hg1 ?_
    walk_at "go"
    cases cg : gv z with
    | none =>
      rw [cg] at hv1
      have hv1 : valV kvs (Sum.inr z) = none := hv1
      rw [hbd _ cg, if_pos rfl] at eb
      rw [hv1, Option.isSome_none, Bool.not_false]
      refine iteT ?_
      walk_at "go"
      exact u_raise M_BadInput.c M_BadInput.n fun d hd => hbad _ eb _ d (Same.new t1 hd) upd_same
    | some d =>
      rw [cg] at hv1
      obtain ⟨u, u1, u2, u3⟩ := hv1
      rw [hbd _ cg] at eb
      have eb : ciN l gv = if (!isRow d k) = true then some z else ciN (l.drop (i + 1)) gv := eb
      rw [u1, Option.isSome_some, Bool.not_true]
      refine iteF ?_
      walk_at "go"
      refine u_dgetS hg1 u1 ?_
      walk_at "go"
      refine ⟨u, d, k, rfl, u2, u3, fun H2 s2 => ?_⟩
      have t12 := t1.trans s2
      walk_at "go"
      cases cr : isRow d k with
      | true =>
        rw [cr] at eb
        rw [Bool.not_true]
        refine iteF ?_
        walk_at "go"
        refine ⟨_, _, rfl, t12, ?_, Ext.of_same s2 _ _ t3, t4.len, fun i p hp => ?_⟩
        · exact (eb.trans (if_neg (by decide))).symm
        · obtain ⟨t, e1, e2⟩ := t4.get i p hp
          exact ⟨t, e1, Ext.of_same s2 _ _ e2⟩
      | false =>
        rw [cr] at eb
        rw [Bool.not_false]
        refine iteT ?_
        walk_at "go"
        exact u_raise M_BadInput.c M_BadInput.n fun d hd => hbad _ (eb.trans (if_pos rfl)) _ d (Same.new t12 hd) upd_same
  · rintro σ H' ⟨o2, o3, rfl, t1, t2, t3, t4⟩
    rw [ll', List.drop_length] at t2
    walk_at "go"
    exact q (t2.symm.trans rfl) _ t1
end
end Mine

/-! ### V8 -/
namespace Mine
open PySem PySem.Spec L2
/-! ## a program without a fault; what is handed by its names -/
theorem fb_all : ∀ {l : List Jn} {n : Nat}, fb l n = none → ∀ x ∈ l, x.bad = none
  | [], _, _, x, hx => by cases hx
  | y :: r, n, h, x, hx => by
    unfold fb at h
    cases e : fb r (n + 1) with
    | some z => rw [e] at h; cases h
    | none =>
      rw [e] at h
      rcases List.mem_cons.mp hx with rfl | hx
      · exact Option.map_eq_none_iff.mp h
      · exact fb_all e x hx
theorem fault_none {j : Jn} (h : j.fault = none) : (∀ x ∈ j.all, x.bad = none) ∧ nf j.all (fun _ => none) = none := by
  unfold Jn.fault at h
  cases e : fb j.all 0 with
  | some p => rw [e] at h; cases h
  | none =>
    rw [e] at h
    exact ⟨fb_all e, Option.map_eq_none_iff.mp h⟩
theorem addN_sub {acc : List (Str × Int)} {z : Str} {k : Int} {p : Str × Int} (h : p ∈ acc) : p ∈ addN acc z k := by
  unfold addN
  split
  · exact h
  · exact List.mem_append_left _ h
theorem stepN_sub {acc : List (Str × Int)} {j : Jn} {p : Str × Int} (h : p ∈ acc) : p ∈ stepN acc j := by
  obtain ⟨op, td, ps⟩ := j
  by_cases c : op = "in"
  · subst c
    simp only [stepN, if_true]
    split
    · exact addN_sub h
    · exact h
  · rw [stepN_other c]; exact h
theorem fold_sub : ∀ (l : List Jn) {acc : List (Str × Int)} {p : Str × Int}, p ∈ acc → p ∈ l.foldl stepN acc
  | [], _, _, h => h
  | j :: r, _, _, h => fold_sub r (stepN_sub h)
theorem nf_names : ∀ (l : List Jn) (acc : List (Str × Int)) (d : Str → Option Int), (∀ z k, d z = some k ↔ (z, k) ∈ acc) → nf l d = none → (∀ x ∈ l, Fit x) → ∀ z k ps, Jn.mk "in" [.str z, .int k] ps ∈ l → (z, k) ∈ l.foldl stepN acc
  | [], _, _, _, _, _, _, _, _, h => by cases h
  | .mk op td parts :: r, acc, d, hd, hn, hf, z, k, ps, hm => by
    have hfr : ∀ x ∈ r, Fit x := fun x hx => hf x (List.mem_cons_of_mem _ hx)
    rw [List.foldl_cons]
    by_cases c : op = "in"
    · subst c
      have h0 := hf _ List.mem_cons_self
      obtain ⟨z0, k0, rfl, _, _⟩ := told_in h0.1
      rw [nf_in] at hn
      rw [stepN_in]
      have step : (z0, k0) ∈ addN acc z0 k0 ∧ (∀ z k, nSet d z0 k0 z = some k ↔ (z, k) ∈ addN acc z0 k0) ∧ nf r (nSet d z0 k0) = none := by
        split at hn
        · rename_i c
          unfold addN
          by_cases e : z0 ∈ acc.map Prod.fst
          · obtain ⟨⟨z1, k1⟩, m, e1⟩ := List.mem_map.mp e
            have e1 : z1 = z0 := e1
            subst e1
            have dz := (hd z1 k1).mpr m
            rw [dz, Option.getD_some] at c
            subst c
            rw [if_pos e, nSet_self dz]
            rw [nSet_self dz] at hn
            exact ⟨m, hd, hn⟩
          · rw [if_neg e]
            refine ⟨List.mem_append_right _ List.mem_cons_self, fun z k => ?_, hn⟩
            unfold nSet
            rw [List.mem_append, List.mem_singleton]
            by_cases ez : z = z0
            · rw [if_pos ez, Option.some.injEq]
              constructor
              · intro h; right; rw [ez, h]
              · rintro (h | h)
                · exact absurd (List.mem_map_of_mem (f := Prod.fst) h) (by rw [ez]; exact e)
                · exact (congrArg Prod.snd h).symm
            · rw [if_neg ez, hd z k]
              constructor
              · intro h; exact .inl h
              · rintro (h | h)
                · exact h
                · exact absurd (congrArg Prod.fst h) ez
        · cases hn
      rcases List.mem_cons.mp hm with e | hm
      · injection e with _ e2 _
        injection e2 with e3 e4
        injection e3 with e3
        injection e4 with e4 _
        injection e4 with e4
        subst e3
        subst e4
        exact fold_sub r step.1
      · exact nf_names r _ _ step.2.1 step.2.2 hfr z k ps hm
    · rw [nf_other c] at hn
      rw [stepN_other c]
      rcases List.mem_cons.mp hm with e | hm
      · injection e with e1 _ _
        exact absurd e1.symm c
      · exact nf_names r _ _ hd hn hfr z k ps hm
/-- the rows handed, by their names -/
def hdOf (gv : Str → Option PyData) (z : Str) : List Int := match gv z with
  | some (.tuple ds) => ds.map intD
  | _ => []
theorem isRow_get {d : PyData} {k : Int} (h : isRow d k = true) : ∃ ns : List Int, d = .tuple (ns.map PyData.int) ∧ (ns.length : Int) = k ∧ Inr ns := by
  cases d with
  | tuple ds =>
    rw [isRow_tup, Bool.and_eq_true, decide_eq_true_eq] at h
    obtain ⟨h1, h2⟩ := h
    unfold rowNums at h2
    refine ⟨ds.map intD, ?_, by rw [List.length_map]; exact h1, fun n hn => ?_⟩
    · congr 1
      rw [List.map_map]
      refine ((List.map_congr_left fun d hd => ?_).trans (List.map_id ds)).symm
      obtain ⟨i, rfl, _⟩ := btw_get (List.all_eq_true.mp h2 d hd)
      rfl
    · obtain ⟨d, hd, rfl⟩ := List.mem_map.mp hn
      obtain ⟨i, rfl, a, b⟩ := btw_get (List.all_eq_true.mp h2 d hd)
      exact ⟨a, by show i ≤ 1000002; omega⟩
  | _ => cases h
theorem ciN_mem {l : List (Str × Int)} {gv : Str → Option PyData} (h : ciN l gv = none) {z : Str} {k : Int} (m : (z, k) ∈ l) : ∃ ns : List Int, gv z = some (.tuple (ns.map PyData.int)) ∧ hdOf gv z = ns ∧ (ns.length : Int) = k ∧ Inr ns := by
  unfold ciN at h
  rw [Option.map_eq_none_iff, List.find?_eq_none] at h
  have hb := h _ m
  unfold badN at hb
  have hb : ¬ (match gv z with | none => true | some d => !isRow d k) = true := hb
  cases c : gv z with
  | none => rw [c] at hb; exact absurd rfl hb
  | some d =>
    rw [c] at hb
    have hb : ¬ (!isRow d k) = true := hb
    cases e : isRow d k with
    | false => rw [e] at hb; exact absurd rfl hb
    | true =>
      obtain ⟨ns, rfl, h1, h2⟩ := isRow_get e
      exact ⟨ns, rfl, by unfold hdOf; rw [c]; exact map_intD ns, h1, h2⟩
theorem hnd_of {j : Jn} {gv : Str → Option PyData} (hj : Fx j) (hf : j.fault = none) (hc : ciN (nmsOf j.all) gv = none) : Hnd (hdOf gv) j := fun z k ps m => by
  have hm := nf_names j.all [] (fun _ => none) (fun z k => by simp) (fault_none hf).2 hj.fit z k ps m
  obtain ⟨ns, _, e, h1, h2⟩ := ciN_mem hc hm
  rw [e]
  exact ⟨h1, h2⟩
theorem vok {hd : Str → List Int} {j : Jn} (hj : Fx j) (hb : ∀ x ∈ j.all, x.bad = none) (hh : Hnd hd j) {y : Jn} (hy : y ∈ j.all) : Inr (y.val hd) ∧ 1 ≤ (y.val hd).length ∧ (y.val hd).length ≤ 64 := by
  have hy' := hj.sub hy
  obtain ⟨a, b⟩ := val_ok y hy'.fit (fun x hx => hb x (all_sub j y hy x hx)) (hh.sub hy)
  have h1 := hy'.pos
  have h2 := bad_le' (hb y hy)
  exact ⟨a, by omega, by omega⟩
theorem val_at {j : Jn} {x : Nat} {op : Str} {td : List PyData} {parts : List Jn} (h : j.all[x]? = some (.mk op td parts)) :
    (kinN (j.ups (-1) 0) x).length = parts.length ∧ ∀ (i n : Nat), (kinN (j.ups (-1) 0) x)[i]? = some n → x < n ∧ n < j.cnt ∧ ∃ p, parts[i]? = some p ∧ j.all[n]? = some p := by
  refine ⟨by rw [kinN_tops h, tops_len], fun i n hi => ?_⟩
  rw [kinN_tops h] at hi
  have il := lt_of_get hi
  rw [tops_len] at il
  obtain ⟨t, t1, t2, t3, t4⟩ := part_at h (List.getElem?_eq_getElem il)
  rw [hi, Option.some.injEq] at t1
  subst t1
  exact ⟨t2, t3, parts[i], List.getElem?_eq_getElem il, t4⟩
/-- the value of a joint by its parts' rows -/
def valO (hd : Str → List Int) (op : Str) (td : List PyData) (rs : List (List Int)) : List Int := if op = "row" then td.map intD else if op = "in" then hd (nameD td) else rk op td rs
theorem val_O {hd : Str → List Int} {op : Str} {td : List PyData} {parts : List Jn} : (Jn.mk op td parts).val hd = valO hd op td (Jn.vals hd parts) := by
  simp only [Jn.val, valO]
theorem part_in_all {op : Str} {td : List PyData} {parts : List Jn} {p : Jn} (h : p ∈ parts) : p ∈ (Jn.mk op td parts).all := by
  simp only [Jn.all]
  refine List.mem_cons_of_mem _ ?_
  induction parts with
  | nil => cases h
  | cons a r ih =>
    simp only [Jn.alls, List.mem_append]
    rcases List.mem_cons.mp h with rfl | h
    · exact .inl (all_self _)
    · exact .inr (ih h)
theorem vals_lens {hd : Str → List Int} {j : Jn} (hj : Fx j) (hb : ∀ x ∈ j.all, x.bad = none) (hh : Hnd hd j) {op : Str} {td : List PyData} {parts : List Jn} (hm : Jn.mk op td parts ∈ j.all) : lens (Jn.vals hd parts) = Jn.wds parts := by
  have up : ∀ x, x ∈ Jn.alls parts → x ∈ (Jn.mk op td parts).all := fun x hx => by simp only [Jn.all]; exact List.mem_cons_of_mem _ hx
  have hy := hj.sub hm
  exact (vals_ok parts (fun x hx => hy.fit x (up x hx)) (fun x hx => hb x (all_sub j _ hm x (up x hx))) (fun z k ps m => hh z k ps (all_sub j _ hm _ (up _ m)))).2
end Mine

/-! ### V9 -/
namespace Mine
open PySem PySem.Spec L2
local macro_rules | `(tactic| walk_at "st") => `(tactic| (with_reducible apply iteF))
local macro_rules | `(tactic| walk_at "st") => `(tactic| (with_reducible apply iteT))
local macro_rules | `(tactic| walk_at "st") => `(tactic| ((with_reducible apply rd_tyF); (focus assumption)))
local macro_rules | `(tactic| walk_at "st") => `(tactic| (with_reducible apply rd_tupF))
local macro_rules | `(tactic| walk_at "st") => `(tactic| (with_reducible apply rd_bmT))
local macro_rules | `(tactic| walk_at "st") => `(tactic| (with_reducible apply rd_dc))
local macro_rules | `(tactic| walk_at "st") => `(tactic| (with_reducible apply u_notB))
local macro_rules | `(tactic| walk_at "st") => `(tactic| (with_reducible apply u_repB))
local macro_rules | `(tactic| walk_at "st") => `(tactic| (with_reducible apply u_isB))
local macro_rules | `(tactic| walk_at "st") => `(tactic| (with_reducible apply rd_nopart))
local macro_rules | `(tactic| walk_at "st") => `(tactic| (with_reducible apply rd_partI))
local macro_rules | `(tactic| walk_at "st") => `(tactic| (with_reducible apply rd_part))
local macro_rules | `(tactic| walk_at "st") => `(tactic| (with_reducible apply rd_sl))
local macro_rules | `(tactic| walk_at "st") => `(tactic| (with_reducible apply rd_disp1))
local macro_rules | `(tactic| walk_at "st") => `(tactic| (with_reducible apply rd_dput))
local macro_rules | `(tactic| walk_at "st") => `(tactic| (with_reducible apply rd_dget))
local macro_rules | `(tactic| walk_at "st") => `(tactic| (with_reducible apply rd_din))
local macro_rules | `(tactic| walk_at "st") => `(tactic| (with_reducible apply rd_dnew))
local macro_rules | `(tactic| walk_at "st") => `(tactic| ((with_reducible apply rd_gtup); (focus first | assumption | exact SqT.of (by assumption) | exact SqT.of upd_same); (focus rfl)))
local macro_rules | `(tactic| walk_at "st") => `(tactic| (with_reducible apply rd_lc2))
local macro_rules | `(tactic| walk_at "st") => `(tactic| (with_reducible apply rd_zip))
local macro_rules | `(tactic| walk_at "st") => `(tactic| ((with_reducible apply u_enL); (focus first | assumption | exact SqL.of (by assumption) | exact SqL.of upd_same)))
local macro_rules | `(tactic| walk_at "st") => `(tactic| ((with_reducible apply u_enT); (focus first | assumption | exact SqT.of (by assumption) | exact SqT.of upd_same)))
local macro_rules | `(tactic| walk_at "st") => `(tactic| (with_reducible apply rd_rng3))
local macro_rules | `(tactic| walk_at "st") => `(tactic| (with_reducible apply rd_rg1))
local macro_rules | `(tactic| walk_at "st") => `(tactic| (with_reducible apply rd_revR))
local macro_rules | `(tactic| walk_at "st") => `(tactic| (with_reducible apply rd_enA))
local macro_rules | `(tactic| walk_at "st") => `(tactic| (with_reducible apply rd_ipI))
local macro_rules | `(tactic| walk_at "st") => `(tactic| ((with_reducible apply rd_aug); exact rfl))
local macro_rules | `(tactic| walk_at "st") => `(tactic| (with_reducible apply rd_par3_end))
local macro_rules | `(tactic| walk_at "st") => `(tactic| (with_reducible apply rd_par3))
local macro_rules | `(tactic| walk_at "st") => `(tactic| (with_reducible apply u_mul; focus exact Or.inr cm))
local macro_rules | `(tactic| walk_at "st") => `(tactic| ((with_reducible apply u_pow); (focus (exact ⟨by decide, by decide, by decide⟩))))
local macro_rules | `(tactic| walk_at "st") => `(tactic| (with_reducible apply rd_yes))
local macro_rules | `(tactic| walk_at "st") => `(tactic| (with_reducible apply rd_lc))
local macro_rules | `(tactic| walk_at "st") => `(tactic| ((with_reducible apply rd_itT); (focus first | assumption | exact SqT.of (by assumption) | exact SqT.of upd_same)))
local macro_rules | `(tactic| walk_at "st") => `(tactic| ((with_reducible apply rd_itL); (focus first | assumption | exact SqL.of (by assumption) | exact SqL.of upd_same)))
local macro_rules | `(tactic| walk_at "st") => `(tactic| ((with_reducible apply u_isi); (focus (first | exact Or.inl rfl | exact Or.inr (Or.inl rfl) | exact Or.inr (Or.inr (Or.inl rfl)) | exact Or.inr (Or.inr (Or.inr rfl)))); (focus first | assumption | exact Rp.int _ | exact Rp.str _)))
local macro_rules | `(tactic| walk_at "st") => `(tactic| (with_reducible apply rd_istrE))
local macro_rules | `(tactic| walk_at "st") => `(tactic| (with_reducible apply rd_istr))
local macro_rules | `(tactic| walk_at "st") => `(tactic| ((with_reducible apply rd_seqT); (focus first | assumption | exact SqT.of (by assumption) | exact SqT.of upd_same)))
local macro_rules | `(tactic| walk_at "st") => `(tactic| ((with_reducible apply rd_seqL); (focus first | assumption | exact SqL.of (by assumption) | exact SqL.of upd_same)))
local macro_rules | `(tactic| walk_at "st") => `(tactic| (with_reducible apply rd_iSeq))
local macro_rules | `(tactic| walk_at "st") => `(tactic| (with_reducible apply u_notInS))
local macro_rules | `(tactic| walk_at "st") => `(tactic| (with_reducible apply u_inS))
local macro_rules | `(tactic| walk_at "st") => `(tactic| (with_reducible apply u_notInD))
local macro_rules | `(tactic| walk_at "st") => `(tactic| (with_reducible apply u_inD))
local macro_rules | `(tactic| walk_at "st") => `(tactic| (with_reducible apply rd_callS))
local macro_rules | `(tactic| walk_at "st") => `(tactic| (with_reducible apply rd_raiseE))
local macro_rules | `(tactic| walk_at "st") => `(tactic| (with_reducible apply rd_xf))
local macro_rules | `(tactic| walk_at "st") => `(tactic| (with_reducible apply g_neB))
local macro_rules | `(tactic| walk_at "st") => `(tactic| (with_reducible apply g_neS))
local macro_rules | `(tactic| walk_at "st") => `(tactic| (with_reducible apply g_neI))
local macro_rules | `(tactic| walk_at "st") => `(tactic| (with_reducible apply g_eqS))
local macro_rules | `(tactic| walk_at "st") => `(tactic| (with_reducible apply g_eqI))
local macro_rules | `(tactic| walk_at "st") => `(tactic| (with_reducible apply rd_retN))
local macro_rules | `(tactic| walk_at "st") => `(tactic| (with_reducible apply rd_gnil))
local macro_rules | `(tactic| walk_at "st") => `(tactic| (with_reducible apply rd_gcons))
local macro_rules | `(tactic| walk_at "st") => `(tactic| ((with_reducible apply rd_rng2e); (focus omega)))
local macro_rules | `(tactic| walk_at "st") => `(tactic| ((with_reducible apply rd_rng1e); (focus omega); (focus omega)))
local macro_rules | `(tactic| walk_at "st") => `(tactic| (with_reducible apply rd_rng2))
local macro_rules | `(tactic| walk_at "st") => `(tactic| (with_reducible apply rd_rng1))
local macro_rules | `(tactic| walk_at "st") => `(tactic| (with_reducible apply rd_for))
local macro_rules | `(tactic| walk_at "st") => `(tactic| (with_reducible apply rd_iTup))
local macro_rules | `(tactic| walk_at "st") => `(tactic| (with_reducible apply rd_iList))
local macro_rules | `(tactic| walk_at "st") => `(tactic| (with_reducible apply rd_rev))
local macro_rules | `(tactic| walk_at "st") => `(tactic| (with_reducible apply u_min3))
local macro_rules | `(tactic| walk_at "st") => `(tactic| ((with_reducible apply rd_tyL); focus (first | exact SqL.of (by assumption) | exact SqL.of upd_same)))
local macro_rules | `(tactic| walk_at "st") => `(tactic| (with_reducible apply rd_bm0))
local macro_rules | `(tactic| walk_at "st") => `(tactic| (with_reducible apply rd_bm))
local macro_rules | `(tactic| walk_at "st") => `(tactic| ((with_reducible apply rd_truL); focus (first | assumption | exact SqL.of (by assumption) | exact SqL.of upd_same)))
local macro_rules | `(tactic| walk_at "st") => `(tactic| (with_reducible apply rd_truB))
local macro_rules | `(tactic| walk_at "st") => `(tactic| (with_reducible apply rd_tru))
local macro_rules | `(tactic| walk_at "st") => `(tactic| (with_reducible apply rd_chain3))
local macro_rules | `(tactic| walk_at "st") => `(tactic| ((with_reducible apply u_setL); (focus (first | assumption | exact upd_same)); exact rfl))
local macro_rules | `(tactic| walk_at "st") => `(tactic| ((with_reducible apply u_lenT); focus (first | assumption | exact SqT.of (by assumption) | exact SqT.of upd_same)))
local macro_rules | `(tactic| walk_at "st") => `(tactic| ((with_reducible apply u_lenL); focus (first | assumption | exact SqL.of (by assumption) | exact SqL.of upd_same)))
local macro_rules | `(tactic| walk_at "st") => `(tactic| ((with_reducible apply u_ixL); (focus (first | assumption | exact SqL.of (by assumption) | exact SqL.of upd_same)); exact rfl))
local macro_rules | `(tactic| walk_at "st") => `(tactic| ((with_reducible apply u_mul); focus first | exact Or.inl (by omega) | exact Or.inr (by omega) | exact Or.inl (by decide) | exact Or.inr (by decide)))
local macro_rules | `(tactic| walk_at "st") => `(tactic| ((with_reducible apply u_div); focus first | decide | omega | (constructor <;> first | assumption | omega)))
local macro_rules | `(tactic| walk_at "st") => `(tactic| ((with_reducible apply u_mod); focus first | assumption | decide | omega))
local macro_rules | `(tactic| walk_at "st") => `(tactic| (with_reducible apply u_neg))
local macro_rules | `(tactic| walk_at "st") => `(tactic| (with_reducible apply u_min))
local macro_rules | `(tactic| walk_at "st") => `(tactic| (with_reducible apply u_max))
local macro_rules | `(tactic| walk_at "st") => `(tactic| (with_reducible apply u_intB))
local macro_rules | `(tactic| walk_at "st") => `(tactic| (with_reducible apply u_int))
local macro_rules | `(tactic| walk_at "st") => `(tactic| (with_reducible apply u_neI))
local macro_rules | `(tactic| walk_at "st") => `(tactic| (with_reducible apply u_eqS))
local macro_rules | `(tactic| walk_at "st") => `(tactic| (with_reducible apply u_eqI))
local macro_rules | `(tactic| walk_at "st") => `(tactic| (with_reducible apply u_ge))
local macro_rules | `(tactic| walk_at "st") => `(tactic| (with_reducible apply u_gt))
local macro_rules | `(tactic| walk_at "st") => `(tactic| (with_reducible apply u_le))
local macro_rules | `(tactic| walk_at "st") => `(tactic| (with_reducible apply u_lt))
local macro_rules | `(tactic| walk_at "st") => `(tactic| (with_reducible apply u_sub))
local macro_rules | `(tactic| walk_at "st") => `(tactic| (with_reducible apply u_add))
local macro_rules | `(tactic| walk_at "st") => `(tactic| (with_reducible apply rd_ct))
local macro_rules | `(tactic| walk_at "st") => `(tactic| (with_reducible apply rd_brk))
local macro_rules | `(tactic| walk_at "st") => `(tactic| (with_reducible apply rd_tB))
local macro_rules | `(tactic| walk_at "st") => `(tactic| (with_reducible apply rd_chain))
local macro_rules | `(tactic| walk_at "st") => `(tactic| (with_reducible apply rd_notV))
local macro_rules | `(tactic| walk_at "st") => `(tactic| (with_reducible apply rd_orV))
local macro_rules | `(tactic| walk_at "st") => `(tactic| (with_reducible apply rd_andV))
local macro_rules | `(tactic| walk_at "st") => `(tactic| (with_reducible apply rd_not))
local macro_rules | `(tactic| walk_at "st") => `(tactic| (with_reducible apply rd_or))
local macro_rules | `(tactic| walk_at "st") => `(tactic| (with_reducible apply rd_and))
local macro_rules | `(tactic| walk_at "st") => `(tactic| (with_reducible apply rd_un))
local macro_rules | `(tactic| walk_at "st") => `(tactic| (with_reducible apply rd_par_end))
local macro_rules | `(tactic| walk_at "st") => `(tactic| (with_reducible apply rd_par))
local macro_rules | `(tactic| walk_at "st") => `(tactic| (with_reducible apply rd_gsub))
local macro_rules | `(tactic| walk_at "st") => `(tactic| (with_reducible apply rd_ife))
local macro_rules | `(tactic| walk_at "st") => `(tactic| (with_reducible apply rd_next))
local macro_rules | `(tactic| walk_at "st") => `(tactic| (with_reducible apply rd_drop))
local macro_rules | `(tactic| walk_at "st") => `(tactic| (with_reducible apply rd_lst))
local macro_rules | `(tactic| walk_at "st") => `(tactic| (with_reducible apply rd_tup))
local macro_rules | `(tactic| walk_at "st") => `(tactic| (with_reducible apply rd_call))
local macro_rules | `(tactic| walk_at "st") => `(tactic| (with_reducible apply rd_ret))
local macro_rules | `(tactic| walk_at "st") => `(tactic| (with_reducible apply rd_retE))
local macro_rules | `(tactic| walk_at "st") => `(tactic| (with_reducible apply rd_bl))
local macro_rules | `(tactic| walk_at "st") => `(tactic| (with_reducible apply rd_test))
local macro_rules | `(tactic| walk_at "st") => `(tactic| (with_reducible apply rd_if))
local macro_rules | `(tactic| walk_at "st") => `(tactic| (with_reducible apply rd_nil))
local macro_rules | `(tactic| walk_at "st") => `(tactic| (with_reducible apply rd_cons))
local macro_rules | `(tactic| walk_at "st") => `(tactic| (with_reducible apply rd_cb))
local macro_rules | `(tactic| walk_at "st") => `(tactic| (with_reducible apply rd_op))
local macro_rules | `(tactic| walk_at "st") => `(tactic| (with_reducible apply rd_gname))
local macro_rules | `(tactic| walk_at "st") => `(tactic| (with_reducible apply rd_asg))
local macro_rules | `(tactic| walk_at "st") => `(tactic| (with_reducible apply rd_seq))
local macro_rules | `(tactic| walk_at "st") => `(tactic| (with_reducible apply rd_c))
local macro_rules | `(tactic| walk_at "st") => `(tactic| ((with_reducible apply rd_var); exact rfl))
local macro_rules | `(tactic| walk_at "go") => `(tactic| repeat (walk_at "st"))
local macro_rules | `(tactic| walk_at "sp") => `(tactic| (first | refine rd_split (fun c => ?_) (fun c => ?_) | refine rd_splitN (fun c => ?_) (fun c => ?_) | refine rd_splitB (fun c => ?_) (fun c => ?_)))
local macro_rules | `(tactic| walk_at "nx") => `(tactic| repeat (first | (with_reducible apply iteF) | (with_reducible apply iteT) | (with_reducible apply rd_next)))

section
variable {P : Program} {w : World} {K : PySem.W.Frag} {mg : Str → Option Value} {base : Heap}
theorem rps_ints : ∀ {xs : List V} {ns : List Int} {H : Hp}, Rps K H xs (ns.map PyData.int) → xs = ns.map V.int
  | xs, [], _, h => by cases h; rfl
  | xs, n :: r, _, h => by
    cases h with
    | cons a b =>
      cases a
      rw [List.map_cons, rps_ints b]
theorem prd_mono {H H' : Hp} (e : Ext K H H') : ∀ {ps : List Addr} {kvs : List (Key × V)}, Paired (fun p (kv : Key × V) => SqT K H p [kV kv.1, kv.2]) ps kvs → Paired (fun p (kv : Key × V) => SqT K H' p [kV kv.1, kv.2]) ps kvs
  | _, _, .nil => .nil
  | _, _, .cons a b => .cons (e _ _ a) (prd_mono e b)
/-- the row handed by a name of a program -/
theorem row_handed {H : Hp} {kvs : List (Key × V)} {gv : Str → Option PyData} {j : Jn} (hv : GvN K H kvs gv) (hj : Fx j) (hf : j.fault = none) (hc : ciN (nmsOf j.all) gv = none) {td : List PyData} {parts : List Jn} (hm : Jn.mk "in" td parts ∈ j.all) :
    ∃ u, valV kvs (Sum.inr (nameD td)) = some u ∧ Rw K H u (hdOf gv (nameD td)) := by
  obtain ⟨z, k, rfl, _, _⟩ := told_in (hj.fit _ hm).1
  have hn := nf_names j.all [] (fun _ => none) (fun z k => by simp) (fault_none hf).2 hj.fit z k parts hm
  obtain ⟨ns, e1, e2, _, _⟩ := ciN_mem hc hn
  have := hv z
  rw [e1] at this
  obtain ⟨u, h1, h2, _⟩ := this
  refine ⟨u, h1, ?_⟩
  show Rw K H u (hdOf gv z)
  rw [e2]
  cases h2 with
  | tup hs hR =>
    refine ⟨_, rfl, ?_⟩
    rw [rps_ints hR] at hs
    exact hs
def spVo (K : PySem.W.Frag) : Sp := fun vs H Q _ => ∃ (v : V) (b g : Addr) (op : Str) (td : List PyData) (parts : List Jn) (rv : List V) (rs : List (List Int)) (kvs : List (Key × V)) (hd : Str → List Int), vs = [v, .ref b, .ref g] ∧ Rp K H v (Jn.mk op td parts).py ∧ Fit (.mk op td parts) ∧ badO op td (lens rs) = none ∧
  SqL K H b rv ∧ RwL K H rv rs ∧ OkRs rs ∧ rs.length = parts.length ∧ H g = some (.dK kvs) ∧ (op = "in" → ∃ u, valV kvs (Sum.inr (nameD td)) = some u ∧ Rw K H u (hd (nameD td))) ∧
  ∀ (H' : Hp) (v' : V), Same H H' → Rw K H' v' (valO hd op td rs) → Q v' H'
abbrev s_value_of : Stmt := top 67
theorem sc_value_of : FnScope ["joint", "rows", "given", "op", "told", "_"] ["joint", "rows", "given"] (defScope s_value_of) := ⟨rfl, rfl, rfl, by decide +kernel, rfl, by decide +kernel, by decide +kernel⟩
theorem has_value_of (O : OwnF K mg "value_of" s_value_of) (h_reckoned : HasF P w K mg base CX0 2 "reckoned" ["op", "told", "rows"] (spRk K)) : HasF P w K mg base CX0 3 "value_of" ["joint", "rows", "given"] (spVo K) := by
  refine has0 O sc_value_of (fun _ _ _ _ _ _ us hl => match us, hl with | [_, _, _], _ => rfl) (fun vs H Q E h => ?_) (fun f cdv A outer s_ H vs Q E hr h => ?_)
  · obtain ⟨v, b, g, op, td, parts, rv, rs, kvs, hd, rfl, _⟩ := h
    rfl
  obtain ⟨v, b, g, op, td, parts, rv, rs, kvs, hd, rfl, r, hf, hb, hL, hW, hk, hlen, hg, hin, q⟩ := h
  obtain ⟨pj, t, qa, tv, pv', rfl, hsj, hT, hTd, hq, hQ⟩ := r.jn
  refine ⟨_, (pss_cons (ps_asg (pv 0) (pg_tupK (n := 3) K rfl (pgs_cons (pg_name (i := 3) sc_value_of.nd rfl (by first | exact Or.inl rfl | exact Or.inr rfl)) (pgs_cons (pg_name (i := 4) sc_value_of.nd rfl (by first | exact Or.inl rfl | exact Or.inr rfl)) (pgs_cons (pg_name (i := 5) sc_value_of.nd rfl (by first | exact Or.inl rfl | exact Or.inr rfl)) pgs_nil))))) (pss_cons (ps_if (pt_cmpR (kEqG K (hU hr)) (pv 3) pe_str (nomark _)) (pss_one (ps_ret (pv 4))) pss_nil) (pss_cons (ps_if (pt_cmpR (kEqG K (hU hr)) (pv 3) pe_str (nomark _)) (pss_one (ps_ret (pe_dget (hu_of hr) (pv 2) (pe_ix (kIx K) (pv 4) pe_int (fun _ _ => rfl)) (fun _ _ => rfl)))) pss_nil) (pss_one (ps_ret (pe_callH h_reckoned (hr.mono (by first | decide | omega)) (by rfl) pass0 (pa_cons (pv 3) (pa_cons (pv 4) (pa_cons (pv 1) pa_nil))))))))), ?_⟩
  refine st0 [some (.ref pj), some (.ref b), some (.ref g), none, none, none] rfl ?_
  walk_at "go"
  refine rd_split (fun c => ?_) (fun c => ?_)
  · subst c
    walk_at "go"
    obtain ⟨ns, rfl, _⟩ := told_row hf.1
    refine q H (.ref t) (Same.refl H) ⟨t, rfl, ?_⟩
    rw [rps_ints hTd] at hT
    unfold valO
    rw [if_pos rfl, map_intD]
    exact hT
  walk_at "go"
  refine rd_split (fun c2 => ?_) (fun c2 => ?_)
  · subst c2
    obtain ⟨u, hu, hw⟩ := hin rfl
    obtain ⟨z, k, rfl, k1, k2⟩ := told_in hf.1
    obtain ⟨x, y, d', e, rfl, ed, r1, r2⟩ := hTd.pair (by rw [hTd.length] <;> rfl)
    cases ed
    cases r1
    cases r2
    walk_at "go"
    refine u_ixT hT rfl ?_
    refine u_dgetS hg hu ?_
    refine q H u (Same.refl H) ?_
    unfold valO
    rw [if_neg c, if_pos rfl]
    exact hw
  walk_at "go"
  obtain ⟨f, p, kk⟩ := rk_ok (rs := rs) hf.1 (by rw [hlen]; exact hf.2) c c2 hb fun r hr => ⟨(hk r hr).1, (hk r hr).2.1⟩
  refine ⟨op, t, b, tv, td, rv, rs, f, p, rfl, hT, hTd, hL, hW, hk, kk.e, kk.p, fun H' q' s' hq' => q H' _ s' ⟨q', rfl, ?_⟩⟩
  unfold valO rk
  rw [if_neg c, if_neg c2, kk.e]
  exact hq'
def spPl (K : PySem.W.Frag) (c : Fcl) : Sp := fun vs H Q E => ∃ (v : V) (j : Jn) (a : Addr) (ps : List Addr) (kvs : List (Key × V)) (gv : Str → Option PyData), vs = [v, .ref a] ∧ Rp K H v j.py ∧ Fx j ∧ j.cnt ≤ 40 ∧ j.fault = none ∧ HE.FT H a (ps.map V.ref) ∧ Paired (fun p (kv : Key × V) => SqT K H p [kV kv.1, kv.2]) ps kvs ∧ GvN K H (mergeK [] kvs) gv ∧
  (∀ z, ciN (nmsOf j.all) gv = some z → RaisedV E H c.inp (.str z)) ∧ (ciN (nmsOf j.all) gv = none → ∀ (H' : Hp) (v' : V), Same H H' → Rw K H' v' (j.val (hdOf gv)) → Q v' H')
abbrev s_plain : Stmt := top 68
theorem sc_plain : FnScope ["program", "inputs", "given", "all_joints", "parts", "found", "number", "rows", "part"] ["program", "inputs"] (defScope s_plain) := ⟨rfl, rfl, rfl, by decide +kernel, rfl, by decide +kernel, by decide +kernel⟩
theorem has_plain {c : Fcl} {e : Ecl} (O : OwnF K mg "plain" s_plain) (B : Bl mg) (BR : mg "reversed" = none) (BD : mg "dict" = none) (h_sizes : HasF P w K mg base (L2.CX P w) 11 "sizes" ["program"] (spSs K c)) (h_check_inputs : HasF P w K mg base (L2.CX P w) 11 "check_inputs" ["program", "given"] (spCi K c)) (h_joints : HasF P w K mg base (L2.CX P w) 9 "joints" ["program"] (spJts K e)) (h_part_numbers : HasF P w K mg base (L2.CX P w) 10 "part_numbers" ["program"] (spPn K)) (h_value_of : HasF P w K mg base CX0 3 "value_of" ["joint", "rows", "given"] (spVo K)) : HasF P w K mg base (L2.CX P w) 12 "plain" ["program", "inputs"] (spPl K c) := by
  refine hasX O sc_plain (fun _ _ _ _ _ _ us hl => match us, hl with | [_, _], _ => rfl) (fun vs H Q E h => ?_) (fun f cdv A outer s_ H vs Q E hr h => ?_)
  · obtain ⟨v, j, a, ps, kvs, gv, rfl, _⟩ := h
    rfl
  obtain ⟨v, j, a, ps, kvs, gv, rfl, r, g, h40, hfl, hFT, hPr, hGv, hbad, q⟩ := h
  obtain ⟨hnb, hnf⟩ := fault_none hfl
  have hok := g.ok
  have hwk := g.walk h40
  refine ⟨_, (pss_cons (ps_expr (pe_callHS h_sizes (hr.mono (by first | decide | omega)) (by rfl) (fun σ => passAt tkX σ) (pa_cons (pv 0) pa_nil))) (pss_cons (ps_set (i := 2) sc_plain.nd rfl (by first | exact Or.inl rfl | exact Or.inr rfl) (pe_callTy (kDictF K rfl) (by rfl) BD (by decide +kernel) (pa_cons (pv 1) pa_nil))) (pss_cons (ps_expr (pe_callHS h_check_inputs (hr.mono (by first | decide | omega)) (by rfl) (fun σ => passAt tkX σ) (pa_cons (pv 0) (pa_cons (pv 2) pa_nil)))) (pss_cons (ps_set (i := 3) sc_plain.nd rfl (by first | exact Or.inl rfl | exact Or.inr rfl) (pe_callHS h_joints (hr.mono (by first | decide | omega)) (by rfl) (fun σ => passAt tkX σ) (pa_cons (pv 0) pa_nil))) (pss_cons (ps_set (i := 4) sc_plain.nd rfl (by first | exact Or.inl rfl | exact Or.inr rfl) (pe_callHS h_part_numbers (hr.mono (by first | decide | omega)) (by rfl) (fun σ => passAt tkX σ) (pa_cons (pv 0) pa_nil))) (pss_cons (ps_set (i := 5) sc_plain.nd rfl (by first | exact Or.inl rfl | exact Or.inr rfl) (pe_op (kMul K) (pe_lst (pa_cons (pe_tup pa_nil) pa_nil)) (pe_callB (kLen K) (by rfl) B.len (by decide +kernel) (pa_cons (pv 3) pa_nil)))) (pss_cons (ps_for poX rfl (pi_revR (by rfl) BR (prg_1 (by rfl) B.range (pe_callB (kLen K) (by rfl) B.len (by decide +kernel) (pa_cons (pv 3) pa_nil)))) (pg_name (i := 6) sc_plain.nd rfl (by first | exact Or.inl rfl | exact Or.inr rfl)) (pss_cons (ps_setLc (i := 7) (own := [("part", 8)]) (g := gName 8) (tt := tYes) rfl sc_plain.nd rfl rfl (sw_true rfl rfl rfl (by decide +kernel)) (pi_tupK K (pe_ix (kIx K) (pv 4) (pv 6) (fun _ _ => rfl))) (blkOk_by (own := [("part", 8)]) (N := ["program", "inputs", "given", "all_joints", "parts", "found", "number", "rows", "part"]) (sc := defScope s_plain) (by decide +kernel)) (fun _ _ _ _ _ => (pg_name (i := 8) sc_plain.nd rfl (by first | exact Or.inl rfl | exact Or.inr rfl))) (fun _ _ _ _ _ => pts_nil) (fun _ _ _ _ _ => (pe_ix (kIx K) (pv 5) (pv 8) (fun _ _ => rfl)))) (pss_one (ps_asg (pe_callH h_value_of (hr.mono (by first | decide | omega)) (by rfl) pass0 (pa_cons (pe_ix (kIx K) (pv 3) (pv 6) (fun _ _ => rfl)) (pa_cons (pv 7) (pa_cons (pv 2) pa_nil)))) (pg_sub (pv 5) (pv 6) set_list))))) (pss_one (ps_ret (pe_ix (kIx K) (pv 5) pe_int (fun _ _ => rfl))))))))))), ?_⟩
  refine st0 [some v, some (.ref a), none, none, none, none, none, none, none] rfl ?_
  walk_at "go"
  refine ⟨v, j, rfl, r, g, h40, fun k z h => ?_, fun k n h => ?_, fun _ H1 q1 s1 _ => ?_⟩
  · rw [hfl] at h; cases h
  · rw [hfl] at h; cases h
  walk_at "go"
  refine ⟨a, ps, kvs, rfl, ?_, ?_, fun pg hpg => ?_⟩
  · obtain ⟨o, h1, h2⟩ := hFT
    exact ⟨o, s1 _ _ h1, h2⟩
  · exact prd_mono (Ext.of_same s1) hPr
  have s2 : Same H (upd H1 pg (.dK (mergeK [] kvs))) := Same.new s1 hpg
  have g2 : upd H1 pg (.dK (mergeK [] kvs)) pg = some (.dK (mergeK [] kvs)) := upd_same
  generalize upd H1 pg (.dK (mergeK [] kvs)) = H2 at *
  walk_at "go"
  refine ⟨v, j, pg, mergeK [] kvs, gv, rfl, r.mono (Ext.of_same s2) _ _, g, h40, g2, hGv.mono (Ext.of_same s2), fun z hz => (hbad z hz).mono s2, fun hci H3 s3 => ?_⟩
  have q := q hci
  have hh := hnd_of g hfl hci
  have s03 := s2.trans s3
  have g3 := s3 _ _ g2
  walk_at "go"
  refine use_jts (r.mono (Ext.of_same s03) _ _) hok h40 hwk fun H4 pr ws s4 hW hR => ?_
  have s04 := s03.trans s4
  walk_at "go"
  refine use_pn (r.mono (Ext.of_same s04) _ _) hok h40 hwk fun H5 pp rows s5 hP lP hrows => ?_
  have s05 := s04.trans s5
  have hW5 := Ext.of_same (K := K) s5 _ _ hW
  have hR5 := hR.mono (Ext.of_same (K := K) s5) _ _
  have g5 := (s4.trans s5) _ _ g3
  have lw : ws.length = j.cnt := by rw [hR.length, pys_length, all_cnt]
  have hGv5 := hGv.mono (Ext.of_same s05)
  walk_at "go"
  refine ⟨lk rfl, fun pe hpe => ?_⟩
  walk_at "go"
  refine ⟨lk rfl, fun pz hpz => ?_⟩
  walk_at "go"
  refine u_lenT (Ext.new hpz _ _ (Ext.new hpe _ _ hW5)) ?_
  rw [lw]
  refine u_rep1 upd_same (by omega) fun pf hpf => ?_
  have s6 : Same H5 (upd (upd (upd H5 pe (.tup [])) pz (.lst [.ref pe])) pf (.lst (List.replicate j.cnt (.ref pe)))) := Same.new (Same.new (same_new hpe _) hpz) hpf
  have hpf2 : H5 pf = none := by
    cases hh : H5 pf with
    | none => rfl
    | some o => rw [Same.new (same_new hpe _) hpz _ _ hh] at hpf; cases hpf
  have f0 : (upd (upd (upd H5 pe (.tup [])) pz (.lst [.ref pe])) pf (.lst (List.replicate j.cnt (.ref pe)))) pf = some (.lst (List.replicate j.cnt (.ref pe))) := upd_same
  generalize upd (upd (upd H5 pe (.tup [])) pz (.lst [.ref pe])) pf (.lst (List.replicate j.cnt (.ref pe))) = H6 at *
  have hW6 := Ext.of_same (K := K) s6 _ _ hW5
  walk_at "go"
  rw [lw]
  refine ⟨by omega, by omega, by omega, by omega, ?_⟩
  rw [show ((j.cnt : Int) - 0).toNat = j.cnt by omega]
  refine forC (fun i σ H' => ∃ (fds : List V) (o6 o7 o8 : Option V), σ = [some v, some (.ref a), some (.ref pg), some (.ref pr), some (.ref pp), some (.ref pf), o6, o7, o8] ∧ Same H5 H' ∧ H' pf = some (.lst fds) ∧ fds.length = j.cnt ∧ ∀ y, j.cnt - i ≤ y → ∀ w, j.all[y]? = some w → ∃ u, fds[y]? = some u ∧ Rw K H' u (w.val (hdOf gv)))
    ⟨_, _, _, _, rfl, s6, f0, by rw [List.length_replicate], fun y h1 w hw => absurd (lt_of_get hw) (by rw [all_cnt]; omega)⟩ ?_ ?_
  · rintro i σ H7 hi ⟨fds, o6, o7, o8, rfl, s7, f7, l7, h7⟩
    obtain ⟨x, hx⟩ : ∃ x, x = j.cnt - 1 - i := ⟨_, rfl⟩
    have hxc : x < j.cnt := by omega
    have ex : (0 + ((j.cnt : Nat) : Int) - 1 + (i : Int) * -1) = (x : Int) := by omega
    rw [ex]
    obtain ⟨xj, hxj⟩ : ∃ xj, j.all[x]? = some xj := ⟨_, List.getElem?_eq_getElem (by rw [all_cnt]; exact hxc)⟩
    obtain ⟨op, td, parts⟩ := xj
    have hm := List.mem_of_getElem? hxj
    obtain ⟨lkin, hkin⟩ := val_at hxj
    have gfx := g.sub hm
    have gok := gfx.ok
    simp only [Jn.ok] at gok
    have hbx : badO op td (Jn.wds parts) = none := by
      have := hnb _ hm
      simp only [Jn.bad] at this
      exact this
    obtain ⟨u, hu, ru⟩ := hR5.get (i := x) (d := (Jn.mk op td parts).py) (by rw [pys_map, List.getElem?_map, hxj] <;> rfl)
    obtain ⟨rk', hrk, hrk2⟩ := hrows x hxc
    have hW7 := Ext.of_same (K := K) s7 _ _ hW5
    have hP7 := Ext.of_same (K := K) s7 _ _ hP
    have hrk7 := Ext.of_same (K := K) s7 _ _ hrk2
    generalize kinN (j.ups (-1) 0) x = kin at *
    walk_at "go"
    refine u_ixT hP7 (atI_nat hrk) ?_
    walk_at "go"
    intro D hD
    refine lc_tup (xs := nV kin) (fun k H' => H' D = some (.lst ((kin.take k).map fun n => fds.getD n .non)) ∧ Same H7 H') ⟨upd_same, Same.upd_new (Same.refl H7) hD⟩ ?_ ?_ ?_
    · rintro k H' hk ⟨g1, g2⟩
      exact Ext.of_same g2 _ _ hrk7
    · rintro k y H' hy ⟨g1, g2⟩
      unfold nV at hy
      rw [List.getElem?_map, Option.map_eq_some_iff] at hy
      obtain ⟨n, hn, rfl⟩ := hy
      obtain ⟨n1, n2, p, hp1, hp2⟩ := hkin k n hn
      obtain ⟨u', hu', _⟩ := h7 n (by omega) p hp2
      have ed : fds.getD n .non = u' := by rw [List.getD_eq_getElem?_getD, hu'] <;> rfl
      walk_at "go"
      refine ⟨rfl, ?_⟩
      walk_at "go"
      refine u_ixL (SqL.of (g2 _ _ f7)) (atI_nat hu') ?_
      refine ⟨_, g1, ?_, ?_, Same.upd_new g2 hD⟩
      · rw [List.length_map, List.length_take]
        have := lt_of_get hp1
        have := gok.2.2.2.1
        exact ls (by omega)
      · rw [upd_same, List.take_add_one, hn, List.map_append]
        show _ = some (HO.lst (_ ++ [fds.getD n .non]))
        rw [ed]
    rintro H8 ⟨g1, g8⟩
    have eln : (nV kin).length = kin.length := by
      unfold nV
      rw [List.length_map]
    rw [eln, List.take_length] at g1
    have hW8 := Ext.of_same (K := K) g8 _ _ hW7
    have s58 := s7.trans g8
    walk_at "go"
    refine u_ixT hW8 (atI_nat hu) ?_
    walk_at "go"
    have pall : ∀ p ∈ parts, p ∈ j.all := fun p hp => all_sub j _ hm _ (part_in_all hp)
    have hRw : RwL K H8 (kin.map fun n => fds.getD n .non) (Jn.vals (hdOf gv) parts) := by
      refine ⟨by rw [List.length_map, lkin, vals_map, List.length_map], fun i' r' hr' => ?_⟩
      rw [vals_map, List.getElem?_map, Option.map_eq_some_iff] at hr'
      obtain ⟨p, hp, rfl⟩ := hr'
      have il := lt_of_get hp
      obtain ⟨n, hn⟩ : ∃ n, kin[i']? = some n := ⟨_, List.getElem?_eq_getElem (by omega)⟩
      obtain ⟨n1, n2, p', hp1, hp2⟩ := hkin i' n hn
      rw [hp, Option.some.injEq] at hp1
      subst hp1
      obtain ⟨u', hu', rw'⟩ := h7 n (by omega) p hp2
      refine ⟨u', ?_, rw'.mono (Ext.of_same g8)⟩
      rw [List.getElem?_map, hn, Option.map_some, List.getD_eq_getElem?_getD, hu'] <;> rfl
    refine ⟨u, D, pg, op, td, parts, _, Jn.vals (hdOf gv) parts, mergeK [] kvs, hdOf gv, rfl, ru.mono (Ext.of_same s58) _ _, gfx.fit _ (all_self _), by rw [vals_lens g hnb hh hm]; exact hbx, SqL.of g1, hRw, fun r' hr' => ?_, by rw [vals_map, List.length_map], s58 _ _ g5, fun e => ?_, fun H9 v' s9 hv' => ?_⟩
    · rw [vals_map] at hr'
      obtain ⟨p, hp, rfl⟩ := List.mem_map.mp hr'
      exact vok g hnb hh (pall p hp)
    · subst e
      exact row_handed (hGv5.mono (Ext.of_same s58)) g hfl hci hm
    have f9 := (g8.trans s9) _ _ f7
    have s79 := g8.trans s9
    walk_at "go"
    refine u_setL f9 (ix_pt (n := fds.length) (by omega)) ?_
    have exx : Ext K H9 (upd H9 pf (.lst (fds.set x v'))) := Ext.set f9 trivial
    refine ⟨_, _, _, _, rfl, Same.upd_new (s7.trans s79) hpf2, upd_same, by rw [List.length_set]; exact l7, fun y h1 w hw => ?_⟩
    by_cases c : y = x
    · subst c
      rw [hxj, Option.some.injEq] at hw
      subst hw
      refine ⟨v', by rw [List.getElem?_set_self (by omega)], ?_⟩
      rw [val_O]
      exact hv'.mono exx
    · obtain ⟨u', hu', rw'⟩ := h7 y (by omega) w hw
      exact ⟨u', by rw [List.getElem?_set_ne (Ne.symm c)]; exact hu', (rw'.mono (Ext.of_same s79)).mono exx⟩
  · rintro σ H7 ⟨fds, o6, o7, o8, rfl, s7, f7, l7, h7⟩
    have h0 : j.all[0]? = some j := by
      obtain ⟨op, td, parts⟩ := j
      simp only [Jn.all, List.getElem?_cons_zero]
    obtain ⟨u, hu, hw⟩ := h7 0 (by omega) j h0
    walk_at "go"
    refine u_ixL (SqL.of f7) (atI_nat (j := 0) hu) ?_
    exact q _ u (s05.trans s7) hw
end

/-! ### W0 -/
section
variable {P : Program} {w : World} {K : PySem.W.Frag} {mg : Str → Option Value} {base : Heap}
theorem rk_pre {z : Str} {td : List PyData} {rs : List (List Int)} {f F : ActF} {p Pq : ActP} (h : acts z = some (F, Pq)) (kk : RkOk z td rs f p) : Pq td rs ∧ rk z td rs = F td rs := by
  have e := kk.e
  rw [h, Option.some.injEq, Prod.mk.injEq] at e
  obtain ⟨rfl, rfl⟩ := e
  refine ⟨kk.p, ?_⟩
  unfold rk
  rw [h]
/-- lists of ints -/
structure RlL (H : Hp) (rv : List V) (rs : List (List Int)) : Prop where
  len : rv.length = rs.length
  get : ∀ (i : Nat) r, rs[i]? = some r → ∃ q, rv[i]? = some (V.ref q) ∧ H q = some (.lst (r.map V.int))
theorem RlL.same {H H' : Hp} {rv : List V} {rs : List (List Int)} (h : RlL H rv rs) (s : Same H H') : RlL H' rv rs := ⟨h.len, fun i r hr => by
  obtain ⟨q, a, b⟩ := h.get i r hr
  exact ⟨q, a, s _ _ b⟩⟩
theorem RlL.one {H : Hp} {rv : List V} {r : List Int} (h : RlL H rv [r]) : ∃ q, rv = [.ref q] ∧ H q = some (.lst (r.map V.int)) := by
  have hl := h.len
  obtain ⟨q, e, s⟩ := h.get 0 r rfl
  match rv, hl, e with
  | [x], _, e =>
    have : x = .ref q := by simpa using e
    exact ⟨q, by rw [this], s⟩
theorem RlL.two {H : Hp} {rv : List V} {r t : List Int} (h : RlL H rv [r, t]) : ∃ q u, rv = [.ref q, .ref u] ∧ H q = some (.lst (r.map V.int)) ∧ H u = some (.lst (t.map V.int)) := by
  have hl := h.len
  obtain ⟨q, e, s⟩ := h.get 0 r rfl
  obtain ⟨q2, e2, s2⟩ := h.get 1 t rfl
  match rv, hl, e, e2 with
  | [x, y], _, e, e2 =>
    have h1 : x = .ref q := by simpa using e
    have h2 : y = .ref q2 := by simpa using e2
    exact ⟨q, q2, by rw [h1, h2], s, s2⟩
def spWk (K : PySem.W.Frag) : Sp := fun vs H Q _ => ∃ (v : V) (b g : Addr) (op : Str) (td : List PyData) (parts : List Jn) (rv : List V) (rs : List (List Int)) (kvs : List (Key × V)) (hd : Str → List Int), vs = [v, .ref b, .ref g] ∧ Rp K H v (Jn.mk op td parts).py ∧ Fit (.mk op td parts) ∧ badO op td (lens rs) = none ∧
  SqL K H b rv ∧ RlL H rv rs ∧ OkRs rs ∧ rs.length = parts.length ∧ H g = some (.dK kvs) ∧ (op = "in" → ∃ u, valV kvs (Sum.inr (nameD td)) = some u ∧ Rw K H u (hd (nameD td))) ∧
  ∀ (H' : Hp) (q : Addr), Same H H' → H' q = some (.lst ((valO hd op td rs).map V.int)) → Q (.ref q) H'
theorem u_list1 {H : Hp} {Q : VK} {p : Addr} {xs : List V} (s : SqT K H p xs) (h : ∀ l, H l = none → Q (.ref l) (upd H l (.lst xs))) : rListU K [.ref p] H Q := ⟨p, xs, rfl, .inr s, h⟩
abbrev s_law_worked : Stmt := top 82
theorem sc_law_worked : FnScope ["joint", "rows", "handed", "op", "told", "a", "found", "row", "b", "pairs", "x", "y", "i", "j"] ["joint", "rows", "handed"] (defScope s_law_worked) := ⟨rfl, rfl, rfl, by decide +kernel, rfl, by decide +kernel, by decide +kernel⟩
theorem has_law_worked (O : OwnF K mg "_law_worked" s_law_worked) (B : Bl mg) (BS : mg "sum" = none) (BL : mg "list" = none) : HasF P w K mg base CX0 1 "_law_worked" ["joint", "rows", "handed"] (spWk K) := by
  refine has0 O sc_law_worked (fun _ _ _ _ _ _ us hl => match us, hl with | [_, _, _], _ => rfl) (fun vs H Q E h => ?_) (fun f cdv A outer s_ H vs Q E hr h => ?_)
  · obtain ⟨v, b, g, op, td, parts, rv, rs, kvs, hd, rfl, _⟩ := h
    rfl
  obtain ⟨v, b, g, op, td, parts, rv, rs, kvs, hd, rfl, r, hf, hb, hL, hW, hk, hlen, hg, hin, q⟩ := h
  obtain ⟨pj, t, qa, tv, pv', rfl, hsj, hT, hTd, hq, hQ⟩ := r.jn
  refine ⟨_, (pss_cons (ps_asg (pe_tup (pa_cons (pe_ix (kIx K) (pv 0) pe_int (fun _ _ => rfl)) (pa_cons (pe_ix (kIx K) (pv 0) pe_int (fun _ _ => rfl)) pa_nil))) (pg_tupK (n := 2) K rfl (pgs_cons (pg_name (i := 3) sc_law_worked.nd rfl (by first | exact Or.inl rfl | exact Or.inr rfl)) (pgs_cons (pg_name (i := 4) sc_law_worked.nd rfl (by first | exact Or.inl rfl | exact Or.inr rfl)) pgs_nil)))) (pss_cons (ps_if (pt_cmpR (kEqG K (hU hr)) (pv 3) pe_str (nomark _)) (pss_one (ps_ret (pe_callTy (kList K) (by rfl) BL (by decide +kernel) (pa_cons (pv 4) pa_nil)))) pss_nil) (pss_cons (ps_if (pt_cmpR (kEqG K (hU hr)) (pv 3) pe_str (nomark _)) (pss_one (ps_ret (pe_callTy (kList K) (by rfl) BL (by decide +kernel) (pa_cons (pe_dget (hu_of hr) (pv 2) (pe_ix (kIx K) (pv 4) pe_int (fun _ _ => rfl)) (fun _ _ => rfl)) pa_nil)))) pss_nil) (pss_cons (ps_set (i := 5) sc_law_worked.nd rfl (by first | exact Or.inl rfl | exact Or.inr rfl) (pe_ix (kIx K) (pv 1) pe_int (fun _ _ => rfl))) (pss_cons (ps_if (pt_cmpR (kIn K) (pv 3) (pe_tup (pa_cons pe_str (pa_cons pe_str pa_nil))) (by rfl)) (pss_one (ps_ret (pe_ifExp (pt_cmpR (kEqG K (hU hr)) (pv 3) pe_str (nomark _)) (pe_revK K (pv 5)) (pe_callB cr_sortedI (by rfl) B.sorted (by decide +kernel) (pa_cons (pv 5) pa_nil))))) pss_nil) (pss_cons (ps_if (pt_cmpR (kIn K) (pv 3) (pe_tup (pa_cons pe_str (pa_cons pe_str pa_nil))) (by rfl)) (pss_one (ps_ret (pe_ifExp (pt_cmpR (kEqG K (hU hr)) (pv 3) pe_str (nomark _)) (pe_lst (pa_cons (pe_op modU (pe_callTy intU (by rfl) B.int (by decide +kernel) (pa_cons (pe_callB (kSum K rfl) (by rfl) BS (by decide +kernel) (pa_cons (pv 5) pa_nil)) pa_nil)) pe_int) pa_nil)) (pe_lst (pa_cons (pe_callB (cr_max rfl) (by rfl) B.max (by decide +kernel) (pa_cons (pv 5) pa_nil)) pa_nil))))) pss_nil) (pss_cons (ps_if (pt_cmpR (kIn K) (pv 3) (pe_tup (pa_cons pe_str (pa_cons pe_str (pa_cons pe_str pa_nil)))) (by rfl)) (pss_one (ps_ret (pe_ifExp (pt_cmpR (kEqG K (hU hr)) (pv 3) pe_str (nomark _)) (pe_slice (kSl K) (pv 5) (po_some (pe_ix (kIx K) (pv 4) pe_int (fun _ _ => rfl))) (po_some (pe_ix (kIx K) (pv 4) pe_int (fun _ _ => rfl)))) (pe_ifExp (pt_cmpR (kEqG K (hU hr)) (pv 3) pe_str (nomark _)) (pe_op (kMul K) (pv 5) (pe_ix (kIx K) (pv 4) pe_int (fun _ _ => rfl))) (pv 5))))) pss_nil) (pss_cons (ps_if (pt_cmpR (kEqG K (hU hr)) (pv 3) pe_str (nomark _)) (pss_cons (ps_set (i := 6) sc_law_worked.nd rfl (by first | exact Or.inl rfl | exact Or.inr rfl) (pe_lst pa_nil)) (pss_cons (ps_for PassesOwn.never rfl (pi_listK K (pv 1)) (pg_name (i := 7) sc_law_worked.nd rfl (by first | exact Or.inl rfl | exact Or.inr rfl)) (pss_one (ps_set (i := 6) sc_law_worked.nd rfl (by first | exact Or.inl rfl | exact Or.inr rfl) (pe_op (kAdd K) (pv 6) (pv 7))))) (pss_one (ps_ret (pv 6))))) pss_nil) (pss_cons (ps_set (i := 8) sc_law_worked.nd rfl (by first | exact Or.inl rfl | exact Or.inr rfl) (pe_ix (kIx K) (pv 1) pe_int (fun _ _ => rfl))) (pss_cons (ps_if (pt_cmpR (kIn K) (pv 3) (pe_tup (pa_cons pe_str (pa_cons pe_str (pa_cons pe_str pa_nil)))) (by rfl)) (pss_cons (ps_set (i := 9) sc_law_worked.nd rfl (by first | exact Or.inl rfl | exact Or.inr rfl) (HE.pe_zipL K rfl (by rfl) BL (by decide +kernel) (by rfl) B.zip (pa_cons (pv 5) (pa_cons (pv 8) pa_nil)))) (pss_one (ps_ret (pe_lc (own := [("x", 10), ("y", 11)]) (g := _) (tt := tYes) rfl sc_law_worked.nd (pi_listK K (pv 9)) (blkOk_by (own := [("x", 10), ("y", 11)]) (N := ["joint", "rows", "handed", "op", "told", "a", "found", "row", "b", "pairs", "x", "y", "i", "j"]) (sc := defScope s_law_worked) (by decide +kernel)) (fun _ _ _ _ _ => (pg_tupK (n := 2) K rfl (pgs_cons (pg_name (i := 10) sc_law_worked.nd rfl (by first | exact Or.inl rfl | exact Or.inr rfl)) (pgs_cons (pg_name (i := 11) sc_law_worked.nd rfl (by first | exact Or.inl rfl | exact Or.inr rfl)) pgs_nil)))) (fun _ _ _ _ _ => pts_nil) (fun _ _ _ _ _ => (pe_op modU (pe_callTy intU (by rfl) B.int (by decide +kernel) (pa_cons (pe_ifExp (pt_cmpR (kEqG K (hU hr)) (pv 3) pe_str (nomark _)) (pe_op (kAdd K) (pv 10) (pv 11)) (pe_ifExp (pt_cmpR (kEqG K (hU hr)) (pv 3) pe_str (nomark _)) (pe_op subU (pv 10) (pv 11)) (pe_op (kMul K) (pv 10) (pv 11)))) pa_nil)) pe_int)))))) pss_nil) (pss_cons (ps_if (pt_cmpR (kEqG K (hU hr)) (pv 3) pe_str (nomark _)) (pss_one (ps_ret (pe_lst (pa_cons (pe_op modU (pe_callTy intU (by rfl) B.int (by decide +kernel) (pa_cons (pe_callB (kSum K rfl) (by rfl) BS (by decide +kernel) (pa_cons (pe_lc (own := [("x", 10), ("y", 11)]) (g := _) (tt := tYes) rfl sc_law_worked.nd (pi_zipK K (by rfl) B.zip (pa_cons (pv 5) (pa_cons (pv 8) pa_nil))) (blkOk_by (own := [("x", 10), ("y", 11)]) (N := ["joint", "rows", "handed", "op", "told", "a", "found", "row", "b", "pairs", "x", "y", "i", "j"]) (sc := defScope s_law_worked) (by decide +kernel)) (fun _ _ _ _ _ => (pg_tupK (n := 2) K rfl (pgs_cons (pg_name (i := 10) sc_law_worked.nd rfl (by first | exact Or.inl rfl | exact Or.inr rfl)) (pgs_cons (pg_name (i := 11) sc_law_worked.nd rfl (by first | exact Or.inl rfl | exact Or.inr rfl)) pgs_nil)))) (fun _ _ _ _ _ => pts_nil) (fun _ _ _ _ _ => (pe_op (kMul K) (pv 10) (pv 11)))) pa_nil)) pa_nil)) pe_int) pa_nil)))) pss_nil) (pss_cons (ps_if (pt_cmpR (kEqG K (hU hr)) (pv 3) pe_str (nomark _)) (pss_cons (ps_set (i := 6) sc_law_worked.nd rfl (by first | exact Or.inl rfl | exact Or.inr rfl) (pe_lst pa_nil)) (pss_cons (ps_for PassesOwn.never rfl (pi_listK K (pv 5)) (pg_name (i := 10) sc_law_worked.nd rfl (by first | exact Or.inl rfl | exact Or.inr rfl)) (pss_one (ps_set (i := 6) sc_law_worked.nd rfl (by first | exact Or.inl rfl | exact Or.inr rfl) (pe_op (kAdd K) (pv 6) (pe_lc (own := [("y", 11)]) (g := gName 11) (tt := tYes) rfl sc_law_worked.nd (pi_listK K (pv 8)) (blkOk_by (own := [("y", 11)]) (N := ["joint", "rows", "handed", "op", "told", "a", "found", "row", "b", "pairs", "x", "y", "i", "j"]) (sc := defScope s_law_worked) (by decide +kernel)) (fun _ _ _ _ _ => (pg_name (i := 11) sc_law_worked.nd rfl (by first | exact Or.inl rfl | exact Or.inr rfl))) (fun _ _ _ _ _ => pts_nil) (fun _ _ _ _ _ => (pe_op modU (pe_callTy intU (by rfl) B.int (by decide +kernel) (pa_cons (pe_op (kMul K) (pv 10) (pv 11)) pa_nil)) pe_int))))))) (pss_one (ps_ret (pv 6))))) pss_nil) (pss_cons (ps_set (i := 6) sc_law_worked.nd rfl (by first | exact Or.inl rfl | exact Or.inr rfl) (pe_op (kMul K) (pe_lst (pa_cons pe_int pa_nil)) (pe_op subU (pe_op (kAdd K) (pe_callB (kLen K) (by rfl) B.len (by decide +kernel) (pa_cons (pv 5) pa_nil)) (pe_callB (kLen K) (by rfl) B.len (by decide +kernel) (pa_cons (pv 8) pa_nil))) pe_int))) (pss_cons (ps_for PassesOwn.never rfl (pi_range1 (by rfl) B.range (pa_cons (pe_callB (kLen K) (by rfl) B.len (by decide +kernel) (pa_cons (pv 5) pa_nil)) pa_nil)) (pg_name (i := 12) sc_law_worked.nd rfl (by first | exact Or.inl rfl | exact Or.inr rfl)) (pss_one (ps_for PassesOwn.never rfl (pi_range1 (by rfl) B.range (pa_cons (pe_callB (kLen K) (by rfl) B.len (by decide +kernel) (pa_cons (pv 8) pa_nil)) pa_nil)) (pg_name (i := 13) sc_law_worked.nd rfl (by first | exact Or.inl rfl | exact Or.inr rfl)) (pss_one (ps_asg (pe_op modU (pe_callTy intU (by rfl) B.int (by decide +kernel) (pa_cons (pe_op (kAdd K) (pe_ix (kIx K) (pv 6) (pe_op (kAdd K) (pv 12) (pv 13)) (fun _ _ => rfl)) (pe_op (kMul K) (pe_ix (kIx K) (pv 5) (pv 12) (fun _ _ => rfl)) (pe_ix (kIx K) (pv 8) (pv 13) (fun _ _ => rfl)))) pa_nil)) pe_int) (pg_sub (pv 6) (pe_op (kAdd K) (pv 12) (pv 13)) set_list)))))) (pss_one (ps_ret (pv 6))))))))))))))))), ?_⟩
  refine st0 [some (.ref pj), some (.ref b), some (.ref g), none, none, none, none, none, none, none, none, none, none, none] rfl ?_
  walk_at "go"
  refine u_ixT hsj rfl ?_
  walk_at "go"
  refine u_ixT hsj rfl ?_
  walk_at "go"
  refine ⟨lk rfl, fun p0 hp0 => ?_⟩
  have sA := same_new hp0 (.tup [V.str op, .ref t])
  have hT := Ext.of_same (K := K) sA _ _ hT
  have hTd := hTd.mono (Ext.of_same (K := K) sA) _ _
  have hL := Same.seq sA hL
  have hW := hW.same sA
  have hg := sA _ _ hg
  have hin : op = "in" → ∃ u, valV kvs (Sum.inr (nameD td)) = some u ∧ Rw K (upd H p0 (.tup [V.str op, .ref t])) u (hd (nameD td)) := fun e => by
    obtain ⟨u, h1, h2⟩ := hin e
    exact ⟨u, h1, h2.mono (Ext.of_same sA)⟩
  have q : ∀ (H' : Hp) (q : Addr), Same (upd H p0 (.tup [V.str op, .ref t])) H' → H' q = some (.lst ((valO hd op td rs).map V.int)) → Q (.ref q) H' := fun H' q' s => q H' q' (sA.trans s)
  walk_at "go"
  generalize upd H p0 (.tup [V.str op, .ref t]) = H0 at *
  refine rd_split (fun c => ?_) (fun c => ?_)
  · subst c
    walk_at "go"
    obtain ⟨ns, rfl, _⟩ := told_row hf.1
    refine u_list1 hT fun l hl => q _ l (same_new hl _) ?_
    unfold valO
    rw [upd_same, if_pos rfl, map_intD, rps_ints hTd]
  walk_at "go"
  refine rd_split (fun c2 => ?_) (fun c2 => ?_)
  · subst c2
    obtain ⟨u, hu, qh, rfl, hw⟩ := hin rfl
    obtain ⟨z, k, rfl, k1, k2⟩ := told_in hf.1
    obtain ⟨x, y, d', e, rfl, ed, r1, r2⟩ := hTd.pair (by rw [hTd.length] <;> rfl)
    cases ed
    cases r1
    cases r2
    walk_at "go"
    refine u_ixT hT rfl ?_
    refine u_dgetS hg hu ?_
    walk_at "go"
    refine u_list1 hw fun l hl => q _ l (same_new hl _) ?_
    unfold valO
    rw [upd_same, if_neg c, if_pos rfl]
  walk_at "go"
  obtain ⟨f, p, kk⟩ := rk_ok (rs := rs) hf.1 (by rw [hlen]; exact hf.2) c c2 hb fun r hr => ⟨(hk r hr).1, (hk r hr).2.1⟩
  have ev : valO hd op td rs = rk op td rs := by
    unfold valO
    rw [if_neg c, if_neg c2]
  rw [ev] at q
  have hz := op14 hf.1 c c2
  have s0 := Same.refl H0
  obtain ⟨r0, rest, er⟩ : ∃ r0 rest, rs = r0 :: rest := by
    match rs, parts_many hf.2 c c2, hlen with
    | r0 :: rest, _, _ => exact ⟨r0, rest, rfl⟩
    | [], h, e =>
      rw [← e] at h
      exact absurd h (by decide)
  obtain ⟨qa0, eqa, ha0⟩ := hW.get 0 r0 (by rw [er] <;> rfl)
  have la0 := hk r0 (by rw [er]; exact List.mem_cons_self)
  refine u_ixL hL (atI_nat (j := 0) eqa) ?_
  walk_at "go"
  refine ⟨lk rfl, fun pm1 hpm1 => ?_⟩
  have s1 := Same.new (o := .tup [V.str (Str.ofString "rev"), V.str (Str.ofString "sort")]) s0 hpm1
  have m1 : inV (.str op) ([Str.ofString "rev", Str.ofString "sort"].map V.str) = decide (op ∈ ([Str.ofString "rev", Str.ofString "sort"] : List Str)) := inV_str op _
  walk_at "go"
  refine u_inT (xs := [Str.ofString "rev", Str.ofString "sort"].map V.str) (SqT.of upd_same) rfl (flat_strs _) ?_
  rw [m1]
  walk_at "go"
  generalize upd H0 pm1 (.tup [V.str (Str.ofString "rev"), V.str (Str.ofString "sort")]) = H1 at *
  have ha1 := s1 _ _ ha0
  refine rd_split (fun d => ?_) (fun d => ?_)
  · walk_at "go"
    refine rd_split (fun d1 => ?_) (fun d1 => ?_)
    · subst d1
      obtain ⟨⟨r, rfl⟩, er2⟩ := rk_pre (F := fRev) (Pq := p1) rfl kk
      obtain ⟨rfl, rfl⟩ := List.cons.inj er
      rw [er2] at q
      walk_at "go"
      exact rd_revL (SqL.of ha1) fun l hl => q _ l (Same.new s1 hl) (by rw [upd_same]; exact congrArg (fun z => some (HO.lst z)) (List.map_reverse).symm)
    · have d2 : op = "sort" := by
        rcases List.mem_cons.mp d with e | e
        · exact absurd e d1
        · exact List.mem_singleton.mp e
      subst d2
      obtain ⟨⟨r, rfl⟩, er2⟩ := rk_pre (F := fSort) (Pq := p1) rfl kk
      obtain ⟨rfl, rfl⟩ := List.cons.inj er
      rw [er2] at q
      walk_at "go"
      refine ⟨qa0, _, rfl, SqL.of ha1, fun ns' l hp1 hp2 hl => q _ l (Same.new s1 hl) ?_⟩
      rw [upd_same, sortI_of hp1 hp2] <;> rfl
  walk_at "go"
  refine ⟨lk rfl, fun pm2 hpm2 => ?_⟩
  have s2 := Same.new (o := .tup [V.str (Str.ofString "sum"), V.str (Str.ofString "top")]) s1 hpm2
  have m2 : inV (.str op) ([Str.ofString "sum", Str.ofString "top"].map V.str) = decide (op ∈ ([Str.ofString "sum", Str.ofString "top"] : List Str)) := inV_str op _
  walk_at "go"
  refine u_inT (xs := [Str.ofString "sum", Str.ofString "top"].map V.str) (SqT.of upd_same) rfl (flat_strs _) ?_
  rw [m2]
  walk_at "go"
  generalize upd H1 pm2 (.tup [V.str (Str.ofString "sum"), V.str (Str.ofString "top")]) = H2 at *
  have ha2 := s2 _ _ ha0
  refine rd_split (fun e => ?_) (fun e => ?_)
  · walk_at "go"
    refine rd_split (fun d1 => ?_) (fun d1 => ?_)
    · subst d1
      obtain ⟨⟨r, rfl⟩, er2⟩ := rk_pre (F := fSum) (Pq := p1) rfl kk
      obtain ⟨rfl, rfl⟩ := List.cons.inj er
      rw [er2] at q
      walk_at "go"
      refine u_sum (SqL.of ha2) ?_
      walk_at "go"
      exact ⟨lk rfl, fun l hl => q _ l (Same.new s2 hl) upd_same⟩
    · have d2 : op = "top" := by
        rcases List.mem_cons.mp e with e | e
        · exact absurd e d1
        · exact List.mem_singleton.mp e
      subst d2
      obtain ⟨⟨r, rfl⟩, er2⟩ := rk_pre (F := fTop) (Pq := p1) rfl kk
      obtain ⟨rfl, rfl⟩ := List.cons.inj er
      rw [er2] at q
      walk_at "go"
      refine u_maxL (SqL.of ha2) la0.2.1 fun m hm hm2 => ?_
      walk_at "go"
      refine ⟨lk rfl, fun l hl => q _ l (Same.new s2 hl) ?_⟩
      rw [upd_same, topI_of hm hm2] <;> rfl
  walk_at "go"
  refine ⟨lk rfl, fun pm3 hpm3 => ?_⟩
  have s3 := Same.new (o := .tup [V.str (Str.ofString "part"), V.str (Str.ofString "rep"), V.str (Str.ofString "hold")]) s2 hpm3
  have m3 : inV (.str op) ([Str.ofString "part", Str.ofString "rep", Str.ofString "hold"].map V.str) = decide (op ∈ ([Str.ofString "part", Str.ofString "rep", Str.ofString "hold"] : List Str)) := inV_str op _
  walk_at "go"
  refine u_inT (xs := [Str.ofString "part", Str.ofString "rep", Str.ofString "hold"].map V.str) (SqT.of upd_same) rfl (flat_strs _) ?_
  rw [m3]
  walk_at "go"
  generalize upd H2 pm3 (.tup [V.str (Str.ofString "part"), V.str (Str.ofString "rep"), V.str (Str.ofString "hold")]) = H3 at *
  have ha3 := s3 _ _ ha0
  have hT3 := Ext.of_same (K := K) s3 _ _ hT
  refine rd_split (fun e3 => ?_) (fun e3 => ?_)
  · walk_at "go"
    refine rd_split (fun d1 => ?_) (fun d1 => ?_)
    · subst d1
      obtain ⟨⟨r, i, k, rfl, rfl, h1, h2⟩, er2⟩ := rk_pre (F := fPart) (Pq := pPart) rfl kk
      obtain ⟨rfl, rfl⟩ := List.cons.inj er
      rw [er2] at q
      cases hTd with
      | cons r1 r2 =>
        cases r2 with
        | cons r3 r4 =>
          cases r4
          cases r3
          cases r1
          walk_at "go"
          refine u_ixT hT3 rfl ?_
          walk_at "go"
          refine u_ixT hT3 rfl ?_
          walk_at "go"
          refine u_slL (SqL.of ha3) fun l hl => q _ l (Same.new s3 hl) ?_
          rw [upd_same, cut_mid _ i k (by rw [List.length_map]; omega) (by rw [List.length_map]; exact h2), ← List.map_drop, ← List.map_take] <;> rfl
    walk_at "go"
    refine rd_split (fun d3 => ?_) (fun d3 => ?_)
    · subst d3
      obtain ⟨⟨rr, k, rfl, rfl, h1, h2⟩, er2⟩ := rk_pre (F := fRep) (Pq := pRep) rfl kk
      obtain ⟨rfl, rfl⟩ := List.cons.inj er
      rw [er2] at q
      cases hTd with
      | cons r1 r2 =>
        cases r2
        cases r1
        walk_at "go"
        refine u_ixT hT3 rfl ?_
        walk_at "go"
        refine .inr (.inl ⟨qa0, k, _, rfl, rfl, ha3, by omega, by omega, ?_, fun l hl => q _ l (Same.new s3 hl) ?_⟩)
        · rw [List.length_map]
          exact Nat.le_trans (Nat.mul_le_mul la0.2.2 (show ((k : Nat) : Int).toNat ≤ 16 by omega)) (by decide)
        · rw [upd_same]
          show _ = some (HO.lst (((List.replicate ((k : Nat) : Int).toNat rr).flatten).map V.int))
          rw [List.map_flatten, List.map_replicate]
    · have d2 : op = "hold" := by
        rcases List.mem_cons.mp e3 with e | e
        · exact absurd e d1
        · rcases List.mem_cons.mp e with e | e
          · exact absurd e d3
          · exact List.mem_singleton.mp e
      subst d2
      obtain ⟨⟨r, rfl⟩, er2⟩ := rk_pre (F := fHold) (Pq := p1) rfl kk
      obtain ⟨rfl, rfl⟩ := List.cons.inj er
      rw [er2] at q
      walk_at "go"
      exact q _ qa0 s3 ha3
  walk_at "go"
  refine rd_split (fun d4 => ?_) (fun d4 => ?_)
  · subst d4
    obtain ⟨hp4, er2⟩ := rk_pre (F := fCat) (Pq := pn) rfl kk
    rw [er2] at q
    walk_at "go"
    refine ⟨lk rfl, fun pf hpf => ?_⟩
    have s4 := Same.new (o := .lst []) s3 hpf
    have f4 : upd H3 pf (.lst []) pf = some (.lst []) := upd_same
    generalize upd H3 pf (.lst []) = H4 at *
    have hL4 := Same.seq s4 hL
    walk_at "go"
    refine forL (xs := rv) (fun i σ H' => ∃ (pf : Addr) (o7 : Option V), σ = [some (.ref pj), some (.ref b), some (.ref g), some (.str "cat"), some (.ref t), some (.ref qa0), some (.ref pf), o7, none, none, none, none, none, none] ∧ Same H0 H' ∧ H' pf = some (.lst ((rs.take i).flatten.map V.int))) ⟨pf, _, rfl, s4, f4⟩ ?_ ?_ ?_
    · rintro i σ H' hi ⟨pf, o7, rfl, t1, t2⟩
      exact Same.seq t1 hL
    · rintro i x σ H' hx ⟨pf, o7, rfl, t1, t2⟩
      have il := lt_of_get hx
      rw [hW.len] at il
      have eri : rs[i]? = some rs[i] := List.getElem?_eq_getElem il
      obtain ⟨qi, e1, e2⟩ := hW.get i _ eri
      rw [hx, Option.some.injEq] at e1
      subst e1
      have rl := (hk rs[i] (List.getElem_mem il)).2.2
      have tl := okrs_len (okrs_take hk i)
      rw [List.length_take] at tl
      have hp4 : rs.length ≤ 4 := hp4
      walk_at "go"
      refine u_addL t2 (t1 _ _ e2) ?_ fun l hl => ?_
      · rw [List.length_map, List.length_map]
        exact ll (by omega)
      · exact ⟨l, _, rfl, Same.new t1 hl, by rw [upd_same, flat_take rs i eri, List.map_append]⟩
    · rintro σ H' ⟨pf, o7, rfl, t1, t2⟩
      rw [hW.len, List.take_length] at t2
      walk_at "go"
      exact q _ pf t1 t2
  walk_at "go"
  have hz2 : ∃ r t, rs = [r, t] := two_row (parts_two (by rw [hlen]; exact hf.2) (by
    have k : ∀ y ∈ acts14, y ∉ ([Str.ofString "rev", Str.ofString "sort"] : List Str) → y ∉ ([Str.ofString "sum", Str.ofString "top"] : List Str) → y ∉ ([Str.ofString "part", Str.ofString "rep", Str.ofString "hold"] : List Str) → y ≠ "cat" → y ∈ op2 := by decide +kernel
    exact k op hz d e e3 d4))
  obtain ⟨ra, rb, rfl⟩ := hz2
  obtain ⟨rfl, rfl⟩ := List.cons.inj er
  obtain ⟨qa1, qb0, rfl, hqa, hqb⟩ := hW.two
  have eqa' : qa1 = qa0 := by
    have : V.ref qa1 = V.ref qa0 := by simpa using eqa
    exact V.ref.inj this
  subst eqa'
  obtain ⟨kr, kr1, kr2⟩ := la0
  obtain ⟨kt, kt1, kt2⟩ := hk rb (by simp)
  have hL3 := Same.seq s3 hL
  refine u_ixL hL3 (atI_nat (j := 1) rfl) ?_
  walk_at "go"
  refine ⟨lk rfl, fun pm4 hpm4 => ?_⟩
  have s4 := Same.new (o := .tup [V.str (Str.ofString "add"), V.str (Str.ofString "sub"), V.str (Str.ofString "mul")]) s3 hpm4
  have m4 : inV (.str op) ([Str.ofString "add", Str.ofString "sub", Str.ofString "mul"].map V.str) = decide (op ∈ ([Str.ofString "add", Str.ofString "sub", Str.ofString "mul"] : List Str)) := inV_str op _
  walk_at "go"
  refine u_inT (xs := [Str.ofString "add", Str.ofString "sub", Str.ofString "mul"].map V.str) (SqT.of upd_same) rfl (flat_strs _) ?_
  rw [m4]
  walk_at "go"
  generalize upd H3 pm4 (.tup [V.str (Str.ofString "add"), V.str (Str.ofString "sub"), V.str (Str.ofString "mul")]) = H4 at *
  have ha4 := s4 _ _ hqa
  have hb4 := s4 _ _ hqb
  refine rd_split (fun e5 => ?_) (fun e5 => ?_)
  · have key : ∃ F : Int → Int → Int, rk op td [ra, rb] = zipI F ra rb ∧ ra.length = rb.length ∧ ∀ x y, F x y = (if op = "add" then x + y else if op = "sub" then x - y else x * y) % 1000003 := by
      rcases List.mem_cons.mp e5 with e | e
      · subst e
        obtain ⟨⟨r, t, e1, e2⟩, er2⟩ := rk_pre (F := fAdd) (Pq := p2e) rfl kk
        have h1 := (List.cons.inj e1).1
        have h2 := (List.cons.inj (List.cons.inj e1).2).1
        exact ⟨_, er2, by rw [h1, h2]; exact e2, fun x y => rfl⟩
      rcases List.mem_cons.mp e with e | e
      · subst e
        obtain ⟨⟨r, t, e1, e2⟩, er2⟩ := rk_pre (F := fSub) (Pq := p2e) rfl kk
        have h1 := (List.cons.inj e1).1
        have h2 := (List.cons.inj (List.cons.inj e1).2).1
        exact ⟨_, er2, by rw [h1, h2]; exact e2, fun x y => rfl⟩
      · have e := List.mem_singleton.mp e
        subst e
        obtain ⟨⟨r, t, e1, e2⟩, er2⟩ := rk_pre (F := fMul) (Pq := p2e) rfl kk
        have h1 := (List.cons.inj e1).1
        have h2 := (List.cons.inj (List.cons.inj e1).2).1
        exact ⟨_, er2, by rw [h1, h2]; exact e2, fun x y => rfl⟩
    obtain ⟨F, er2, hrt, hF⟩ := key
    rw [er2] at q
    walk_at "go"
    refine rd_zipLs ?_
    walk_at "go"
    refine ⟨qa1, qb0, _, _, rfl, SqL.of ha4, SqL.of hb4, fun H5 pz ts f1 f2 f3 f4 f5 => ?_⟩
    have s5 : Same H0 H5 := s4.trans f1
    rw [List.length_map, List.length_map, ← hrt, Nat.min_self] at f4
    walk_at "go"
    intro D hD
    have hD0 : H0 D = none := by
      cases hh : H0 D with
      | none => rfl
      | some o => rw [s5 _ _ hh] at hD; cases hD
    refine lc_list (xs := ts.map V.ref) (fun i H' => H' D = some (.lst (((zipI F ra rb).take i).map V.int)) ∧ Same H5 H') ⟨upd_same, same_new hD _⟩ ?_ ?_ ?_
    · rintro i H' hi ⟨g1, g2⟩
      exact Same.seq g2 (SqL.of f3)
    · rintro i x H' hx ⟨g1, g2⟩
      rw [List.getElem?_map, Option.map_eq_some_iff] at hx
      obtain ⟨T, hT', rfl⟩ := hx
      obtain ⟨xv, yv, exv, eyv, eT⟩ := f5 i T hT'
      obtain ⟨x, ex, rfl, mx⟩ := get_i exv
      obtain ⟨y, ey, rfl, my⟩ := get_i eyv
      have kx := kr x mx
      have ky := kt y my
      unfold inR at kx ky
      have sT : SqT K H' T [.int x, .int y] := SqT.of (g2 _ _ eT)
      have fin : ∀ v : Int, v = F x y → ∃ acc, H' D = some (.lst acc) ∧ acc.length < sizeLine ∧ (upd H' D (.lst (acc ++ [V.int v])) D = some (.lst (((zipI F ra rb).take (i + 1)).map V.int)) ∧ Same H5 (upd H' D (.lst (acc ++ [V.int v])))) := fun v hv => by
        subst hv
        refine ⟨_, g1, ?_, ?_, Same.upd_new g2 hD⟩
        · rw [List.length_map, List.length_take, zipI_len hrt]
          exact le64 (by omega)
        · rw [upd_same, take_snocI (zipI_at (f := F) ex ey)]
      walk_at "go"
      refine ⟨rfl, ?_⟩
      walk_at "go"
      refine rd_split (fun u1 => ?_) (fun u1 => ?_)
      · walk_at "go"
        exact fin _ (by rw [hF, if_pos u1])
      walk_at "go"
      refine rd_split (fun u2 => ?_) (fun u2 => ?_)
      · walk_at "go"
        exact fin _ (by rw [hF, if_neg u1, if_pos u2])
      walk_at "go"
      exact fin _ (by rw [hF, if_neg u1, if_neg u2])
    · rintro H' ⟨g1, g2⟩
      rw [List.length_map, f4, ← zipI_len (f := F) hrt, List.take_length] at g1
      exact q _ D (s5.trans g2) g1
  walk_at "go"
  refine rd_split (fun d6 => ?_) (fun d6 => ?_)
  · subst d6
    obtain ⟨⟨r, t', e1, hrt⟩, er2⟩ := rk_pre (F := fDot) (Pq := p2e) rfl kk
    have h1 := (List.cons.inj e1).1
    have h2 := (List.cons.inj (List.cons.inj e1).2).1
    rw [← h1, ← h2] at hrt
    rw [er2] at q
    walk_at "go"
    refine u_zipL (SqL.of ha4) (SqL.of hb4) ?_
    intro D hD
    refine lc_zip (xs := ra.map V.int) (ys := rb.map V.int) (.inl rfl) (by rw [List.length_map, List.length_map, hrt]) (fun i H' => H' D = some (.lst (((zipI (fun x y => x * y) ra rb).take i).map V.int)) ∧ Same H4 H') ⟨upd_same, same_new hD _⟩ ?_ ?_ ?_
    · rintro i H' hi ⟨h1, h2⟩
      exact .inl ⟨rfl, SqL.of (h2 _ _ ha4), SqL.of (h2 _ _ hb4)⟩
    · rintro i x y T H' hx hy ⟨h1, h2⟩ hT'
      obtain ⟨x, ex, rfl, mx⟩ := get_i hx
      obtain ⟨y, ey, rfl, my⟩ := get_i hy
      have kx := kr x mx
      have ky := kt y my
      unfold inR at kx ky
      have nD : D ≠ T := ne_of_none h1 hT'
      walk_at "go"
      refine ⟨rfl, ?_⟩
      walk_at "go"
      refine ⟨_, by rw [upd_ne nD]; exact h1, ?_, ?_, Same.upd_new (Same.new h2 hT') hD⟩
      · rw [List.length_map, List.length_take, zipI_len hrt]
        exact le64 (by omega)
      · rw [upd_same, take_snocI (zipI_at (f := fun x y => x * y) ex ey)]
    · rintro H' ⟨h1, h2⟩
      rw [List.length_map, ← zipI_len (f := fun x y => x * y) hrt, List.take_length] at h1
      walk_at "go"
      refine u_sum (SqL.of h1) ?_
      walk_at "go"
      exact ⟨lk rfl, fun l hl => q _ l (Same.new (s4.trans h2) hl) upd_same⟩
  walk_at "go"
  refine rd_split (fun d7 => ?_) (fun d7 => ?_)
  · subst d7
    obtain ⟨_, er2⟩ := rk_pre (F := fOuter) (Pq := p2) rfl kk
    have er2 : rk "outer" td [ra, rb] = crossI ra rb := er2
    rw [er2] at q
    walk_at "go"
    refine ⟨lk rfl, fun pf hpf => ?_⟩
    have s5 := Same.new (o := .lst []) s4 hpf
    have f5 : upd H4 pf (.lst []) pf = some (.lst []) := upd_same
    generalize upd H4 pf (.lst []) = H5 at *
    have ha5 := s5 _ _ hqa
    walk_at "go"
    refine forL (xs := ra.map V.int) (fun i σ H' => ∃ (pf : Addr) (o10 o11 : Option V), σ = [some (.ref pj), some (.ref b), some (.ref g), some (.str "outer"), some (.ref t), some (.ref qa1), some (.ref pf), none, some (.ref qb0), none, o10, o11, none, none] ∧ Same H0 H' ∧ H' pf = some (.lst ((crossI (ra.take i) rb).map V.int))) ⟨pf, _, _, rfl, s5, f5⟩ ?_ ?_ ?_
    · rintro i σ H' hi ⟨pf, o10, o11, rfl, t1, t2⟩
      exact SqL.of (t1 _ _ hqa)
    · rintro i x σ H' hx ⟨pf, o10, o11, rfl, t1, t2⟩
      obtain ⟨x, ex, rfl, mx⟩ := get_i hx
      have kx := kr x mx
      unfold inR at kx
      have hb5 := t1 _ _ hqb
      have il := lt_of_get ex
      have tl : (crossI (ra.take i) rb).length ≤ 64 * 64 := by
        rw [crossI_len, List.length_take]
        exact Nat.mul_le_mul (by omega) kt2
      walk_at "go"
      intro D hD
      refine lc_list (xs := rb.map V.int) (fun k H2 => H2 D = some (.lst (((rb.take k).map fun y => x * y % 1000003).map V.int)) ∧ Same H' H2) ⟨upd_same, same_new hD _⟩ ?_ ?_ ?_
      · rintro k H2 hk2 ⟨g1, g2⟩
        exact SqL.of (g2 _ _ hb5)
      · rintro k y H2 hy ⟨g1, g2⟩
        obtain ⟨y, ey, rfl, my⟩ := get_i hy
        have ky := kt y my
        unfold inR at ky
        walk_at "go"
        refine ⟨rfl, ?_⟩
        walk_at "go"
        refine ⟨_, g1, ?_, ?_, Same.upd_new g2 hD⟩
        · rw [List.length_map, List.length_map, List.length_take]
          exact le64 (by omega)
        · rw [upd_same, List.take_add_one, ey, List.map_append (l₂ := (some y).toList), List.map_append (l₂ := (some y).toList.map _)] <;> rfl
      · rintro H2 ⟨g1, g2⟩
        rw [List.length_map, List.take_length] at g1
        walk_at "go"
        refine u_addL (g2 _ _ t2) g1 ?_ fun l hl => ?_
        · rw [List.length_map, List.length_map, List.length_map]
          exact ll (by omega)
        · refine ⟨l, _, _, rfl, Same.new (t1.trans g2) hl, ?_⟩
          rw [upd_same, cross_take ra rb i ex, List.map_append]
    · rintro σ H' ⟨pf, o10, o11, rfl, t1, t2⟩
      rw [List.length_map, List.take_length] at t2
      walk_at "go"
      exact q _ pf t1 t2
  have d8 : op = "blend" := by
    have k : ∀ y ∈ acts14, y ∉ ([Str.ofString "rev", Str.ofString "sort"] : List Str) → y ∉ ([Str.ofString "sum", Str.ofString "top"] : List Str) → y ∉ ([Str.ofString "part", Str.ofString "rep", Str.ofString "hold"] : List Str) → y ≠ "cat" → y ∉ ([Str.ofString "add", Str.ofString "sub", Str.ofString "mul"] : List Str) → y ≠ "dot" → y ≠ "outer" → y = "blend" := by decide +kernel
    exact k op hz d e e3 d4 e5 d6 d7
  subst d8
  obtain ⟨_, er2⟩ := rk_pre (F := fBlend) (Pq := p2) rfl kk
  have er2 : rk "blend" td [ra, rb] = blAll ra rb ra.length := er2
  rw [er2] at q
  walk_at "go"
  refine ⟨lk rfl, fun pz hpz => ?_⟩
  have ha4z := (same_new hpz (.lst [.int 0])) _ _ ha4
  have hb4z := (same_new hpz (.lst [.int 0])) _ _ hb4
  walk_at "go"
  rw [List.length_map, List.length_map]
  have en : ((ra.length : Int) + (rb.length : Int) - 1) = ((ra.length + rb.length - 1 : Nat) : Int) := by omega
  rw [en]
  refine u_rep1 upd_same (by omega) fun pf hpf => ?_
  have s5 : Same H0 (upd (upd H4 pz (.lst [.int 0])) pf (.lst (List.replicate (ra.length + rb.length - 1) (.int 0)))) := Same.new (Same.new s4 hpz) hpf
  have hf0 : H0 pf = none := by
    cases hh : H0 pf with
    | none => rfl
    | some o => rw [Same.new s4 hpz _ _ hh] at hpf; cases hpf
  have f5 : upd (upd H4 pz (.lst [.int 0])) pf (.lst (List.replicate (ra.length + rb.length - 1) (.int 0))) pf = some (.lst ((blAll ra rb 0).map V.int)) := by
    rw [upd_same]
    show _ = some (HO.lst ((List.replicate _ (0 : Int)).map V.int))
    rw [List.map_replicate]
  generalize upd (upd H4 pz (.lst [.int 0])) pf (.lst (List.replicate (ra.length + rb.length - 1) (.int 0))) = H5 at *
  have ha5 := s5 _ _ hqa
  walk_at "go"
  rw [List.length_map]
  refine ⟨_, rfl, by omega, by omega, ?_⟩
  rw [show ((ra.length : Nat) : Int).toNat = ra.length by omega]
  refine forR (lo := 0) (fun i σ H' => ∃ (o12 o13 : Option V), σ = [some (.ref pj), some (.ref b), some (.ref g), some (.str "blend"), some (.ref t), some (.ref qa1), some (.ref pf), none, some (.ref qb0), none, none, none, o12, o13] ∧ H' pf = some (.lst ((blAll ra rb i).map V.int)) ∧ Same H0 H') ⟨_, _, rfl, f5, s5⟩ ?_ ?_
  · rintro i σ H' hi ⟨o12, o13, rfl, h1, h2⟩
    have hb6 := h2 _ _ hqb
    have eA : blAll ra rb (i + 1) = blRow i (ra.getD i 0) rb (blAll ra rb i) rb.length := rfl
    have lA := blAll_len ra rb i
    have mx : ra.getD i 0 ∈ ra := by rw [List.getD_eq_getElem?_getD, List.getElem?_eq_getElem hi]; exact List.getElem_mem hi
    have kx := kr _ mx
    unfold inR at kx
    have eai : atI (ra.map V.int) ((i : Nat) : Int) = some (.int (ra.getD i 0)) := atI_getD hi
    generalize ra.getD i 0 = x at *
    generalize blAll ra rb i = acc at *
    rw [Int.zero_add]
    walk_at "go"
    rw [List.length_map]
    refine ⟨_, rfl, by omega, by omega, ?_⟩
    rw [show ((rb.length : Nat) : Int).toNat = rb.length by omega]
    refine forR (lo := 0) (fun j σ H' => ∃ (o13 : Option V), σ = [some (.ref pj), some (.ref b), some (.ref g), some (.str "blend"), some (.ref t), some (.ref qa1), some (.ref pf), none, some (.ref qb0), none, none, none, some (.int (i : Nat)), o13] ∧ H' pf = some (.lst ((blRow i x rb acc j).map V.int)) ∧ Same H0 H') ⟨_, rfl, h1, h2⟩ ?_ ?_
    · rintro j σ H' hj ⟨o13, rfl, g1, g2⟩
      have my : rb.getD j 0 ∈ rb := by rw [List.getD_eq_getElem?_getD, List.getElem?_eq_getElem hj]; exact List.getElem_mem hj
      have ky := kt _ my
      unfold inR at ky
      have lB := blRow_len i x rb acc j
      have eB : blRow i x rb acc (j + 1) = (blRow i x rb acc j).set (i + j) (((blRow i x rb acc j).getD (i + j) 0 + x * rb.getD j 0) % 1000003) := rfl
      have ebj : atI (rb.map V.int) ((j : Nat) : Int) = some (.int (rb.getD j 0)) := atI_getD hj
      generalize rb.getD j 0 = y at *
      generalize blRow i x rb acc j = bc at *
      have eij : (i : Int) + (j : Int) = ((i + j : Nat) : Int) := by omega
      rw [Int.zero_add]
      walk_at "go"
      rw [eij]
      refine u_ixL (SqL.of g1) (atI_getD (by omega)) ?_
      walk_at "go"
      refine u_ixL (SqL.of (g2 _ _ hqa)) eai ?_
      walk_at "go"
      refine u_ixL (SqL.of (g2 _ _ hqb)) ebj ?_
      walk_at "go"
      rw [eij]
      refine u_setL g1 (ix_pt (by rw [List.length_map]; omega)) ?_
      exact ⟨_, rfl, by rw [upd_same, set_map, eB], Same.upd_new g2 hf0⟩
    · rintro σ H' ⟨o13, rfl, g1, g2⟩
      rw [← eA] at g1
      exact ⟨_, _, rfl, g1, g2⟩
  · rintro σ H' ⟨o12, o13, rfl, h1, h2⟩
    walk_at "go"
    exact q _ pf h2 h1
end

/-! ### W1 -/
section
variable {P : Program} {w : World} {K : PySem.W.Frag} {mg : Str → Option Value} {base : Heap}
theorem u_dputS {H : Hp} {a : Addr} {v : V} {z : Str} {kvs : List (Key × V)} {R : Hp → Prop} (e : H a = some (.dK kvs)) (l : kvs.length < sizeLine) (h : R (upd H a (.dK (putK kvs (Sum.inr z) v)))) : ∃ a' H4, V.ref a = .ref a' ∧ DPut H a' (.str z) v H4 ∧ R H4 := ⟨a, _, rfl, DPut.k (k := Sum.inr z) e l, h⟩
/-- a dict of rows by names -/
structure Hds (K : PySem.W.Frag) (H : Hp) (kvs : List (Key × V)) (hs : List (Str × List Int)) : Prop where
  len : kvs.length = hs.length
  get : ∀ (i : Nat) p, hs[i]? = some p → ∃ u, kvs[i]? = some (Sum.inr p.1, u) ∧ Rw K H u p.2
theorem Hds.mono {H H' : Hp} {kvs : List (Key × V)} {hs : List (Str × List Int)} (h : Hds K H kvs hs) (e : Ext K H H') : Hds K H' kvs hs := ⟨h.len, fun i p hp => by
  obtain ⟨u, a, b⟩ := h.get i p hp
  exact ⟨u, a, b.mono e⟩⟩
theorem Hds.snoc {H : Hp} {kvs : List (Key × V)} {hs : List (Str × List Int)} {z : Str} {u : V} {ns : List Int} (h : Hds K H kvs hs) (w : Rw K H u ns) : Hds K H (kvs ++ [(Sum.inr z, u)]) (hs ++ [(z, ns)]) := ⟨by rw [List.length_append, List.length_append, h.len] <;> rfl, fun i p hp => by
  rcases Nat.lt_or_ge i hs.length with c | c
  · rw [List.getElem?_append_left c] at hp
    obtain ⟨u, a, b⟩ := h.get i p hp
    exact ⟨u, by rw [List.getElem?_append_left (by rw [h.len]; exact c)]; exact a, b⟩
  · have il := lt_of_get hp
    rw [List.length_append] at il
    have e : i = hs.length := by
      have : i < hs.length + 1 := il
      omega
    subst e
    rw [List.getElem?_append_right c, Nat.sub_self] at hp
    obtain rfl := Option.some.inj hp
    exact ⟨u, by rw [List.getElem?_append_right (by rw [h.len]; exact Nat.le_refl _), h.len, Nat.sub_self] <;> rfl, w⟩⟩
theorem Hds.keys {H : Hp} : ∀ {kvs : List (Key × V)} {hs : List (Str × List Int)}, Hds K H kvs hs → kvs.map (·.1) = hs.map fun p => (Sum.inr p.1 : Key)
  | kvs, hs, h => by
    apply List.ext_getElem?
    intro i
    rw [List.getElem?_map, List.getElem?_map]
    cases c : hs[i]? with
    | none =>
      rw [List.getElem?_eq_none_iff] at c
      rw [List.getElem?_eq_none (by rw [h.len]; exact c)] <;> rfl
    | some p =>
      obtain ⟨u, a, _⟩ := h.get i p c
      rw [a] <;> rfl
theorem valV_none {kvs : List (Key × V)} {k : Key} : valV kvs k = none ↔ k ∉ kvs.map (·.1) := by
  unfold valV
  rw [Option.map_eq_none_iff, List.find?_eq_none]
  constructor
  · intro h m
    obtain ⟨p, hp, e⟩ := List.mem_map.mp m
    exact absurd (decide_eq_true e) (h p hp)
  · intro h p hp y
    exact h (List.mem_map.mpr ⟨p, hp, of_decide_eq_true y⟩)
theorem Hds.none {H : Hp} {kvs : List (Key × V)} {hs : List (Str × List Int)} (h : Hds K H kvs hs) (z : Str) : valV kvs (Sum.inr z) = none ↔ z ∉ hs.map Prod.fst := by
  rw [valV_none, h.keys]
  constructor
  · intro a m
    obtain ⟨p, hp, e⟩ := List.mem_map.mp m
    exact a (List.mem_map.mpr ⟨p, hp, by rw [e]⟩)
  · intro a m
    obtain ⟨p, hp, e⟩ := List.mem_map.mp m
    exact a (List.mem_map.mpr ⟨p, hp, Sum.inr.inj e⟩)
/-- the rows of the names of a program -/
def HsOf (hs : List (Str × List Int)) (acc : List (Str × Int)) : Prop := (hs.map fun p => (p.1, (p.2.length : Int))) = acc ∧ ∀ p ∈ hs, Inr p.2
theorem HsOf.fst {hs : List (Str × List Int)} {acc : List (Str × Int)} (h : HsOf hs acc) : hs.map Prod.fst = acc.map Prod.fst := by
  rw [← h.1, List.map_map] <;> rfl
def spHd (K : PySem.W.Frag) : Sp := fun vs H Q _ => ∃ (a : Addr) (v : V) (j : Jn), vs = [.ref a, v] ∧ Src H a ∧ Rp K H v j.py ∧ Fx j ∧ j.cnt ≤ 40 ∧ ∀ (H' : Hp) (g : Addr) (kvs : List (Key × V)) (hs : List (Str × List Int)), SB a H H' → Src H' a → g ≠ a → H' g = some (.dK kvs) → Hds K H' kvs hs → HsOf hs (nmsOf j.all) → Q (.ref g) H'
abbrev s_law_handed : Stmt := top 83
theorem sc_law_handed : FnScope ["source", "program", "handed", "op", "told", "parts", "turn"] ["source", "program"] (defScope s_law_handed) := ⟨rfl, rfl, rfl, by decide +kernel, rfl, by decide +kernel, by decide +kernel⟩
theorem has_law_handed (O : OwnF K mg "_law_handed" s_law_handed) (B : Bl mg) (h_law_joints : HasF P w K mg base CX0 1 "_law_joints" ["program"] (spLj K)) (h_law_figure : HasF P w K mg base CX0 3 "_law_figure" ["source"] spFig) : HasF P w K mg base CX0 4 "_law_handed" ["source", "program"] (spHd K) := by
  refine has0 O sc_law_handed (fun _ _ _ _ _ _ us hl => match us, hl with | [_, _], _ => rfl) (fun vs H Q E h => ?_) (fun f cdv A outer s_ H vs Q E hr h => ?_)
  · obtain ⟨a, v, j, rfl, _⟩ := h
    rfl
  obtain ⟨a, v, j, rfl, hS, r, hj, h40, q⟩ := h
  refine ⟨_, (pss_cons (ps_set (i := 2) sc_law_handed.nd rfl (by first | exact Or.inl rfl | exact Or.inr rfl) pe_dnewK) (pss_cons (ps_for PassesOwn.never rfl (pi_listK K (pe_callH h_law_joints (hr.mono (by first | decide | omega)) (by rfl) pass0 (pa_cons (pv 1) pa_nil))) (pg_tupK (n := 3) K rfl (pgs_cons (pg_name (i := 3) sc_law_handed.nd rfl (by first | exact Or.inl rfl | exact Or.inr rfl)) (pgs_cons (pg_name (i := 4) sc_law_handed.nd rfl (by first | exact Or.inl rfl | exact Or.inr rfl)) (pgs_cons (pg_name (i := 5) sc_law_handed.nd rfl (by first | exact Or.inl rfl | exact Or.inr rfl)) pgs_nil)))) (pss_one (ps_if (PW.pt (pw_and (pt_cmpR (kEqG K (hU hr)) (pv 3) pe_str (nomark _)) (pw_and1 (pt_cmp (pc_dnotin (hu_of hr) (pe_ix (kIx K) (pv 4) pe_int (fun _ _ => rfl)) (pv 2)))))) (pss_one (ps_dput (hu_of hr) (pv 2) (pe_ix (kIx K) (pv 4) pe_int (fun _ _ => rfl)) (pe_callTy (kTup K) (by rfl) B.tuple (by decide +kernel) (pa_cons (pe_lc (own := [("turn", 6)]) (g := gName 6) (tt := tYes) rfl sc_law_handed.nd (pi_range1 (by rfl) B.range (pa_cons (pe_ix (kIx K) (pv 4) pe_int (fun _ _ => rfl)) pa_nil)) (blkOk_by (own := [("turn", 6)]) (N := ["source", "program", "handed", "op", "told", "parts", "turn"]) (sc := defScope s_law_handed) (by decide +kernel)) (fun _ _ _ _ _ => (pg_name (i := 6) sc_law_handed.nd rfl (by first | exact Or.inl rfl | exact Or.inr rfl))) (fun _ _ _ _ _ => pts_nil) (fun _ _ _ _ _ => (pe_callH h_law_figure (hr.mono (by first | decide | omega)) (by rfl) pass0 (pa_cons (pv 0) pa_nil)))) pa_nil)) rfl)) pss_nil))) (pss_one (ps_ret (pv 2))))), ?_⟩
  refine st0 [some (.ref a), some v, none, none, none, none, none] rfl ?_
  walk_at "go"
  intro g hg
  have ng := hS.ne hg
  walk_at "go"
  refine use_lj (r.mono (Ext.new (o := .dK []) hg) _ _) hj.ok h40 fun H1 b ws s1 hb0 hb hR => ?_
  have s01 : Same H H1 := (same_new hg _).trans s1
  have hS1 := hS.same s01
  have g1 : H1 g = some (.dK []) := s1 _ _ upd_same
  have nb : b ≠ a := fun e => by
    obtain ⟨b', t', e', _⟩ := (hS.same (same_new hg (.dK [])))
    rw [e, e'] at hb0
    cases hb0
  have ngb : g ≠ b := fun e => by rw [← e, upd_same] at hb0; cases hb0
  have lw : ws.length = j.all.length := by rw [hR.length, pys_length]
  have lc : j.all.length = j.cnt := all_cnt j
  have hfit := hj.fit
  generalize j.all = js at *
  walk_at "go"
  refine forL (xs := ws) (fun i σ H' => ∃ (o3 o4 o5 o6 : Option V) (kvs : List (Key × V)) (hs : List (Str × List Int)), σ = [some (.ref a), some v, some (.ref g), o3, o4, o5, o6] ∧ SB a H H' ∧ Src H' a ∧ H' g = some (.dK kvs) ∧ Hds K H' kvs hs ∧ HsOf hs (nmsOf (js.take i)) ∧ H' b = some (.lst ws) ∧ Rps K H' ws (Jn.pys js)) ⟨_, _, _, _, [], [], rfl, SB.of_same s01, hS1, g1, ⟨rfl, fun i p hp => by simp at hp⟩, ⟨rfl, fun p hp => nomatch hp⟩, hb, hR⟩ ?_ ?_ ?_
  · rintro i σ H' hi ⟨o3, o4, o5, o6, kvs, hs, rfl, t1, t2, t3, t4, t5, t6, t7⟩
    exact SqL.of t6
  · rintro i x σ H' hx ⟨o3, o4, o5, o6, kvs, hs, rfl, t1, t2, t3, t4, t5, t6, t7⟩
    obtain ⟨dd, hd, rd⟩ := t7.getV hx
    obtain ⟨y, hy, rfl⟩ : ∃ y, js[i]? = some y ∧ dd = y.py := by
      rw [pys_map, List.getElem?_map, Option.map_eq_some_iff] at hd
      obtain ⟨y, h1, h2⟩ := hd
      exact ⟨y, h1, h2.symm⟩
    have il := lt_of_get hy
    have gj := hfit y (List.mem_of_getElem? hy)
    have en := nmsOf_take hy
    have el := nmsOf_len js i
    obtain ⟨op, td, parts⟩ := y
    obtain ⟨pj, t, qa, tv, pv', rfl, hsj, hT, hTd, hq, hQ⟩ := rd.jn
    have hl : hs.length ≤ i := by
      have := congrArg List.length t5.1
      rw [List.length_map] at this
      omega
    walk_at "go"
    refine rd_split (fun c => ?_) (fun c => ?_)
    rotate_left
    · walk_at "go"
      rw [stepN_other c] at en
      exact ⟨_, _, _, _, kvs, hs, rfl, t1, t2, t3, t4, by rw [en]; exact t5, t6, t7⟩
    subst c
    obtain ⟨z, k, rfl, k1, k2⟩ := told_in gj.1
    rw [stepN_in] at en
    obtain ⟨xx, yy, d', e, rfl, ed, r1, r2⟩ := hTd.pair (by rw [hTd.length] <;> rfl)
    cases ed
    cases r1
    cases r2
    walk_at "go"
    refine rd_dnotin ?_
    walk_at "go"
    refine u_ixT hT rfl ?_
    walk_at "go"
    refine u_dinS t3 ?_
    walk_at "go"
    by_cases m : z ∈ hs.map Prod.fst
    · have hv : ∃ u, valV kvs (Sum.inr z) = some u := by
        cases e : valV kvs (Sum.inr z) with
        | none => exact absurd m ((t4.none z).mp e)
        | some u => exact ⟨u, rfl⟩
      obtain ⟨u, hu⟩ := hv
      rw [hu, Option.isSome_some, Bool.not_true]
      refine iteF ?_
      walk_at "go"
      have ea : addN (nmsOf (js.take i)) z k = nmsOf (js.take i) := by
        unfold addN
        rw [if_pos (by rw [← t5.fst]; exact m)]
      exact ⟨_, _, _, _, kvs, hs, rfl, t1, t2, t3, t4, by rw [en, ea]; exact t5, t6, t7⟩
    · have hu := (t4.none z).mpr m
      have ea : addN (nmsOf (js.take i)) z k = nmsOf (js.take i) ++ [(z, k)] := by
        unfold addN
        rw [if_neg (by rw [← t5.fst]; exact m)]
      rw [hu, Option.isSome_none, Bool.not_false]
      refine iteT ?_
      walk_at "go"
      refine u_ixT hT rfl ?_
      walk_at "go"
      intro D hD
      have nD := t2.ne hD
      have nDg : D ≠ g := fun e => by rw [e, t3] at hD; cases hD
      refine lc_range (lo := 0) (n := k.toNat) (fun i2 H2 => ∃ ns : List Int, H2 D = some (.lst (ns.map V.int)) ∧ ns.length = i2 ∧ Inr ns ∧ SB a H' H2 ∧ Src H2 a) ⟨[], upd_same, rfl, Inr.nil, SB.refl.new hD, t2.new hD⟩ ?_ ?_
      · rintro i2 H2 hi2 ⟨ns, g1, g2, g3, g4, g5⟩
        walk_at "go"
        refine ⟨rfl, ?_⟩
        walk_at "go"
        refine use_fig g5 fun H3 f s3 hS3 f0 f1 => ?_
        refine ⟨_, s3 _ _ nD g1, ?_, ns ++ [f], ?_, ?_, fun n hn => ?_, (g4.trans s3).upd_new hD, hS3.set nD⟩
        · rw [List.length_map, g2]; exact ls (by omega)
        · rw [upd_same, List.map_append] <;> rfl
        · rw [List.length_append, g2] <;> rfl
        · rcases List.mem_append.mp hn with h | h
          · exact g3 n h
          · rw [List.mem_singleton.mp h]
            exact ⟨f0, f1⟩
      · rintro H2 ⟨ns, g1, g2, g3, g4, g5⟩
        walk_at "go"
        refine u_tupL (SqL.of g1) fun l hl => ?_
        have ex4 := t2.ext (K := K) g4
        have c3 := g4 _ _ ng t3
        have c6 := g4 _ _ nb t6
        have hT2 := (Ext.new (K := K) (o := .tup (ns.map V.int)) hl) _ _ (ex4 _ _ hT)
        have hl0 : g ≠ l := fun e => by rw [← e, c3] at hl; cases hl
        walk_at "go"
        refine u_ixT hT2 rfl ?_
        refine u_dputS (by rw [upd_ne hl0]; exact c3) ?_ ?_
        · rw [t4.len]; exact ls (by omega)
        have ex5 : Ext K H2 (upd H2 l (.tup (ns.map V.int))) := Ext.new hl
        have c3' : (upd H2 l (.tup (ns.map V.int))) g = some (.dK kvs) := by
          rw [upd_ne hl0]
          exact c3
        have exg : Ext K (upd H2 l (.tup (ns.map V.int))) (upd (upd H2 l (.tup (ns.map V.int))) g (.dK (putK kvs (Sum.inr z) (.ref l)))) := Ext.set c3' trivial
        have hlb : b ≠ l := fun e => by rw [← e, c6] at hl; cases hl
        refine ⟨_, _, _, _, _, hs ++ [(z, ns)], rfl, ((t1.trans g4).new hl).upd_new hg, (g5.new hl).set ng, upd_same, ?_, ?_, ?_, ?_⟩
        · have exg' := exg
          rw [putK_new hu] at exg' ⊢
          exact (((t4.mono ex4).mono ex5).mono exg').snoc ⟨l, rfl, exg' _ _ (SqT.of upd_same)⟩
        · rw [en, ea]
          refine ⟨?_, fun p hp => ?_⟩
          · rw [List.map_append, t5.1]
            show _ ++ [(z, ((ns.length : Nat) : Int))] = _
            rw [g2, show ((k.toNat : Nat) : Int) = k by omega]
          · rcases List.mem_append.mp hp with h | h
            · exact t5.2 p h
            · rw [List.mem_singleton.mp h]
              exact g3
        · rw [upd_ne ngb.symm, upd_ne hlb]
          exact c6
        · exact ((t7.mono ex4 _ _).mono ex5 _ _).mono exg _ _
  · rintro σ H' ⟨o3, o4, o5, o6, kvs, hs, rfl, t1, t2, t3, t4, t5, t6, t7⟩
    rw [lw, List.take_length] at t5
    walk_at "go"
    exact q _ g kvs hs t1 t2 ng t3 t4 t5
end

/-! ### W2 -/
section
variable {P : Program} {w : World} {K : PySem.W.Frag} {mg : Str → Option Value} {base : Heap}
/-- the rows handed to a program's inputs, in a dict -/
def Hin (K : PySem.W.Frag) (H : Hp) (kvs : List (Key × V)) (hd : Str → List Int) (j : Jn) : Prop := ∀ (td : List PyData) (ps : List Jn), Jn.mk "in" td ps ∈ j.all → ∃ u, valV kvs (Sum.inr (nameD td)) = some u ∧ Rw K H u (hd (nameD td))
theorem Hin.mono {H H' : Hp} {kvs : List (Key × V)} {hd : Str → List Int} {j : Jn} (h : Hin K H kvs hd j) (e : Ext K H H') : Hin K H' kvs hd j := fun td ps m => by
  obtain ⟨u, a, b⟩ := h td ps m
  exact ⟨u, a, b.mono e⟩
def spVs (K : PySem.W.Frag) : Sp := fun vs H Q _ => ∃ (v : V) (j : Jn) (g : Addr) (kvs : List (Key × V)) (hd : Str → List Int), vs = [v, .ref g] ∧ Rp K H v j.py ∧ Fx j ∧ j.cnt ≤ 40 ∧ (∀ x ∈ j.all, x.bad = none) ∧ Hnd hd j ∧ H g = some (.dK kvs) ∧ Hin K H kvs hd j ∧
  ∀ (H' : Hp) (q qa : Addr) (fds : List V), Same H H' → H' q = some (.lst fds) → fds[0]? = some (.ref qa) → H' qa = some (.lst ((j.val hd).map V.int)) → Q (.ref q) H'
abbrev s_law_values : Stmt := top 84
theorem sc_law_values : FnScope ["program", "handed", "rows", "kin", "found", "x", "y"] ["program", "handed"] (defScope s_law_values) := ⟨rfl, rfl, rfl, by decide +kernel, rfl, by decide +kernel, by decide +kernel⟩
theorem has_law_values (O : OwnF K mg "_law_values" s_law_values) (B : Bl mg) (h_law_joints : HasF P w K mg base CX0 1 "_law_joints" ["program"] (spLj K)) (h_law_kin : HasF P w K mg base CX0 2 "_law_kin" ["program"] (spKin K)) (h_law_worked : HasF P w K mg base CX0 1 "_law_worked" ["joint", "rows", "handed"] (spWk K)) : HasF P w K mg base CX0 3 "_law_values" ["program", "handed"] (spVs K) := by
  refine has0 O sc_law_values (fun _ _ _ _ _ _ us hl => match us, hl with | [_, _], _ => rfl) (fun vs H Q E h => ?_) (fun f cdv A outer s_ H vs Q E hr h => ?_)
  · obtain ⟨v, j, g, kvs, hd, rfl, _⟩ := h
    rfl
  obtain ⟨v, j, g, kvs, hd, rfl, r, hj, h40, hnb, hh, hg, hin, q⟩ := h
  refine ⟨_, (pss_cons (ps_par (i := 2) (j := 3) (by rfl) sc_law_values.nd rfl rfl (by decide) rfl rfl (pa_cons (pe_callH h_law_joints (hr.mono (by first | decide | omega)) (by rfl) pass0 (pa_cons (pv 0) pa_nil)) (pa_cons (pe_callH h_law_kin (hr.mono (by first | decide | omega)) (by rfl) pass0 (pa_cons (pv 0) pa_nil)) pa_nil)) (by rfl)) (pss_cons (ps_set (i := 4) sc_law_values.nd rfl (by first | exact Or.inl rfl | exact Or.inr rfl) (pe_op (kMul K) (pe_lst (pa_cons (pe_lst pa_nil) pa_nil)) (pe_callB (kLen K) (by rfl) B.len (by decide +kernel) (pa_cons (pv 2) pa_nil)))) (pss_cons (ps_for PassesOwn.never rfl (pi_range3 (by rfl) B.range (pa_cons (pe_op subU (pe_callB (kLen K) (by rfl) B.len (by decide +kernel) (pa_cons (pv 2) pa_nil)) pe_int) (pa_cons (pe_un un_neg pe_int) (pa_cons (pe_un un_neg pe_int) pa_nil)))) (pg_name (i := 5) sc_law_values.nd rfl (by first | exact Or.inl rfl | exact Or.inr rfl)) (pss_one (ps_asg (pe_callH h_law_worked (hr.mono (by first | decide | omega)) (by rfl) pass0 (pa_cons (pe_ix (kIx K) (pv 2) (pv 5) (fun _ _ => rfl)) (pa_cons (pe_lc (own := [("y", 6)]) (g := gName 6) (tt := tYes) rfl sc_law_values.nd (pi_listK K (pe_ix (kIx K) (pv 3) (pv 5) (fun _ _ => rfl))) (blkOk_by (own := [("y", 6)]) (N := ["program", "handed", "rows", "kin", "found", "x", "y"]) (sc := defScope s_law_values) (by decide +kernel)) (fun _ _ _ _ _ => (pg_name (i := 6) sc_law_values.nd rfl (by first | exact Or.inl rfl | exact Or.inr rfl))) (fun _ _ _ _ _ => pts_nil) (fun _ _ _ _ _ => (pe_ix (kIx K) (pv 4) (pv 6) (fun _ _ => rfl)))) (pa_cons (pv 1) pa_nil)))) (pg_sub (pv 4) (pv 5) set_list)))) (pss_one (ps_ret (pv 4)))))), ?_⟩
  refine st0 [some v, some (.ref g), none, none, none, none, none] rfl ?_
  walk_at "go"
  refine use_lj r hj.ok h40 fun H1 b ws s1 hb0 hb hR => ?_
  walk_at "go"
  refine ⟨v, j, rfl, r.mono (Ext.of_same s1) _ _, hj.ok, h40, fun H2 ka rows s2 hk0 hka hKn => ?_⟩
  walk_at "go"
  refine ⟨lk rfl, fun pe hpe => ?_⟩
  walk_at "go"
  refine ⟨lk rfl, fun pz hpz => ?_⟩
  walk_at "go"
  have lw : ws.length = j.cnt := by rw [hR.length, pys_length, all_cnt]
  have hb2 := s2 _ _ hb
  refine u_lenL (SqL.of (Same.new (same_new hpe (.lst [])) (o := .lst [.ref pe]) hpz _ _ hb2)) ?_
  rw [lw]
  refine u_rep1 upd_same (by omega) fun pf hpf => ?_
  have s02 := s1.trans s2
  have sz : Same H (upd (upd (upd H2 pe (.lst [])) pz (.lst [.ref pe])) pf (.lst (List.replicate j.cnt (.ref pe)))) := Same.new (Same.new (Same.new s02 hpe) hpz) hpf
  have hb3 := Same.new (Same.new (same_new hpe (.lst [])) (o := .lst [.ref pe]) hpz) (o := .lst (List.replicate j.cnt (.ref pe))) hpf _ _ hb2
  have hka3 := Same.new (Same.new (same_new hpe (.lst [])) (o := .lst [.ref pe]) hpz) (o := .lst (List.replicate j.cnt (.ref pe))) hpf _ _ hka
  have s23 := Same.new (Same.new (same_new hpe (.lst [])) (o := .lst [.ref pe]) hpz) (o := .lst (List.replicate j.cnt (.ref pe))) hpf
  have hpf2 : H2 pf = none := by
    cases hh : H2 pf with
    | none => rfl
    | some o => rw [Same.new (same_new hpe _) hpz _ _ hh] at hpf; cases hpf
  have f0 : (upd (upd (upd H2 pe (.lst [])) pz (.lst [.ref pe])) pf (.lst (List.replicate j.cnt (.ref pe)))) pf = some (.lst (List.replicate j.cnt (.ref pe))) := upd_same
  generalize upd (upd (upd H2 pe (.lst [])) pz (.lst [.ref pe])) pf (.lst (List.replicate j.cnt (.ref pe))) = H3 at *
  have hR2 := hR.mono (Ext.of_same (K := K) s2) _ _
  have hin2 := hin.mono (Ext.of_same (K := K) s02)
  have hg2 := s02 _ _ hg
  walk_at "go"
  rw [lw]
  refine ⟨_, _, _, _, rfl, RgC.neg (by omega) (by omega) (by omega) (by omega), ?_⟩
  refine forC (lo := (j.cnt : Int) - 1) (c := -1) (m := ((j.cnt : Int) - 1 - -1).toNat) (fun i σ H' => ∃ (fds : List V) (o5 o6 : Option V), σ = [some v, some (.ref g), some (.ref b), some (.ref ka), some (.ref pf), o5, o6] ∧ Same H2 H' ∧ H' pf = some (.lst fds) ∧ fds.length = j.cnt ∧ (∀ (y : Nat) u, fds[y]? = some u → ∃ r, u = V.ref r) ∧ ∀ y, j.cnt - i ≤ y → ∀ w, j.all[y]? = some w → ∃ qa, fds[y]? = some (.ref qa) ∧ qa ≠ pf ∧ H' qa = some (.lst ((w.val hd).map V.int)))
    ⟨_, _, _, rfl, s23, f0, by rw [List.length_replicate], fun y u hu => ⟨pe, List.eq_of_mem_replicate (List.mem_of_getElem? hu)⟩, fun y h1 w hw => absurd (lt_of_get hw) (by rw [all_cnt]; omega)⟩ ?_ ?_
  · rintro i σ H5 hi ⟨fds, o5, o6, rfl, s5, f5, l5, hrf, h5⟩
    obtain ⟨x, hx⟩ : ∃ x, x = j.cnt - 1 - i := ⟨_, rfl⟩
    have hxc : x < j.cnt := by omega
    have ex : (((j.cnt : Nat) : Int) - 1 + (i : Int) * -1) = (x : Int) := by omega
    rw [ex]
    obtain ⟨xj, hxj⟩ : ∃ xj, j.all[x]? = some xj := ⟨_, List.getElem?_eq_getElem (by rw [all_cnt]; exact hxc)⟩
    obtain ⟨op, td, parts⟩ := xj
    have hm := List.mem_of_getElem? hxj
    obtain ⟨lkin, hkin⟩ := val_at hxj
    have gfx := hj.sub hm
    have gok := gfx.ok
    simp only [Jn.ok] at gok
    have hbx : badO op td (Jn.wds parts) = none := by
      have := hnb _ hm
      simp only [Jn.bad] at this
      exact this
    obtain ⟨u, hu, ru⟩ := hR2.get (i := x) (d := (Jn.mk op td parts).py) (by rw [pys_map, List.getElem?_map, hxj] <;> rfl)
    obtain ⟨rk', hrk, _, hrk2⟩ := hKn.2 x hxc
    generalize kinN (j.ups (-1) 0) x = kin at *
    walk_at "go"
    refine u_ixL (SqL.of (s5 _ _ hb2)) (atI_nat hu) ?_
    walk_at "go"
    refine u_ixL (SqL.of (s5 _ _ hka)) (atI_nat hrk) ?_
    refine rd_itL (SqL.of (s5 _ _ hrk2)) ?_
    intro D hD
    refine lc_list (xs := nV kin) (fun k H' => H' D = some (.lst ((kin.take k).map fun n => fds.getD n .non)) ∧ Same H5 H') ⟨upd_same, Same.upd_new (Same.refl H5) hD⟩ ?_ ?_ ?_
    · rintro k H' hk ⟨g1, g2⟩
      exact SqL.of (g2 _ _ (s5 _ _ hrk2))
    · rintro k y H' hy ⟨g1, g2⟩
      unfold nV at hy
      rw [List.getElem?_map, Option.map_eq_some_iff] at hy
      obtain ⟨n, hn, rfl⟩ := hy
      obtain ⟨n1, n2, p, hp1, hp2⟩ := hkin k n hn
      obtain ⟨qa', hu', _⟩ := h5 n (by omega) p hp2
      have ed : fds.getD n .non = .ref qa' := by rw [List.getD_eq_getElem?_getD, hu'] <;> rfl
      walk_at "go"
      refine ⟨rfl, ?_⟩
      walk_at "go"
      refine u_ixL (SqL.of (g2 _ _ f5)) (atI_nat hu') ?_
      refine ⟨_, g1, ?_, ?_, Same.upd_new g2 hD⟩
      · rw [List.length_map, List.length_take]
        have := lt_of_get hp1
        have := gok.2.2.2.1
        exact ls (by omega)
      · rw [upd_same, List.take_add_one, hn, List.map_append]
        show _ = some (HO.lst (_ ++ [fds.getD n .non]))
        rw [ed]
    rintro H8 ⟨g1, g8⟩
    have eln : (nV kin).length = kin.length := by
      unfold nV
      rw [List.length_map]
    rw [eln, List.take_length] at g1
    have s28 := s5.trans g8
    walk_at "go"
    have pall : ∀ p ∈ parts, p ∈ j.all := fun p hp => all_sub j _ hm _ (part_in_all hp)
    have hRl : RlL H8 (kin.map fun n => fds.getD n .non) (Jn.vals hd parts) := by
      refine ⟨by rw [List.length_map, lkin, vals_map, List.length_map], fun i' r' hr' => ?_⟩
      rw [vals_map, List.getElem?_map, Option.map_eq_some_iff] at hr'
      obtain ⟨p, hp, rfl⟩ := hr'
      have il := lt_of_get hp
      obtain ⟨n, hn⟩ : ∃ n, kin[i']? = some n := ⟨_, List.getElem?_eq_getElem (by omega)⟩
      obtain ⟨n1, n2, p', hp1, hp2⟩ := hkin i' n hn
      rw [hp, Option.some.injEq] at hp1
      subst hp1
      obtain ⟨qa', hu', _, hq'⟩ := h5 n (by omega) p hp2
      refine ⟨qa', ?_, g8 _ _ hq'⟩
      rw [List.getElem?_map, hn, Option.map_some, List.getD_eq_getElem?_getD, hu'] <;> rfl
    refine ⟨u, D, g, op, td, parts, _, Jn.vals hd parts, kvs, hd, rfl, ru.mono (Ext.of_same s28) _ _, gfx.fit _ (all_self _), by rw [vals_lens hj hnb hh hm]; exact hbx, SqL.of g1, hRl, fun r' hr' => ?_, by rw [vals_map, List.length_map], s28 _ _ hg2, fun e => ?_, fun H9 qv s9 hqv => ?_⟩
    · rw [vals_map] at hr'
      obtain ⟨p, hp, rfl⟩ := List.mem_map.mp hr'
      exact vok hj hnb hh (pall p hp)
    · subst e
      exact (hin2.mono (Ext.of_same s28)) td parts hm
    have f9 := (g8.trans s9) _ _ f5
    have s59 := g8.trans s9
    have nq : qv ≠ pf := fun e => by
      rw [e, f9, Option.some.injEq, HO.lst.injEq] at hqv
      obtain ⟨u', hu'⟩ : ∃ u', fds[x]? = some u' := ⟨_, List.getElem?_eq_getElem (by omega)⟩
      obtain ⟨r', rfl⟩ := hrf x u' hu'
      rw [hqv] at hu'
      obtain ⟨n, _, e', _⟩ := get_i hu'
      cases e'
    walk_at "go"
    refine u_setL f9 (ix_pt (n := fds.length) (by omega)) ?_
    refine ⟨_, _, _, rfl, Same.upd_new (s5.trans s59) hpf2, upd_same, by rw [List.length_set]; exact l5, fun y u' hu' => ?_, fun y h1 w hw => ?_⟩
    · rcases List.mem_or_eq_of_mem_set (List.mem_of_getElem? hu') with h | h
      · obtain ⟨i', hi'⟩ := List.getElem?_of_mem h
        exact hrf i' _ hi'
      · exact ⟨qv, h⟩
    by_cases c : y = x
    · subst c
      rw [hxj, Option.some.injEq] at hw
      subst hw
      refine ⟨qv, by rw [List.getElem?_set_self (by omega)], nq, ?_⟩
      rw [val_O, upd_ne nq]
      exact hqv
    · obtain ⟨qa', hu', n', hq'⟩ := h5 y (by omega) w hw
      exact ⟨qa', by rw [List.getElem?_set_ne (Ne.symm c)]; exact hu', n', by rw [upd_ne n']; exact s59 _ _ hq'⟩
  · rintro σ H5 ⟨fds, o5, o6, rfl, s5, f5, l5, hrf, h5⟩
    have h0 : j.all[0]? = some j := by
      obtain ⟨op, td, parts⟩ := j
      simp only [Jn.all, List.getElem?_cons_zero]
    obtain ⟨qa, hu, _, hq'⟩ := h5 0 (by omega) j h0
    walk_at "go"
    exact q _ pf qa fds (s02.trans s5) f5 hu hq'
end

/-! ### W3 -/
section
variable {P : Program} {w : World} {K : PySem.W.Frag} {mg : Str → Option Value} {base : Heap}
def toldV (j : Jn) (gv : Str → Option PyData) : PyData := match ciN (nmsOf j.all) gv with
  | some z => .tuple [.str "input", .str z]
  | none => .tuple [.str "value", .tuple ((j.val (hdOf gv)).map PyData.int)]
theorem toldV_bad {j : Jn} {gv : Str → Option PyData} {z : Str} (h : ciN (nmsOf j.all) gv = some z) : toldV j gv = .tuple [.str "input", .str z] := by
  unfold toldV
  rw [h]
theorem toldV_good {j : Jn} {gv : Str → Option PyData} (h : ciN (nmsOf j.all) gv = none) : toldV j gv = .tuple [.str "value", .tuple ((j.val (hdOf gv)).map PyData.int)] := by
  unfold toldV
  rw [h]
def spTo (K : PySem.W.Frag) : Sp := fun vs H Q _ => ∃ (v : V) (j : Jn) (a : Addr) (ps : List Addr) (kvs : List (Key × V)) (gv : Str → Option PyData), vs = [v, .ref a] ∧ Rp K H v j.py ∧ Fx j ∧ j.cnt ≤ 40 ∧ j.fault = none ∧ HE.FT H a (ps.map V.ref) ∧ Paired (fun p (kv : Key × V) => SqT K H p [kV kv.1, kv.2]) ps kvs ∧ GvN K H (mergeK [] kvs) gv ∧
  ∀ (H' : Hp) (q : Addr), Same H H' → Rp K H' (.ref q) (toldV j gv) → Q (.ref q) H'
abbrev s_law_told : Stmt := top 85
theorem sc_law_told : FnScope ["program", "inputs", "told", "raised", "k"] ["program", "inputs"] (defScope s_law_told) := ⟨rfl, rfl, rfl, by decide +kernel, rfl, by decide +kernel, by decide +kernel⟩
theorem has_law_told {fI cR : Addr} {c : Fcl} (O : OwnF K mg "_law_told" s_law_told) (B : Bl mg) (M_Refused : ErrC K mg fI "Refused" cR) (M_BadInput : ErrC K mg fI "BadInput" c.inp) (X : PySem.W.exmOne K (.ref c.inp) (.ref c.inp) = some true)
    (h_plain : HasF P w K mg base (L2.CX P w) 12 "plain" ["program", "inputs"] (spPl K c)) : HasF P w K mg base CX0 13 "_law_told" ["program", "inputs"] (spTo K) := by
  refine has0 O sc_law_told (fun _ _ _ _ _ _ us hl => match us, hl with | [_, _], _ => rfl) (fun vs H Q E h => ?_) (fun f cdv A outer s_ H vs Q E hr h => ?_)
  · obtain ⟨v, j, a, ps, kvs, gv, rfl, _⟩ := h
    rfl
  obtain ⟨v, j, a, ps, kvs, gv, rfl, r, g, h40, hfl, hFT, hPr, hGv, q⟩ := h
  refine ⟨_, (pss_cons (ps_try_mix rfl rfl takes0 (fun W pn xe tk _ => (pss_one (ps_set (i := 2) sc_law_told.nd rfl (by first | exact Or.inl rfl | exact Or.inr rfl) (pe_callHS h_plain (hr.mono (by first | decide | omega)) (by rfl) (fun σ => passAt tk σ) (pa_cons (pv 0) (pa_cons (pv 1) pa_nil)))))) K rfl (Hds.named (i := 3) ⟨rfl, by decide, Or.inl M_BadInput.g⟩ sc_law_told.nd rfl rfl (fun a oe cls d pn hz hf => (pss_one (ps_ret (pe_tup (pa_cons pe_str (pa_cons (pe_xf M_BadInput.f M_BadInput.n hz hf (pv 3)) pa_nil)))))) (Hds.plain ⟨rfl, by decide, Or.inl M_Refused.g⟩ (fun a oe cls d pn hz hf => (pss_one (ps_ret (pe_tup (pa_cons pe_str (pa_cons pe_int pa_nil)))))) Hds.nil))) (pss_cons (ps_if (PW.pt (pw_or (pt_not (pt_val (pe_callB (kIsi K) (by rfl) B.isinstance (by decide +kernel) (pa_cons (pv 2) (pa_cons (pe_bltn (v := .ty "tuple") (by rfl) B.tuple (by decide +kernel) rfl) pa_nil))))) (pw_or1 (pt_not (pt_val (pe_callB (kAll K rfl) (by rfl) B.all (by decide +kernel) (pa_cons (pe_lc (own := [("k", 4)]) (g := gName 4) (tt := tYes) rfl sc_law_told.nd (pi_tupK K (pv 2)) (blkOk_by (own := [("k", 4)]) (N := ["program", "inputs", "told", "raised", "k"]) (sc := defScope s_law_told) (by decide +kernel)) (fun _ _ _ _ _ => (pg_name (i := 4) sc_law_told.nd rfl (by first | exact Or.inl rfl | exact Or.inr rfl))) (fun _ _ _ _ _ => pts_nil) (fun _ _ _ _ _ => (pe_and (pe_callB (kIsi K) (by rfl) B.isinstance (by decide +kernel) (pa_cons (pv 4) (pa_cons (pe_bltn (v := .ty "int") (by rfl) B.int (by decide +kernel) rfl) pa_nil))) (pe_one (pe_not (pe_callB (kIsi K) (by rfl) B.isinstance (by decide +kernel) (pa_cons (pv 4) (pa_cons (pe_bltn (v := .ty "bool") (by rfl) B.bool (by decide +kernel) rfl) pa_nil)))))))) pa_nil))))))) (pss_one (ps_ret (pe_tup (pa_cons pe_str (pa_cons pe_int pa_nil))))) pss_nil) (pss_one (ps_ret (pe_tup (pa_cons pe_str (pa_cons (pv 2) pa_nil))))))), ?_⟩
  refine st0 [some v, some (.ref a), none, none, none] rfl ?_
  walk_at "go"
  refine ⟨v, j, a, ps, kvs, gv, rfl, r, g, h40, hfl, hFT, hPr, hGv, fun z hz H1 d1 s1 e1 => ?_, fun hci H1 v1 s1 hw => ?_⟩
  · refine ⟨true, X, fun _ a ha => ?_, fun z => nomatch z⟩
    walk_at "go"
    refine u_xf (by rfl) e1 ?_
    walk_at "go"
    refine ⟨lk rfl, fun p hp => q _ p (Same.new s1 hp) ?_⟩
    rw [toldV_bad hz]
    exact .tup (SqT.of upd_same) (.cons (.str _) (.cons (.str _) .nil))
  · obtain ⟨q1, rfl, hq⟩ := hw
    have hnb := (fault_none hfl).1
    have hv := vok g hnb (hnd_of g hfl hci) (all_self j)
    have eg := toldV_good hci
    rw [eg] at q
    generalize j.val (hdOf gv) = R at *
    obtain ⟨_, hR1, hR2⟩ := hv
    walk_at "go"
    refine u_isi (d := .tuple (R.map PyData.int)) (.inr (.inr (.inl rfl))) (.tup hq (Rps.ints R)) ?_
    refine ⟨true, rfl, ?_⟩
    refine iteF ?_
    walk_at "go"
    intro D hDn
    refine lc_tup (xs := R.map V.int) (fun n H' => H' D = some (.lst ((List.replicate n true).map V.bl)) ∧ Same H1 H') ⟨upd_same, Same.upd_new (Same.refl H1) hDn⟩ ?_ ?_ ?_
    · rintro n H' hn ⟨y1, y2⟩
      exact Ext.of_same y2 _ _ hq
    · rintro n y H' hy ⟨y1, y2⟩
      have hn := lt_of_get hy
      rw [List.length_map] at hn
      rw [List.getElem?_map, Option.map_eq_some_iff] at hy
      obtain ⟨z, hz, rfl⟩ := hy
      walk_at "go"
      refine ⟨rfl, ?_⟩
      walk_at "go"
      rw [show isT "int" (PyData.int z) = true from rfl]
      refine iteT ?_
      walk_at "go"
      refine ⟨_, y1, by rw [List.length_map, List.length_replicate]; exact ls (by omega), ?_, Same.upd_new y2 hDn⟩
      rw [upd_same, List.replicate_succ', List.map_append]
      rfl
    rintro HC ⟨y1, y2⟩
    walk_at "go"
    refine u_all (bs := List.replicate (R.map V.int).length true) (SqL.of y1) ?_
    have ea : (List.replicate (R.map V.int).length true).all id = true := by
      rw [List.all_eq_true]
      intro b hb
      rw [(List.mem_replicate.mp hb).2]
      rfl
    rw [ea]
    refine ⟨true, rfl, ?_⟩
    refine iteF ?_
    walk_at "go"
    refine ⟨lk rfl, fun p hp => ?_⟩
    refine q _ p (Same.new (s1.trans y2) hp) ?_
    exact .tup (SqT.of upd_same) (.cons (.str _) (.cons (.tup (Ext.new hp _ _ (Ext.of_same y2 _ _ hq)) (Rps.ints R)) .nil))
end
end Mine

/-! ### W4 -/
namespace Mine
open PySem PySem.Spec L2
/-! ## pairs of a name and a thing, as a dict takes them -/
abbrev Dts := List (Str × PyData)
structure PrD (K : PySem.W.Frag) (H : Hp) (ps : List V) (ds : Dts) : Prop where
  len : ps.length = ds.length
  get : ∀ (i : Nat) p, ds[i]? = some p → ∃ t u, ps[i]? = some (.ref t) ∧ SqT K H t [.str p.1, u] ∧ Rp K H u p.2 ∧ dat p.2
theorem PrD.mono {K : PySem.W.Frag} {H H' : Hp} {ps : List V} {ds : Dts} (h : PrD K H ps ds) (e : Ext K H H') : PrD K H' ps ds := ⟨h.len, fun i p hp => by
  obtain ⟨t, u, a, b, c, d⟩ := h.get i p hp
  exact ⟨t, u, a, e _ _ b, c.mono e _ _, d⟩⟩
theorem PrD.nil {K : PySem.W.Frag} {H : Hp} : PrD K H [] [] := ⟨rfl, fun i p h => by simp at h⟩
theorem PrD.append {K : PySem.W.Frag} {H : Hp} {ps qs : List V} {ds es : Dts} (h : PrD K H ps ds) (g : PrD K H qs es) : PrD K H (ps ++ qs) (ds ++ es) := ⟨by rw [List.length_append, List.length_append, h.len, g.len], fun i p hp => by
  rcases Nat.lt_or_ge i ds.length with c | c
  · rw [List.getElem?_append_left c] at hp
    obtain ⟨t, u, a, b⟩ := h.get i p hp
    exact ⟨t, u, by rw [List.getElem?_append_left (by rw [h.len]; exact c)]; exact a, b⟩
  · rw [List.getElem?_append_right c] at hp
    obtain ⟨t, u, a, b⟩ := g.get _ p hp
    exact ⟨t, u, by rw [List.getElem?_append_right (by rw [h.len]; exact c), h.len]; exact a, b⟩⟩
theorem PrD.one {K : PySem.W.Frag} {H : Hp} {t : Addr} {u : V} {z : Str} {d : PyData} (a : SqT K H t [.str z, u]) (b : Rp K H u d) (c : dat d) : PrD K H [.ref t] [(z, d)] := ⟨rfl, fun i p hp => by
  cases i with
  | zero =>
    obtain rfl := Option.some.inj hp
    exact ⟨t, u, rfl, a, b, c⟩
  | succ i => simp at hp⟩
theorem PrD.erase {K : PySem.W.Frag} {H : Hp} {ps : List V} {ds : Dts} (h : PrD K H ps ds) (k : Nat) : PrD K H (ps.eraseIdx k) (ds.eraseIdx k) := ⟨by rw [List.length_eraseIdx, List.length_eraseIdx, h.len], fun i p hp => by
  rw [List.getElem?_eraseIdx] at hp ⊢
  split at hp
  · rename_i c
    obtain ⟨t, u, a, b⟩ := h.get i p hp
    exact ⟨t, u, by rw [if_pos c]; exact a, b⟩
  · rename_i c
    obtain ⟨t, u, a, b⟩ := h.get _ p hp
    exact ⟨t, u, by rw [if_neg c]; exact a, b⟩⟩
theorem PrD.reverse {K : PySem.W.Frag} {H : Hp} {ps : List V} {ds : Dts} (h : PrD K H ps ds) : PrD K H ps.reverse ds.reverse := ⟨by rw [List.length_reverse, List.length_reverse, h.len], fun i p hp => by
  have il := lt_of_get hp
  rw [List.length_reverse] at il
  rw [List.getElem?_reverse il] at hp
  obtain ⟨t, u, a, b⟩ := h.get _ p hp
  exact ⟨t, u, by rw [List.getElem?_reverse (by rw [h.len]; exact il), h.len]; exact a, b⟩⟩
/-- the last thing of a name -/
def gvG (g : Str → Option PyData) (ds : Dts) : Str → Option PyData := ds.foldl (fun g p z => if z = p.1 then some p.2 else g z) g
def gvOf (ds : Dts) : Str → Option PyData := gvG (fun _ => none) ds
theorem PrD.refs {K : PySem.W.Frag} {H : Hp} : ∀ {ds : Dts} {ps : List V}, PrD K H ps ds → ∃ (ts : List Addr) (kvs : List (Key × V)), ps = ts.map V.ref ∧ Paired (fun p (kv : Key × V) => SqT K H p [kV kv.1, kv.2]) ts kvs ∧ ∀ (acc : List (Key × V)) (g : Str → Option PyData), GvN K H acc g → GvN K H (mergeK acc kvs) (gvG g ds)
  | [], ps, h => ⟨[], [], List.eq_nil_of_length_eq_zero h.len, .nil, fun acc g hg => hg⟩
  | (z, d) :: r, ps, h => by
    obtain ⟨t, u, a, b, c, e⟩ := h.get 0 (z, d) rfl
    match ps, h, a with
    | x :: ps, h, a =>
      have hx : x = .ref t := by simpa using a
      subst hx
      have hr : PrD K H ps r := ⟨by have := h.len; simpa using this, fun i p hp => h.get (i + 1) p (by simpa using hp)⟩
      obtain ⟨ts, kvs, e1, e2, e3⟩ := PrD.refs hr
      refine ⟨t :: ts, (Sum.inr z, u) :: kvs, by rw [List.map_cons, e1], .cons b e2, fun acc g hg => ?_⟩
      refine e3 (putK acc (Sum.inr z) u) (fun y => if y = z then some d else g y) fun y => ?_
      have k := hg y
      by_cases hy : y = z
      · have e5 : (fun y => if y = z then some d else g y) y = some d := if_pos hy
        rw [e5]
        refine ⟨u, ?_, c, e⟩
        rw [valV_put, if_pos (by rw [hy])]
      · have e5 : (fun y => if y = z then some d else g y) y = g y := if_neg hy
        rw [e5]
        have e6 : valV (putK acc (Sum.inr z) u) (Sum.inr y) = valV acc (Sum.inr y) := by
          rw [valV_put, if_neg (fun w => hy (Sum.inr.inj w))]
        cases hg' : g y with
        | none =>
          rw [hg'] at k
          show valV _ _ = none
          rw [e6]
          exact k
        | some d' =>
          rw [hg'] at k
          obtain ⟨u', k1, k2⟩ := k
          exact ⟨u', by rw [e6]; exact k1, k2⟩
theorem gvG_not {z : Str} : ∀ {ds : Dts} {g : Str → Option PyData}, z ∉ ds.map Prod.fst → gvG g ds z = g z
  | [], g, _ => rfl
  | p :: r, g, h => by
    rw [List.map_cons, List.mem_cons, not_or] at h
    show gvG (fun y => if y = p.1 then some p.2 else g y) r z = g z
    rw [gvG_not h.2]
    exact if_neg h.1
theorem gvG_mem {z : Str} {d : PyData} : ∀ {ds : Dts} {g : Str → Option PyData}, (ds.map Prod.fst).Nodup → (z, d) ∈ ds → gvG g ds z = some d
  | [], _, _, h => by cases h
  | p :: r, g, hn, h => by
    rw [List.map_cons, List.nodup_cons] at hn
    show gvG (fun y => if y = p.1 then some p.2 else g y) r z = some d
    rcases List.mem_cons.mp h with e | h
    · rw [gvG_not (by rw [show z = p.1 from congrArg Prod.fst e]; exact hn.1)]
      rw [← e]
      exact if_pos rfl
    · exact gvG_mem hn.2 h
theorem gvOf_mem {z : Str} {d : PyData} {ds : Dts} (hn : (ds.map Prod.fst).Nodup) (h : (z, d) ∈ ds) : gvOf ds z = some d := gvG_mem hn h
theorem gvOf_not {z : Str} {ds : Dts} (h : z ∉ ds.map Prod.fst) : gvOf ds z = none := gvG_not h
/-! ## what a program tells with its rows handed -/
def rowD (p : Str × List Int) : Str × PyData := (p.1, .tuple (p.2.map PyData.int))
theorem addN_nodup {acc : List (Str × Int)} {z : Str} {k : Int} (h : (acc.map Prod.fst).Nodup) : ((addN acc z k).map Prod.fst).Nodup := by
  unfold addN
  split
  · exact h
  · rename_i c
    rw [List.map_append, List.nodup_append]
    exact ⟨h, by simp, fun a ha b hb => by
      have : b = z := by simpa using hb
      rw [this]
      exact fun e => c (e ▸ ha)⟩
theorem stepN_nodup {acc : List (Str × Int)} {j : Jn} (h : (acc.map Prod.fst).Nodup) : ((stepN acc j).map Prod.fst).Nodup := by
  obtain ⟨op, td, ps⟩ := j
  by_cases c : op = "in"
  · subst c
    simp only [stepN, if_true]
    split
    · exact addN_nodup h
    · exact h
  · rw [stepN_other c]; exact h
theorem nmsOf_nodup (l : List Jn) : ((nmsOf l).map Prod.fst).Nodup := by
  unfold nmsOf
  have k : ∀ (l : List Jn) (acc : List (Str × Int)), (acc.map Prod.fst).Nodup → ((l.foldl stepN acc).map Prod.fst).Nodup := by
    intro l
    induction l with
    | nil => exact fun acc h => h
    | cons a r ih => exact fun acc h => ih _ (stepN_nodup h)
  exact k l [] (by simp)
theorem HsOf.mem {hs : List (Str × List Int)} {acc : List (Str × Int)} (h : HsOf hs acc) {z : Str} {k : Int} (m : (z, k) ∈ acc) : ∃ ns, (z, ns) ∈ hs ∧ (ns.length : Int) = k ∧ Inr ns := by
  rw [← h.1] at m
  obtain ⟨⟨z', ns⟩, hm, e⟩ := List.mem_map.mp m
  have e1 : z' = z := congrArg Prod.fst e
  have e2 : (ns.length : Int) = k := congrArg Prod.snd e
  subst e1
  exact ⟨ns, hm, e2, h.2 _ hm⟩
/-- the rows of hs stand in gv -/
def HasR (gv : Str → Option PyData) (hs : List (Str × List Int)) : Prop := ∀ z ns, (z, ns) ∈ hs → gv z = some (.tuple (ns.map PyData.int))
theorem isRow_ok {ns : List Int} {k : Int} (h1 : (ns.length : Int) = k) (h2 : Inr ns) : isRow (.tuple (ns.map PyData.int)) k = true := by
  rw [isRow_tup, List.length_map, decide_eq_true h1, Bool.true_and]
  unfold rowNums
  rw [List.all_map, List.all_eq_true]
  exact fun n hn => btw_ok (h2 n hn).1 (h2 n hn).2
theorem ciN_ok {hs : List (Str × List Int)} {acc : List (Str × Int)} {gv : Str → Option PyData} (h : HsOf hs acc) (hg : HasR gv hs) : ciN acc gv = none := by
  unfold ciN
  rw [Option.map_eq_none_iff, List.find?_eq_none]
  rintro ⟨z, k⟩ m
  obtain ⟨ns, hm, e, hi⟩ := h.mem m
  unfold badN
  show ¬ (match gv z with | none => true | some d => !isRow d k) = true
  rw [hg z ns hm]
  show ¬ (!isRow (.tuple (ns.map PyData.int)) k) = true
  rw [isRow_ok e hi]
  decide
mutual
theorem val_congr {hd hd' : Str → List Int} : ∀ (j : Jn), (∀ td ps, Jn.mk "in" td ps ∈ j.all → hd (nameD td) = hd' (nameD td)) → j.val hd = j.val hd'
  | .mk op td parts, h => by
    by_cases c : op = "row"
    · subst c; rw [val_row, val_row]
    by_cases c2 : op = "in"
    · subst c2
      rw [val_in, val_in]
      exact h td parts (all_self _)
    · rw [val_op c c2, val_op c c2, vals_congr parts fun td' ps m => h td' ps (by simp only [Jn.all]; exact List.mem_cons_of_mem _ m)]
theorem vals_congr {hd hd' : Str → List Int} : ∀ (l : List Jn), (∀ td ps, Jn.mk "in" td ps ∈ Jn.alls l → hd (nameD td) = hd' (nameD td)) → Jn.vals hd l = Jn.vals hd' l
  | [], _ => by simp only [Jn.vals]
  | j :: r, h => by
    simp only [Jn.vals]
    rw [val_congr j fun td ps m => h td ps (by simp only [Jn.alls]; exact List.mem_append_left _ m), vals_congr r fun td ps m => h td ps (by simp only [Jn.alls]; exact List.mem_append_right _ m)]
end
theorem hdOf_row {hs : List (Str × List Int)} {gv : Str → Option PyData} (hg : HasR gv hs) {z : Str} {ns : List Int} (m : (z, ns) ∈ hs) : hdOf gv z = ns := by
  unfold hdOf
  rw [hg z ns m]
  exact map_intD ns
theorem in_named {j : Jn} (hj : Fx j) (hf : j.fault = none) {hs : List (Str × List Int)} (h : HsOf hs (nmsOf j.all)) {td : List PyData} {ps : List Jn} (m : Jn.mk "in" td ps ∈ j.all) : ∃ ns, (nameD td, ns) ∈ hs := by
  obtain ⟨z, k, rfl, _, _⟩ := told_in (hj.fit _ m).1
  obtain ⟨ns, hm, _⟩ := h.mem (nf_names j.all [] (fun _ => none) (fun z k => by simp) (fault_none hf).2 hj.fit z k ps m)
  exact ⟨ns, hm⟩
theorem val_two {j : Jn} (hj : Fx j) (hf : j.fault = none) {hs : List (Str × List Int)} (h : HsOf hs (nmsOf j.all)) {g g' : Str → Option PyData} (h1 : HasR g hs) (h2 : HasR g' hs) : j.val (hdOf g) = j.val (hdOf g') :=
  val_congr j fun td ps m => by
    obtain ⟨ns, hm⟩ := in_named hj hf h m
    rw [hdOf_row h1 hm, hdOf_row h2 hm]
end Mine

/-! ### W5 -/
namespace Mine
open PySem PySem.Spec L2
local macro_rules | `(tactic| walk_at "st") => `(tactic| (with_reducible apply iteF))
local macro_rules | `(tactic| walk_at "st") => `(tactic| (with_reducible apply iteT))
local macro_rules | `(tactic| walk_at "st") => `(tactic| ((with_reducible apply rd_tyF); (focus assumption)))
local macro_rules | `(tactic| walk_at "st") => `(tactic| (with_reducible apply rd_tupF))
local macro_rules | `(tactic| walk_at "st") => `(tactic| (with_reducible apply rd_bmT))
local macro_rules | `(tactic| walk_at "st") => `(tactic| (with_reducible apply rd_dc))
local macro_rules | `(tactic| walk_at "st") => `(tactic| (with_reducible apply u_notB))
local macro_rules | `(tactic| walk_at "st") => `(tactic| (with_reducible apply u_repB))
local macro_rules | `(tactic| walk_at "st") => `(tactic| (with_reducible apply u_isB))
local macro_rules | `(tactic| walk_at "st") => `(tactic| (with_reducible apply rd_nopart))
local macro_rules | `(tactic| walk_at "st") => `(tactic| (with_reducible apply rd_partI))
local macro_rules | `(tactic| walk_at "st") => `(tactic| (with_reducible apply rd_part))
local macro_rules | `(tactic| walk_at "st") => `(tactic| (with_reducible apply rd_sl))
local macro_rules | `(tactic| walk_at "st") => `(tactic| (with_reducible apply rd_disp1))
local macro_rules | `(tactic| walk_at "st") => `(tactic| (with_reducible apply rd_dput))
local macro_rules | `(tactic| walk_at "st") => `(tactic| (with_reducible apply rd_dget))
local macro_rules | `(tactic| walk_at "st") => `(tactic| (with_reducible apply rd_din))
local macro_rules | `(tactic| walk_at "st") => `(tactic| (with_reducible apply rd_dnew))
local macro_rules | `(tactic| walk_at "st") => `(tactic| ((with_reducible apply rd_gtup); (focus first | assumption | exact SqT.of (by assumption) | exact SqT.of upd_same); (focus rfl)))
local macro_rules | `(tactic| walk_at "st") => `(tactic| (with_reducible apply rd_lc2))
local macro_rules | `(tactic| walk_at "st") => `(tactic| (with_reducible apply rd_zip))
local macro_rules | `(tactic| walk_at "st") => `(tactic| ((with_reducible apply u_enL); (focus first | assumption | exact SqL.of (by assumption) | exact SqL.of upd_same)))
local macro_rules | `(tactic| walk_at "st") => `(tactic| ((with_reducible apply u_enT); (focus first | assumption | exact SqT.of (by assumption) | exact SqT.of upd_same)))
local macro_rules | `(tactic| walk_at "st") => `(tactic| (with_reducible apply rd_rng3))
local macro_rules | `(tactic| walk_at "st") => `(tactic| (with_reducible apply rd_rg1))
local macro_rules | `(tactic| walk_at "st") => `(tactic| (with_reducible apply rd_revR))
local macro_rules | `(tactic| walk_at "st") => `(tactic| (with_reducible apply rd_enA))
local macro_rules | `(tactic| walk_at "st") => `(tactic| (with_reducible apply rd_ipI))
local macro_rules | `(tactic| walk_at "st") => `(tactic| ((with_reducible apply rd_aug); exact rfl))
local macro_rules | `(tactic| walk_at "st") => `(tactic| (with_reducible apply rd_par3_end))
local macro_rules | `(tactic| walk_at "st") => `(tactic| (with_reducible apply rd_par3))
local macro_rules | `(tactic| walk_at "st") => `(tactic| (with_reducible apply u_mul; focus exact Or.inr cm))
local macro_rules | `(tactic| walk_at "st") => `(tactic| ((with_reducible apply u_pow); (focus (exact ⟨by decide, by decide, by decide⟩))))
local macro_rules | `(tactic| walk_at "st") => `(tactic| (with_reducible apply rd_yes))
local macro_rules | `(tactic| walk_at "st") => `(tactic| (with_reducible apply rd_lc))
local macro_rules | `(tactic| walk_at "st") => `(tactic| ((with_reducible apply rd_itT); (focus first | assumption | exact SqT.of (by assumption) | exact SqT.of upd_same)))
local macro_rules | `(tactic| walk_at "st") => `(tactic| ((with_reducible apply rd_itL); (focus first | assumption | exact SqL.of (by assumption) | exact SqL.of upd_same)))
local macro_rules | `(tactic| walk_at "st") => `(tactic| ((with_reducible apply u_isi); (focus (first | exact Or.inl rfl | exact Or.inr (Or.inl rfl) | exact Or.inr (Or.inr (Or.inl rfl)) | exact Or.inr (Or.inr (Or.inr rfl)))); (focus first | assumption | exact Rp.int _ | exact Rp.str _)))
local macro_rules | `(tactic| walk_at "st") => `(tactic| (with_reducible apply rd_istrE))
local macro_rules | `(tactic| walk_at "st") => `(tactic| (with_reducible apply rd_istr))
local macro_rules | `(tactic| walk_at "st") => `(tactic| ((with_reducible apply rd_seqT); (focus first | assumption | exact SqT.of (by assumption) | exact SqT.of upd_same)))
local macro_rules | `(tactic| walk_at "st") => `(tactic| ((with_reducible apply rd_seqL); (focus first | assumption | exact SqL.of (by assumption) | exact SqL.of upd_same)))
local macro_rules | `(tactic| walk_at "st") => `(tactic| (with_reducible apply rd_iSeq))
local macro_rules | `(tactic| walk_at "st") => `(tactic| (with_reducible apply u_notInS))
local macro_rules | `(tactic| walk_at "st") => `(tactic| (with_reducible apply u_inS))
local macro_rules | `(tactic| walk_at "st") => `(tactic| (with_reducible apply u_notInD))
local macro_rules | `(tactic| walk_at "st") => `(tactic| (with_reducible apply u_inD))
local macro_rules | `(tactic| walk_at "st") => `(tactic| (with_reducible apply rd_callS))
local macro_rules | `(tactic| walk_at "st") => `(tactic| (with_reducible apply rd_raiseE))
local macro_rules | `(tactic| walk_at "st") => `(tactic| (with_reducible apply rd_xf))
local macro_rules | `(tactic| walk_at "st") => `(tactic| (with_reducible apply g_neB))
local macro_rules | `(tactic| walk_at "st") => `(tactic| (with_reducible apply g_neS))
local macro_rules | `(tactic| walk_at "st") => `(tactic| (with_reducible apply g_neI))
local macro_rules | `(tactic| walk_at "st") => `(tactic| (with_reducible apply g_eqS))
local macro_rules | `(tactic| walk_at "st") => `(tactic| (with_reducible apply g_eqI))
local macro_rules | `(tactic| walk_at "st") => `(tactic| (with_reducible apply rd_retN))
local macro_rules | `(tactic| walk_at "st") => `(tactic| (with_reducible apply rd_gnil))
local macro_rules | `(tactic| walk_at "st") => `(tactic| (with_reducible apply rd_gcons))
local macro_rules | `(tactic| walk_at "st") => `(tactic| ((with_reducible apply rd_rng2e); (focus omega)))
local macro_rules | `(tactic| walk_at "st") => `(tactic| ((with_reducible apply rd_rng1e); (focus omega); (focus omega)))
local macro_rules | `(tactic| walk_at "st") => `(tactic| (with_reducible apply rd_rng2))
local macro_rules | `(tactic| walk_at "st") => `(tactic| (with_reducible apply rd_rng1))
local macro_rules | `(tactic| walk_at "st") => `(tactic| (with_reducible apply rd_for))
local macro_rules | `(tactic| walk_at "st") => `(tactic| (with_reducible apply rd_iTup))
local macro_rules | `(tactic| walk_at "st") => `(tactic| (with_reducible apply rd_iList))
local macro_rules | `(tactic| walk_at "st") => `(tactic| (with_reducible apply rd_rev))
local macro_rules | `(tactic| walk_at "st") => `(tactic| (with_reducible apply u_min3))
local macro_rules | `(tactic| walk_at "st") => `(tactic| ((with_reducible apply rd_tyL); focus (first | exact SqL.of (by assumption) | exact SqL.of upd_same)))
local macro_rules | `(tactic| walk_at "st") => `(tactic| (with_reducible apply rd_bm0))
local macro_rules | `(tactic| walk_at "st") => `(tactic| (with_reducible apply rd_bm))
local macro_rules | `(tactic| walk_at "st") => `(tactic| ((with_reducible apply rd_truL); focus (first | assumption | exact SqL.of (by assumption) | exact SqL.of upd_same)))
local macro_rules | `(tactic| walk_at "st") => `(tactic| (with_reducible apply rd_truB))
local macro_rules | `(tactic| walk_at "st") => `(tactic| (with_reducible apply rd_tru))
local macro_rules | `(tactic| walk_at "st") => `(tactic| (with_reducible apply rd_chain3))
local macro_rules | `(tactic| walk_at "st") => `(tactic| ((with_reducible apply u_setL); (focus (first | assumption | exact upd_same)); exact rfl))
local macro_rules | `(tactic| walk_at "st") => `(tactic| ((with_reducible apply u_lenT); focus (first | assumption | exact SqT.of (by assumption) | exact SqT.of upd_same)))
local macro_rules | `(tactic| walk_at "st") => `(tactic| ((with_reducible apply u_lenL); focus (first | assumption | exact SqL.of (by assumption) | exact SqL.of upd_same)))
local macro_rules | `(tactic| walk_at "st") => `(tactic| ((with_reducible apply u_ixL); (focus (first | assumption | exact SqL.of (by assumption) | exact SqL.of upd_same)); exact rfl))
local macro_rules | `(tactic| walk_at "st") => `(tactic| ((with_reducible apply u_mul); focus first | exact Or.inl (by omega) | exact Or.inr (by omega) | exact Or.inl (by decide) | exact Or.inr (by decide)))
local macro_rules | `(tactic| walk_at "st") => `(tactic| ((with_reducible apply u_div); focus first | decide | omega | (constructor <;> first | assumption | omega)))
local macro_rules | `(tactic| walk_at "st") => `(tactic| ((with_reducible apply u_mod); focus first | assumption | decide | omega))
local macro_rules | `(tactic| walk_at "st") => `(tactic| (with_reducible apply u_neg))
local macro_rules | `(tactic| walk_at "st") => `(tactic| (with_reducible apply u_min))
local macro_rules | `(tactic| walk_at "st") => `(tactic| (with_reducible apply u_max))
local macro_rules | `(tactic| walk_at "st") => `(tactic| (with_reducible apply u_intB))
local macro_rules | `(tactic| walk_at "st") => `(tactic| (with_reducible apply u_int))
local macro_rules | `(tactic| walk_at "st") => `(tactic| (with_reducible apply u_neI))
local macro_rules | `(tactic| walk_at "st") => `(tactic| (with_reducible apply u_eqS))
local macro_rules | `(tactic| walk_at "st") => `(tactic| (with_reducible apply u_eqI))
local macro_rules | `(tactic| walk_at "st") => `(tactic| (with_reducible apply u_ge))
local macro_rules | `(tactic| walk_at "st") => `(tactic| (with_reducible apply u_gt))
local macro_rules | `(tactic| walk_at "st") => `(tactic| (with_reducible apply u_le))
local macro_rules | `(tactic| walk_at "st") => `(tactic| (with_reducible apply u_lt))
local macro_rules | `(tactic| walk_at "st") => `(tactic| (with_reducible apply u_sub))
local macro_rules | `(tactic| walk_at "st") => `(tactic| (with_reducible apply u_add))
local macro_rules | `(tactic| walk_at "st") => `(tactic| (with_reducible apply rd_ct))
local macro_rules | `(tactic| walk_at "st") => `(tactic| (with_reducible apply rd_brk))
local macro_rules | `(tactic| walk_at "st") => `(tactic| (with_reducible apply rd_tB))
local macro_rules | `(tactic| walk_at "st") => `(tactic| (with_reducible apply rd_chain))
local macro_rules | `(tactic| walk_at "st") => `(tactic| (with_reducible apply rd_notV))
local macro_rules | `(tactic| walk_at "st") => `(tactic| (with_reducible apply rd_orV))
local macro_rules | `(tactic| walk_at "st") => `(tactic| (with_reducible apply rd_andV))
local macro_rules | `(tactic| walk_at "st") => `(tactic| (with_reducible apply rd_not))
local macro_rules | `(tactic| walk_at "st") => `(tactic| (with_reducible apply rd_or))
local macro_rules | `(tactic| walk_at "st") => `(tactic| (with_reducible apply rd_and))
local macro_rules | `(tactic| walk_at "st") => `(tactic| (with_reducible apply rd_un))
local macro_rules | `(tactic| walk_at "st") => `(tactic| (with_reducible apply rd_par_end))
local macro_rules | `(tactic| walk_at "st") => `(tactic| (with_reducible apply rd_par))
local macro_rules | `(tactic| walk_at "st") => `(tactic| (with_reducible apply rd_gsub))
local macro_rules | `(tactic| walk_at "st") => `(tactic| (with_reducible apply rd_ife))
local macro_rules | `(tactic| walk_at "st") => `(tactic| (with_reducible apply rd_next))
local macro_rules | `(tactic| walk_at "st") => `(tactic| (with_reducible apply rd_drop))
local macro_rules | `(tactic| walk_at "st") => `(tactic| (with_reducible apply rd_lst))
local macro_rules | `(tactic| walk_at "st") => `(tactic| (with_reducible apply rd_tup))
local macro_rules | `(tactic| walk_at "st") => `(tactic| (with_reducible apply rd_call))
local macro_rules | `(tactic| walk_at "st") => `(tactic| (with_reducible apply rd_ret))
local macro_rules | `(tactic| walk_at "st") => `(tactic| (with_reducible apply rd_retE))
local macro_rules | `(tactic| walk_at "st") => `(tactic| (with_reducible apply rd_bl))
local macro_rules | `(tactic| walk_at "st") => `(tactic| (with_reducible apply rd_test))
local macro_rules | `(tactic| walk_at "st") => `(tactic| (with_reducible apply rd_if))
local macro_rules | `(tactic| walk_at "st") => `(tactic| (with_reducible apply rd_nil))
local macro_rules | `(tactic| walk_at "st") => `(tactic| (with_reducible apply rd_cons))
local macro_rules | `(tactic| walk_at "st") => `(tactic| (with_reducible apply rd_cb))
local macro_rules | `(tactic| walk_at "st") => `(tactic| (with_reducible apply rd_op))
local macro_rules | `(tactic| walk_at "st") => `(tactic| (with_reducible apply rd_gname))
local macro_rules | `(tactic| walk_at "st") => `(tactic| (with_reducible apply rd_asg))
local macro_rules | `(tactic| walk_at "st") => `(tactic| (with_reducible apply rd_seq))
local macro_rules | `(tactic| walk_at "st") => `(tactic| (with_reducible apply rd_c))
local macro_rules | `(tactic| walk_at "st") => `(tactic| ((with_reducible apply rd_var); exact rfl))
local macro_rules | `(tactic| walk_at "go") => `(tactic| repeat (walk_at "st"))
local macro_rules | `(tactic| walk_at "sp") => `(tactic| (first | refine rd_split (fun c => ?_) (fun c => ?_) | refine rd_splitN (fun c => ?_) (fun c => ?_) | refine rd_splitB (fun c => ?_) (fun c => ?_)))
local macro_rules | `(tactic| walk_at "nx") => `(tactic| repeat (first | (with_reducible apply iteF) | (with_reducible apply iteT) | (with_reducible apply rd_next)))

section
variable {P : Program} {w : World} {K : PySem.W.Frag} {mg : Str → Option Value} {base : Heap}
def moreD : Dts := [("other", .tuple [.int 1]), ("x", .str "y")]
theorem rd_iItems {td : TE} {σ : L2.St} {H : Hp} {R : It → Hp → Prop} (h : td σ H fun x H1 => ∃ d o kvs, x = .ref d ∧ H1 d = some (.frz o (.dK kvs)) ∧ R (Iti d o kvs) H1) : iItems td σ H R := h
theorem rd_iKeys {td : TE} {σ : L2.St} {H : Hp} {R : It → Hp → Prop} (h : td σ H fun x H1 => ∃ d o, x = .ref d ∧ ((∃ kvs, H1 d = some (.frz o (.dK kvs)) ∧ R (Itk d o kvs) H1) ∨ ∃ kvs, H1 d = some (.frz o (.dT kvs)) ∧ R (Itkt d o kvs) H1)) : iKeys td σ H R := h
theorem Ext.unlock {H : Hp} {g : Addr} {od : Obj} {kvs : List (Key × V)} {o : HO} (h : H g = some (.frz od (.dK kvs))) : Ext K H (upd H g o) := fun b xs q => by
  rcases q with (q | ⟨u, q⟩) | q
  · have ne : b ≠ g := fun e => by subst e; rw [h] at q; cases q
    exact .inl (.inl (by rw [upd_ne ne]; exact q))
  · have ne : b ≠ g := fun e => by subst e; rw [h] at q; cases q
    exact .inl (.inr ⟨u, by rw [upd_ne ne]; exact q⟩)
  · exact .inr q
theorem same_unlock {H H' : Hp} {g : Addr} {u f : HO} (h : H g = some u) (s : Same (upd H g f) H') : Same H (upd H' g u) := fun b v e => by
  by_cases c : b = g
  · subst c
    rw [upd_same, ← h]
    exact e
  · rw [upd_ne c]
    exact s _ _ (by rw [upd_ne c]; exact e)
theorem erase_perm {α : Type} : ∀ {l : List α} {i : Nat} {x : α}, l[i]? = some x → (x :: l.eraseIdx i).Perm l
  | [], _, _, h => by simp at h
  | a :: r, 0, x, h => by
    obtain rfl := Option.some.inj h
    exact .refl _
  | a :: r, i + 1, x, h => by
    rw [List.eraseIdx_cons_succ]
    exact (List.Perm.swap a x _).trans ((erase_perm (l := r) (i := i) (by simpa using h)).cons a)
theorem dats_ints : ∀ (ns : List Int), dats (ns.map PyData.int)
  | [] => by simp only [List.map_nil, dats]
  | n :: r => by
    simp only [List.map_cons, dats, dat]
    exact ⟨trivial, dats_ints r⟩
theorem dat_row {ns : List Int} (h : ns.length ≤ 64) : dat (.tuple (ns.map PyData.int)) := by
  simp only [dat]
  exact ⟨by rw [List.length_map]; omega, dats_ints ns⟩
/-- the pairs laid, in any order -/
def spMp (K : PySem.W.Frag) : Sp := fun vs H Q _ => ∃ (a g : Addr) (kvs : List (Key × V)) (hs : List (Str × List Int)), vs = [.ref a, .ref g] ∧ Src H a ∧ g ≠ a ∧ H g = some (.dK kvs) ∧ Hds K H kvs hs ∧ hs.length ≤ 40 ∧ (∀ p ∈ hs, okS p.1 ∧ p.2.length ≤ 64) ∧
  ∀ (H' : Hp) (q : Addr) (ps : List V) (ds : Dts), SB a H H' → Src H' a → HE.FT H' q ps → PrD K H' ps ds → ds.Perm (hs.map rowD ++ moreD) → Q (.ref q) H'
abbrev s_law_mixed_pairs : Stmt := top 86
theorem sc_law_mixed_pairs : FnScope ["source", "handed", "left", "found", "name", "row", "turn"] ["source", "handed"] (defScope s_law_mixed_pairs) := ⟨rfl, rfl, rfl, by decide +kernel, rfl, by decide +kernel, by decide +kernel⟩
theorem has_mixed (O : OwnF K mg "_law_mixed_pairs" s_law_mixed_pairs) (B : Bl mg) (h_law_take : HasF P w K mg base CX0 1 "_law_take" ["source", "top"] spTake) : HasF P w K mg base CX0 2 "_law_mixed_pairs" ["source", "handed"] (spMp K) := by
  refine has0 O sc_law_mixed_pairs (fun _ _ _ _ _ _ us hl => match us, hl with | [_, _], _ => rfl) (fun vs H Q E h => ?_) (fun f cdv A outer s_ H vs Q E hr h => ?_)
  · obtain ⟨a, g, kvs, hs, rfl, _⟩ := h
    rfl
  obtain ⟨a, g, kvs, hs, rfl, hS, ng, hg, hH, h40, hok, q⟩ := h
  refine ⟨_, (pss_cons (ps_par (i := 2) (j := 3) (by rfl) sc_law_mixed_pairs.nd rfl rfl (by decide) rfl rfl (pa_cons (pe_op (kAdd K) (pe_lock (pe_lc (own := [("name", 4), ("row", 5)]) (g := _) (tt := tYes) rfl sc_law_mixed_pairs.nd (pi_items (pv 1)) (blkOk_by (own := [("name", 4), ("row", 5)]) (N := ["source", "handed", "left", "found", "name", "row", "turn"]) (sc := defScope s_law_mixed_pairs) (by decide +kernel)) (fun _ _ _ _ _ => (pg_tupK (n := 2) K rfl (pgs_cons (pg_name (i := 4) sc_law_mixed_pairs.nd rfl (by first | exact Or.inl rfl | exact Or.inr rfl)) (pgs_cons (pg_name (i := 5) sc_law_mixed_pairs.nd rfl (by first | exact Or.inl rfl | exact Or.inr rfl)) pgs_nil)))) (fun _ _ _ _ _ => pts_nil) (fun _ _ _ _ _ => (HE.pe_tupF (pa_cons (pv 4) (pa_cons (pv 5) pa_nil)))))) (pe_lst (pa_cons (HE.pe_tupF (pa_cons pe_str (pa_cons (HE.pe_tupF (pa_cons pe_int pa_nil)) pa_nil))) (pa_cons (HE.pe_tupF (pa_cons pe_str (pa_cons pe_str pa_nil))) pa_nil)))) (pa_cons (pe_lst pa_nil) pa_nil)) (by rfl)) (pss_cons (ps_for PassesOwn.never rfl (pi_range1 (by rfl) B.range (pa_cons (pe_callB (kLen K) (by rfl) B.len (by decide +kernel) (pa_cons (pv 2) pa_nil)) pa_nil)) (pg_name (i := 6) sc_law_mixed_pairs.nd rfl (by first | exact Or.inl rfl | exact Or.inr rfl)) (pss_one (ps_expr (pe_bmK K PySem.F.plainAttrs_list PySem.F.slot_list_append PySem.F.type_list_append mt_append (pv 3) (pa_cons (pe_bmK K PySem.F.plainAttrs_list PySem.F.slot_list_pop PySem.F.type_list_pop mt_popAt (pv 2) (pa_cons (pe_callH h_law_take (hr.mono (by first | decide | omega)) (by rfl) pass0 (pa_cons (pv 0) (pa_cons (pe_callB (kLen K) (by rfl) B.len (by decide +kernel) (pa_cons (pv 2) pa_nil)) pa_nil))) pa_nil)) pa_nil))))) (pss_one (ps_ret (pe_callTy (kTupF K) (by rfl) B.tuple (by decide +kernel) (pa_cons (pv 3) pa_nil)))))), ?_⟩
  refine st0 [some (.ref a), some (.ref g), none, none, none, none, none] rfl ?_
  walk_at "go"
  refine ⟨g, .dK kvs, hg, trivial, fun od => ?_⟩
  have gL : upd H g (.frz od (.dK kvs)) g = some (.frz od (.dK kvs)) := upd_same
  have exL : Ext K H (upd H g (.frz od (.dK kvs))) := Ext.set hg trivial
  have same_u : ∀ H', Same (upd H g (.frz od (.dK kvs))) H' → Same H (upd H' g (.dK kvs)) := fun H' s => same_unlock hg s
  have hL := hH.mono exL
  generalize upd H g (.frz od (.dK kvs)) = HL at *
  walk_at "go"
  refine rd_iItems ?_
  walk_at "go"
  refine ⟨g, od, kvs, rfl, gL, ?_⟩
  intro D hD
  refine lc_items (fun i H' => ∃ ws : List V, H' D = some (.lst ws) ∧ PrD K H' ws ((hs.take i).map rowD) ∧ Same HL H') ⟨[], upd_same, .nil, same_new hD _⟩ ?_ ?_ ?_
  · rintro i H' hi ⟨ws, h1, h2, h3⟩
    exact h3 _ _ gL
  · rintro i p t H' hp ⟨ws, h1, h2, h3⟩ ht
    have il := lt_of_get hp
    rw [hH.len] at il
    have eh : hs[i]? = some hs[i] := List.getElem?_eq_getElem il
    have hk := hok hs[i] (List.getElem_mem il)
    obtain ⟨u, e1, e2⟩ := (hL.mono (Ext.of_same h3)).get i _ eh
    generalize hs[i] = pz at *
    obtain ⟨z, ns⟩ := pz
    rw [hp, Option.some.injEq] at e1
    subst e1
    have nDt : D ≠ t := ne_of_none h1 ht
    have st := same_new ht (.tup [V.str z, u])
    have e2' := e2.mono (Ext.of_same (K := K) st)
    have h2' := h2.mono (Ext.of_same (K := K) st)
    have lws := h2.len
    rw [List.length_map, List.length_take] at lws
    have h1' : upd H' t (.tup [V.str z, u]) D = some (.lst ws) := by rw [upd_ne nDt]; exact h1
    have s3 := h3.trans st
    have sT : SqT K (upd H' t (.tup [V.str z, u])) t [V.str z, u] := SqT.of upd_same
    show gTup K 2 _ (.ref t) _ (upd H' t (.tup [V.str z, u])) _
    generalize upd H' t (.tup [V.str z, u]) = H2 at *
    walk_at "go"
    refine ⟨rfl, ?_⟩
    walk_at "go"
    refine ⟨lk rfl, fun q1 o ho hdn => ?_⟩
    have nDq : D ≠ q1 := ne_of_none h1' ho
    have s4 := Same.new (o := .frz o (.tup [V.str z, u])) s3 ho
    have f4 : upd H2 q1 (.frz o (.tup [V.str z, u])) D = some (.lst ws) := by rw [upd_ne nDq]; exact h1'
    have exD : Ext K (upd H2 q1 (.frz o (.tup [V.str z, u]))) (upd (upd H2 q1 (.frz o (.tup [V.str z, u]))) D (.lst (ws ++ [V.ref q1]))) := Ext.set f4 trivial
    refine ⟨ws, f4, ls (by omega), ws ++ [.ref q1], upd_same, ?_, Same.upd_new s4 hD⟩
    obtain ⟨qr, rfl, hqr⟩ := e2'
    rw [List.take_add_one, eh, List.map_append]
    refine PrD.append ((h2'.mono (Ext.new ho)).mono exD) (PrD.one (u := .ref qr) (exD _ _ (HE.FT.sq (FTmk hdn))) ?_ (dat_row hk.2))
    exact Rp.mono exD _ _ (Rp.mono (Ext.new ho) _ _ (.tup hqr (Rps.ints ns)))
  rintro H1 ⟨ws, h1, h2, h3⟩
  rw [hH.len, List.take_length] at h2
  have g1 := h3 _ _ gL
  refine ⟨g1, ?_⟩
  have s1 := same_u H1 h3
  have nDg : D ≠ g := fun e => by rw [e, gL] at hD; cases hD
  have h2 := h2.mono (Ext.unlock (o := .dK kvs) g1)
  have h1 : upd H1 g (.dK kvs) D = some (.lst ws) := by rw [upd_ne nDg]; exact h1
  generalize upd H1 g (.dK kvs) = H2 at *
  have hS2 := hS.same s1
  walk_at "go"
  refine ⟨lk rfl, fun r1 o1 hr1 hd1 => ?_⟩
  walk_at "go"
  refine ⟨lk rfl, fun r2 o2 hr2 hd2 => ?_⟩
  walk_at "go"
  refine ⟨lk rfl, fun r3 o3 hr3 hd3 => ?_⟩
  have t1 : SqT K (upd H2 r1 (.frz o1 (.tup [V.int 1]))) r1 [.int 1] := HE.FT.sq (FTmk hd1)
  have p2 : PrD K (upd (upd H2 r1 (.frz o1 (.tup [V.int 1]))) r2 (.frz o2 (.tup [V.str "other", .ref r1]))) [.ref r2] [("other", .tuple [.int 1])] :=
    PrD.one (u := .ref r1) (HE.FT.sq (FTmk hd2)) (Rp.mono (Ext.new hr2) _ _ (.tup t1 (.cons (.int 1) .nil))) (by simp only [dat, dats]; exact ⟨by simp, trivial, trivial⟩)
  have p3 : PrD K (upd (upd (upd H2 r1 (.frz o1 (.tup [V.int 1]))) r2 (.frz o2 (.tup [V.str "other", .ref r1]))) r3 (.frz o3 (.tup [V.str "x", .str "y"]))) [.ref r3] [("x", .str "y")] :=
    PrD.one (u := .str "y") (HE.FT.sq (FTmk hd3)) (.str "y") (by simp only [dat]; exact okL (by decide +kernel))
  have p23 := (p2.mono (Ext.new (o := .frz o3 (.tup [V.str "x", .str "y"])) hr3)).append p3
  have s5 := Same.new (Same.new (same_new hr1 (.frz o1 (.tup [V.int 1]))) (o := .frz o2 (.tup [V.str "other", .ref r1])) hr2) (o := .frz o3 (.tup [V.str "x", .str "y"])) hr3
  generalize upd (upd (upd H2 r1 (.frz o1 (.tup [V.int 1]))) r2 (.frz o2 (.tup [V.str "other", .ref r1]))) r3 (.frz o3 (.tup [V.str "x", .str "y"])) = H5 at *
  have pall := (h2.mono (Ext.of_same s5)).append p23
  have s05 := s1.trans s5
  have f5 := s5 _ _ h1
  walk_at "go"
  refine ⟨lk rfl, fun r4 hr4 => ?_⟩
  have lws := h2.len
  rw [List.length_map] at lws
  walk_at "go"
  refine u_addL (same_new hr4 (.lst [V.ref r2, .ref r3]) _ _ f5) upd_same ?_ fun lf hlf => ?_
  · exact ll (by rw [lws]; show hs.length + 2 ≤ _; omega)
  walk_at "go"
  refine ⟨lk rfl, fun fo hfo => ?_⟩
  have s7 := Same.new (Same.new (o := .lst [V.ref r2, .ref r3]) s05 hr4) (o := .lst (ws ++ [V.ref r2, .ref r3])) hlf
  have s8 := Same.new (o := .lst []) s7 hfo
  have c5 := Same.new (same_new hr4 (.lst [V.ref r2, .ref r3])) (o := .lst (ws ++ [V.ref r2, .ref r3])) hlf
  have hlf0 : H lf = none := by
    cases hh : H lf with
    | none => rfl
    | some o => rw [Same.new s05 hr4 _ _ hh] at hlf; cases hlf
  have hfo0 : H fo = none := by
    cases hh : H fo with
    | none => rfl
    | some o => rw [s7 _ _ hh] at hfo; cases hfo
  have nlf : lf ≠ a := hS.ne hlf0
  have nfo : fo ≠ a := hS.ne hfo0
  have nlo : lf ≠ fo := fun e => by rw [← e, upd_same] at hfo; cases hfo
  have pall8 := pall.mono (Ext.of_same (c5.trans (same_new hfo (.lst []))))
  have f8 : upd (upd (upd H5 r4 (.lst [V.ref r2, .ref r3])) lf (.lst (ws ++ [V.ref r2, .ref r3]))) fo (.lst []) lf = some (.lst (ws ++ [V.ref r2, .ref r3])) := by rw [upd_ne nlo, upd_same]
  have g8 : upd (upd (upd H5 r4 (.lst [V.ref r2, .ref r3])) lf (.lst (ws ++ [V.ref r2, .ref r3]))) fo (.lst []) fo = some (.lst []) := upd_same
  generalize upd (upd (upd H5 r4 (.lst [V.ref r2, .ref r3])) lf (.lst (ws ++ [V.ref r2, .ref r3]))) fo (.lst []) = H8 at *
  have hS8 := hS.same s8
  have pall8 : PrD K H8 (ws ++ [V.ref r2, .ref r3]) (hs.map rowD ++ moreD) := pall8
  have lD : (hs.map rowD ++ moreD).length = hs.length + 2 := by rw [List.length_append, List.length_map] <;> rfl
  generalize hs.map rowD ++ moreD = D0 at *
  have lW := pall8.len
  generalize ws ++ [V.ref r2, .ref r3] = wl at *
  walk_at "go"
  rw [show ((wl.length : Nat) : Int).toNat = wl.length by omega]
  refine forR (lo := 0) (fun i σ H' => ∃ (wl' fl : List V) (dl df : Dts) (o6 : Option V), σ = [some (.ref a), some (.ref g), some (.ref lf), some (.ref fo), none, none, o6] ∧ SB a H H' ∧ Src H' a ∧ H' lf = some (.lst wl') ∧ PrD K H' wl' dl ∧ H' fo = some (.lst fl) ∧ PrD K H' fl df ∧ (df ++ dl).Perm D0 ∧ dl.length + i = wl.length ∧ fl.length = i) ⟨wl, [], D0, [], _, rfl, SB.of_same s8, hS8, f8, pall8, g8, .nil, .refl _, by rw [lW] <;> rfl, rfl⟩ ?_ ?_
  · rintro i σ H' hi ⟨wl', fl, dl, df, o6, rfl, t1, t2, t3, t4, t5, t6, t7, t8, t9⟩
    have lw' := t4.len
    walk_at "go"
    refine use_take t2 (by omega) (by omega) fun H3 r s3 hS3 r0 r1' => ?_
    obtain ⟨k, rfl⟩ : ∃ k : Nat, r = k := ⟨r.toNat, by omega⟩
    have hk : k < dl.length := by omega
    have c3 := s3 _ _ nlf t3
    have c5 := s3 _ _ nfo t5
    have ex3 := t2.ext (K := K) s3
    have q4 := t4.mono ex3
    have q6 := t6.mono ex3
    have ed : dl[k]? = some dl[k] := List.getElem?_eq_getElem hk
    obtain ⟨tt, uu, e1, e2, e3, e4⟩ := q4.get k _ ed
    have pm := erase_perm ed
    generalize dl[k] = dk at *
    walk_at "go"
    refine ⟨lf, wl', (k : Int), k, _, rfl, rfl, c3, by omega, by omega, ?_, e1, ?_⟩
    · unfold seqIndex?
      rw [lw']
      simp
      omega
    have ex4 : Ext K H3 (upd H3 lf (.lst (wl'.eraseIdx k))) := Ext.set c3 trivial
    have c5' : upd H3 lf (.lst (wl'.eraseIdx k)) fo = some (.lst fl) := by rw [upd_ne nlo.symm]; exact c5
    have ex5 : Ext K (upd H3 lf (.lst (wl'.eraseIdx k))) (upd (upd H3 lf (.lst (wl'.eraseIdx k))) fo (.lst (fl ++ [V.ref tt]))) := Ext.set c5' trivial
    walk_at "go"
    refine u_app c5' (ls (by omega)) ?_
    walk_at "go"
    refine ⟨wl'.eraseIdx k, fl ++ [.ref tt], dl.eraseIdx k, df ++ [dk], _, rfl, ((t1.trans s3).upd_new hlf0).upd_new hfo0, (hS3.set nlf).set nfo, ?_, ?_, upd_same, ?_, ?_, ?_, ?_⟩
    · rw [upd_ne nlo, upd_same]
    · exact ((q4.erase k).mono ex4).mono ex5
    · exact ((q6.mono ex4).mono ex5).append (PrD.one (z := dk.1) (d := dk.2) (ex5 _ _ (ex4 _ _ e2)) (Rp.mono ex5 _ _ (Rp.mono ex4 _ _ e3)) e4)
    · rw [List.append_assoc]
      exact (List.Perm.append_left df pm).trans t7
    · rw [List.length_eraseIdx, if_pos hk]
      omega
    · rw [List.length_append, t9] <;> rfl
  · rintro σ H' ⟨wl', fl, dl, df, o6, rfl, t1, t2, t3, t4, t5, t6, t7, t8, t9⟩
    have e0 : dl = [] := List.eq_nil_of_length_eq_zero (by omega)
    rw [e0, List.append_nil] at t7
    walk_at "go"
    refine u_tupF (SqL.of t5) fun qf HF sF hF => ?_
    exact q HF qf fl df (t1.trans (SB.of_same sF)) (t2.same sF) hF (t6.mono (Ext.of_same sF)) t7
end

/-! ### W6 -/
section
variable {P : Program} {w : World} {K : PySem.W.Frag} {mg : Str → Option Value} {base : Heap}
/-- a thing that is no row of k -/
def Bnt (K : PySem.W.Frag) (H : Hp) (v : V) (k : Int) : Prop := ∃ d, Rp K H v d ∧ dat d ∧ isRow d k = false
theorem Bnt.mono {H H' : Hp} {v : V} {k : Int} (h : Bnt K H v k) (e : Ext K H H') : Bnt K H' v k := by
  obtain ⟨d, a, b⟩ := h
  exact ⟨d, a.mono e _ _, b⟩
theorem isRow_len {ds : List PyData} {k : Int} (h : (ds.length : Int) ≠ k) : isRow (.tuple ds) k = false := by
  rw [isRow_tup, decide_eq_false h, Bool.false_and]
theorem isRow_item {ds : List PyData} {k : Int} {d : PyData} (h : d ∈ ds) (hd : isBtw d 0 1000002 = false) : isRow (.tuple ds) k = false := by
  rw [isRow_tup]
  have : rowNums ds = false := by
    unfold rowNums
    rw [Bool.eq_false_iff]
    intro e
    have := List.all_eq_true.mp e d h
    rw [this] at hd
    cases hd
  rw [this, Bool.and_false]
def spBr (K : PySem.W.Frag) : Sp := fun vs H Q _ => ∃ (a p : Addr) (ns : List Int), vs = [.ref a, .ref p] ∧ Src H a ∧ SqT K H p (ns.map V.int) ∧ 1 ≤ ns.length ∧ ns.length ≤ 64 ∧ ∀ (H' : Hp) (v : V), SB a H H' → Src H' a → Bnt K H' v ns.length → Q v H'
abbrev s_law_bent_row : Stmt := top 87
theorem sc_law_bent_row : FnScope ["source", "row", "at", "far"] ["source", "row"] (defScope s_law_bent_row) := ⟨rfl, rfl, rfl, by decide +kernel, rfl, by decide +kernel, by decide +kernel⟩
theorem has_bent_row (O : OwnF K mg "_law_bent_row" s_law_bent_row) (B : Bl mg) (h_law_take : HasF P w K mg base CX0 1 "_law_take" ["source", "top"] spTake) (h_law_one : HasF P w K mg base CX0 2 "_law_one" ["source", "things"] (spOne K)) : HasF P w K mg base CX0 3 "_law_bent_row" ["source", "row"] (spBr K) := by
  refine has0 O sc_law_bent_row (fun _ _ _ _ _ _ us hl => match us, hl with | [_, _], _ => rfl) (fun vs H Q E h => ?_) (fun f cdv A outer s_ H vs Q E hr h => ?_)
  · obtain ⟨a, p, ns, rfl, _⟩ := h
    rfl
  obtain ⟨a, p, ns, rfl, hS, hp, l1, l64, q⟩ := h
  have lm : (ns.map V.int).length = ns.length := List.length_map ..
  refine ⟨_, (pss_cons (ps_par (i := 2) (j := 3) (by rfl) sc_law_bent_row.nd rfl rfl (by decide) rfl rfl (pa_cons (pe_callH h_law_take (hr.mono (by first | decide | omega)) (by rfl) pass0 (pa_cons (pv 0) (pa_cons (pe_callB (kLen K) (by rfl) B.len (by decide +kernel) (pa_cons (pv 1) pa_nil)) pa_nil))) (pa_cons (pe_callH h_law_one (hr.mono (by first | decide | omega)) (by rfl) pass0 (pa_cons (pv 0) (pa_cons (pe_lst (pa_cons pe_int (pa_cons (pe_un un_neg pe_int) (pa_cons (pe_op powU pe_int pe_int) (pa_cons pe_non (pa_cons pe_str (pa_cons (pe_tup (pa_cons pe_int pa_nil)) pa_nil))))))) pa_nil))) pa_nil)) (by rfl)) (pss_one (ps_ret (pe_callH h_law_one (hr.mono (by first | decide | omega)) (by rfl) pass0 (pa_cons (pv 0) (pa_cons (pe_lst (pa_cons (pe_slice (kSl K) (pv 1) (po_some pe_int) po_none) (pa_cons (pe_op (kAdd K) (pv 1) (pe_tup (pa_cons pe_int pa_nil))) (pa_cons (pe_op (kAdd K) (pe_op (kAdd K) (pe_slice (kSl K) (pv 1) po_none (po_some (pv 2))) (pe_tup (pa_cons (pv 3) pa_nil))) (pe_slice (kSl K) (pv 1) (po_some (pe_op (kAdd K) (pv 2) pe_int)) po_none)) (pa_cons (pe_tup pa_nil) (pa_cons pe_non (pa_cons pe_str (pa_cons pe_int pa_nil)))))))) pa_nil)))))), ?_⟩
  refine st0 [some (.ref a), some (.ref p), none, none] rfl ?_
  walk_at "go"
  rw [lm]
  refine use_take hS (by omega) (by omega) fun H1 r s1 hS1 r0 r1 => ?_
  obtain ⟨k, rfl⟩ : ∃ k : Nat, r = k := ⟨r.toNat, by omega⟩
  have hk : k < ns.length := by omega
  have hp1 := hS.ext (K := K) s1 _ _ hp
  walk_at "go"
  refine ⟨lk rfl, fun q1 hq1 => ?_⟩
  have t1 : SqT K (upd H1 q1 (.tup [V.int 1])) q1 [.int 1] := SqT.of upd_same
  have s2 := s1.new (o := .tup [V.int 1]) hq1
  have hS2 := hS1.new (o := .tup [V.int 1]) hq1
  have hp2 := Ext.new (o := .tup [V.int 1]) hq1 _ _ hp1
  generalize upd H1 q1 (.tup [V.int 1]) = H2 at *
  walk_at "go"
  refine ⟨lk rfl, fun q2 hq2 => ?_⟩
  walk_at "go"
  refine use_one (xs := [V.int 1000003, V.int (-1), V.int (10 ^ Int.toNat 20), V.non, V.str "1", .ref q1]) (hS2.new hq2) (SqL.of upd_same) (hS2.ne hq2) (by simp) (by simp) fun H3 far s3 hS3 hv => ?_
  have hfar : ∃ d, Rp K H3 far d ∧ dat d ∧ isBtw d 0 1000002 = false := by
    simp only [List.mem_cons, List.not_mem_nil, or_false] at hv
    rcases hv with rfl | rfl | rfl | rfl | rfl | rfl
    · exact ⟨_, .int _, by simp only [dat], by decide +kernel⟩
    · exact ⟨_, .int _, by simp only [dat], by decide +kernel⟩
    · exact ⟨_, .int _, by simp only [dat], by decide +kernel⟩
    · exact ⟨_, .non, by simp only [dat], rfl⟩
    · exact ⟨_, .str _, by simp only [dat]; exact okL (by decide +kernel), rfl⟩
    · refine ⟨.tuple [.int 1], .tup ((hS2.new hq2).ext s3 _ _ (Ext.new hq2 _ _ t1)) (.cons (.int 1) .nil), by simp only [dat, dats]; exact ⟨by simp, trivial, trivial⟩, rfl⟩
  have s03 : SB a H H3 := (s2.new hq2).trans s3
  have hp3 := hS.ext (K := K) s03 _ _ hp
  clear hp2 hp1 t1 s2 hS2 s3
  walk_at "go"
  refine u_slS hp3 fun qa Ha sa hqa => ?_
  rw [show (some (1 : Int)) = some ((1 : Nat) : Int) from rfl, cut_from, ← List.map_drop] at hqa
  have hpa := Ext.of_same (K := K) sa _ _ hp3
  walk_at "go"
  refine ⟨lk rfl, fun z1 hz1 => ?_⟩
  have tz : SqT K (upd Ha z1 (.tup [V.int 0])) z1 [.int 0] := SqT.of upd_same
  have hpb := Ext.new (o := .tup [V.int 0]) hz1 _ _ hpa
  have sb := Same.new (o := .tup [V.int 0]) sa hz1
  have hqa2 := Ext.new (o := .tup [V.int 0]) hz1 _ _ hqa
  generalize upd Ha z1 (.tup [V.int 0]) = Hb at *
  refine u_catS hpb tz (ll (by rw [lm]; show ns.length + 1 ≤ _; omega)) fun qb Hc sc hqb => ?_
  have hpc := Ext.of_same (K := K) sc _ _ hpb
  have sc' := sb.trans sc
  have hqa3 := Ext.of_same (K := K) sc _ _ hqa2
  walk_at "go"
  refine u_slS hpc fun qc Hd sd hqc => ?_
  rw [cut_to, ← List.map_take] at hqc
  have sd' := sc'.trans sd
  have hpd := Ext.of_same (K := K) sd _ _ hpc
  have hqa4 := Ext.of_same (K := K) sd _ _ hqa3
  have hqb4 := Ext.of_same (K := K) sd _ _ hqb
  walk_at "go"
  refine ⟨lk rfl, fun z2 hz2 => ?_⟩
  have tz2 : SqT K (upd Hd z2 (.tup [far])) z2 [far] := SqT.of upd_same
  have se := Same.new (o := .tup [far]) sd' hz2
  have ee := Ext.new (K := K) (o := .tup [far]) hz2
  have hpe := ee _ _ hpd
  have hqa5 := ee _ _ hqa4
  have hqb5 := ee _ _ hqb4
  have hqc5 := ee _ _ hqc
  generalize upd Hd z2 (.tup [far]) = He at *
  refine u_catS hqc5 tz2 (ll (by rw [List.length_map, List.length_take]; show min k ns.length + 1 ≤ _; omega)) fun qd Hf sf hqd => ?_
  have sf' := se.trans sf
  have ef := Ext.of_same (K := K) sf
  have hpf := ef _ _ hpe
  have hqa6 := ef _ _ hqa5
  have hqb6 := ef _ _ hqb5
  walk_at "go"
  refine u_slS hpf fun qe Hg sg hqe => ?_
  rw [show (some ((k : Int) + 1)) = some (((k + 1 : Nat)) : Int) from by rw [Int.natCast_add] <;> rfl, cut_from, ← List.map_drop] at hqe
  have sg' := sf'.trans sg
  have eg := Ext.of_same (K := K) sg
  have hqa7 := eg _ _ hqa6
  have hqb7 := eg _ _ hqb6
  have hqd7 := eg _ _ hqd
  refine u_catS hqd7 hqe (ll (by
    rw [List.length_append, List.length_map, List.length_map, List.length_take, List.length_drop]
    show min k ns.length + 1 + _ ≤ _
    omega)) fun qf Hh sh hqf => ?_
  have sh' := sg'.trans sh
  have eh := Ext.of_same (K := K) sh
  have hqa8 := eh _ _ hqa7
  have hqb8 := eh _ _ hqb7
  walk_at "go"
  refine ⟨lk rfl, fun z3 hz3 => ?_⟩
  have tz3 : SqT K (upd Hh z3 (.tup [])) z3 [] := SqT.of upd_same
  have si := Same.new (o := .tup []) sh' hz3
  have ei := Ext.new (K := K) (o := .tup []) hz3
  have hqa9 := ei _ _ hqa8
  have hqb9 := ei _ _ hqb8
  have hqf9 := ei _ _ hqf
  generalize upd Hh z3 (.tup []) = Hi at *
  walk_at "go"
  refine ⟨lk rfl, fun z4 hz4 => ?_⟩
  have hSi := hS3.same si
  walk_at "go"
  refine use_one (xs := [.ref qa, .ref qb, .ref qf, .ref z3, V.non, V.str "", V.int 7]) (hSi.new hz4) (SqL.of upd_same) (hSi.ne hz4) (by simp) (by simp) fun Hj v sj hSj hv => ?_
  have s0j : SB a H Hj := (((s03.trans (SB.of_same si)).new hz4)).trans sj
  have ej : Ext K Hi Hj := fun b xs h => (hSi.new hz4).ext sj _ _ (Ext.new hz4 _ _ h)
  refine q Hj v s0j hSj ?_
  simp only [List.mem_cons, List.not_mem_nil, or_false] at hv
  rcases hv with rfl | rfl | rfl | rfl | rfl | rfl | rfl
  · exact ⟨.tuple ((ns.drop 1).map PyData.int), .tup (ej _ _ hqa9) (Rps.ints _), dat_row (by rw [List.length_drop]; omega), isRow_len (by rw [List.length_map, List.length_drop]; omega)⟩
  · refine ⟨.tuple ((ns ++ [0]).map PyData.int), .tup (ej _ _ hqb9) ?_, ?_, isRow_len (by rw [List.length_map, List.length_append]; show ((ns.length + 1 : Nat) : Int) ≠ _; omega)⟩
    · rw [show ns.map V.int ++ [V.int 0] = (ns ++ [0]).map V.int by rw [List.map_append] <;> rfl]
      exact Rps.ints _
    · simp only [dat]
      exact ⟨by rw [List.length_map, List.length_append]; show ns.length + 1 ≤ _; omega, dats_ints _⟩
  · obtain ⟨d, d1, d2, d3⟩ := hfar
    have e39 : Ext K H3 Hj := fun b xs h => ej _ _ (Ext.of_same si _ _ h)
    refine ⟨.tuple ((ns.take k).map PyData.int ++ [d] ++ (ns.drop (k + 1)).map PyData.int), .tup (ej _ _ hqf9) (((Rps.ints _).append (.one (d1.mono e39 _ _))).append (Rps.ints _)), ?_, isRow_item (d := d) (by simp) d3⟩
    simp only [dat]
    refine ⟨?_, ?_⟩
    · simp only [List.length_append, List.length_map, List.length_take, List.length_drop, List.length_cons, List.length_nil]
      omega
    · refine dats_of fun x hx => ?_
      simp only [List.mem_append, List.mem_singleton] at hx
      rcases hx with (hx | rfl) | hx
      · obtain ⟨n, _, rfl⟩ := List.mem_map.mp hx
        simp only [dat]
      · exact d2
      · obtain ⟨n, _, rfl⟩ := List.mem_map.mp hx
        simp only [dat]
  · exact ⟨.tuple [], .tup (ej _ _ (tz3)) .nil, by simp only [dat, dats]; exact ⟨by simp, trivial⟩, isRow_len (by show ((0 : Nat) : Int) ≠ _; omega)⟩
  · exact ⟨.none, .non, by simp only [dat], rfl⟩
  · exact ⟨.str "", .str "", by simp only [dat]; exact okL (by decide +kernel), rfl⟩
  · exact ⟨.int 7, .int 7, by simp only [dat], rfl⟩
end

/-! ### W7 -/
section
variable {P : Program} {w : World} {K : PySem.W.Frag} {mg : Str → Option Value} {base : Heap}
theorem valV_at : ∀ {kvs : List (Key × V)} {i : Nat} {k : Key} {u : V}, (kvs.map (·.1)).Nodup → kvs[i]? = some (k, u) → valV kvs k = some u
  | [], _, _, _, _, h => by simp at h
  | p :: r, 0, k, u, hn, h => by
    obtain rfl := Option.some.inj h
    exact valV_pos rfl
  | p :: r, i + 1, k, u, hn, h => by
    rw [List.map_cons, List.nodup_cons] at hn
    have h' : r[i]? = some (k, u) := by simpa using h
    rw [valV_neg (fun e => hn.1 (by rw [e]; exact List.mem_map.mpr ⟨(k, u), List.mem_of_getElem? h', rfl⟩))]
    exact valV_at hn.2 h'
theorem nodup_inr {zs : List Str} (h : zs.Nodup) : (zs.map (Sum.inr : Str → Key)).Nodup := by
  induction zs with
  | nil => simp
  | cons a r ih =>
    rw [List.nodup_cons] at h
    rw [List.map_cons, List.nodup_cons]
    refine ⟨fun m => ?_, ih h.2⟩
    obtain ⟨b, hb, e⟩ := List.mem_map.mp m
    exact h.1 (by rw [← Sum.inr.inj e]; exact hb)
theorem sub_find {zs sp : List Str} (h : sp.Sublist zs) (hn : zs.Nodup) : zs.find? (fun z => decide (z ∈ sp)) = sp.head? := by
  induction h with
  | slnil => rfl
  | cons a h ih =>
    rw [List.nodup_cons] at hn
    rw [List.find?_cons, decide_eq_false (fun m => hn.1 (h.subset m))]
    exact ih hn.2
  | cons_cons a h ih =>
    rw [List.find?_cons, decide_eq_true List.mem_cons_self] <;> rfl
theorem ciN_sp {l : List (Str × Int)} {gv : Str → Option PyData} {sp : List Str} (hs : sp.Sublist (l.map Prod.fst)) (hn : (l.map Prod.fst).Nodup) (hb : ∀ p ∈ l, badN gv p = decide (p.1 ∈ sp)) : ciN l gv = sp.head? := by
  rw [← sub_find hs hn, List.find?_map]
  unfold ciN
  congr 1
  clear hs hn
  induction l with
  | nil => rfl
  | cons p r ih =>
    rw [List.find?_cons, List.find?_cons, hb p List.mem_cons_self, ih fun x hx => hb x (List.mem_cons_of_mem _ hx)] <;> rfl
/-- pairs of the rows, those of sp bent or left out -/
structure Bent (hs : List (Str × List Int)) (sp : List Str) (i : Nat) (dl : Dts) : Prop where
  sub : (dl.map Prod.fst).Sublist ((hs.take i).map Prod.fst)
  bad : ∀ z d ns, (z, d) ∈ dl → z ∈ sp → (z, ns) ∈ hs → isRow d ns.length = false
  good : ∀ z d, (z, d) ∈ dl → z ∉ sp → ∃ ns, (z, ns) ∈ hs ∧ d = .tuple (ns.map PyData.int)
  all : ∀ z, z ∈ (hs.take i).map Prod.fst → z ∉ sp → z ∈ dl.map Prod.fst
theorem hs_uniq {hs : List (Str × List Int)} (hn : (hs.map Prod.fst).Nodup) {z : Str} {ns ms : List Int} (h1 : (z, ns) ∈ hs) (h2 : (z, ms) ∈ hs) : ns = ms := by
  induction hs with
  | nil => cases h1
  | cons p r ih =>
    rw [List.map_cons, List.nodup_cons] at hn
    rcases List.mem_cons.mp h1 with e1 | h1 <;> rcases List.mem_cons.mp h2 with e2 | h2
    · exact congrArg Prod.snd (e1.trans e2.symm)
    · exact absurd (List.mem_map_of_mem (f := Prod.fst) h2) (by rw [← e1] at hn; exact hn.1)
    · exact absurd (List.mem_map_of_mem (f := Prod.fst) h1) (by rw [← e2] at hn; exact hn.1)
    · exact ih hn.2 h1 h2
theorem Bent.ci {hs : List (Str × List Int)} {sp : List Str} {dl : Dts} {acc : List (Str × Int)} (b : Bent hs sp hs.length dl) (h : HsOf hs acc) (hn : (acc.map Prod.fst).Nodup) (hsp : sp.Sublist (hs.map Prod.fst)) : ciN acc (gvOf dl.reverse) = sp.head? := by
  have hn' : (hs.map Prod.fst).Nodup := by rw [h.fst]; exact hn
  have hd : ((dl.reverse).map Prod.fst).Nodup := by
    rw [List.map_reverse]
    have := b.sub
    rw [List.take_length] at this
    exact (List.reverse_perm _).nodup_iff.mpr (this.nodup hn')
  refine ciN_sp (by rw [← h.fst]; exact hsp) hn fun p hp => ?_
  obtain ⟨z, k⟩ := p
  obtain ⟨ns, hm, e, hi⟩ := h.mem hp
  show (match gvOf dl.reverse z with | none => true | some d => !isRow d k) = decide (z ∈ sp)
  by_cases c : z ∈ dl.map Prod.fst
  · obtain ⟨⟨z', d⟩, hz, e'⟩ := List.mem_map.mp c
    have e' : z' = z := e'
    subst e'
    rw [gvOf_mem hd (List.mem_reverse.mpr hz)]
    show (!isRow d k) = _
    by_cases cs : z' ∈ sp
    · rw [decide_eq_true cs, ← e, b.bad _ _ _ hz cs hm] <;> rfl
    · obtain ⟨ms, hm2, rfl⟩ := b.good _ _ hz cs
      have := hs_uniq hn' hm hm2
      subst this
      rw [decide_eq_false cs, isRow_ok e hi] <;> rfl
  · rw [gvOf_not (by rw [List.map_reverse, List.mem_reverse]; exact c)]
    show true = _
    by_cases cs : z ∈ sp
    · rw [decide_eq_true cs]
    · exact absurd (b.all z (by rw [List.take_length]; exact List.mem_map.mpr ⟨(z, ns), hm, rfl⟩) cs) c
end

/-! ### W8 -/
section
variable {P : Program} {w : World} {K : PySem.W.Frag} {mg : Str → Option Value} {base : Heap}
theorem all_strs (zs : List Str) : (zs.map V.str).all flatV = true := by
  rw [List.all_map, List.all_eq_true]
  exact fun z _ => rfl
theorem get_s {zs : List Str} {i : Nat} {x : V} (h : (zs.map V.str)[i]? = some x) : ∃ z, zs[i]? = some z ∧ x = .str z := by
  rw [List.getElem?_map, Option.map_eq_some_iff] at h
  obtain ⟨n, h1, rfl⟩ := h
  exact ⟨n, h1, rfl⟩
theorem iteF' {p q : Prop} {b : Bool} (hb : b = false) (h : q) : if b = true then p else q := by
  subst hb
  exact iteF h
theorem take1_ne {α : Type} {l : List α} (h : l ≠ []) : l.take 1 ≠ [] := by
  cases l with
  | nil => exact absurd rfl h
  | cons x y => simp
theorem take_key {hs : List (Str × List Int)} {i : Nat} {p : Str × List Int} (h : hs[i]? = some p) : (hs.take (i + 1)).map Prod.fst = (hs.take i).map Prod.fst ++ [p.1] := by
  rw [List.take_add_one, h, List.map_append] <;> rfl
theorem Bent.keep {hs : List (Str × List Int)} {sp : List Str} {i : Nat} {dl : Dts} {z : Str} {ns : List Int} (b : Bent hs sp i dl) (h : hs[i]? = some (z, ns)) (c : z ∉ sp) : Bent hs sp (i + 1) (dl ++ [(z, .tuple (ns.map PyData.int))]) where
  sub := by
    rw [take_key h, List.map_append]
    exact b.sub.append (List.Sublist.refl _)
  bad := fun z' d ms hm hz hh => by
    rcases List.mem_append.mp hm with m | m
    · exact b.bad z' d ms m hz hh
    · have e := List.mem_singleton.mp m
      exact absurd hz (by rw [show z' = z from congrArg Prod.fst e]; exact c)
  good := fun z' d hm hz => by
    rcases List.mem_append.mp hm with m | m
    · exact b.good z' d m hz
    · have e := List.mem_singleton.mp m
      have e1 : z' = z := congrArg Prod.fst e
      have e2 : d = .tuple (ns.map PyData.int) := congrArg Prod.snd e
      exact ⟨ns, by rw [e1]; exact List.mem_of_getElem? h, e2⟩
  all := fun z' hm hz => by
    rw [take_key h] at hm
    rw [List.map_append]
    rcases List.mem_append.mp hm with m | m
    · exact List.mem_append_left _ (b.all z' m hz)
    · exact List.mem_append_right _ m
theorem Bent.bend {hs : List (Str × List Int)} {sp : List Str} {i : Nat} {dl : Dts} {z : Str} {ns : List Int} {d : PyData} (b : Bent hs sp i dl) (hn : (hs.map Prod.fst).Nodup) (h : hs[i]? = some (z, ns)) (c : z ∈ sp) (hd : isRow d ns.length = false) : Bent hs sp (i + 1) (dl ++ [(z, d)]) where
  sub := by
    rw [take_key h, List.map_append]
    exact b.sub.append (List.Sublist.refl _)
  bad := fun z' d' ms hm hz hh => by
    rcases List.mem_append.mp hm with m | m
    · exact b.bad z' d' ms m hz hh
    · have e := List.mem_singleton.mp m
      have e1 : z' = z := congrArg Prod.fst e
      have e2 : d' = d := congrArg Prod.snd e
      rw [e1] at hh
      rw [e2, hs_uniq hn hh (List.mem_of_getElem? h)]
      exact hd
  good := fun z' d' hm hz => by
    rcases List.mem_append.mp hm with m | m
    · exact b.good z' d' m hz
    · have e := List.mem_singleton.mp m
      exact absurd c (by rw [← show z' = z from congrArg Prod.fst e]; exact hz)
  all := fun z' hm hz => by
    rw [take_key h] at hm
    rw [List.map_append]
    rcases List.mem_append.mp hm with m | m
    · exact List.mem_append_left _ (b.all z' m hz)
    · exact List.mem_append_right _ m
theorem Bent.leave {hs : List (Str × List Int)} {sp : List Str} {i : Nat} {dl : Dts} {z : Str} {ns : List Int} (b : Bent hs sp i dl) (h : hs[i]? = some (z, ns)) (c : z ∈ sp) : Bent hs sp (i + 1) dl where
  sub := by
    rw [take_key h]
    exact b.sub.trans (List.sublist_append_left _ _)
  bad := b.bad
  good := b.good
  all := fun z' hm hz => by
    rw [take_key h] at hm
    rcases List.mem_append.mp hm with m | m
    · exact b.all z' m hz
    · exact absurd c (by rw [← show z' = z from List.mem_singleton.mp m]; exact hz)
theorem Bent.nil {hs : List (Str × List Int)} {sp : List Str} : Bent hs sp 0 [] where
  sub := by simp
  bad := fun _ _ _ h => nomatch h
  good := fun _ _ h => nomatch h
  all := fun _ h => by simp at h
def spBx (K : PySem.W.Frag) : Sp := fun vs H Q _ => ∃ (a g : Addr) (v : V) (j : Jn) (kvs : List (Key × V)) (hs : List (Str × List Int)), vs = [.ref a, v, .ref g] ∧ Src H a ∧ Rp K H v j.py ∧ Fx j ∧ j.cnt ≤ 40 ∧ j.fault = none ∧ g ≠ a ∧ H g = some (.dK kvs) ∧ Hds K H kvs hs ∧ HsOf hs (nmsOf j.all) ∧ hs ≠ [] ∧ hs.length ≤ 40 ∧ (∀ p ∈ hs, okS p.1 ∧ 1 ≤ p.2.length ∧ p.2.length ≤ 64) ∧
  ∀ (H' : Hp), SB a H H' → Src H' a → Q (.bl true) H'
abbrev s_law_bent_right : Stmt := top 88
theorem sc_law_bent_right : FnScope ["source", "program", "handed", "names_v", "name", "spoilt", "pairs"] ["source", "program", "handed"] (defScope s_law_bent_right) := ⟨rfl, rfl, rfl, by decide +kernel, rfl, by decide +kernel, by decide +kernel⟩
theorem has_bent_right (O : OwnF K mg "_law_bent_right" s_law_bent_right) (B : Bl mg) (h_law_take : HasF P w K mg base CX0 1 "_law_take" ["source", "top"] spTake) (h_law_bent_row : HasF P w K mg base CX0 3 "_law_bent_row" ["source", "row"] (spBr K)) (h_law_told : HasF P w K mg base CX0 13 "_law_told" ["program", "inputs"] (spTo K)) : HasF P w K mg base CX0 14 "_law_bent_right" ["source", "program", "handed"] (spBx K) := by
  refine has0 O sc_law_bent_right (fun _ _ _ _ _ _ us hl => match us, hl with | [_, _, _], _ => rfl) (fun vs H Q E h => ?_) (fun f cdv A outer s_ H vs Q E hr h => ?_)
  · obtain ⟨a, g, v, j, kvs, hs, rfl, _⟩ := h
    rfl
  obtain ⟨a, g, v, j, kvs, hs, rfl, hS, r, hj, h40, hfl, ng, hg, hH, hO, hne, hl40, hok, q⟩ := h
  have hnk : (hs.map Prod.fst).Nodup := by rw [hO.fst]; exact nmsOf_nodup _
  have hkv : ∀ (i : Nat) p u, hs[i]? = some p → kvs[i]? = some (Sum.inr p.1, u) → valV kvs (Sum.inr p.1) = some u := fun i p u _ e => by
    refine valV_at (i := i) ?_ e
    rw [hH.keys]
    have k := nodup_inr hnk
    rw [List.map_map] at k
    exact k
  have zl : (hs.map Prod.fst).length = hs.length := List.length_map ..
  refine ⟨_, (pss_cons (ps_lock (ps_setLc (i := 3) (own := [("name", 4)]) (g := gName 4) (tt := tYes) rfl sc_law_bent_right.nd rfl rfl (sw_true rfl rfl rfl (by decide +kernel)) (pi_keys (pv 2)) (blkOk_by (own := [("name", 4)]) (N := ["source", "program", "handed", "names_v", "name", "spoilt", "pairs"]) (sc := defScope s_law_bent_right) (by decide +kernel)) (fun _ _ _ _ _ => (pg_name (i := 4) sc_law_bent_right.nd rfl (by first | exact Or.inl rfl | exact Or.inr rfl))) (fun _ _ _ _ _ => pts_nil) (fun _ _ _ _ _ => (pv 4)))) (pss_cons (ps_setLc (i := 5) (own := [("name", 4)]) (g := gName 4) (tt := _) rfl sc_law_bent_right.nd rfl rfl (sw_true rfl rfl rfl (by decide +kernel)) (pi_listK K (pv 3)) (blkOk_by (own := [("name", 4)]) (N := ["source", "program", "handed", "names_v", "name", "spoilt", "pairs"]) (sc := defScope s_law_bent_right) (by decide +kernel)) (fun _ _ _ _ _ => (pg_name (i := 4) sc_law_bent_right.nd rfl (by first | exact Or.inl rfl | exact Or.inr rfl))) (fun _ _ _ _ _ => (pts_one (pt_cmpR (kEqG K (hU hr)) (pe_callH h_law_take (hr.mono (by first | decide | omega)) (by rfl) pass0 (pa_cons (pv 0) (pa_cons pe_int pa_nil))) pe_int (nomark _)))) (fun _ _ _ _ _ => (pv 4))) (pss_cons (ps_if (pt_not (pt_truthK K (pv 5) (by intro _; rfl))) (pss_one (ps_set (i := 5) sc_law_bent_right.nd rfl (by first | exact Or.inl rfl | exact Or.inr rfl) (pe_slice (kSl K) (pv 3) po_none (po_some pe_int)))) pss_nil) (pss_cons (ps_set (i := 6) sc_law_bent_right.nd rfl (by first | exact Or.inl rfl | exact Or.inr rfl) (pe_lst pa_nil)) (pss_cons (ps_for PassesOwn.never rfl (pi_listK K (pv 3)) (pg_name (i := 4) sc_law_bent_right.nd rfl (by first | exact Or.inl rfl | exact Or.inr rfl)) (pss_one (ps_if (pt_cmpR (kNotIn K) (pv 4) (pv 5) (by rfl)) (pss_one (ps_expr (pe_bmK K PySem.F.plainAttrs_list PySem.F.slot_list_append PySem.F.type_list_append mt_append (pv 6) (pa_cons (HE.pe_tupF (pa_cons (pv 4) (pa_cons (pe_dget (hu_of hr) (pv 2) (pv 4) (fun _ _ => rfl)) pa_nil))) pa_nil)))) (pss_one (ps_if (pt_cmpR gtU (pe_callH h_law_take (hr.mono (by first | decide | omega)) (by rfl) pass0 (pa_cons (pv 0) (pa_cons pe_int pa_nil))) pe_int (nomark _)) (pss_one (ps_expr (pe_bmK K PySem.F.plainAttrs_list PySem.F.slot_list_append PySem.F.type_list_append mt_append (pv 6) (pa_cons (HE.pe_tupF (pa_cons (pv 4) (pa_cons (pe_callH h_law_bent_row (hr.mono (by first | decide | omega)) (by rfl) pass0 (pa_cons (pv 0) (pa_cons (pe_dget (hu_of hr) (pv 2) (pv 4) (fun _ _ => rfl)) pa_nil))) pa_nil))) pa_nil)))) pss_nil))))) (pss_one (ps_ret (pe_cmpR (kEqG K (hU hr)) (pe_callH h_law_told (hr.mono (by first | decide | omega)) (by rfl) pass0 (pa_cons (pv 1) (pa_cons (pe_callTy (kTupF K) (by rfl) B.tuple (by decide +kernel) (pa_cons (pe_revK K (pv 6)) pa_nil)) pa_nil))) (HE.pe_tupF (pa_cons pe_str (pa_cons (pe_ix (kIx K) (pv 5) pe_int (fun _ _ => rfl)) pa_nil))) (nomark _))))))))), ?_⟩
  refine st0 [some (.ref a), some v, some (.ref g), none, none, none, none] rfl ?_
  walk_at "go"
  refine ⟨g, .dK kvs, hg, trivial, fun od => ?_⟩
  have gL : upd H g (.frz od (.dK kvs)) g = some (.frz od (.dK kvs)) := upd_same
  have same_u : ∀ H', Same (upd H g (.frz od (.dK kvs))) H' → Same H (upd H' g (.dK kvs)) := fun H' s => same_unlock hg s
  generalize upd H g (.frz od (.dK kvs)) = HL at *
  walk_at "go"
  refine rd_iKeys ?_
  walk_at "go"
  refine ⟨g, od, rfl, .inl ⟨kvs, gL, ?_⟩⟩
  intro nv hnv
  refine lc_keys (fun i H' => H' nv = some (.lst (((hs.take i).map Prod.fst).map V.str)) ∧ Same HL H') ⟨upd_same, same_new hnv _⟩ ?_ ?_ ?_
  · rintro i H' hi ⟨h1, h3⟩
    exact h3 _ _ gL
  · rintro i p H' hp ⟨h1, h3⟩
    have il := lt_of_get hp
    rw [hH.len] at il
    have eh : hs[i]? = some hs[i] := List.getElem?_eq_getElem il
    obtain ⟨u, e1, _⟩ := hH.get i _ eh
    rw [hp, Option.some.injEq] at e1
    subst e1
    generalize hs[i] = pz at *
    show gName 4 (.str pz.1) _ H' _
    walk_at "go"
    refine ⟨rfl, ?_⟩
    walk_at "go"
    refine ⟨_, h1, ls (by rw [List.length_map, List.length_map, List.length_take]; omega), ?_, Same.upd_new h3 hnv⟩
    rw [upd_same, List.take_add_one, eh, List.map_append, List.map_append] <;> rfl
  rintro H1 ⟨h1, h3⟩
  rw [hH.len, List.take_length] at h1
  have g1 := h3 _ _ gL
  refine ⟨g1, ?_⟩
  have s1 := same_u H1 h3
  have nvg : nv ≠ g := fun e => by rw [e, gL] at hnv; cases hnv
  have hnv0 : H nv = none := by
    cases hh : H nv with
    | none => rfl
    | some o => 
      have := same_u HL (Same.refl HL) _ _ hh
      rw [upd_ne nvg, hnv] at this
      cases this
  have h1 : upd H1 g (.dK kvs) nv = some (.lst ((hs.map Prod.fst).map V.str)) := by rw [upd_ne nvg]; exact h1
  generalize upd H1 g (.dK kvs) = H2 at *
  have hS2 := hS.same s1
  have nna : nv ≠ a := hS.ne hnv0
  have hg2 := s1 _ _ hg
  walk_at "go"
  intro D hD
  have nD := hS2.ne hD
  have hD0 : H D = none := by
    cases hh : H D with
    | none => rfl
    | some o => rw [s1 _ _ hh] at hD; cases hD
  refine lc_list (xs := (hs.map Prod.fst).map V.str) (fun i H' => ∃ sp : List Str, H' D = some (.lst (sp.map V.str)) ∧ sp.Sublist ((hs.take i).map Prod.fst) ∧ SB a H2 H' ∧ Src H' a ∧ H' nv = some (.lst ((hs.map Prod.fst).map V.str))) ⟨[], upd_same, by simp, SB.refl.new hD, hS2.new hD, same_new hD _ _ _ h1⟩ ?_ ?_ ?_
  · rintro i H' hi ⟨sp, f1, f2, f3, f4, f5⟩
    exact SqL.of f5
  · rintro i x H' hx ⟨sp, f1, f2, f3, f4, f5⟩
    obtain ⟨z, ez, rfl⟩ := get_s hx
    have il := lt_of_get ez
    rw [zl] at il
    have eh : hs[i]? = some hs[i] := List.getElem?_eq_getElem il
    have ezz : z = hs[i].1 := by
      rw [List.getElem?_map, eh] at ez
      exact (Option.some.inj ez).symm
    have etk : ((hs.take (i + 1)).map Prod.fst) = (hs.take i).map Prod.fst ++ [z] := by
      rw [List.take_add_one, eh, List.map_append, ezz] <;> rfl
    have lsp : sp.length ≤ 40 := by
      have := f2.length_le
      rw [List.length_map, List.length_take] at this
      omega
    walk_at "go"
    refine ⟨rfl, ?_⟩
    walk_at "go"
    refine use_take f4 (by omega) (by omega) fun H3 r0 s3 hS3 r1 r2 => ?_
    have g1 := s3 _ _ nD f1
    have g5 := s3 _ _ nna f5
    walk_at "go"
    refine rd_split (fun c => ?_) (fun c => ?_)
    · walk_at "go"
      refine ⟨_, g1, ls (by rw [List.length_map]; omega), sp ++ [z], ?_, ?_, (f3.trans s3).upd_new hD, hS3.set nD, ?_⟩
      · rw [upd_same, List.map_append] <;> rfl
      · rw [etk]
        exact f2.append (List.Sublist.refl _)
      · rw [upd_ne (fun e => by rw [← e, h1] at hD; cases hD)]
        exact g5
    · walk_at "go"
      exact ⟨sp, g1, by rw [etk]; exact f2.trans (List.sublist_append_left _ _), f3.trans s3, hS3, g5⟩
  rintro H3 ⟨sp, f1, f2, f3, f4, f5⟩
  rw [List.length_map, zl, List.take_length] at f2
  have s03 : SB a H H3 := (SB.of_same s1).trans f3
  have nDv : D ≠ nv := fun e => by rw [← e] at h1; rw [h1] at hD; cases hD
  walk_at "go"
  have hg3 := f3 _ _ ng hg2
  by_cases e0 : sp = []
  case' pos =>
    subst e0
    refine iteT ?_
    walk_at "go"
    refine u_slL (SqL.of f5) fun so hso => ?_
    rw [show (some (1 : Int)) = some ((1 : Nat) : Int) from rfl, cut_to, ← List.map_take]
    have tso : upd H3 so (.lst (((hs.map Prod.fst).take 1).map V.str)) so = some (.lst (((hs.map Prod.fst).take 1).map V.str)) := upd_same
    have t0 := s03.new (o := .lst (((hs.map Prod.fst).take 1).map V.str)) hso
    have tS := f4.new (o := .lst (((hs.map Prod.fst).take 1).map V.str)) hso
    have tnv := same_new hso (.lst (((hs.map Prod.fst).take 1).map V.str)) _ _ f5
    have tg := same_new hso (.lst (((hs.map Prod.fst).take 1).map V.str)) _ _ hg3
    have nso : so ≠ a := f4.ne hso
    have tsub : ((hs.map Prod.fst).take 1).Sublist (hs.map Prod.fst) := List.take_sublist _ _
    have tsn : (hs.map Prod.fst).take 1 ≠ [] := take1_ne fun e => hne (List.map_eq_nil_iff.mp e)
    clear f1 f2
    generalize (hs.map Prod.fst).take 1 = sq at *
    generalize upd H3 so (.lst (sq.map V.str)) = H4 at *
  case' neg =>
    refine iteF' (by cases sp with
      | nil => exact absurd rfl e0
      | cons x y => simp) ?_
    obtain ⟨so, hso⟩ : ∃ so, so = D := ⟨_, rfl⟩
    subst hso
    obtain ⟨H4, hH4⟩ : ∃ H4, H4 = H3 := ⟨_, rfl⟩
    subst hH4
    have tso := f1
    have t0 := s03
    have tS := f4
    have tnv := f5
    have tg := hg3
    have nso := nD
    have tsub := f2
    have tsn := e0
    clear f1 f2
    obtain ⟨sq, esq⟩ : ∃ sq, sq = sp := ⟨_, rfl⟩
    subst esq
  all_goals
    walk_at "go"
    refine ⟨lk rfl, fun pa hpa => ?_⟩
    have hpa0 : H pa = none ∧ pa ≠ a := by
      have npa := tS.ne hpa
      refine ⟨?_, npa⟩
      cases hh : H pa with
      | none => rfl
      | some o =>
        rw [t0 _ _ npa hh] at hpa
        cases hpa
    obtain ⟨hpa0, npa⟩ := hpa0
    have npso : so ≠ pa := ne_of_none tso hpa
    have npnv : nv ≠ pa := ne_of_none tnv hpa
    have npg : g ≠ pa := ne_of_none tg hpa
    have u0 := t0.new (o := .lst []) hpa
    have uS := tS.new (o := .lst []) hpa
    have upa : upd H4 pa (.lst []) pa = some (.lst []) := upd_same
    have uso := same_new hpa (.lst []) _ _ tso
    have unv := same_new hpa (.lst []) _ _ tnv
    have ug := same_new hpa (.lst []) _ _ tg
    generalize upd H4 pa (.lst []) = H5 at *
    walk_at "go"
    refine forL (xs := (hs.map Prod.fst).map V.str) (fun i σ H' => ∃ (pl : List V) (dl : Dts) (o4 : Option V), σ = [some (.ref a), some v, some (.ref g), some (.ref nv), o4, some (.ref so), some (.ref pa)] ∧ SB a H H' ∧ Src H' a ∧ H' pa = some (.lst pl) ∧ PrD K H' pl dl ∧ Bent hs sq i dl ∧ pl.length ≤ i ∧ H' so = some (.lst (sq.map V.str)) ∧ H' nv = some (.lst ((hs.map Prod.fst).map V.str)) ∧ H' g = some (.dK kvs)) ⟨[], [], _, rfl, u0, uS, upa, .nil, Bent.nil, Nat.le_refl _, uso, unv, ug⟩ ?_ ?_ ?_
    · rintro i σ H' hi ⟨pl, dl, o4, rfl, k1, k2, k3, k4, k5, k6, k7, k8, k9⟩
      exact SqL.of k8
    · rintro i x σ H' hx ⟨pl, dl, o4, rfl, k1, k2, k3, k4, k5, k6, k7, k8, k9⟩
      obtain ⟨z', ez, rfl⟩ := get_s hx
      have il := lt_of_get ez
      rw [zl] at il
      have eh : hs[i]? = some hs[i] := List.getElem?_eq_getElem il
      have hko := hok hs[i] (List.getElem_mem il)
      have ezz : z' = hs[i].1 := by
        rw [List.getElem?_map, eh] at ez
        exact (Option.some.inj ez).symm
      obtain ⟨u, e1, hw⟩ := hH.get i _ eh
      have hval := hkv i _ u eh e1
      generalize hs[i] = pz at *
      obtain ⟨z, ns⟩ := pz
      have ezz : z' = z := ezz
      subst ezz
      have hw' := hw.mono (hS.ext k1)
      obtain ⟨qr, rfl, hqr⟩ := hw'
      have hval : valV kvs (Sum.inr z') = some (.ref qr) := hval
      walk_at "go"
      refine u_ninL (SqL.of k7) rfl (all_strs _) ?_
      rw [inV_str]
      walk_at "go"
      by_cases c : z' ∈ sq
      · rw [decide_eq_true c, Bool.not_true]
        refine iteF ?_
        walk_at "go"
        refine use_take k2 (by omega) (by omega) fun H6 r6 s6 hS6 a6 b6 => ?_
        have ex6 := k2.ext (K := K) s6
        have m3 := s6 _ _ npa k3
        have m7 := s6 _ _ nso k7
        have m8 := s6 _ _ nna k8
        have m9 := s6 _ _ ng k9
        walk_at "go"
        refine rd_split (fun c2 => ?_) (fun c2 => ?_)
        · walk_at "go"
          refine u_dgetS m9 hval ?_
          walk_at "go"
          refine ⟨a, qr, ns, rfl, hS6, ex6 _ _ hqr, hko.2.1, hko.2.2, fun H7 v7 s7 hS7 hb => ?_⟩
          have ex7 := hS6.ext (K := K) s7
          have n3 := s7 _ _ npa m3
          walk_at "go"
          refine ⟨lk rfl, fun t o ho hdn => ?_⟩
          have npt : pa ≠ t := ne_of_none n3 ho
          have n3' : upd H7 t (.frz o (.tup [V.str z', v7])) pa = some (.lst pl) := by rw [upd_ne npt]; exact n3
          have ext : Ext K H7 (upd H7 t (.frz o (.tup [V.str z', v7]))) := Ext.new ho
          have exp_ : Ext K (upd H7 t (.frz o (.tup [V.str z', v7]))) (upd (upd H7 t (.frz o (.tup [V.str z', v7]))) pa (.lst (pl ++ [V.ref t]))) := Ext.set n3' trivial
          obtain ⟨d, d1, d2, d3⟩ := hb
          walk_at "go"
          refine u_app n3' (ls (by omega)) ?_
          walk_at "go"
          refine ⟨pl ++ [.ref t], dl ++ [(z', d)], _, rfl, (((k1.trans s6).trans s7).new ho).upd_new hpa0, (hS7.new ho).set npa, upd_same, ?_, k5.bend hnk eh c d3, ?_, ?_, ?_, ?_⟩
          · exact ((((k4.mono ex6).mono ex7).mono ext).mono exp_).append (PrD.one (exp_ _ _ (HE.FT.sq (FTmk hdn))) ((d1.mono ext _ _).mono exp_ _ _) d2)
          · rw [List.length_append]
            show pl.length + 1 ≤ _
            omega
          · rw [upd_ne npso, upd_ne (ne_of_none (s7 _ _ nso m7) ho)]
            exact s7 _ _ nso m7
          · rw [upd_ne npnv, upd_ne (ne_of_none (s7 _ _ nna m8) ho)]
            exact s7 _ _ nna m8
          · rw [upd_ne npg, upd_ne (ne_of_none (s7 _ _ ng m9) ho)]
            exact s7 _ _ ng m9
        · walk_at "go"
          exact ⟨pl, dl, _, rfl, k1.trans s6, hS6, m3, k4.mono ex6, k5.leave eh c, by omega, m7, m8, m9⟩
      · rw [decide_eq_false c, Bool.not_false]
        refine iteT ?_
        walk_at "go"
        refine u_dgetS k9 hval ?_
        walk_at "go"
        refine ⟨lk rfl, fun t o ho hdn => ?_⟩
        have npt : pa ≠ t := ne_of_none k3 ho
        have n3' : upd H' t (.frz o (.tup [V.str z', .ref qr])) pa = some (.lst pl) := by rw [upd_ne npt]; exact k3
        have ext : Ext K H' (upd H' t (.frz o (.tup [V.str z', .ref qr]))) := Ext.new ho
        have exp_ : Ext K (upd H' t (.frz o (.tup [V.str z', .ref qr]))) (upd (upd H' t (.frz o (.tup [V.str z', .ref qr]))) pa (.lst (pl ++ [V.ref t]))) := Ext.set n3' trivial
        walk_at "go"
        refine u_app n3' (ls (by omega)) ?_
        walk_at "go"
        refine ⟨pl ++ [.ref t], dl ++ [(z', .tuple (ns.map PyData.int))], _, rfl, (k1.new ho).upd_new hpa0, (k2.new ho).set npa, upd_same, ?_, k5.keep eh c, ?_, ?_, ?_, ?_⟩
        · exact ((k4.mono ext).mono exp_).append (PrD.one (u := .ref qr) (exp_ _ _ (HE.FT.sq (FTmk hdn))) (.tup (exp_ _ _ (ext _ _ hqr)) (Rps.ints ns)) (dat_row hko.2.2))
        · rw [List.length_append]
          show pl.length + 1 ≤ _
          omega
        · rw [upd_ne npso, upd_ne (ne_of_none k7 ho)]
          exact k7
        · rw [upd_ne npnv, upd_ne (ne_of_none k8 ho)]
          exact k8
        · rw [upd_ne npg, upd_ne (ne_of_none k9 ho)]
          exact k9
    · rintro σ H' ⟨pl, dl, o4, rfl, k1, k2, k3, k4, k5, k6, k7, k8, k9⟩
      rw [List.length_map, zl] at k5
      have hci := k5.ci hO (nmsOf_nodup _) tsub
      obtain ⟨z0, rest, esq⟩ : ∃ z0 rest, sq = z0 :: rest := by
        match sq, tsn with
        | z0 :: rest, _ => exact ⟨z0, rest, rfl⟩
      subst esq
      have hci : ciN (nmsOf j.all) (gvOf dl.reverse) = some z0 := hci
      have z0m : z0 ∈ hs.map Prod.fst := tsub.subset List.mem_cons_self
      have z0k : okS z0 := by
        obtain ⟨p, hp, e⟩ := List.mem_map.mp z0m
        rw [← e]
        exact (hok p hp).1
      walk_at "go"
      refine rd_revL (SqL.of k3) fun l hl => ?_
      walk_at "go"
      refine u_tupF (SqL.of upd_same) fun qf HF sF hF => ?_
      have sN := (same_new hl (.lst pl.reverse)).trans sF
      have hP := ((k4.mono (Ext.of_same sN)).reverse)
      obtain ⟨ts, kv2, w1, w2, w3⟩ := hP.refs
      rw [w1] at hF
      have k1F := k1.trans (SB.of_same sN)
      have rF := (r.mono (hS.ext k1F) _ _)
      walk_at "go"
      refine ⟨v, j, qf, ts, kv2, gvOf dl.reverse, rfl, rF, hj, h40, hfl, hF, w2, w3 [] (fun _ => none) (fun z => rfl), fun H6 q6 s6 hq6 => ?_⟩
      rw [toldV_bad hci] at hq6
      have m7 := s6 _ _ (sN _ _ k7)
      walk_at "go"
      refine u_ixL (SqL.of m7) (atI_nat (j := 0) rfl) ?_
      walk_at "go"
      refine ⟨lk rfl, fun t2 o2 ho2 hd2 => ?_⟩
      have dtd : dat (.tuple [.str "input", .str z0]) := by
        simp only [dat, dats]
        exact ⟨by simp, okL (by decide +kernel), z0k, trivial⟩
      have dpd : (PyData.tuple [.str "input", .str z0]).depth ≤ 60 := by simp [PyData.depth, PyData.depthAll]
      refine eq_bt (d := .tuple [.str "input", .str z0]) (e := .tuple [.str "input", .str z0]) ⟨hq6.mono (Ext.new ho2) _ _, dtd, dpd⟩ ⟨.tup (HE.FT.sq (FTmk hd2)) (.cons (.str _) (.cons (.str _) .nil)), dtd, dpd⟩ fun b hb => ?_
      rw [hb.mpr rfl]
      exact q _ ((k1F.trans (SB.of_same s6)).new ho2) (((k2.same sN).same s6).new ho2)
end

/-! ### WA -/
section
variable {P : Program} {w : World} {K : PySem.W.Frag} {mg : Str → Option Value} {base : Heap}
theorem shareI {G : Int → Prop} {T : Prop} (main : ∀ z : Int, 1 ≤ z → z ≤ 40 → G z) (h : (∀ z : Int, 1 ≤ z → z ≤ 40 → G z) → T) : T := h main
theorem seq_on {K : PySem.W.Frag} {H H2 H3 : Hp} {a p : Addr} {xs : List V} (h : SqL K H a xs) (s : Same H H2) (hp : H p = none) (t : SB p H2 H3) : SqL K H3 a xs := by
  rcases h with (h | ⟨o, h⟩) | h
  · exact .inl (.inl (t _ _ (ne_of_none h hp) (s _ _ h)))
  · exact .inl (.inr ⟨o, t _ _ (ne_of_none h hp) (s _ _ h)⟩)
  · exact .inr h
theorem addN_mem {acc : List (Str × Int)} {z : Str} {k : Int} {p : Str × Int} (h : p ∈ addN acc z k) : p ∈ acc ∨ p = (z, k) := by
  unfold addN at h
  split at h
  · exact .inl h
  · rcases List.mem_append.mp h with h | h
    · exact .inl h
    · exact .inr (List.mem_singleton.mp h)
theorem fold_mem : ∀ (l : List Jn) (acc : List (Str × Int)) (p : Str × Int), p ∈ l.foldl stepN acc → p ∈ acc ∨ ∃ ps, Jn.mk "in" [.str p.1, .int p.2] ps ∈ l
  | [], _, _, h => .inl h
  | .mk op td ps :: r, acc, p, h => by
    rcases fold_mem r _ p h with h | ⟨ps', h⟩
    · by_cases c : op = "in"
      · subst c
        simp only [stepN, if_true] at h
        split at h
        · rcases addN_mem h with h | h
          · exact .inl h
          · exact .inr ⟨ps, by rw [h]; exact List.mem_cons_self⟩
        · exact .inl h
      · rw [stepN_other c] at h
        exact .inl h
    · exact .inr ⟨ps', List.mem_cons_of_mem _ h⟩
theorem nms_in {l : List Jn} {z : Str} {k : Int} (h : (z, k) ∈ nmsOf l) : ∃ ps, Jn.mk "in" [.str z, .int k] ps ∈ l := by
  rcases fold_mem l [] (z, k) h with h | h
  · cases h
  · exact h
theorem gd_in {ks : Nat → Int} {op : Str} {td : List PyData} {ps : List Jn} {s : Int} (g : Gd ks (.mk op td ps) s) {z : Str} {k : Int} (ho : op = "in") (ht : td = [.str z, .int k]) : ∃ i, i < 4 ∧ z = abc i ∧ 1 ≤ ks i ∧ k = ks i ∧ ks i ≤ 64 := by
  cases g with
  | inp i hi h1 h2 =>
    simp only [List.cons.injEq, PyData.str.injEq, PyData.int.injEq, and_true] at ht
    exact ⟨i, hi, ht.1.symm, h1, ht.2.symm, h2⟩
  | row => exact absurd ho (by decide +kernel)
  | same op h g => subst ho; exact absurd h (by decide +kernel)
  | unit op h g => subst ho; exact absurd h (by decide +kernel)
  | hold => exact absurd ho (by decide +kernel)
  | part => exact absurd ho (by decide +kernel)
  | rep => exact absurd ho (by decide +kernel)
  | pair op h g g2 => subst ho; exact absurd h (by decide +kernel)
  | dot => exact absurd ho (by decide +kernel)
  | outer => exact absurd ho (by decide +kernel)
  | blend => exact absurd ho (by decide +kernel)
  | cat => exact absurd ho (by decide +kernel)
  | cat3 => exact absurd ho (by decide +kernel)
  | cat4 => exact absurd ho (by decide +kernel)
theorem abc_ok {i : Nat} (h : i < 3) : abc i ∉ (moreD.map Prod.fst) := by
  match i, h with
  | 0, _ => decide +kernel
  | 1, _ => decide +kernel
  | 2, _ => decide +kernel
/-- the names of a program drawn -/
theorem gd_names {ks : Nat → Int} {j : Jn} {s : Int} (g : Gd ks j s) (h3 : ks 3 = 0) {hs : List (Str × List Int)} (h : HsOf hs (nmsOf j.all)) : ∀ p ∈ hs, okS p.1 ∧ (1 ≤ p.2.length ∧ p.2.length ≤ 64) ∧ p.1 ∉ moreD.map Prod.fst := fun p hp => by
  have hm : (p.1, (p.2.length : Int)) ∈ nmsOf j.all := by
    rw [← h.1]
    exact List.mem_map.mpr ⟨p, hp, rfl⟩
  obtain ⟨ps, hin⟩ := nms_in hm
  obtain ⟨t, gt⟩ := g.sub _ hin
  obtain ⟨i, hi, e1, e2, e3, e4⟩ := gd_in gt rfl rfl
  have hi3 : i < 3 := by
    rcases Nat.lt_or_ge i 3 with c | c
    · exact c
    · have : i = 3 := by omega
      rw [this, h3] at e2
      exact absurd e2 (by decide)
  refine ⟨by rw [e1]; exact okS_abc i, ⟨by omega, by omega⟩, by rw [e1]; exact abc_ok hi3⟩
theorem rowD_fst (hs : List (Str × List Int)) : (hs.map rowD).map Prod.fst = hs.map Prod.fst := by
  rw [List.map_map] <;> rfl
theorem hasR_of {hs : List (Str × List Int)} {ds : Dts} (hn : (ds.map Prod.fst).Nodup) (h : ∀ p ∈ hs, rowD p ∈ ds) : HasR (gvOf ds) hs := fun z ns m => gvOf_mem hn (h _ m)
theorem dat_val {ns : List Int} (h : ns.length ≤ 64) : dat (.tuple [.str "value", .tuple (ns.map PyData.int)]) := by
  have hk := dat_row h
  simp only [dat] at hk
  simp only [dat, dats]
  exact ⟨by simp, okL (by decide +kernel), hk, trivial⟩
theorem ints_deep6 : ∀ ns : List Int, PyData.depthAll (ns.map PyData.int) = 0
  | [] => rfl
  | n :: r => by simp only [List.map_cons, PyData.depthAll, ints_deep6 r, PyData.depth]; rfl
theorem dp_val (ns : List Int) : (PyData.tuple [.str "value", .tuple (ns.map PyData.int)]).depth ≤ 60 := by
  have := ints_deep6 ns
  simp [PyData.depth, PyData.depthAll, this]
def spLaw (K : PySem.W.Frag) : Sp := fun vs H Q _ => ∃ (a : Addr) (ns : List Int), vs = [.ref a] ∧ SqL K H a (ns.map V.int) ∧ ns.length ≤ 63 ∧ ∀ H', Q (.bl true) H'
abbrev s_law : Stmt := top 89
theorem sc_law : FnScope ["script", "k", "source", "most", "program", "handed", "due", "name", "row"] ["script"] (defScope s_law) := ⟨rfl, rfl, rfl, by decide +kernel, rfl, by decide +kernel, by decide +kernel⟩
theorem ok_law {f : Addr} {fd : FuncData} (F : Fun K "law" "law" s_law f fd) (B : Bl mg) (h_law_pool : HasF P w K mg base CX0 1 "_law_pool" ["script", "k"] (spPool K)) (h_law_take : HasF P w K mg base CX0 1 "_law_take" ["source", "top"] spTake) (h_law_program : HasF P w K mg base CX0 5 "_law_program" ["source", "most"] (spPr K)) (h_law_handed : HasF P w K mg base CX0 4 "_law_handed" ["source", "program"] (spHd K)) (h_law_values : HasF P w K mg base CX0 3 "_law_values" ["program", "handed"] (spVs K))
    (h_law_mixed_pairs : HasF P w K mg base CX0 2 "_law_mixed_pairs" ["source", "handed"] (spMp K)) (h_law_told : HasF P w K mg base CX0 13 "_law_told" ["program", "inputs"] (spTo K)) (h_law_bent_right : HasF P w K mg base CX0 14 "_law_bent_right" ["source", "program", "handed"] (spBx K)) : FnOk P w K mg base CX0 16 f fd ["script"] (spLaw K) := by
  refine F.ok sc_law (fun vs H Q E h => ?_) (fun cdv A outer s_ H vs Q E hr h => ?_)
  · obtain ⟨a, ns, rfl, _⟩ := h
    rfl
  obtain ⟨a, ns, rfl, hL, h63, q⟩ := h
  have hl : (ns.map V.int).length = ns.length := List.length_map _
  refine ⟨_, (pss_cons (ps_for PassesOwn.never rfl (pi_range1 (by rfl) B.range (pa_cons (pe_callB (max2U rfl) (by rfl) B.max (by decide +kernel) (pa_cons pe_int (pa_cons (pe_callB (min2U rfl) (by rfl) B.min (by decide +kernel) (pa_cons (pe_callB (kLen K) (by rfl) B.len (by decide +kernel) (pa_cons (pv 0) pa_nil)) (pa_cons pe_int pa_nil))) pa_nil))) pa_nil)) (pg_name (i := 1) sc_law.nd rfl (by first | exact Or.inl rfl | exact Or.inr rfl)) (pss_cons (ps_set (i := 2) sc_law.nd rfl (by first | exact Or.inl rfl | exact Or.inr rfl) (pe_callH h_law_pool (hr.mono (by first | decide | omega)) (by rfl) pass0 (pa_cons (pv 0) (pa_cons (pv 1) pa_nil)))) (pss_cons (ps_set (i := 3) sc_law.nd rfl (by first | exact Or.inl rfl | exact Or.inr rfl) (pe_op (kAdd K) pe_int (pe_callH h_law_take (hr.mono (by first | decide | omega)) (by rfl) pass0 (pa_cons (pv 2) (pa_cons pe_int pa_nil))))) (pss_cons (ps_if (pt_cmpR (kEqG K (hU hr)) (pe_callH h_law_take (hr.mono (by first | decide | omega)) (by rfl) pass0 (pa_cons (pv 2) (pa_cons pe_int pa_nil))) pe_int (nomark _)) (pss_one (ps_set (i := 3) sc_law.nd rfl (by first | exact Or.inl rfl | exact Or.inr rfl) pe_int)) pss_nil) (pss_cons (ps_set (i := 4) sc_law.nd rfl (by first | exact Or.inl rfl | exact Or.inr rfl) (pe_callH h_law_program (hr.mono (by first | decide | omega)) (by rfl) pass0 (pa_cons (pv 2) (pa_cons (pv 3) pa_nil)))) (pss_cons (ps_set (i := 5) sc_law.nd rfl (by first | exact Or.inl rfl | exact Or.inr rfl) (pe_callH h_law_handed (hr.mono (by first | decide | omega)) (by rfl) pass0 (pa_cons (pv 2) (pa_cons (pv 4) pa_nil)))) (pss_cons (ps_set (i := 6) sc_law.nd rfl (by first | exact Or.inl rfl | exact Or.inr rfl) (HE.pe_tupF (pa_cons pe_str (pa_cons (pe_callTy (kTupF K) (by rfl) B.tuple (by decide +kernel) (pa_cons (pe_ix (kIx K) (pe_callH h_law_values (hr.mono (by first | decide | omega)) (by rfl) pass0 (pa_cons (pv 4) (pa_cons (pv 5) pa_nil))) pe_int (fun _ _ => rfl)) pa_nil)) pa_nil)))) (pss_cons (ps_if (pt_cmpR (kNeG K (hU hr)) (pe_callH h_law_told (hr.mono (by first | decide | omega)) (by rfl) pass0 (pa_cons (pv 4) (pa_cons (pe_callH h_law_mixed_pairs (hr.mono (by first | decide | omega)) (by rfl) pass0 (pa_cons (pv 2) (pa_cons (pv 5) pa_nil))) pa_nil))) (pv 6) (nomark _)) (pss_one (ps_ret pe_bl)) pss_nil) (pss_cons (ps_if (pt_cmpR (kNeG K (hU hr)) (pe_callH h_law_told (hr.mono (by first | decide | omega)) (by rfl) pass0 (pa_cons (pv 4) (pa_cons (pe_callTy (kTupF K) (by rfl) B.tuple (by decide +kernel) (pa_cons (pe_lock (pe_lc (own := [("name", 7), ("row", 8)]) (g := _) (tt := tYes) rfl sc_law.nd (pi_items (pv 5)) (blkOk_by (own := [("name", 7), ("row", 8)]) (N := ["script", "k", "source", "most", "program", "handed", "due", "name", "row"]) (sc := defScope s_law) (by decide +kernel)) (fun _ _ _ _ _ => (pg_tupK (n := 2) K rfl (pgs_cons (pg_name (i := 7) sc_law.nd rfl (by first | exact Or.inl rfl | exact Or.inr rfl)) (pgs_cons (pg_name (i := 8) sc_law.nd rfl (by first | exact Or.inl rfl | exact Or.inr rfl)) pgs_nil)))) (fun _ _ _ _ _ => pts_nil) (fun _ _ _ _ _ => (HE.pe_tupF (pa_cons (pv 7) (pa_cons (pv 8) pa_nil)))))) pa_nil)) pa_nil))) (pv 6) (nomark _)) (pss_one (ps_ret pe_bl)) pss_nil) (pss_one (ps_if (PW.pt (pw_and (pt_truthK K (pv 5) (by intro _; rfl)) (pw_and1 (pt_not (pt_val (pe_callH h_law_bent_right (hr.mono (by first | decide | omega)) (by rfl) pass0 (pa_cons (pv 2) (pa_cons (pv 4) (pa_cons (pv 5) pa_nil))))))))) (pss_one (ps_ret pe_bl)) pss_nil))))))))))) (pss_one (ps_ret pe_bl))), ?_⟩
  refine st0 [some (.ref a), none, none, none, none, none, none, none, none] rfl ?_
  walk_at "go"
  rw [hl]
  obtain ⟨m, em, m1, m2⟩ : ∃ m : Int, (if (if (3 : Int) < (ns.length : Int) then (3 : Int) else (ns.length : Int)) > 1 then (if (3 : Int) < (ns.length : Int) then (3 : Int) else (ns.length : Int)) else 1) = m ∧ 1 ≤ m ∧ m ≤ 3 := by
    refine ⟨_, rfl, ?_⟩
    split <;> split <;> omega
  rw [em]
  walk_at "go"
  refine forR (fun i σ H' => ∃ (o1 o2 o3 o4 o5 o6 o7 o8 : Option V), σ = [some (.ref a), o1, o2, o3, o4, o5, o6, o7, o8] ∧ SqL K H' a (ns.map V.int)) ⟨_, _, _, _, _, _, _, _, rfl, hL⟩ ?_ ?_
  · rintro i σ H1 hi ⟨o1, o2, o3, o4, o5, o6, o7, o8, rfl, hL'⟩
    walk_at "go"
    refine ⟨a, ns, _, rfl, hL', by omega, by omega, fun H2 p s2 hp hS => ?_⟩
    walk_at "go"
    refine use_take hS (by omega) (by omega) fun H3 r3 s3 hS3 h30 h31 => ?_
    walk_at "go"
    refine use_take hS3 (by omega) (by omega) fun H4 r4 s4 hS4 h40 h41 => ?_
    apply shareI
    case h =>
      intro key
      walk_at "go"
      refine rd_split (fun c => ?_) (fun c => ?_)
      · walk_at "go"
        obtain ⟨most, emo⟩ : ∃ most : Int, (40 : Int) = most := ⟨_, rfl⟩
        rw [emo]
        exact key most (by omega) (by omega)
      · walk_at "go"
        obtain ⟨most, emo⟩ : ∃ most : Int, 1 + r3 = most := ⟨_, rfl⟩
        rw [emo]
        exact key most (by omega) (by omega)
    case main =>
    intro most mo1 mo2
    walk_at "go"
    refine ⟨p, most, rfl, hS4, mo1, mo2, fun H5 u j s ks s5 hS5 ru gj hjm hk3 => ?_⟩
    have gx := gj.fx
    have nof := gj.nofault
    have j40 : j.cnt ≤ 40 := by omega
    have sb5 := (s3.trans s4).trans s5
    clear s3 s4 s5 hS3 hS4
    walk_at "go"
    refine ⟨p, u, j, rfl, hS5, ru, gx, j40, fun H6 g kvs hs s6 hS6 ng hg hHd hO => ?_⟩
    have sb6 := sb5.trans s6
    have ru6 := ru.mono (hS5.ext s6) _ _
    have hnm := gd_names gj hk3 hO
    clear s6 sb5 hS5 ru gj
    have hnk : (hs.map Prod.fst).Nodup := by rw [hO.fst]; exact nmsOf_nodup _
    have hl40 : hs.length ≤ 40 := by
      have h1 := congrArg List.length hO.1
      rw [List.length_map] at h1
      have h2 := nmsOf_len j.all j.all.length
      rw [List.take_length, all_cnt] at h2
      omega
    have hR0 : HasR (gvOf (hs.map rowD)) hs := hasR_of (by rw [rowD_fst]; exact hnk) fun p hp => List.mem_map_of_mem hp
    have hci0 := ciN_ok hO hR0
    have hnb := (fault_none nof).1
    have hh0 := hnd_of gx nof hci0
    have hv0 := vok gx hnb hh0 (all_self j)
    walk_at "go"
    refine ⟨u, j, g, kvs, hdOf (gvOf (hs.map rowD)), rfl, ru6, gx, j40, hnb, hh0, hg, fun td ps hm => ?_, fun H7 qv qa fds s7 hqv hf0 hqa => ?_⟩
    · obtain ⟨ms, hms⟩ := in_named gx nof hO hm
      obtain ⟨i', hi'⟩ := List.getElem?_of_mem hms
      obtain ⟨u', e1, e2⟩ := hHd.get i' _ hi'
      refine ⟨u', ?_, by rw [hdOf_row hR0 hms]; exact e2⟩
      refine valV_at (i := i') ?_ e1
      rw [hHd.keys]
      have k := nodup_inr hnk
      rw [List.map_map] at k
      exact k
    walk_at "go"
    refine u_ixL (SqL.of hqv) (atI_nat (j := 0) hf0) ?_
    walk_at "go"
    refine u_tupF (SqL.of hqa) fun qd H8 s8 hqd => ?_
    walk_at "go"
    refine ⟨lk rfl, fun du od hdu hod => ?_⟩
    have eV : ∀ gv, HasR gv hs → toldV j gv = .tuple [.str "value", .tuple ((j.val (hdOf (gvOf (hs.map rowD)))).map PyData.int)] := fun gv hgv => by
      rw [toldV_good (ciN_ok hO hgv), val_two gx nof hO hgv hR0]
    generalize j.val (hdOf (gvOf (hs.map rowD))) = R at *
    have due8 : Rp K (upd H8 du (.frz od (.tup [V.str "value", .ref qd]))) (.ref du) (.tuple [.str "value", .tuple (R.map PyData.int)]) := .tup (HE.FT.sq (FTmk hod)) (.cons (.str _) (.cons (.tup (Ext.new hdu _ _ hqd.sq) (Rps.ints R)) .nil))
    have s9 := Same.new (o := .frz od (.tup [V.str "value", .ref qd])) (s7.trans s8) hdu
    generalize upd H8 du (.frz od (.tup [V.str "value", .ref qd])) = H9 at *
    have sb9 := sb6.trans (SB.of_same s9)
    have hS9 := hS6.same s9
    have hg9 := s9 _ _ hg
    have hHd9 := hHd.mono (Ext.of_same s9)
    have ru9 := ru6.mono (Ext.of_same s9) _ _
    have hdR := dat_val hv0.2.2
    have hpR := dp_val R
    clear s7 s8 hqv hf0 hqa hqd s9 sb6 hS6 hg hHd ru6
    walk_at "go"
    refine ⟨p, g, kvs, hs, rfl, hS9, ng, hg9, hHd9, hl40, fun p hp => ⟨(hnm p hp).1, (hnm p hp).2.1.2⟩, fun HA qm ps ds sA hSA hFT hPr hpm => ?_⟩
    obtain ⟨ts, kv2, w1, w2, w3⟩ := hPr.refs
    rw [w1] at hFT
    have hRA : HasR (gvOf ds) hs := by
      refine hasR_of ?_ fun p hp => hpm.mem_iff.mpr (List.mem_append_left _ (List.mem_map_of_mem hp))
      refine (hpm.map Prod.fst).nodup_iff.mpr ?_
      rw [List.map_append, rowD_fst, List.nodup_append]
      refine ⟨hnk, by decide +kernel, fun x hx y hy e => ?_⟩
      obtain ⟨p', hp', rfl⟩ := List.mem_map.mp hx
      exact (hnm p' hp').2.2 (e ▸ hy)
    have exA := hS9.ext (K := K) sA
    have sbA := sb9.trans sA
    have hgA := sA _ _ ng hg9
    have hHdA := hHd9.mono exA
    have ruA := ru9.mono exA _ _
    have dueA := due8.mono exA _ _
    clear sb9 hS9 hg9 hHd9 ru9 due8 sA
    walk_at "go"
    refine ⟨u, j, qm, ts, kv2, gvOf ds, rfl, ruA, gx, j40, nof, hFT, w2, w3 [] (fun _ => none) (fun z => rfl), fun HB qB sB hqB => ?_⟩
    rw [eV _ hRA] at hqB
    have dueB := dueA.mono (Ext.of_same sB) _ _
    walk_at "go"
    refine neq_bt (d := .tuple [.str "value", .tuple (R.map PyData.int)]) (e := .tuple [.str "value", .tuple (R.map PyData.int)]) ⟨hqB, hdR, hpR⟩ ⟨dueB, hdR, hpR⟩ fun b hb => ?_
    have eb : b = false := by
      cases b with
      | false => rfl
      | true => exact absurd rfl (hb.mp rfl)
    subst eb
    walk_at "go"
    have hgB := sB _ _ hgA
    have hHdB := hHdA.mono (Ext.of_same sB)
    have hSB := hSA.same sB
    have sbB := sbA.trans (SB.of_same sB)
    have ruB := ruA.mono (Ext.of_same sB) _ _
    clear sB hqB hb hgA hHdA hSA sbA ruA dueA exA hPr w1 w2 w3 hFT
    refine ⟨g, .dK kvs, hgB, trivial, fun od => ?_⟩
    have gL : upd HB g (.frz od (.dK kvs)) g = some (.frz od (.dK kvs)) := upd_same
    have exL : Ext K HB (upd HB g (.frz od (.dK kvs))) := Ext.set hgB trivial
    have same_u : ∀ H', Same (upd HB g (.frz od (.dK kvs))) H' → Same HB (upd H' g (.dK kvs)) := fun H' s => same_unlock hgB s
    have hLd := hHdB.mono exL
    generalize upd HB g (.frz od (.dK kvs)) = HL at *
    walk_at "go"
    refine rd_iItems ?_
    walk_at "go"
    refine ⟨g, od, kvs, rfl, gL, ?_⟩
    intro D hD
    refine lc_items (fun i H' => ∃ ws : List V, H' D = some (.lst ws) ∧ PrD K H' ws ((hs.take i).map rowD) ∧ Same HL H') ⟨[], upd_same, .nil, same_new hD _⟩ ?_ ?_ ?_
    · rintro i H' hi ⟨ws, h1, h2, h3⟩
      exact h3 _ _ gL
    · rintro i pp t H' hp ⟨ws, h1, h2, h3⟩ ht
      have il := lt_of_get hp
      rw [hHdB.len] at il
      have eh : hs[i]? = some hs[i] := List.getElem?_eq_getElem il
      have hk := (hnm hs[i] (List.getElem_mem il)).2.1
      obtain ⟨u', e1, e2⟩ := (hLd.mono (Ext.of_same h3)).get i _ eh
      generalize hs[i] = pz at *
      obtain ⟨z, ms⟩ := pz
      rw [hp, Option.some.injEq] at e1
      subst e1
      have nDt : D ≠ t := ne_of_none h1 ht
      have st := same_new ht (.tup [V.str z, u'])
      have e2' := e2.mono (Ext.of_same (K := K) st)
      have h2' := h2.mono (Ext.of_same (K := K) st)
      have lws := h2.len
      rw [List.length_map, List.length_take] at lws
      have h1' : upd H' t (.tup [V.str z, u']) D = some (.lst ws) := by rw [upd_ne nDt]; exact h1
      have s3 := h3.trans st
      have sT : SqT K (upd H' t (.tup [V.str z, u'])) t [V.str z, u'] := SqT.of upd_same
      show gTup K 2 _ (.ref t) _ (upd H' t (.tup [V.str z, u'])) _
      generalize upd H' t (.tup [V.str z, u']) = H2' at *
      walk_at "go"
      refine ⟨rfl, ?_⟩
      walk_at "go"
      refine ⟨lk rfl, fun q1 o ho hdn => ?_⟩
      have nDq : D ≠ q1 := ne_of_none h1' ho
      have s4 := Same.new (o := .frz o (.tup [V.str z, u'])) s3 ho
      have f4 : upd H2' q1 (.frz o (.tup [V.str z, u'])) D = some (.lst ws) := by rw [upd_ne nDq]; exact h1'
      have exD : Ext K (upd H2' q1 (.frz o (.tup [V.str z, u']))) (upd (upd H2' q1 (.frz o (.tup [V.str z, u']))) D (.lst (ws ++ [V.ref q1]))) := Ext.set f4 trivial
      refine ⟨ws, f4, ls (by omega), ws ++ [.ref q1], upd_same, ?_, Same.upd_new s4 hD⟩
      obtain ⟨qr, rfl, hqr⟩ := e2'
      rw [List.take_add_one, eh, List.map_append]
      refine PrD.append ((h2'.mono (Ext.new ho)).mono exD) (PrD.one (u := .ref qr) (exD _ _ (HE.FT.sq (FTmk hdn))) ?_ (dat_row hk.2))
      exact Rp.mono exD _ _ (Rp.mono (Ext.new ho) _ _ (.tup hqr (Rps.ints ms)))
    rintro HC ⟨ws, h1, h2, h3⟩
    rw [hHdB.len, List.take_length] at h2
    have g1 := h3 _ _ gL
    refine ⟨g1, ?_⟩
    have sC := same_u HC h3
    have nDg : D ≠ g := fun e => by rw [e, gL] at hD; cases hD
    have h2 := h2.mono (Ext.unlock (o := .dK kvs) g1)
    have h1 : upd HC g (.dK kvs) D = some (.lst ws) := by rw [upd_ne nDg]; exact h1
    generalize upd HC g (.dK kvs) = HD at *
    walk_at "go"
    refine u_tupF (SqL.of h1) fun qf HE_ sE hF => ?_
    have hPE := h2.mono (Ext.of_same sE)
    obtain ⟨ts, kv2, w1, w2, w3⟩ := hPE.refs
    rw [w1] at hF
    have sBE := sC.trans sE
    walk_at "go"
    refine ⟨u, j, qf, ts, kv2, gvOf (hs.map rowD), rfl, ruB.mono (Ext.of_same sBE) _ _, gx, j40, nof, hF, w2, w3 [] (fun _ => none) (fun z => rfl), fun HF qF sF hqF => ?_⟩
    rw [eV _ hR0] at hqF
    have sBF := sBE.trans sF
    have dueF := dueB.mono (Ext.of_same sBF) _ _
    walk_at "go"
    refine neq_bt (d := .tuple [.str "value", .tuple (R.map PyData.int)]) (e := .tuple [.str "value", .tuple (R.map PyData.int)]) ⟨hqF, hdR, hpR⟩ ⟨dueF, hdR, hpR⟩ fun b hb => ?_
    have eb : b = false := by
      cases b with
      | false => rfl
      | true => exact absurd rfl (hb.mp rfl)
    subst eb
    have hgF := sBF _ _ hgB
    have hHdF := hHdB.mono (Ext.of_same sBF)
    have hSF := hSB.same sBF
    have sbF := sbB.trans (SB.of_same sBF)
    have ruF := ruB.mono (Ext.of_same sBF) _ _
    have fin : ∀ H', SB p HF H' → SqL K H' a (ns.map V.int) := fun H' sX => seq_on hL' s2 hp (sbF.trans sX)
    walk_at "go"
    refine ⟨!kvs.isEmpty, .inr (.inr ⟨kvs, hgF, rfl⟩), ?_⟩
    by_cases e0 : hs = []
    · have e1 : kvs = [] := List.eq_nil_of_length_eq_zero (by rw [hHdF.len, e0] <;> rfl)
      rw [e1]
      refine iteF ?_
      walk_at "go"
      exact ⟨_, _, _, _, _, _, _, _, rfl, fin _ SB.refl⟩
    · have e1 : (!kvs.isEmpty) = true := by
        cases kvs with
        | nil => exact absurd (List.eq_nil_of_length_eq_zero hHdF.len.symm) e0
        | cons x y => rfl
      rw [e1]
      refine iteT ?_
      walk_at "go"
      refine ⟨p, g, u, j, kvs, hs, rfl, hSF, ruF, gx, j40, nof, ng, hgF, hHdF, hO, e0, hl40, fun p' hp' => ⟨(hnm p' hp').1, (hnm p' hp').2.1.1, (hnm p' hp').2.1.2⟩, fun HG sG hSG => ?_⟩
      walk_at "go"
      exact ⟨_, _, _, _, _, _, _, _, rfl, fin _ sG⟩
  · rintro σ H1 ⟨o1, o2, o3, o4, o5, o6, o7, o8, rfl, _⟩
    walk_at "go"
    exact q _
end
end Mine

/-! ### F1 -/
namespace Mine
open PySem PySem.Spec L2
/-! ## facts of the written part, made ready -/
section
variable {K : PySem.W.Frag} {h : Heap} {mg : Str → Option Value}
theorem ownF_mk {x : Str} {st : Stmt} {f : Addr} {oc : Value} {od an : Option Addr} {osl : Array (Option Value)} {kV doc pm cdv ct : Value} (X : K.In h) (G : h.Ns mainGlobals mg) (a : PySem.W.nsIn K mainGlobals x = some (some (.ref f)))
    (l : K.lookup f = some ⟨oc, od, .func (PySem.W.fnOf x x (defArgs st) (defBody st) (defScope st) .none kV doc pm an cdv ct), osl⟩)
    (c : PySem.W.codeIn K cdv x = true) (k : PySem.W.keepIn K (.ref f) = true) : OwnF K mg x st := ⟨f, _, fun_mk (st := st) l c k, PySem.W.mg_of X G a⟩
theorem int_mk {x : Str} {i : Int} {t : Tok} (X : K.In h) (G : h.Ns mainGlobals mg) (a : PySem.W.nsIn K mainGlobals x = some (some (.int i t))) : ∃ t, mg x = some (.int i t) := ⟨t, PySem.W.mg_of X G a⟩
theorem str_mk {x z : Str} {t : Tok} (X : K.In h) (G : h.Ns mainGlobals mg) (a : PySem.W.nsIn K mainGlobals x = some (some (.str z t))) : ∃ t, mg x = some (.str z t) := ⟨t, PySem.W.mg_of X G a⟩
/-! the two tables -/
def entB (e : DictEntry) : Option (Str × Addr) := match e.key, e.val with
  | .str x _, .ref b => some (x, b)
  | _, _ => none
def tabG (L : List (Str × Addr)) (z : Str) : Option Value := (L.find? fun p => p.1 == z).map fun p => .ref p.2
theorem ents_find {z : Str} : ∀ {es : List DictEntry} {L : List (Str × Addr)}, es.map entB = L.map some → (es.find? (·.key.isStr z)).map (·.val) = tabG L z ∧ es.any (·.refKey) = false
  | [], [], _ => ⟨rfl, rfl⟩
  | [], _ :: _, h => by simp at h
  | _ :: _, [], h => by simp at h
  | e :: es, p :: L, h => by
    rw [List.map_cons, List.map_cons] at h
    injection h with h1 h2
    obtain ⟨i1, i2⟩ := ents_find (z := z) h2
    obtain ⟨x, b⟩ := p
    have hk : ∃ t, e.key = .str x t ∧ e.val = .ref b := by
      unfold entB at h1
      split at h1
      · rename_i x' t' b' e1 e2
        cases h1
        exact ⟨t', e1, e2⟩
      · cases h1
    obtain ⟨t, k1, k2⟩ := hk
    have e3 : e.key.isStr z = (x == z) := by rw [k1] <;> rfl
    refine ⟨?_, ?_⟩
    · unfold tabG at i1 ⊢
      rw [List.find?_cons, List.find?_cons, e3]
      cases hx : (x == z) with
      | true => simp only [Option.map_some, k2]
      | false => exact i1
    · rw [List.any_cons, i2, Bool.or_false]
      unfold DictEntry.refKey
      rw [k1] <;> rfl
theorem tab_mk {w : World} {x : Str} {a : Addr} {es : Array DictEntry} {n : Nat} {L : List (Str × Addr)} (X : K.In h) (G : h.Ns mainGlobals mg) (e : PySem.W.nsIn K mainGlobals x = some (some (.ref a))) (l : K.lookup a = some ⟨.type "dict", none, .dict es n, #[]⟩)
    (lit : PySem.W.KeysLit w.params es.toList) (low : (a == sysModules) = false) (hL : es.toList.map entB = L.map some) : Tab w K mg x a (tabG L) := by
  refine ⟨PySem.W.mg_of X G e, ⟨es, n, l, lit, low⟩, fun z => ?_⟩
  obtain ⟨f1, f2⟩ := ents_find (z := z) hL
  unfold PySem.W.nsIn
  rw [l]
  simp only
  rw [← f1]
  cases hf : es.toList.find? (·.key.isStr z) with
  | some e => rfl
  | none => simp only [f2]; rfl
/-! the errors -/
theorem exm_mk {C S : Addr} {b : Bool} (h1 : PySem.W.subIn K (.ref S) (.type "BaseException") = some true) (h2 : PySem.W.isClsIn K S = true) (h3 : PySem.W.typeIn K (.ref S) = some (.type "type")) (h4 : PySem.W.subIn K (.ref C) (.ref S) = some b) :
    PySem.W.exmOne K (.ref C) (.ref S) = some b := by
  have e1 : (PySem.W.subIn K (.ref S) (.type "BaseException") == some true) = true := by rw [h1] <;> rfl
  have e2 : ((PySem.W.clsIn K S).isSome && PySem.W.typeIn K (.ref S) == some (.type "type")) = true := by
    have h2' : (PySem.W.clsIn K S).isSome = true := h2
    rw [h2', h3] <;> rfl
  show (if (PySem.W.subIn K (.ref S) (.type "BaseException") == some true) = true then (if ((PySem.W.clsIn K S).isSome && PySem.W.typeIn K (.ref S) == some (.type "type")) = true then PySem.W.subIn K (.ref C) (.ref S) else none) else none) = some b
  rw [if_pos e1, if_pos e2]
  exact h4
theorem errC_mk {x : Str} {C fI N : Addr} {nm q : Str} {bs bm : List Value} {sn : List Str} {sub : List Value} {ab : Bool} {col : Option Bool} {dd : Option Addr} {m0 m1 m2 m3 m5 : Option Value} (X : K.In h) (G : h.Ns mainGlobals mg)
    (aC : PySem.W.nsIn K mainGlobals x = some (some (.ref C))) (xL : K.lookup C = some (excClassObj nm q C N bs bm true sn sub ab col dd m0 m1 m2 m3 m5 "ValueError.__new__")) (bmB : PySem.HandSPX.refsVE bm = true)
    (sa : PySem.W.findIn K (.ref C) "__setattr__" = some (some (.builtin "object.__setattr__"))) (ga : PySem.W.findIn K (.ref C) "__getattribute__" = some (some (.builtin "BaseException.__getattribute__"))) (gg : PySem.W.findIn K (.ref C) "__getattr__" = some none) (nb : PySem.W.findIn K (.ref C) "what" = some none)
    (iC : PySem.W.findIn K (.ref C) "__init__" = some (some (.ref fI))) (kC : PySem.W.keepIn K (.ref C) = true) (eC : PySem.W.subIn K (.ref C) (.type "BaseException") = some true) (tC : PySem.W.typeIn K (.ref C) = some (.type "type")) (hC : PySem.W.hasDictIn K C = true) : ErrC K mg fI x C :=
  ⟨PySem.W.mg_of X G aC, ⟨⟨nm, q, N, bs, bm, sn, sub, ab, col, dd, m0, m1, m2, m3, m5, xL, bmB⟩, sa, eC, tC, kC⟩, nb, iC, ⟨ga, gg, eC, hC⟩⟩
end
/-! ## the root's __init__ -/
def initSt : Stmt := match top 1 with
  | .ClassDef _ _ _ (s :: _) _ _ _ _ _ _ _ => s
  | s => s
theorem sc_init : FnScope ["self", "what"] ["self", "what"] (defScope initSt) := ⟨rfl, rfl, rfl, by decide +kernel, rfl, by decide +kernel, by decide +kernel⟩
theorem init_mk {P : Program} {w : World} {K : PySem.W.Frag} {mg : Str → Option Value} {base : Heap} {fI : Addr} {fd : FuncData} (F : Fun K "__init__" "Refused.__init__" initSt fI fd) (ht : PySem.W.typeIn K (.ref fI) = some (.type "function")) : InitF P w K mg base fI := by
  refine has_init F sc_init (fun _ _ _ _ _ _ us hl => match us, hl with | [_, _], _ => rfl) ht fun cdv A outer s H E => ?_
  exact pss_one (ps_ost (pv 0) (pv 1))
end Mine

/-! ### F2 -/
namespace Mine
open PySem PySem.Spec L2
section
variable {P : Program} {w : World} {K : PySem.W.Frag} {mg : Str → Option Value} {base : Heap}
theorem HasF.at {k : Nat} {x : Str} {ps : List Str} {sp : Sp} {b : Addr} (h : HasF P w K mg base CX0 k x ps sp) (m : mg x = some (.ref b)) : Held P w K mg base k b sp := by
  obtain ⟨f, m2, hh⟩ := h.held
  have := m2.symm.trans m
  cases this
  exact hh
/-- the defs -/
structure Own (K : PySem.W.Frag) (mg : Str → Option Value) : Prop where
  o0 : OwnF K mg "is_number" s_is_number
  o1 : OwnF K mg "is_between" s_is_between
  o2 : OwnF K mg "are_row_numbers" s_are_row_numbers
  o3 : OwnF K mg "is_word" s_is_word
  o4 : OwnF K mg "tells_row" s_tells_row
  o5 : OwnF K mg "tells_input" s_tells_input
  o6 : OwnF K mg "tells_stretch" s_tells_stretch
  o7 : OwnF K mg "tells_times" s_tells_times
  o8 : OwnF K mg "tells_room" s_tells_room
  o9 : OwnF K mg "told_fits" s_told_fits
  o10 : OwnF K mg "parts_fit" s_parts_fit
  o11 : OwnF K mg "check_count" s_check_count
  o12 : OwnF K mg "check_form" s_check_form
  o13 : OwnF K mg "is_triple" s_is_triple
  o14 : OwnF K mg "check_joint" s_check_joint
  o15 : OwnF K mg "made_program" s_made_program
  o16 : OwnF K mg "joints" s_joints
  o17 : OwnF K mg "above" s_above
  o18 : OwnF K mg "part_numbers" s_part_numbers
  o19 : OwnF K mg "size_of" s_size_of
  o20 : OwnF K mg "checked_size" s_checked_size
  o21 : OwnF K mg "check_names" s_check_names
  o22 : OwnF K mg "sizes" s_sizes
  o23 : OwnF K mg "turned" s_turned
  o24 : OwnF K mg "ascending" s_ascending
  o25 : OwnF K mg "total" s_total
  o26 : OwnF K mg "greatest" s_greatest
  o27 : OwnF K mg "added" s_added
  o28 : OwnF K mg "subtracted" s_subtracted
  o29 : OwnF K mg "multiplied" s_multiplied
  o30 : OwnF K mg "dotted" s_dotted
  o31 : OwnF K mg "joined" s_joined
  o32 : OwnF K mg "crossed" s_crossed
  o33 : OwnF K mg "blended" s_blended
  o34 : OwnF K mg "cut" s_cut
  o35 : OwnF K mg "repeated" s_repeated
  o36 : OwnF K mg "unchanged" s_unchanged
  o37 : OwnF K mg "reckoned" s_reckoned
  o38 : OwnF K mg "is_row_of" s_is_row_of
  o39 : OwnF K mg "names" s_names
  o40 : OwnF K mg "check_inputs" s_check_inputs
  o41 : OwnF K mg "value_of" s_value_of
  o42 : OwnF K mg "plain" s_plain
  o43 : OwnF K mg "_law_pool" s_law_pool
  o44 : OwnF K mg "_law_take" s_law_take
  o45 : OwnF K mg "_law_one" s_law_one
  o46 : OwnF K mg "_law_figure" s_law_figure
  o47 : OwnF K mg "_law_leaf" s_law_leaf
  o48 : OwnF K mg "_law_single" s_law_single
  o49 : OwnF K mg "_law_double" s_law_double
  o50 : OwnF K mg "_law_count" s_law_count
  o51 : OwnF K mg "_law_program" s_law_program
  o52 : OwnF K mg "_law_joints" s_law_joints
  o53 : OwnF K mg "_law_over" s_law_over
  o54 : OwnF K mg "_law_kin" s_law_kin
  o55 : OwnF K mg "_law_worked" s_law_worked
  o56 : OwnF K mg "_law_handed" s_law_handed
  o57 : OwnF K mg "_law_values" s_law_values
  o58 : OwnF K mg "_law_told" s_law_told
  o59 : OwnF K mg "_law_mixed_pairs" s_law_mixed_pairs
  o60 : OwnF K mg "_law_bent_row" s_law_bent_row
  o61 : OwnF K mg "_law_bent_right" s_law_bent_right
/-- the errors -/
structure Errs (K : PySem.W.Frag) (mg : Str → Option Value) (fI cRefused cBadProgram cBadOp cBadParts cUnequal cBadPart cTooGreat cTooMany cBadInput : Addr) : Prop where
  eRefused : ErrC K mg fI "Refused" cRefused
  eBadProgram : ErrC K mg fI "BadProgram" cBadProgram
  eBadOp : ErrC K mg fI "BadOp" cBadOp
  eBadParts : ErrC K mg fI "BadParts" cBadParts
  eUnequal : ErrC K mg fI "Unequal" cUnequal
  eBadPart : ErrC K mg fI "BadPart" cBadPart
  eTooGreat : ErrC K mg fI "TooGreat" cTooGreat
  eTooMany : ErrC K mg fI "TooMany" cTooMany
  eBadInput : ErrC K mg fI "BadInput" cBadInput
  xBadInput_BadInput : PySem.W.exmOne K (.ref cBadInput) (.ref cBadInput) = some true
/-- a pair of numbers of the module -/
theorem pair_mk {K : PySem.W.Frag} {b : Addr} {lo hi : Int} {t1 t2 : Tok} {dd : Option Addr} {n : Nat} {sl : Array (Option Value)} (l : K.lookup b = some ⟨.type "tuple", dd, .seq #[.int lo t1, .int hi t2] n, sl⟩) : ∀ H, SqT K H b [.int lo, .int hi] :=
  fun H => .inr ⟨_, _, _, l, rfl, rfl, by show 2 ≤ sizeLine; decide, .cons ⟨t1, rfl⟩ (.cons ⟨t2, rfl⟩ .nil)⟩
/-- the pairs of the table of the ops -/
inductive Prs (K : PySem.W.Frag) : List (Str × Addr) → List (Str × Int × Int) → Prop
  | nil : Prs K [] []
  | cons {p : Str × Addr} {r : Str × Int × Int} {L : List (Str × Addr)} {M : List (Str × Int × Int)} : (p.1 = r.1 ∧ ∀ H, SqT K H p.2 [.int r.2.1, .int r.2.2]) → Prs K L M → Prs K (p :: L) (r :: M)
def arts : List (Str × Int × Int) := [("row", 0, 0), ("in", 0, 0), ("rev", 1, 1), ("sort", 1, 1), ("sum", 1, 1), ("top", 1, 1), ("add", 2, 2), ("sub", 2, 2), ("mul", 2, 2), ("dot", 2, 2), ("cat", 1, 4), ("outer", 2, 2), ("blend", 2, 2), ("part", 1, 1), ("rep", 1, 1), ("hold", 1, 1)]
theorem prs_find {K : PySem.W.Frag} {z : Str} : ∀ {L : List (Str × Addr)} {M : List (Str × Int × Int)}, Prs K L M → ((M.find? fun p => p.1 == z) = none → tabG L z = none) ∧ ∀ q, (M.find? fun p => p.1 == z) = some q → ∃ b, tabG L z = some (.ref b) ∧ ∀ H, SqT K H b [.int q.2.1, .int q.2.2]
  | _, _, .nil => ⟨fun _ => rfl, fun q h => by simp at h⟩
  | _, _, .cons (p := p) (r := r) h t => by
    obtain ⟨i1, i2⟩ := prs_find (z := z) t
    unfold tabG at i1 i2 ⊢
    rw [List.find?_cons, List.find?_cons, h.1]
    cases hx : (r.1 == z) with
    | true => exact ⟨fun h => by simp at h, fun q e => by
        have e' : r = q := by simpa using e
        subst e'
        exact ⟨p.2, rfl, h.2⟩⟩
    | false => exact ⟨i1, i2⟩
theorem arity_arts {z : Str} : arity z = (arts.find? fun p => p.1 == z).map (·.2) := by
  have k : ∀ y ∈ arts.map (·.1), arity y = (arts.find? fun p => p.1 == y).map (·.2) := by decide +kernel
  by_cases c : z ∈ arts.map (·.1)
  · exact k z c
  have e1 : (arts.find? fun p => p.1 == z) = none := by
    rw [List.find?_eq_none]
    intro x hx hz
    have hz' : x.1 = z := by simpa using hz
    exact c (hz' ▸ List.mem_map_of_mem hx)
  rw [e1]
  have k0 : ∀ y ∈ op0, y ∈ arts.map (·.1) := by decide +kernel
  have k1 : ∀ y ∈ op1, y ∈ arts.map (·.1) := by decide +kernel
  have k2 : ∀ y ∈ op2, y ∈ arts.map (·.1) := by decide +kernel
  have k3 : ("cat" : Str) ∈ arts.map (·.1) := by decide +kernel
  unfold arity
  rw [if_neg (fun h => c (k0 z h)), if_neg (fun h => c (k1 z h)), if_neg (fun h => c (k2 z h)), if_neg (fun (h : z = "cat") => c (by rw [h]; exact k3))]
  rfl
theorem parts_tab {w : World} {K : PySem.W.Frag} {mg : Str → Option Value} {a : Addr} {L : List (Str × Addr)} (T : Tab w K mg "PARTS" a (tabG L)) (h : Prs K L arts) : PartsTab w K mg a (tabG L) := by
  refine ⟨T, fun z hz => ?_, fun z lo hi hz => ?_⟩
  · obtain ⟨i1, _⟩ := prs_find (z := z) h
    rw [arity_arts] at hz
    exact i1 (by simpa using hz)
  · obtain ⟨_, i2⟩ := prs_find (z := z) h
    rw [arity_arts, Option.map_eq_some_iff] at hz
    obtain ⟨q, e1, e2⟩ := hz
    obtain ⟨b, e3, e4⟩ := i2 q e1
    rw [e2] at e4
    exact ⟨b, e3, e4⟩
theorem all_mk {aA q0 q1 q2 q3 q4 q5 q6 q7 q8 q9 q10 q11 q12 q13 : Addr} {fI aP aT b0 b1 b2 b3 b4 cRefused cBadProgram cBadOp cBadParts cUnequal cBadPart cTooGreat cTooMany cBadInput : Addr} {gP : Str → Option Value} {fdI : FuncData} {f : Addr} {fd : FuncData} (F : Fun K "law" "law" s_law f fd)
    (B : Bl mg) (BS : mg "sum" = none) (BR : mg "reversed" = none) (BD : mg "dict" = none) (BL : mg "list" = none) (C : Cst mg) (TP : PartsTab w K mg aP gP) (tT : Tab w K mg "TELLS" aT (tabG [("row", b0), ("in", b1), ("part", b2), ("rep", b3), ("hold", b4)])) (n0 : mg "tells_row" = some (.ref b0)) (n1 : mg "tells_input" = some (.ref b1)) (n2 : mg "tells_stretch" = some (.ref b2)) (n3 : mg "tells_times" = some (.ref b3)) (n4 : mg "tells_room" = some (.ref b4)) (tA : Tab w K mg "ACTIONS" aA (tabG [("rev", q0), ("sort", q1), ("sum", q2), ("top", q3), ("add", q4), ("sub", q5), ("mul", q6), ("dot", q7), ("cat", q8), ("outer", q9), ("blend", q10), ("part", q11), ("rep", q12), ("hold", q13)])) (ac0 : mg "turned" = some (.ref q0)) (ac1 : mg "ascending" = some (.ref q1)) (ac2 : mg "total" = some (.ref q2)) (ac3 : mg "greatest" = some (.ref q3)) (ac4 : mg "added" = some (.ref q4)) (ac5 : mg "subtracted" = some (.ref q5)) (ac6 : mg "multiplied" = some (.ref q6)) (ac7 : mg "dotted" = some (.ref q7)) (ac8 : mg "joined" = some (.ref q8)) (ac9 : mg "crossed" = some (.ref q9)) (ac10 : mg "blended" = some (.ref q10)) (ac11 : mg "cut" = some (.ref q11)) (ac12 : mg "repeated" = some (.ref q12)) (ac13 : mg "unchanged" = some (.ref q13)) (FI : Fun K "__init__" "Refused.__init__" initSt fI fdI) (tI : PySem.W.typeIn K (.ref fI) = some (.type "function")) (Er : Errs K mg fI cRefused cBadProgram cBadOp cBadParts cUnequal cBadPart cTooGreat cTooMany cBadInput) (OP : Own K mg) :
    FnOk P w K mg base CX0 16 f fd ["script"] (spLaw K) := by
  have hI : InitF P w K mg base fI := init_mk FI tI
  have p1 := has_is_number (P := P) (w := w) (base := base) OP.o0 B
  have p2 := has_is_between OP.o1 p1
  have p3 := has_are_row_numbers OP.o2 B C p2
  have p4 := has_is_word (P := P) (w := w) (base := base) OP.o3 B C
  have p5 := has_tells_row OP.o4 B C p3
  have p6 := has_tells_input OP.o5 B C p4 p2
  have p7 := has_tells_stretch OP.o6 B C p2
  have p8 := has_tells_times OP.o7 B C p2
  have p9 := has_tells_room OP.o8 B C p2
  have TT : TellsTab P w K mg base aT (tabG [("row", b0), ("in", b1), ("part", b2), ("rep", b3), ("hold", b4)]) := by
    refine ⟨tT, fun z hz => ?_, fun z f hz => ?_⟩
    · unfold asks at hz
      by_cases c1 : z = "row"
      · rw [if_pos c1] at hz; cases hz
      rw [if_neg c1] at hz
      by_cases c2 : z = "in"
      · rw [if_pos c2] at hz; cases hz
      rw [if_neg c2] at hz
      by_cases c3 : z = "part"
      · rw [if_pos c3] at hz; cases hz
      rw [if_neg c3] at hz
      by_cases c4 : z = "rep"
      · rw [if_pos c4] at hz; cases hz
      rw [if_neg c4] at hz
      by_cases c5 : z = "hold"
      · rw [if_pos c5] at hz; cases hz
      unfold tabG
      simp [List.find?_cons, beq_eq_false_iff_ne.mpr (Ne.symm c1), beq_eq_false_iff_ne.mpr (Ne.symm c2), beq_eq_false_iff_ne.mpr (Ne.symm c3), beq_eq_false_iff_ne.mpr (Ne.symm c4), beq_eq_false_iff_ne.mpr (Ne.symm c5)]
    · unfold asks at hz
      by_cases c1 : z = "row"
      · rw [if_pos c1] at hz; cases hz; subst c1
        exact ⟨b0, rfl, p5.at n0⟩
      rw [if_neg c1] at hz
      by_cases c2 : z = "in"
      · rw [if_pos c2] at hz; cases hz; subst c2
        exact ⟨b1, rfl, p6.at n1⟩
      rw [if_neg c2] at hz
      by_cases c3 : z = "part"
      · rw [if_pos c3] at hz; cases hz; subst c3
        exact ⟨b2, rfl, p7.at n2⟩
      rw [if_neg c3] at hz
      by_cases c4 : z = "rep"
      · rw [if_pos c4] at hz; cases hz; subst c4
        exact ⟨b3, rfl, p8.at n3⟩
      rw [if_neg c4] at hz
      by_cases c5 : z = "hold"
      · rw [if_pos c5] at hz; cases hz; subst c5
        exact ⟨b4, rfl, p9.at n4⟩
      rw [if_neg c5] at hz; cases hz
  have p10 := has_told_fits OP.o9 B TP TT
  have p11 := has_parts_fit (P := P) (base := base) OP.o10 TP
  have p12 := has_check_count OP.o11 C hI Er.eTooMany
  have p13 := has_check_form OP.o12 hI Er.eBadOp Er.eBadParts p10 p11
  have p14 := has_is_triple (P := P) (w := w) (base := base) OP.o13 B
  have p15 := has_check_joint (c := ⟨cTooMany, cBadProgram, cBadOp, cBadParts⟩) OP.o14 B hI Er.eBadProgram p12 p14 p13
  have p16 := has_made_program OP.o15 p15
  have p17 := has_joints OP.o16 B p16
  have p18 := has_above OP.o17 B p16
  have p19 := has_part_numbers OP.o18 B p18
  have p20 := has_size_of (P := P) (w := w) (base := base) OP.o19 B BS
  have p22 := has_checked_size (c := ⟨cUnequal, cBadPart, cTooGreat, cBadInput⟩) OP.o20 B C hI Er.eUnequal Er.eBadPart Er.eTooGreat p20
  have p23 := has_check_names (c := ⟨cUnequal, cBadPart, cTooGreat, cBadInput⟩) OP.o21 hI Er.eBadInput
  have p24 := has_sizes OP.o22 B BR p17 p19 p22 p23
  have x0 := has_turned (P := P) (w := w) (base := base) OP.o23
  have x1 := has_ascending (P := P) (w := w) (base := base) OP.o24 B
  have x2 := has_total (P := P) (w := w) (base := base) OP.o25 C BS
  have x3 := has_greatest (P := P) (w := w) (base := base) OP.o26 B
  have x4 := has_added (P := P) (w := w) (base := base) OP.o27 B C
  have x5 := has_subtracted (P := P) (w := w) (base := base) OP.o28 B C
  have x6 := has_multiplied (P := P) (w := w) (base := base) OP.o29 B C
  have x7 := has_dotted (P := P) (w := w) (base := base) OP.o30 B C BS
  have x8 := has_joined (P := P) (w := w) (base := base) OP.o31 B
  have x9 := has_crossed (P := P) (w := w) (base := base) OP.o32 B C
  have x10 := has_blended (P := P) (w := w) (base := base) OP.o33 B C
  have x11 := has_cut (P := P) (w := w) (base := base) OP.o34
  have x12 := has_repeated (P := P) (w := w) (base := base) OP.o35
  have x13 := has_unchanged (P := P) (w := w) (base := base) OP.o36
  have TA : ActTab P w K mg base aA (tabG [("rev", q0), ("sort", q1), ("sum", q2), ("top", q3), ("add", q4), ("sub", q5), ("mul", q6), ("dot", q7), ("cat", q8), ("outer", q9), ("blend", q10), ("part", q11), ("rep", q12), ("hold", q13)]) := by
    refine ⟨tA, fun z f p hz => ?_⟩
    unfold acts at hz
    by_cases c0 : z = "rev"
    · rw [if_pos c0] at hz; cases hz; subst c0
      exact ⟨q0, rfl, x0.at ac0⟩
    rw [if_neg c0] at hz
    by_cases c1 : z = "sort"
    · rw [if_pos c1] at hz; cases hz; subst c1
      exact ⟨q1, rfl, x1.at ac1⟩
    rw [if_neg c1] at hz
    by_cases c2 : z = "sum"
    · rw [if_pos c2] at hz; cases hz; subst c2
      exact ⟨q2, rfl, x2.at ac2⟩
    rw [if_neg c2] at hz
    by_cases c3 : z = "top"
    · rw [if_pos c3] at hz; cases hz; subst c3
      exact ⟨q3, rfl, x3.at ac3⟩
    rw [if_neg c3] at hz
    by_cases c4 : z = "add"
    · rw [if_pos c4] at hz; cases hz; subst c4
      exact ⟨q4, rfl, x4.at ac4⟩
    rw [if_neg c4] at hz
    by_cases c5 : z = "sub"
    · rw [if_pos c5] at hz; cases hz; subst c5
      exact ⟨q5, rfl, x5.at ac5⟩
    rw [if_neg c5] at hz
    by_cases c6 : z = "mul"
    · rw [if_pos c6] at hz; cases hz; subst c6
      exact ⟨q6, rfl, x6.at ac6⟩
    rw [if_neg c6] at hz
    by_cases c7 : z = "dot"
    · rw [if_pos c7] at hz; cases hz; subst c7
      exact ⟨q7, rfl, x7.at ac7⟩
    rw [if_neg c7] at hz
    by_cases c8 : z = "cat"
    · rw [if_pos c8] at hz; cases hz; subst c8
      exact ⟨q8, rfl, x8.at ac8⟩
    rw [if_neg c8] at hz
    by_cases c9 : z = "outer"
    · rw [if_pos c9] at hz; cases hz; subst c9
      exact ⟨q9, rfl, x9.at ac9⟩
    rw [if_neg c9] at hz
    by_cases c10 : z = "blend"
    · rw [if_pos c10] at hz; cases hz; subst c10
      exact ⟨q10, rfl, x10.at ac10⟩
    rw [if_neg c10] at hz
    by_cases c11 : z = "part"
    · rw [if_pos c11] at hz; cases hz; subst c11
      exact ⟨q11, rfl, x11.at ac11⟩
    rw [if_neg c11] at hz
    by_cases c12 : z = "rep"
    · rw [if_pos c12] at hz; cases hz; subst c12
      exact ⟨q12, rfl, x12.at ac12⟩
    rw [if_neg c12] at hz
    by_cases c13 : z = "hold"
    · rw [if_pos c13] at hz; cases hz; subst c13
      exact ⟨q13, rfl, x13.at ac13⟩
    rw [if_neg c13] at hz
    cases hz
  have r1 := has_reckoned OP.o37 TA
  have r2 := has_is_row_of OP.o38 B p3
  have r3 := has_names OP.o39 B p17
  have r4 := has_check_inputs (c := ⟨cUnequal, cBadPart, cTooGreat, cBadInput⟩) OP.o40 hI Er.eBadInput r3 r2
  have r5 := has_value_of OP.o41 r1
  have r6 := has_plain (c := ⟨cUnequal, cBadPart, cTooGreat, cBadInput⟩) OP.o42 B BR BD (p24.weak fun vs H Q E h => spSs.sz vs H Q E h) r4 p17 p19 r5
  have m1 := has_pool (P := P) (w := w) (base := base) OP.o43 B
  have m2 := has_take (P := P) (w := w) (base := base) OP.o44 B
  have m3 := has_one OP.o45 B m2
  have m4 := has_figure OP.o46 m2 m3
  have m5 := has_leaf OP.o47 B m2 m4
  have m6 := has_single OP.o48 m2
  have m7 := has_double OP.o49 m2
  have m8 := has_count (P := P) (w := w) (base := base) OP.o50 B
  have m9 := has_program OP.o51 B BS m2 m5 m6 m7 m8
  have m10 := has_law_joints (P := P) (w := w) (base := base) OP.o52 B
  have m11 := has_law_over (P := P) (w := w) (base := base) OP.o53 B
  have m12 := has_law_kin OP.o54 B m11
  have m13 := has_law_worked (P := P) (w := w) (base := base) OP.o55 B BS BL
  have m14 := has_law_handed OP.o56 B m10 m4
  have m15 := has_law_values OP.o57 B m10 m12 m13
  have m16 := has_law_told (c := ⟨cUnequal, cBadPart, cTooGreat, cBadInput⟩) OP.o58 B Er.eRefused Er.eBadInput Er.xBadInput_BadInput r6
  have m17 := has_mixed OP.o59 B m2
  have m18 := has_bent_row OP.o60 B m2 m3
  have m19 := has_bent_right OP.o61 B m2 m18 m16
  exact ok_law F B m1 m2 m9 m14 m15 m17 m16 m19
theorem fin_mk {h : Heap} {fa f3 : Addr} {aA q0 q1 q2 q3 q4 q5 q6 q7 q8 q9 q10 q11 q12 q13 : Addr} {fI aP aT b0 b1 b2 b3 b4 cRefused cBadProgram cBadOp cBadParts cUnequal cBadPart cTooGreat cTooMany cBadInput : Addr} {gP : Str → Option Value} {fdI : FuncData} (X : K.In h) (G : h.Ns mainGlobals mg) (hfa : mg "law" = some (.ref fa)) {oc3 : Value} {od3 an3 : Option Addr} {sl3 : Array (Option Value)} {kV3 dc3 pm3 cd3 ct3 : Value}
    (a3 : PySem.W.nsIn K mainGlobals "law" = some (some (.ref f3))) (l3 : K.lookup f3 = some ⟨oc3, od3, .func (PySem.W.fnOf "law" "law" (defArgs s_law) (defBody s_law) (defScope s_law) .none kV3 dc3 pm3 an3 cd3 ct3), sl3⟩) (c3 : PySem.W.codeIn K cd3 "law" = true) (k3 : PySem.W.keepIn K (.ref f3) = true)
    (B : Bl mg) (BS : mg "sum" = none) (BR : mg "reversed" = none) (BD : mg "dict" = none) (BL : mg "list" = none) (C : Cst mg) (TP : PartsTab w K mg aP gP) (tT : Tab w K mg "TELLS" aT (tabG [("row", b0), ("in", b1), ("part", b2), ("rep", b3), ("hold", b4)])) (n0 : mg "tells_row" = some (.ref b0)) (n1 : mg "tells_input" = some (.ref b1)) (n2 : mg "tells_stretch" = some (.ref b2)) (n3 : mg "tells_times" = some (.ref b3)) (n4 : mg "tells_room" = some (.ref b4)) (tA : Tab w K mg "ACTIONS" aA (tabG [("rev", q0), ("sort", q1), ("sum", q2), ("top", q3), ("add", q4), ("sub", q5), ("mul", q6), ("dot", q7), ("cat", q8), ("outer", q9), ("blend", q10), ("part", q11), ("rep", q12), ("hold", q13)])) (ac0 : mg "turned" = some (.ref q0)) (ac1 : mg "ascending" = some (.ref q1)) (ac2 : mg "total" = some (.ref q2)) (ac3 : mg "greatest" = some (.ref q3)) (ac4 : mg "added" = some (.ref q4)) (ac5 : mg "subtracted" = some (.ref q5)) (ac6 : mg "multiplied" = some (.ref q6)) (ac7 : mg "dotted" = some (.ref q7)) (ac8 : mg "joined" = some (.ref q8)) (ac9 : mg "crossed" = some (.ref q9)) (ac10 : mg "blended" = some (.ref q10)) (ac11 : mg "cut" = some (.ref q11)) (ac12 : mg "repeated" = some (.ref q12)) (ac13 : mg "unchanged" = some (.ref q13)) (FI : Fun K "__init__" "Refused.__init__" initSt fI fdI) (tI : PySem.W.typeIn K (.ref fI) = some (.type "function")) (Er : Errs K mg fI cRefused cBadProgram cBadOp cBadParts cUnequal cBadPart cTooGreat cTooMany cBadInput) (OP : Own K mg) :
    ∃ fd : FuncData, (∀ (s : Shared) (v : Value), BindsTo s fd ⟨[v], []⟩ [("script", v)]) ∧ ∀ base : Heap, K.In base → base.Ns mainGlobals mg → FnOk P w K mg base CX0 16 fa fd ["script"] (spLaw K) := by
  have e := hfa.symm.trans (PySem.W.mg_of X G a3)
  cases e
  exact ⟨_, fun s v => .of_eq rfl, fun base _ _ => all_mk (base := base) (fun_mk (st := s_law) l3 c3 k3) B BS BR BD BL C TP tT n0 n1 n2 n3 n4 tA ac0 ac1 ac2 ac3 ac4 ac5 ac6 ac7 ac8 ac9 ac10 ac11 ac12 ac13 FI tI Er OP⟩
end
/-- a class that stands in an except clause -/
structure ClsB (K : PySem.W.Frag) (S : Addr) : Prop where
  b : PySem.W.subIn K (.ref S) (.type "BaseException") = some true
  i : PySem.W.isClsIn K S = true
  t : PySem.W.typeIn K (.ref S) = some (.type "type")
theorem ClsB.exm {K : PySem.W.Frag} {C S : Addr} {b : Bool} (h : ClsB K S) (e : PySem.W.subIn K (.ref C) (.ref S) = some b) : PySem.W.exmOne K (.ref C) (.ref S) = some b := exm_mk h.b h.i h.t e
theorem errs_mk {K : PySem.W.Frag} {mg : Str → Option Value} {fI cRefused cBadProgram cBadOp cBadParts cUnequal cBadPart cTooGreat cTooMany cBadInput : Addr} (eRefused : ErrC K mg fI "Refused" cRefused) (eBadProgram : ErrC K mg fI "BadProgram" cBadProgram) (eBadOp : ErrC K mg fI "BadOp" cBadOp) (eBadParts : ErrC K mg fI "BadParts" cBadParts) (eUnequal : ErrC K mg fI "Unequal" cUnequal) (eBadPart : ErrC K mg fI "BadPart" cBadPart) (eTooGreat : ErrC K mg fI "TooGreat" cTooGreat) (eTooMany : ErrC K mg fI "TooMany" cTooMany) (eBadInput : ErrC K mg fI "BadInput" cBadInput) (hBadInput : ClsB K cBadInput) (s0 : PySem.W.subIn K (.ref cBadInput) (.ref cBadInput) = some true) : Errs K mg fI cRefused cBadProgram cBadOp cBadParts cUnequal cBadPart cTooGreat cTooMany cBadInput :=
  ⟨eRefused, eBadProgram, eBadOp, eBadParts, eUnequal, eBadPart, eTooGreat, eTooMany, eBadInput, hBadInput.exm s0⟩
end Mine

/-! ### E1 -/
open PySem PySem.W PyProof.Rows
set_option maxRecDepth 100000 in
set_option maxHeartbeats 0 in
theorem PySem.Challenge.cw_hillrooms_k06_values_by_a_plain_walk_holds : PySem.Challenge.rw_hillrooms_k06_values_by_a_plain_walk.Holds := by
  w_on; o_law; k_head; (case hw => w_witness2)
  k_fill
  refine L2.walk_of (l := PySem.Challenge.rw_hillrooms_k06_values_by_a_plain_walk) (n := 63) (k := 16) (x := "script") (CX := fun _ => L2.CX0) (sp := fun w => Mine.spLaw _) rfl (by decide) rfl ⟨rfl, by decide, by decide⟩ (fun w h Y => PySem.W.kIn_of Y) ?F (fun _ _ a ns hl _ hS => ⟨a, ns, rfl, hS, hl, fun _ => rfl⟩) (fun _ _ _ _ _ z => z)
  case F =>
    intro w mg fa h KX G hmg
    have B : Mine.Bl mg := by
      refine' ⟨PySem.W.mg_none_of KX G ?z0, PySem.W.mg_none_of KX G ?z1, PySem.W.mg_none_of KX G ?z2, PySem.W.mg_none_of KX G ?z3, PySem.W.mg_none_of KX G ?z4, PySem.W.mg_none_of KX G ?z5, PySem.W.mg_none_of KX G ?z6, PySem.W.mg_none_of KX G ?z7, PySem.W.mg_none_of KX G ?z8, PySem.W.mg_none_of KX G ?z9, PySem.W.mg_none_of KX G ?z10, PySem.W.mg_none_of KX G ?z11, PySem.W.mg_none_of KX G ?z12⟩
      (case z0 => k_is); (case z1 => k_is); (case z2 => k_is); (case z3 => k_is); (case z4 => k_is); (case z5 => k_is); (case z6 => k_is); (case z7 => k_is); (case z8 => k_is); (case z9 => k_is); (case z10 => k_is); (case z11 => k_is); (case z12 => k_is)
    have BS : mg "sum" = none := by
      refine' PySem.W.mg_none_of KX G ?z0
      (case z0 => k_is)
    have BR : mg "reversed" = none := by
      refine' PySem.W.mg_none_of KX G ?z0
      (case z0 => k_is)
    have BD : mg "dict" = none := by
      refine' PySem.W.mg_none_of KX G ?z0
      (case z0 => k_is)
    have BL : mg "list" = none := by
      refine' PySem.W.mg_none_of KX G ?z0
      (case z0 => k_is)
    have C : Mine.Cst mg := by
      refine' ⟨Mine.int_mk KX G ?z0, Mine.int_mk KX G ?z1, Mine.int_mk KX G ?z2, Mine.int_mk KX G ?z3, Mine.str_mk KX G ?z4, Mine.int_mk KX G ?z5⟩
      (case z0 => k_is); (case z1 => k_is); (case z2 => k_is); (case z3 => k_is); (case z4 => k_is); (case z5 => k_is)
    have OP : Mine.Own (L2.KOf KX) mg := by
      dsimp only [L2.KOf]
      refine' ⟨Mine.ownF_mk KX G ?a0 ?l0 ?c0 ?k0, Mine.ownF_mk KX G ?a1 ?l1 ?c1 ?k1, Mine.ownF_mk KX G ?a2 ?l2 ?c2 ?k2, Mine.ownF_mk KX G ?a3 ?l3 ?c3 ?k3, Mine.ownF_mk KX G ?a4 ?l4 ?c4 ?k4, Mine.ownF_mk KX G ?a5 ?l5 ?c5 ?k5, Mine.ownF_mk KX G ?a6 ?l6 ?c6 ?k6, Mine.ownF_mk KX G ?a7 ?l7 ?c7 ?k7, Mine.ownF_mk KX G ?a8 ?l8 ?c8 ?k8, Mine.ownF_mk KX G ?a9 ?l9 ?c9 ?k9, Mine.ownF_mk KX G ?a10 ?l10 ?c10 ?k10, Mine.ownF_mk KX G ?a11 ?l11 ?c11 ?k11, Mine.ownF_mk KX G ?a12 ?l12 ?c12 ?k12, Mine.ownF_mk KX G ?a13 ?l13 ?c13 ?k13, Mine.ownF_mk KX G ?a14 ?l14 ?c14 ?k14, Mine.ownF_mk KX G ?a15 ?l15 ?c15 ?k15, Mine.ownF_mk KX G ?a16 ?l16 ?c16 ?k16, Mine.ownF_mk KX G ?a17 ?l17 ?c17 ?k17, Mine.ownF_mk KX G ?a18 ?l18 ?c18 ?k18, Mine.ownF_mk KX G ?a19 ?l19 ?c19 ?k19, Mine.ownF_mk KX G ?a20 ?l20 ?c20 ?k20, Mine.ownF_mk KX G ?a21 ?l21 ?c21 ?k21, Mine.ownF_mk KX G ?a22 ?l22 ?c22 ?k22, Mine.ownF_mk KX G ?a23 ?l23 ?c23 ?k23, Mine.ownF_mk KX G ?a24 ?l24 ?c24 ?k24, Mine.ownF_mk KX G ?a25 ?l25 ?c25 ?k25, Mine.ownF_mk KX G ?a26 ?l26 ?c26 ?k26, Mine.ownF_mk KX G ?a27 ?l27 ?c27 ?k27, Mine.ownF_mk KX G ?a28 ?l28 ?c28 ?k28, Mine.ownF_mk KX G ?a29 ?l29 ?c29 ?k29, Mine.ownF_mk KX G ?a30 ?l30 ?c30 ?k30, Mine.ownF_mk KX G ?a31 ?l31 ?c31 ?k31, Mine.ownF_mk KX G ?a32 ?l32 ?c32 ?k32, Mine.ownF_mk KX G ?a33 ?l33 ?c33 ?k33, Mine.ownF_mk KX G ?a34 ?l34 ?c34 ?k34, Mine.ownF_mk KX G ?a35 ?l35 ?c35 ?k35, Mine.ownF_mk KX G ?a36 ?l36 ?c36 ?k36, Mine.ownF_mk KX G ?a37 ?l37 ?c37 ?k37, Mine.ownF_mk KX G ?a38 ?l38 ?c38 ?k38, Mine.ownF_mk KX G ?a39 ?l39 ?c39 ?k39, Mine.ownF_mk KX G ?a40 ?l40 ?c40 ?k40, Mine.ownF_mk KX G ?a41 ?l41 ?c41 ?k41, Mine.ownF_mk KX G ?a42 ?l42 ?c42 ?k42, Mine.ownF_mk KX G ?a43 ?l43 ?c43 ?k43, Mine.ownF_mk KX G ?a44 ?l44 ?c44 ?k44, Mine.ownF_mk KX G ?a45 ?l45 ?c45 ?k45, Mine.ownF_mk KX G ?a46 ?l46 ?c46 ?k46, Mine.ownF_mk KX G ?a47 ?l47 ?c47 ?k47, Mine.ownF_mk KX G ?a48 ?l48 ?c48 ?k48, Mine.ownF_mk KX G ?a49 ?l49 ?c49 ?k49, Mine.ownF_mk KX G ?a50 ?l50 ?c50 ?k50, Mine.ownF_mk KX G ?a51 ?l51 ?c51 ?k51, Mine.ownF_mk KX G ?a52 ?l52 ?c52 ?k52, Mine.ownF_mk KX G ?a53 ?l53 ?c53 ?k53, Mine.ownF_mk KX G ?a54 ?l54 ?c54 ?k54, Mine.ownF_mk KX G ?a55 ?l55 ?c55 ?k55, Mine.ownF_mk KX G ?a56 ?l56 ?c56 ?k56, Mine.ownF_mk KX G ?a57 ?l57 ?c57 ?k57, Mine.ownF_mk KX G ?a58 ?l58 ?c58 ?k58, Mine.ownF_mk KX G ?a59 ?l59 ?c59 ?k59, Mine.ownF_mk KX G ?a60 ?l60 ?c60 ?k60, Mine.ownF_mk KX G ?a61 ?l61 ?c61 ?k61⟩
      (case a0 => k_is); (case l0 => k_is); (case c0 => k_is); (case k0 => k_is)
      (case a1 => k_is); (case l1 => k_is); (case c1 => k_is); (case k1 => k_is)
      (case a2 => k_is); (case l2 => k_is); (case c2 => k_is); (case k2 => k_is)
      (case a3 => k_is); (case l3 => k_is); (case c3 => k_is); (case k3 => k_is)
      (case a4 => k_is); (case l4 => k_is); (case c4 => k_is); (case k4 => k_is)
      (case a5 => k_is); (case l5 => k_is); (case c5 => k_is); (case k5 => k_is)
      (case a6 => k_is); (case l6 => k_is); (case c6 => k_is); (case k6 => k_is)
      (case a7 => k_is); (case l7 => k_is); (case c7 => k_is); (case k7 => k_is)
      (case a8 => k_is); (case l8 => k_is); (case c8 => k_is); (case k8 => k_is)
      (case a9 => k_is); (case l9 => k_is); (case c9 => k_is); (case k9 => k_is)
      (case a10 => k_is); (case l10 => k_is); (case c10 => k_is); (case k10 => k_is)
      (case a11 => k_is); (case l11 => k_is); (case c11 => k_is); (case k11 => k_is)
      (case a12 => k_is); (case l12 => k_is); (case c12 => k_is); (case k12 => k_is)
      (case a13 => k_is); (case l13 => k_is); (case c13 => k_is); (case k13 => k_is)
      (case a14 => k_is); (case l14 => k_is); (case c14 => k_is); (case k14 => k_is)
      (case a15 => k_is); (case l15 => k_is); (case c15 => k_is); (case k15 => k_is)
      (case a16 => k_is); (case l16 => k_is); (case c16 => k_is); (case k16 => k_is)
      (case a17 => k_is); (case l17 => k_is); (case c17 => k_is); (case k17 => k_is)
      (case a18 => k_is); (case l18 => k_is); (case c18 => k_is); (case k18 => k_is)
      (case a19 => k_is); (case l19 => k_is); (case c19 => k_is); (case k19 => k_is)
      (case a20 => k_is); (case l20 => k_is); (case c20 => k_is); (case k20 => k_is)
      (case a21 => k_is); (case l21 => k_is); (case c21 => k_is); (case k21 => k_is)
      (case a22 => k_is); (case l22 => k_is); (case c22 => k_is); (case k22 => k_is)
      (case a23 => k_is); (case l23 => k_is); (case c23 => k_is); (case k23 => k_is)
      (case a24 => k_is); (case l24 => k_is); (case c24 => k_is); (case k24 => k_is)
      (case a25 => k_is); (case l25 => k_is); (case c25 => k_is); (case k25 => k_is)
      (case a26 => k_is); (case l26 => k_is); (case c26 => k_is); (case k26 => k_is)
      (case a27 => k_is); (case l27 => k_is); (case c27 => k_is); (case k27 => k_is)
      (case a28 => k_is); (case l28 => k_is); (case c28 => k_is); (case k28 => k_is)
      (case a29 => k_is); (case l29 => k_is); (case c29 => k_is); (case k29 => k_is)
      (case a30 => k_is); (case l30 => k_is); (case c30 => k_is); (case k30 => k_is)
      (case a31 => k_is); (case l31 => k_is); (case c31 => k_is); (case k31 => k_is)
      (case a32 => k_is); (case l32 => k_is); (case c32 => k_is); (case k32 => k_is)
      (case a33 => k_is); (case l33 => k_is); (case c33 => k_is); (case k33 => k_is)
      (case a34 => k_is); (case l34 => k_is); (case c34 => k_is); (case k34 => k_is)
      (case a35 => k_is); (case l35 => k_is); (case c35 => k_is); (case k35 => k_is)
      (case a36 => k_is); (case l36 => k_is); (case c36 => k_is); (case k36 => k_is)
      (case a37 => k_is); (case l37 => k_is); (case c37 => k_is); (case k37 => k_is)
      (case a38 => k_is); (case l38 => k_is); (case c38 => k_is); (case k38 => k_is)
      (case a39 => k_is); (case l39 => k_is); (case c39 => k_is); (case k39 => k_is)
      (case a40 => k_is); (case l40 => k_is); (case c40 => k_is); (case k40 => k_is)
      (case a41 => k_is); (case l41 => k_is); (case c41 => k_is); (case k41 => k_is)
      (case a42 => k_is); (case l42 => k_is); (case c42 => k_is); (case k42 => k_is)
      (case a43 => k_is); (case l43 => k_is); (case c43 => k_is); (case k43 => k_is)
      (case a44 => k_is); (case l44 => k_is); (case c44 => k_is); (case k44 => k_is)
      (case a45 => k_is); (case l45 => k_is); (case c45 => k_is); (case k45 => k_is)
      (case a46 => k_is); (case l46 => k_is); (case c46 => k_is); (case k46 => k_is)
      (case a47 => k_is); (case l47 => k_is); (case c47 => k_is); (case k47 => k_is)
      (case a48 => k_is); (case l48 => k_is); (case c48 => k_is); (case k48 => k_is)
      (case a49 => k_is); (case l49 => k_is); (case c49 => k_is); (case k49 => k_is)
      (case a50 => k_is); (case l50 => k_is); (case c50 => k_is); (case k50 => k_is)
      (case a51 => k_is); (case l51 => k_is); (case c51 => k_is); (case k51 => k_is)
      (case a52 => k_is); (case l52 => k_is); (case c52 => k_is); (case k52 => k_is)
      (case a53 => k_is); (case l53 => k_is); (case c53 => k_is); (case k53 => k_is)
      (case a54 => k_is); (case l54 => k_is); (case c54 => k_is); (case k54 => k_is)
      (case a55 => k_is); (case l55 => k_is); (case c55 => k_is); (case k55 => k_is)
      (case a56 => k_is); (case l56 => k_is); (case c56 => k_is); (case k56 => k_is)
      (case a57 => k_is); (case l57 => k_is); (case c57 => k_is); (case k57 => k_is)
      (case a58 => k_is); (case l58 => k_is); (case c58 => k_is); (case k58 => k_is)
      (case a59 => k_is); (case l59 => k_is); (case c59 => k_is); (case k59 => k_is)
      (case a60 => k_is); (case l60 => k_is); (case c60 => k_is); (case k60 => k_is)
      (case a61 => k_is); (case l61 => k_is); (case c61 => k_is); (case k61 => k_is)
    obtain ⟨fI, cRefused, cBadProgram, cBadOp, cBadParts, cUnequal, cBadPart, cTooGreat, cTooMany, cBadInput, Er, fdI, FI, tI⟩ : ∃ (fI cRefused cBadProgram cBadOp cBadParts cUnequal cBadPart cTooGreat cTooMany cBadInput : Addr), Mine.Errs (L2.KOf KX) mg fI cRefused cBadProgram cBadOp cBadParts cUnequal cBadPart cTooGreat cTooMany cBadInput ∧ ∃ fdI : FuncData, L2.Fun (L2.KOf KX) "__init__" "Refused.__init__" Mine.initSt fI fdI ∧ PySem.W.typeIn (L2.KOf KX) (.ref fI) = some (.type "function") := by
      dsimp only [L2.KOf]
      refine' ⟨_, _, _, _, _, _, _, _, _, _, Mine.errs_mk (Mine.errC_mk KX G ?aC0 ?xL0 ?bm0 ?sa0 ?ga0 ?gg0 ?nb0 ?iC0 ?kC0 ?eC0 ?tC0 ?hC0) (Mine.errC_mk KX G ?aC1 ?xL1 ?bm1 ?sa1 ?ga1 ?gg1 ?nb1 ?iC1 ?kC1 ?eC1 ?tC1 ?hC1) (Mine.errC_mk KX G ?aC2 ?xL2 ?bm2 ?sa2 ?ga2 ?gg2 ?nb2 ?iC2 ?kC2 ?eC2 ?tC2 ?hC2) (Mine.errC_mk KX G ?aC3 ?xL3 ?bm3 ?sa3 ?ga3 ?gg3 ?nb3 ?iC3 ?kC3 ?eC3 ?tC3 ?hC3) (Mine.errC_mk KX G ?aC4 ?xL4 ?bm4 ?sa4 ?ga4 ?gg4 ?nb4 ?iC4 ?kC4 ?eC4 ?tC4 ?hC4) (Mine.errC_mk KX G ?aC5 ?xL5 ?bm5 ?sa5 ?ga5 ?gg5 ?nb5 ?iC5 ?kC5 ?eC5 ?tC5 ?hC5) (Mine.errC_mk KX G ?aC6 ?xL6 ?bm6 ?sa6 ?ga6 ?gg6 ?nb6 ?iC6 ?kC6 ?eC6 ?tC6 ?hC6) (Mine.errC_mk KX G ?aC7 ?xL7 ?bm7 ?sa7 ?ga7 ?gg7 ?nb7 ?iC7 ?kC7 ?eC7 ?tC7 ?hC7) (Mine.errC_mk KX G ?aC8 ?xL8 ?bm8 ?sa8 ?ga8 ?gg8 ?nb8 ?iC8 ?kC8 ?eC8 ?tC8 ?hC8) ⟨?b0, ?i0, ?t0⟩ ?s0, _, L2.fun_mk (st := Mine.initSt) ?lI ?cI ?kI, ?tI⟩
      (case aC0 => k_is); (case xL0 => k_is); (case bm0 => decide +kernel); (case sa0 => k_is); (case ga0 => k_is); (case gg0 => k_is); (case nb0 => k_is); (case iC0 => k_is); (case kC0 => k_is); (case eC0 => k_is); (case tC0 => k_is); (case hC0 => k_is)
      (case aC1 => k_is); (case xL1 => k_is); (case bm1 => decide +kernel); (case sa1 => k_is); (case ga1 => k_is); (case gg1 => k_is); (case nb1 => k_is); (case iC1 => k_is); (case kC1 => k_is); (case eC1 => k_is); (case tC1 => k_is); (case hC1 => k_is)
      (case aC2 => k_is); (case xL2 => k_is); (case bm2 => decide +kernel); (case sa2 => k_is); (case ga2 => k_is); (case gg2 => k_is); (case nb2 => k_is); (case iC2 => k_is); (case kC2 => k_is); (case eC2 => k_is); (case tC2 => k_is); (case hC2 => k_is)
      (case aC3 => k_is); (case xL3 => k_is); (case bm3 => decide +kernel); (case sa3 => k_is); (case ga3 => k_is); (case gg3 => k_is); (case nb3 => k_is); (case iC3 => k_is); (case kC3 => k_is); (case eC3 => k_is); (case tC3 => k_is); (case hC3 => k_is)
      (case aC4 => k_is); (case xL4 => k_is); (case bm4 => decide +kernel); (case sa4 => k_is); (case ga4 => k_is); (case gg4 => k_is); (case nb4 => k_is); (case iC4 => k_is); (case kC4 => k_is); (case eC4 => k_is); (case tC4 => k_is); (case hC4 => k_is)
      (case aC5 => k_is); (case xL5 => k_is); (case bm5 => decide +kernel); (case sa5 => k_is); (case ga5 => k_is); (case gg5 => k_is); (case nb5 => k_is); (case iC5 => k_is); (case kC5 => k_is); (case eC5 => k_is); (case tC5 => k_is); (case hC5 => k_is)
      (case aC6 => k_is); (case xL6 => k_is); (case bm6 => decide +kernel); (case sa6 => k_is); (case ga6 => k_is); (case gg6 => k_is); (case nb6 => k_is); (case iC6 => k_is); (case kC6 => k_is); (case eC6 => k_is); (case tC6 => k_is); (case hC6 => k_is)
      (case aC7 => k_is); (case xL7 => k_is); (case bm7 => decide +kernel); (case sa7 => k_is); (case ga7 => k_is); (case gg7 => k_is); (case nb7 => k_is); (case iC7 => k_is); (case kC7 => k_is); (case eC7 => k_is); (case tC7 => k_is); (case hC7 => k_is)
      (case aC8 => k_is); (case xL8 => k_is); (case bm8 => decide +kernel); (case sa8 => k_is); (case ga8 => k_is); (case gg8 => k_is); (case nb8 => k_is); (case iC8 => k_is); (case kC8 => k_is); (case eC8 => k_is); (case tC8 => k_is); (case hC8 => k_is)
      (case b0 => k_is); (case i0 => k_is); (case t0 => k_is)
      (case s0 => first | k_is | rfl | decide +kernel)
      (case lI => k_is); (case cI => k_is); (case kI => k_is); (case tI => k_is)
    obtain ⟨aT, b0, b1, b2, b3, b4, tT, n0, n1, n2, n3, n4⟩ : ∃ (aT b0 b1 b2 b3 b4 : Addr), Mine.Tab w (L2.KOf KX) mg "TELLS" aT (Mine.tabG [("row", b0), ("in", b1), ("part", b2), ("rep", b3), ("hold", b4)]) ∧ mg "tells_row" = some (.ref b0) ∧ mg "tells_input" = some (.ref b1) ∧ mg "tells_stretch" = some (.ref b2) ∧ mg "tells_times" = some (.ref b3) ∧ mg "tells_room" = some (.ref b4) := by
      dsimp only [L2.KOf]
      refine' ⟨_, _, _, _, _, _, Mine.tab_mk KX G ?e ?l ?k ?lo ?L, PySem.W.mg_of KX G ?n0, PySem.W.mg_of KX G ?n1, PySem.W.mg_of KX G ?n2, PySem.W.mg_of KX G ?n3, PySem.W.mg_of KX G ?n4⟩
      (case e => k_is); (case l => k_is); (case k => k_keys); (case lo => decide); (case L => rfl)
      (case n0 => k_is); (case n1 => k_is); (case n2 => k_is); (case n3 => k_is); (case n4 => k_is)
    obtain ⟨aA, q0, q1, q2, q3, q4, q5, q6, q7, q8, q9, q10, q11, q12, q13, tA, ac0, ac1, ac2, ac3, ac4, ac5, ac6, ac7, ac8, ac9, ac10, ac11, ac12, ac13⟩ : ∃ (aA q0 q1 q2 q3 q4 q5 q6 q7 q8 q9 q10 q11 q12 q13 : Addr), Mine.Tab w (L2.KOf KX) mg "ACTIONS" aA (Mine.tabG [("rev", q0), ("sort", q1), ("sum", q2), ("top", q3), ("add", q4), ("sub", q5), ("mul", q6), ("dot", q7), ("cat", q8), ("outer", q9), ("blend", q10), ("part", q11), ("rep", q12), ("hold", q13)]) ∧ mg "turned" = some (.ref q0) ∧ mg "ascending" = some (.ref q1) ∧ mg "total" = some (.ref q2) ∧ mg "greatest" = some (.ref q3) ∧ mg "added" = some (.ref q4) ∧ mg "subtracted" = some (.ref q5) ∧ mg "multiplied" = some (.ref q6) ∧ mg "dotted" = some (.ref q7) ∧ mg "joined" = some (.ref q8) ∧ mg "crossed" = some (.ref q9) ∧ mg "blended" = some (.ref q10) ∧ mg "cut" = some (.ref q11) ∧ mg "repeated" = some (.ref q12) ∧ mg "unchanged" = some (.ref q13) := by
      dsimp only [L2.KOf]
      refine' ⟨_, _, _, _, _, _, _, _, _, _, _, _, _, _, _, Mine.tab_mk KX G ?e ?l ?k ?lo ?L, PySem.W.mg_of KX G ?n0, PySem.W.mg_of KX G ?n1, PySem.W.mg_of KX G ?n2, PySem.W.mg_of KX G ?n3, PySem.W.mg_of KX G ?n4, PySem.W.mg_of KX G ?n5, PySem.W.mg_of KX G ?n6, PySem.W.mg_of KX G ?n7, PySem.W.mg_of KX G ?n8, PySem.W.mg_of KX G ?n9, PySem.W.mg_of KX G ?n10, PySem.W.mg_of KX G ?n11, PySem.W.mg_of KX G ?n12, PySem.W.mg_of KX G ?n13⟩
      (case e => k_is); (case l => k_is); (case k => k_keys); (case lo => decide); (case L => rfl)
      (case n0 => k_is); (case n1 => k_is); (case n2 => k_is); (case n3 => k_is); (case n4 => k_is); (case n5 => k_is); (case n6 => k_is); (case n7 => k_is); (case n8 => k_is); (case n9 => k_is); (case n10 => k_is); (case n11 => k_is); (case n12 => k_is); (case n13 => k_is)
    obtain ⟨aP, p0, p1, p2, p3, p4, p5, p6, p7, p8, p9, p10, p11, p12, p13, p14, p15, tP, hP⟩ : ∃ (aP p0 p1 p2 p3 p4 p5 p6 p7 p8 p9 p10 p11 p12 p13 p14 p15 : Addr), Mine.Tab w (L2.KOf KX) mg "PARTS" aP (Mine.tabG [("row", p0), ("in", p1), ("rev", p2), ("sort", p3), ("sum", p4), ("top", p5), ("add", p6), ("sub", p7), ("mul", p8), ("dot", p9), ("cat", p10), ("outer", p11), ("blend", p12), ("part", p13), ("rep", p14), ("hold", p15)]) ∧ Mine.Prs (L2.KOf KX) [("row", p0), ("in", p1), ("rev", p2), ("sort", p3), ("sum", p4), ("top", p5), ("add", p6), ("sub", p7), ("mul", p8), ("dot", p9), ("cat", p10), ("outer", p11), ("blend", p12), ("part", p13), ("rep", p14), ("hold", p15)] Mine.arts := by
      dsimp only [L2.KOf]
      refine' ⟨_, _, _, _, _, _, _, _, _, _, _, _, _, _, _, _, _, Mine.tab_mk KX G ?e ?l ?k ?lo ?L, (.cons ⟨rfl, Mine.pair_mk ?p0⟩ (.cons ⟨rfl, Mine.pair_mk ?p1⟩ (.cons ⟨rfl, Mine.pair_mk ?p2⟩ (.cons ⟨rfl, Mine.pair_mk ?p3⟩ (.cons ⟨rfl, Mine.pair_mk ?p4⟩ (.cons ⟨rfl, Mine.pair_mk ?p5⟩ (.cons ⟨rfl, Mine.pair_mk ?p6⟩ (.cons ⟨rfl, Mine.pair_mk ?p7⟩ (.cons ⟨rfl, Mine.pair_mk ?p8⟩ (.cons ⟨rfl, Mine.pair_mk ?p9⟩ (.cons ⟨rfl, Mine.pair_mk ?p10⟩ (.cons ⟨rfl, Mine.pair_mk ?p11⟩ (.cons ⟨rfl, Mine.pair_mk ?p12⟩ (.cons ⟨rfl, Mine.pair_mk ?p13⟩ (.cons ⟨rfl, Mine.pair_mk ?p14⟩ (.cons ⟨rfl, Mine.pair_mk ?p15⟩ .nil))))))))))))))))⟩
      (case e => k_is); (case l => k_is); (case k => k_keys); (case lo => decide); (case L => rfl)
      (case p0 => k_is); (case p1 => k_is); (case p2 => k_is); (case p3 => k_is); (case p4 => k_is); (case p5 => k_is); (case p6 => k_is); (case p7 => k_is); (case p8 => k_is); (case p9 => k_is); (case p10 => k_is); (case p11 => k_is); (case p12 => k_is); (case p13 => k_is); (case p14 => k_is); (case p15 => k_is)
    refine' Mine.fin_mk KX G hmg ?a ?l ?c ?k B BS BR BD BL C (Mine.parts_tab tP hP) tT n0 n1 n2 n3 n4 tA ac0 ac1 ac2 ac3 ac4 ac5 ac6 ac7 ac8 ac9 ac10 ac11 ac12 ac13 FI tI Er OP
    (case a => k_is); (case l => k_is); (case c => k_is); (case k => k_is)
