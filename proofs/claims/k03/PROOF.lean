import PyProof.Rows.All
import Wide.All
import OpenK.AllK
import Wide.FinOn
import HandS.ForMost
import HandS.ForExc
import HandS.IsInst
import HandS.TupAny
import HandS.TupMul
import HandS.Style
import HandS.ExcInit
import HandS.TryMany
import HandS.ExcField
import HandS.CallLocal
import HandS.More
import HandS.Steps
import PyProof.MaxThree
import HandS.Rev
import HandS.Zip
import KE.GoesEnum
import HandS.Iter
import HandS.Comp
import HandS.RevRange
import HandS.Conv
import HandS.DictComp
import KE.KIndexOf
import PyProof.CallFns
import KE.SortKeyHeap
import HandS.Lambda
import HandS.SortKw
import HandS.SortInts
import HandS.Deep
import KE.KDictPairs
import HandS.ListItems
import PyProof.TupleOfSeq
import KE.KDictItemsList
import KE.KDictExact
import PyProof.ZipIter
import KE.KTupSum
import PyProof.WalkInts
import HandS.TryOnly
import HandS.ExcOwn
import HandS.Text
import HandS.RaiseMore
import HandS.Codes
import HandS.Wide
import PySem.Challenge.RW_hillrooms_k03_texts_written_and_read_bac
set_option Elab.async false
set_option linter.all false
set_option maxRecDepth 100000
set_option maxHeartbeats 4000000
/-! ### Kit -/
namespace Mine
open PySem PySem.Spec L2

/-! ## heaps -/
/-- what stood stands, but at a -/
def SB (a : Addr) (H H' : Hp) : Prop := ∀ b o, b ≠ a → H b = some o → H' b = some o
/-- what was a tuple is one -/
def Ext (K : PySem.W.Frag) (H H' : Hp) : Prop := ∀ a xs, SqT K H a xs → SqT K H' a xs
theorem SB.refl {a : Addr} {H : Hp} : SB a H H := fun _ _ _ h => h
theorem SB.trans {a : Addr} {H H1 H2 : Hp} (x : SB a H H1) (y : SB a H1 H2) : SB a H H2 := fun b o n h => y b o n (x b o n h)
theorem SB.of_same {a : Addr} {H H' : Hp} (s : Same H H') : SB a H H' := fun b o _ h => s b o h
theorem SB.upd {a : Addr} {H : Hp} {o : HO} : SB a H (upd H a o) := fun b u n h => by rw [upd_ne n]; exact h
theorem SB.new {a p : Addr} {H H' : Hp} {o : HO} (s : SB a H H') (hp : H' p = none) : SB a H (L2.upd H' p o) := fun b u n h => by
  have q := s b u n h
  rw [upd_ne (ne_of_none q hp)]; exact q
theorem SB.set {a : Addr} {H H' : Hp} {o : HO} (s : SB a H H') : SB a H (L2.upd H' a o) := fun b u n h => by
  rw [upd_ne n]; exact s b u n h
theorem Same.new {p : Addr} {H H' : Hp} {o : HO} (s : Same H H') (hp : H' p = none) : Same H (L2.upd H' p o) := fun b u h => by
  have q := s b u h
  rw [upd_ne (ne_of_none q hp)]; exact q
theorem same_new {H : Hp} {p : Addr} (h : H p = none) (o : HO) : Same H (upd H p o) := fun b u q => by rw [upd_ne (ne_of_none q h)]; exact q
theorem Ext.refl {K : PySem.W.Frag} {H : Hp} : Ext K H H := fun _ _ h => h
theorem Ext.trans {K : PySem.W.Frag} {H H1 H2 : Hp} (x : Ext K H H1) (y : Ext K H1 H2) : Ext K H H2 := fun a xs h => y a xs (x a xs h)
theorem Ext.of_same {K : PySem.W.Frag} {H H' : Hp} (s : Same H H') : Ext K H H' := fun a xs h => by
  rcases h with (h | ⟨o, h⟩) | h
  · exact .inl (.inl (s _ _ h))
  · exact .inl (.inr ⟨o, s _ _ h⟩)
  · exact .inr h
/-- an object that is no tuple is no known tuple -/
def noTup : HO → Prop
  | .tup _ => False
  | .frz _ _ => False
  | _ => True
theorem Ext.of_SB {K : PySem.W.Frag} {a : Addr} {H H' : Hp} {o : HO} (s : SB a H H') (h : H a = some o) (hn : noTup o) : Ext K H H' := fun b xs q => by
  rcases q with (q | ⟨u, q⟩) | q
  · have ne : b ≠ a := fun e => by subst e; rw [h] at q; cases q; exact hn
    exact .inl (.inl (s _ _ ne q))
  · have ne : b ≠ a := fun e => by subst e; rw [h] at q; cases q; exact hn
    exact .inl (.inr ⟨u, s _ _ ne q⟩)
  · exact .inr q
theorem Ext.set {K : PySem.W.Frag} {a : Addr} {H : Hp} {o u : HO} (h : H a = some o) (hn : noTup o) : Ext K H (upd H a u) := Ext.of_SB SB.upd h hn
theorem Ext.new {K : PySem.W.Frag} {p : Addr} {H : Hp} {o : HO} (h : H p = none) : Ext K H (upd H p o) := Ext.of_same (same_new h o)

/-! ## data without lists -/
mutual
inductive Rp (K : PySem.W.Frag) (H : Hp) : V → PyData → Prop
  | non : Rp K H .non .none
  | bl (b : Bool) : Rp K H (.bl b) (.bool b)
  | int (i : Int) : Rp K H (.int i) (.int i)
  | str (x : Str) : Rp K H (.str x) (.str x)
  | tup {a : Addr} {xs : List V} {ds : List PyData} : SqT K H a xs → Rps K H xs ds → Rp K H (.ref a) (.tuple ds)
inductive Rps (K : PySem.W.Frag) (H : Hp) : List V → List PyData → Prop
  | nil : Rps K H [] []
  | cons {v : V} {vs : List V} {d : PyData} {ds : List PyData} : Rp K H v d → Rps K H vs ds → Rps K H (v :: vs) (d :: ds)
end
mutual
theorem Rp.mono {K : PySem.W.Frag} {H H' : Hp} (e : Ext K H H') : ∀ (d : PyData) (v : V), Rp K H v d → Rp K H' v d
  | .none, _, h => by cases h; exact .non
  | .bool b, _, h => by cases h; exact .bl b
  | .int i, _, h => by cases h; exact .int i
  | .str x, _, h => by cases h; exact .str x
  | .tuple ds, _, h => by
    cases h with
    | tup hs hr => exact .tup (e _ _ hs) (Rps.mono e ds _ hr)
  | .list _, _, h => nomatch h
  | .dict _, _, h => nomatch h
theorem Rps.mono {K : PySem.W.Frag} {H H' : Hp} (e : Ext K H H') : ∀ (ds : List PyData) (vs : List V), Rps K H vs ds → Rps K H' vs ds
  | [], _, h => by cases h; exact .nil
  | d :: ds, _, h => by
    cases h with
    | cons h1 h2 => exact .cons (Rp.mono e d _ h1) (Rps.mono e ds _ h2)
end
mutual
theorem Rp.dp {K : PySem.W.Frag} {H : Hp} : ∀ (d : PyData) (v : V), Rp K H v d → Dp K H v d
  | .none, _, h => by cases h; exact .non
  | .bool b, _, h => by cases h; exact .bl b
  | .int i, _, h => by cases h; exact .int i
  | .str x, _, h => by cases h; exact .str x
  | .tuple ds, _, h => by
    cases h with
    | tup hs hr => exact .tup hs (Rps.dp ds _ hr)
  | .list _, _, h => nomatch h
  | .dict _, _, h => nomatch h
theorem Rps.dp {K : PySem.W.Frag} {H : Hp} : ∀ (ds : List PyData) (vs : List V), Rps K H vs ds → DpAll K H vs ds
  | [], _, h => by cases h; exact .nil
  | d :: ds, _, h => by
    cases h with
    | cons h1 h2 => exact .cons (Rp.dp d _ h1) (Rps.dp ds _ h2)
end
theorem Rps.length {K : PySem.W.Frag} {H : Hp} : ∀ {vs : List V} {ds : List PyData}, Rps K H vs ds → vs.length = ds.length
  | _, _, .nil => rfl
  | _, _, .cons _ t => by rw [List.length_cons, List.length_cons, Rps.length t]
theorem Rps.get {K : PySem.W.Frag} {H : Hp} : ∀ {vs : List V} {ds : List PyData} {i : Nat} {d : PyData}, Rps K H vs ds → ds[i]? = some d → ∃ v, vs[i]? = some v ∧ Rp K H v d
  | _, _, _, _, .nil, e => by simp at e
  | _, _, 0, d, .cons h _, e => by simp at e; subst e; exact ⟨_, rfl, h⟩
  | _, _, i + 1, d, .cons _ t, e => by
    obtain ⟨v, h1, h2⟩ := Rps.get (i := i) (d := d) t (by simpa using e)
    exact ⟨v, by simpa using h1, h2⟩
theorem Rps.getV {K : PySem.W.Frag} {H : Hp} : ∀ {vs : List V} {ds : List PyData} {i : Nat} {v : V}, Rps K H vs ds → vs[i]? = some v → ∃ d, ds[i]? = some d ∧ Rp K H v d
  | _, _, _, _, .nil, e => by simp at e
  | _, _, 0, d, .cons h _, e => by simp at e; subst e; exact ⟨_, rfl, h⟩
  | _, _, i + 1, v, .cons _ t, e => by
    obtain ⟨d, h1, h2⟩ := Rps.getV (i := i) (v := v) t (by simpa using e)
    exact ⟨d, by simpa using h1, h2⟩
theorem Rps.append {K : PySem.W.Frag} {H : Hp} : ∀ {vs ws : List V} {ds es : List PyData}, Rps K H vs ds → Rps K H ws es → Rps K H (vs ++ ws) (ds ++ es)
  | _, _, _, _, .nil, s => s
  | _, _, _, _, .cons r t, s => .cons r (Rps.append t s)
theorem Rps.one {K : PySem.W.Frag} {H : Hp} {v : V} {d : PyData} (h : Rp K H v d) : Rps K H [v] [d] := .cons h .nil
theorem Rps.reverse {K : PySem.W.Frag} {H : Hp} : ∀ {vs : List V} {ds : List PyData}, Rps K H vs ds → Rps K H vs.reverse ds.reverse
  | _, _, .nil => .nil
  | _, _, .cons r t => by
    rw [List.reverse_cons, List.reverse_cons]
    exact (Rps.reverse t).append (.one r)
theorem Rps.dropLast {K : PySem.W.Frag} {H : Hp} : ∀ {vs : List V} {ds : List PyData}, Rps K H vs ds → Rps K H vs.dropLast ds.dropLast
  | _, _, .nil => .nil
  | _, _, .cons r .nil => .nil
  | _, _, .cons r (.cons r2 t) => .cons r (Rps.dropLast (.cons r2 t))
theorem Rps.drop {K : PySem.W.Frag} {H : Hp} : ∀ (n : Nat) {vs : List V} {ds : List PyData}, Rps K H vs ds → Rps K H (vs.drop n) (ds.drop n)
  | 0, _, _, r => r
  | _ + 1, _, _, .nil => .nil
  | n + 1, _, _, .cons _ t => Rps.drop n t
theorem Rps.take {K : PySem.W.Frag} {H : Hp} : ∀ (n : Nat) {vs : List V} {ds : List PyData}, Rps K H vs ds → Rps K H (vs.take n) (ds.take n)
  | 0, _, _, _ => .nil
  | _ + 1, _, _, .nil => .nil
  | n + 1, _, _, .cons r t => .cons r (Rps.take n t)
theorem Rps.ints {K : PySem.W.Frag} {H : Hp} : ∀ (ns : List Int), Rps K H (ns.map V.int) (ns.map PyData.int)
  | [] => .nil
  | n :: r => .cons (.int n) (Rps.ints r)

/-! ## readings, one step each -/
section
variable {σ : St} {H : Hp} {Q : VK} {D : Ends} {ta tb tc te : TE} {t u : TS} {tt tt' : TT} {i : Nat} {K : PySem.W.Frag}
theorem rd_var {v : V} (e : σ[i]? = some (some v)) (h : Q v H) : tVar i σ H Q := ⟨v, e, h⟩
theorem rd_c {v : V} (h : Q v H) : tC v σ H Q := h
theorem rd_seq {n bk ct : St → Hp → Prop} {rt : VK} (h : t ⟨u ⟨n, rt, bk, ct⟩, rt, bk, ct⟩ σ H) : tSeq t u ⟨n, rt, bk, ct⟩ σ H := h
theorem rd_next {n bk ct : St → Hp → Prop} {rt : VK} (h : n σ H) : tNext ⟨n, rt, bk, ct⟩ σ H := h
theorem rd_brk {n bk ct : St → Hp → Prop} {rt : VK} (h : bk σ H) : tBreak ⟨n, rt, bk, ct⟩ σ H := h
theorem rd_ct {n bk ct : St → Hp → Prop} {rt : VK} (h : ct σ H) : tCont ⟨n, rt, bk, ct⟩ σ H := h
theorem rd_ret {n bk ct : St → Hp → Prop} {rt : VK} (h : te σ H rt) : tRet te ⟨n, rt, bk, ct⟩ σ H := h
theorem rd_retN {n bk ct : St → Hp → Prop} {rt : VK} (h : rt .non H) : tRetN ⟨n, rt, bk, ct⟩ σ H := h
theorem rd_asg {g : TG} {n bk ct : St → Hp → Prop} {rt : VK} (h : te σ H fun x H1 => g x σ H1 n) : tAsg te g ⟨n, rt, bk, ct⟩ σ H := h
theorem rd_drop {n bk ct : St → Hp → Prop} {rt : VK} (h : te σ H fun _ H1 => n σ H1) : tDrop te ⟨n, rt, bk, ct⟩ σ H := h
theorem rd_gname {v : V} {R : St → Hp → Prop} (h : R (σ.set i (some v)) H) : gName i v σ H R := h
theorem rd_par {i j : Nat} {ta : TA} {n bk ct : St → Hp → Prop} {rt : VK} (h : ta σ H fun vs H1 => ∃ v w, vs = [v, w] ∧ n ((σ.set i (some v)).set j (some w)) H1) : tPar i j ta ⟨n, rt, bk, ct⟩ σ H := h
theorem rd_par3 {i j l : Nat} {ta : TA} {n bk ct : St → Hp → Prop} {rt : VK} (h : ta σ H fun vs H1 => ∃ u v w, vs = [u, v, w] ∧ n (((σ.set i (some u)).set j (some v)).set l (some w)) H1) : tPar3 i j l ta ⟨n, rt, bk, ct⟩ σ H := h
theorem rd_par3_end {i j l : Nat} {u v w : V} {N : St → Hp → Prop} (h : N (((σ.set i (some u)).set j (some v)).set l (some w)) H) : ∃ u' v' w', [u, v, w] = [u', v', w'] ∧ N (((σ.set i (some u')).set j (some v')).set l (some w')) H := ⟨u, v, w, rfl, h⟩
theorem rd_split {p A B : Prop} [Decidable p] (h1 : p → A) (h2 : ¬ p → B) : if decide p = true then A else B := by
  by_cases c : p
  · rw [decide_eq_true c, if_pos rfl]; exact h1 c
  · rw [decide_eq_false c, if_neg Bool.false_ne_true]; exact h2 c
theorem rd_splitN {p A B : Prop} [Decidable p] (h1 : ¬ p → A) (h2 : p → B) : if (!decide p) = true then A else B := by
  by_cases c : p
  · rw [decide_eq_true c]; exact h2 c
  · rw [decide_eq_false c]; exact h1 c
theorem rd_splitB {b : Bool} {A B : Prop} (h1 : b = true → A) (h2 : b = false → B) : if b = true then A else B := by
  cases b with
  | true => exact h1 rfl
  | false => exact h2 rfl
theorem rd_aug {te : TE} {ti : TIp} {n bk ct : St → Hp → Prop} {rt : VK} {x : V} (e : σ[i]? = some (some x)) (h : te σ H fun y H1 => ti x y H1 fun z H2 => n (σ.set i (some z)) H2) : tAug i te ti ⟨n, rt, bk, ct⟩ σ H := ⟨x, e, h⟩
theorem rd_ipI {f : Int → Int → Int} {x y : Int} (h : Q (.int (f x y)) H) : ipI f (.int x) (.int y) H Q := ⟨x, y, rfl, rfl, h⟩
theorem rd_par_end {i j : Nat} {v w : V} {N : St → Hp → Prop} (h : N ((σ.set i (some v)).set j (some w)) H) : ∃ v' w', [v, w] = [v', w'] ∧ N ((σ.set i (some v')).set j (some w')) H := ⟨v, w, rfl, h⟩
theorem rd_if (h : tt σ H fun b H1 => if b = true then t D σ H1 else u D σ H1) : tIfS tt t u D σ H := h
theorem rd_ife (h : tt σ H fun b H1 => if b = true then ta σ H1 Q else tb σ H1 Q) : tIf tt ta tb σ H Q := h
theorem rd_op {r : R2} (h : ta σ H fun x H1 => tb σ H1 fun y H2 => r x y H2 Q) : tOp r ta tb σ H Q := h
theorem rd_un {r : V → Hp → VK → Prop} (h : ta σ H fun x H1 => r x H1 Q) : tUn r ta σ H Q := h
theorem rd_nil {R : List V → Hp → Prop} (h : R [] H) : tNil σ H R := h
theorem rd_cons {tr : TA} {R : List V → Hp → Prop} (h : ta σ H fun x H1 => tr σ H1 fun xs H2 => R (x :: xs) H2) : tCons ta tr σ H R := h
theorem rd_tup {a : TA} (h : a σ H fun xs H1 => xs.length ≤ sizeLine ∧ ∀ p, H1 p = none → Q (.ref p) (upd H1 p (.tup xs))) : tTup a σ H Q := h
theorem rd_lst {a : TA} (h : a σ H fun xs H1 => xs.length ≤ sizeLine ∧ ∀ p, H1 p = none → Q (.ref p) (upd H1 p (.lst xs))) : tLst a σ H Q := h
theorem rd_call {sp : Sp} {E : XK} {a : TA} (h : a σ H fun vs H1 => sp vs H1 Q E) : tCall sp [] E a σ H Q := by
  show a σ H fun vs H1 => sp (vs ++ []) H1 Q E
  have e : (fun vs H1 => sp (vs ++ []) H1 Q E) = fun vs H1 => sp vs H1 Q E := by
    funext vs H1; rw [List.append_nil]
  rw [e]; exact h
theorem rd_cb {r : List V → Hp → VK → Prop} {a : TA} (h : a σ H fun vs H1 => r vs H1 Q) : tCB r a σ H Q := h
theorem rd_test {R : Bool → Hp → Prop} (h : te σ H fun x H' => ∃ k, x = .bl k ∧ R k H') : tTest te σ H R := h
theorem rd_tB {R : Bool → Hp → Prop} (h : te σ H fun x H' => ∃ k, x = .bl k ∧ R k H') : tB te σ H R := h
theorem rd_bl {k : Bool} {R : Bool → Prop} (h : R k) : ∃ k', V.bl k = .bl k' ∧ R k' := ⟨k, rfl, h⟩
theorem rd_and {R : Bool → Hp → Prop} (h : tt σ H fun c H1 => if c = true then tt' σ H1 R else R false H1) : tAnd tt tt' σ H R := h
theorem rd_or {R : Bool → Hp → Prop} (h : tt σ H fun c H1 => if c = true then R true H1 else tt' σ H1 R) : tOr tt tt' σ H R := h
theorem rd_not {R : Bool → Hp → Prop} (h : tt σ H fun c H1 => R (!c) H1) : tNot tt σ H R := h
theorem rd_andV (h : ta σ H fun x H1 => ∃ c, x = .bl c ∧ if c = true then tb σ H1 Q else Q (.bl false) H1) : tAndV ta tb σ H Q := h
theorem rd_orV (h : ta σ H fun x H1 => ∃ c, x = .bl c ∧ if c = true then Q (.bl true) H1 else tb σ H1 Q) : tOrV ta tb σ H Q := h
theorem rd_notV (h : ta σ H fun x H1 => ∃ c, x = .bl c ∧ Q (.bl (!c)) H1) : tNotV ta σ H Q := h
theorem rd_chain {r r' : R2} (h : ta σ H fun x H1 => tb σ H1 fun y H2 => r x y H2 fun z H3 => ∃ k, z = .bl k ∧ if k = true then tc σ H3 fun w H4 => r' y w H4 Q else Q (.bl false) H3) : tChain r r' ta tb tc σ H Q := h
end
end Mine

/-! ### Kit2 -/
namespace Mine
open PySem PySem.Spec L2

/-! ## defs of the text, and their promises -/
def HasF (P : Program) (w : World) (K : PySem.W.Frag) (mg : Str → Option Value) (base : Heap) (CX : CXT) (k : Nat) (x : Str) (ps : List Str) (sp : Sp) : Prop :=
  ∃ (f : Addr) (fd : FuncData), FnOk P w K mg base CX k f fd ps sp ∧ mg x = some (.ref f) ∧ PySem.W.keepIn K (.ref f) = true ∧ Binds K fd ps []
def OwnF (K : PySem.W.Frag) (mg : Str → Option Value) (x : Str) (st : Stmt) : Prop := ∃ (f : Addr) (fd : FuncData), Fun K x x st f fd ∧ mg x = some (.ref f)
section
variable {P : Program} {w : World} {K : PySem.W.Frag} {mg : Str → Option Value} {base : Heap} {CX : CXT}
theorem HasF.mono {j k : Nat} {x : Str} {ps : List Str} {sp : Sp} (h : HasF P w K mg base CX j x ps sp) (l : j ≤ k) : HasF P w K mg base CX k x ps sp := by
  obtain ⟨f, fd, F, m, kp, b⟩ := h
  exact ⟨f, fd, F.mono l, m, kp, b⟩
theorem HasF.imp {k : Nat} {x : Str} {ps : List Str} {sp sp' : Sp} (h : HasF P w K mg base CX k x ps sp) (i : ∀ vs H Q E, sp' vs H Q E → sp vs H Q E) : HasF P w K mg base CX k x ps sp' := by
  obtain ⟨f, fd, F, m, kp, b⟩ := h
  exact ⟨f, fd, F.imp i, m, kp, b⟩
/-- a def that lets nothing out -/
theorem has0 {x : Str} {st : Stmt} {N ps : List Str} {k : Nat} {sp : Sp} (O : OwnF K mg x st) (S : FnScope N ps (defScope st))
    (hb : ∀ (kV doc pm : Value) (an : Option Addr) (cdv ct : Value) (us : List Value), us.length = ps.length → bindArgs (PySem.W.fnOf x x (defArgs st) (defBody st) (defScope st) .none kV doc pm an cdv ct) ⟨us, []⟩ = pure (ps.zip us))
    (len : ∀ vs H Q E, sp vs H Q E → vs.length = ps.length)
    (body : ∀ (f : Addr) (cdv : Value) (A : Around) (outer : List Env) (s : Shared) (H : Hp) (vs : List V) (Q : VK) (E : XK), Room k (A.deeper (PyProof.Rows.envOfC x (defScope st) s.heap.objs.size f cdv)) → sp vs H Q E →
      ∃ t, PSs (cxOf CX0 P w K mg base N x (defScope st) f cdv A outer s H E).nox (defBody st) t ∧ t { nx := fun _ H' => Q .non H', rt := Q } (start N vs) H) :
    HasF P w K mg base CX0 (k + 1) x ps sp := by
  obtain ⟨f, fd, F, m⟩ := O
  exact ⟨f, fd, F.ok S len (fun cdv A outer s H vs Q E hr h => body f cdv A outer s H vs Q E hr h), m, F.kp, F.binds hb⟩
/-- a def that may raise -/
theorem hasX {x : Str} {st : Stmt} {N ps : List Str} {k : Nat} {sp : Sp} (O : OwnF K mg x st) (S : FnScope N ps (defScope st))
    (hb : ∀ (kV doc pm : Value) (an : Option Addr) (cdv ct : Value) (us : List Value), us.length = ps.length → bindArgs (PySem.W.fnOf x x (defArgs st) (defBody st) (defScope st) .none kV doc pm an cdv ct) ⟨us, []⟩ = pure (ps.zip us))
    (len : ∀ vs H Q E, sp vs H Q E → vs.length = ps.length)
    (body : ∀ (f : Addr) (cdv : Value) (A : Around) (outer : List Env) (s : Shared) (H : Hp) (vs : List V) (Q : VK) (E : XK), Room k (A.deeper (PyProof.Rows.envOfC x (defScope st) s.heap.objs.size f cdv)) → sp vs H Q E →
      ∃ t, PSs (cxOf (L2.CX P w) P w K mg base N x (defScope st) f cdv A outer s H E) (defBody st) t ∧ t { nx := fun _ H' => Q .non H', rt := Q } (start N vs) H) :
    HasF P w K mg base (L2.CX P w) (k + 1) x ps sp := by
  obtain ⟨f, fd, F, m⟩ := O
  exact ⟨f, fd, F.okX S len (fun cdv A outer s H vs Q E hr h => body f cdv A outer s H vs Q E hr h), m, F.kp, F.binds hb⟩
end
section
variable {X : Cx} {CX : CXT} {k : Nat} {ps : List Str} {sp : Sp} {E : XK} {x : Str} {p pos : Pos} {e : Expr} {es : List Expr} {t : TA}
theorem pe_callH (h : HasF X.prog X.w X.K X.mg X.base CX k x ps sp) (hr : Room k X.A) (hg : Gl X x) (hx : Passes CX X E) (ha : PA X (e :: es) t)
    (hdb : (x == ("__debug__" : Str)) = false := by decide) (he : starEach (e :: es) X.env = (false, eval e X.env) :: starEach es X.env := by rfl) (hpl : (backTo pos (starEach es X.env)).any (·.1) = false := by rfl) :
    PE X (.Call (.Name x p) (e :: es) [] pos) (tCall sp [] E t) := by
  obtain ⟨f, fd, F, m, kp, b⟩ := h
  exact pe_call F hr hg m kp b .nil hx ha hdb he hpl
/-- within a try, or where a raise leaves -/
theorem pe_callHS {E : St → XK} (h : HasF X.prog X.w X.K X.mg X.base CX k x ps sp) (hr : Room k X.A) (hg : Gl X x) (hx : ∀ σ, PassesAt CX X σ (E σ)) (ha : PA X (e :: es) t)
    (hdb : (x == ("__debug__" : Str)) = false := by decide) (he : starEach (e :: es) X.env = (false, eval e X.env) :: starEach es X.env := by rfl) (hpl : (backTo pos (starEach es X.env)).any (·.1) = false := by rfl) :
    PE X (.Call (.Name x p) (e :: es) [] pos) (tCallS sp E t) := by
  obtain ⟨f, fd, F, m, kp, b⟩ := h
  exact pe_callS F hr hg m kp b hx ha hdb he hpl
theorem rd_callS {σ : St} {H : Hp} {Q : VK} {E : St → XK} (h : t σ H fun vs H1 => sp vs H1 Q (E σ)) : tCallS sp E t σ H Q := h
/-- the module's ints and texts -/
theorem pe_globI {i : Int} (h : ∃ t, X.mg x = some (.int i t)) (hg : Gl X x) (hd : (x == ("__debug__" : Str)) = false := by decide) : PE X (.Name x pos) (tC (.int i)) := by
  obtain ⟨t, h⟩ := h
  exact pe_glob hg h ⟨t, rfl⟩ hd
theorem pe_globS {z : Str} (h : ∃ t, X.mg x = some (.str z t)) (hg : Gl X x) (hd : (x == ("__debug__" : Str)) = false := by decide) : PE X (.Name x pos) (tC (.str z)) := by
  obtain ⟨t, h⟩ := h
  exact pe_glob hg h ⟨t, rfl⟩ hd
theorem pe_globR {a : Addr} (h : X.mg x = some (.ref a)) (hg : Gl X x) (hd : (x == ("__debug__" : Str)) = false := by decide) : PE X (.Name x pos) (tC (.ref a)) := pe_glob hg h rfl hd
end

/-! ## operators of any kind of operands -/
section
variable {X : Cx}
def rAddU (K : PySem.W.Frag) : R2 := fun x y H Q => (∃ i j, x = .int i ∧ y = .int j ∧ Q (.int (i + j)) H) ∨ (∃ i j, x = .str i ∧ y = .str j ∧ i.length + j.length ≤ sizeLine ∧ Q (.str (i ++ j)) H) ∨ rCat x y H Q ∨ rCatA K x y H Q
theorem addU : OpR X (binaryOp .Add) (rAddU X.K) := op_add.or (op_add_str.or (op_cat.or op_catA))
def rMulU (K : PySem.W.Frag) : R2 := fun x y H Q => (∃ i j, x = .int i ∧ y = .int j ∧ CMul i j ∧ Q (.int (i * j)) H) ∨ rRep x y H Q ∨ rRepT K x y H Q
theorem mulU : OpR X (binaryOp .Mult) (rMulU X.K) := op_mul.or (op_rep.or op_repT)
def rSubU : R2 := fun x y H Q => ∃ i j, x = .int i ∧ y = .int j ∧ Q (.int (i - j)) H
theorem subU : OpR X (binaryOp .Sub) rSubU := op_sub
def rModU : R2 := fun x y H Q => ∃ i j, x = .int i ∧ y = .int j ∧ 0 < j ∧ Q (.int (i % j)) H
theorem modU : OpR X (binaryOp .Mod) rModU := op_mod
def rDivU : R2 := fun x y H Q => ∃ i j, x = .int i ∧ y = .int j ∧ CDiv i j ∧ Q (.int (i / j)) H
theorem divU : OpR X (binaryOp .FloorDiv) rDivU := op_fdiv
def rPowU : R2 := fun x y H Q => ∃ i j, x = .int i ∧ y = .int j ∧ CPow i j ∧ Q (.int (i ^ j.toNat)) H
theorem powU : OpR X (binaryOp .Pow) rPowU := op_pow
def rLtU : R2 := fun x y H Q => ∃ i j, x = .int i ∧ y = .int j ∧ Q (.bl (decide (i < j))) H
theorem ltU : OpR X (compareOp .Lt) rLtU := op_lt
def rLeU : R2 := fun x y H Q => ∃ i j, x = .int i ∧ y = .int j ∧ Q (.bl (decide (i ≤ j))) H
theorem leU : OpR X (compareOp .LtE) rLeU := op_le
def rGtU : R2 := fun x y H Q => ∃ i j, x = .int i ∧ y = .int j ∧ Q (.bl (decide (j < i))) H
theorem gtU : OpR X (compareOp .Gt) rGtU := op_gt
def rGeU : R2 := fun x y H Q => ∃ i j, x = .int i ∧ y = .int j ∧ Q (.bl (decide (j ≤ i))) H
theorem geU : OpR X (compareOp .GtE) rGeU := op_ge
def rEqU (K : PySem.W.Frag) : R2 := fun x y H Q => (scal x y = true ∧ Q (.bl (decide (x = y))) H) ∨ rEqD K x y H Q
theorem eqU (hu : X.A.units + 64 < cLine) : OpR X (compareOp .Eq) (rEqU X.K) := op_eq.or (op_eqD hu)
def rNeU (K : PySem.W.Frag) : R2 := fun x y H Q => (scal x y = true ∧ Q (.bl (!decide (x = y))) H) ∨ rNeD K x y H Q
theorem neU (hu : X.A.units + 64 < cLine) : OpR X (compareOp .NotEq) (rNeU X.K) := op_ne.or (op_neD hu)
def rInU (K : PySem.W.Frag) : R2 := fun x y H Q => rIn K false x y H Q ∨ rInS x y H Q
theorem op_inS' : OpR X (compareOp .In) rInS := op_in_sign
theorem op_notInS' : OpR X (compareOp .NotIn) rNotInS := op_notIn_sign
theorem inU : OpR X (compareOp .In) (rInU X.K) := op_in_seq.or op_inS'
def rNotInU (K : PySem.W.Frag) : R2 := fun x y H Q => rIn K true x y H Q ∨ rNotInS x y H Q
theorem notInU : OpR X (compareOp .NotIn) (rNotInU X.K) := op_notIn_seq.or op_notInS'
def rSlU (K : PySem.W.Frag) : V → Option Int → Option Int → Hp → VK → Prop := fun x lo hi H Q => rSlL K x lo hi H Q ∨ rSlA K x lo hi H Q
theorem slU : SlR X (rSlU X.K) := sl_list.or sl_tupA
def rLenU (K : PySem.W.Frag) : List V → Hp → VK → Prop := fun xs H Q => (∃ p ys, xs = [.ref p] ∧ (SqL K H p ys ∨ SqT K H p ys) ∧ Q (.int ys.length) H) ∨ (∃ z : Str, xs = [.str z] ∧ z.length ≤ sizeLine ∧ Q (.int z.length) H)
theorem lenU : CallR X (.builtin "len") (rLenU X.K) := call_len_seq.or call_len_str
def rIntU : List V → Hp → VK → Prop := fun xs H Q => (∃ i, xs = [.int i] ∧ Q (.int i) H) ∨ ∃ k, xs = [.bl k] ∧ Q (.int (if k then 1 else 0)) H
theorem intU : CallR X (.type "int") rIntU := call_int1
def rMax2 : List V → Hp → VK → Prop := fun xs H Q => ∃ i j, xs = [.int i, .int j] ∧ Q (.int (if j > i then j else i)) H
theorem max2U (hc : X.calm = true) : CallR X (.builtin "max") rMax2 := call_max2 hc
def rMin2 : List V → Hp → VK → Prop := fun xs H Q => ∃ i j, xs = [.int i, .int j] ∧ Q (.int (if j < i then j else i)) H
theorem min2U (hc : X.calm = true) : CallR X (.builtin "min") rMin2 := call_min2 hc
def rTupU (K : PySem.W.Frag) : List V → Hp → VK → Prop := fun xs H Q => ∃ p ys, xs = [.ref p] ∧ ((SqL K H p ys ∧ ∀ l, H l = none → Q (.ref l) (upd H l (.tup ys))) ∨ (SqT K H p ys ∧ Q (.ref p) H))
theorem tupU : CallR X (.type "tuple") (rTupU X.K) := call_tuple_of
end
section
variable {K : PySem.W.Frag} {H : Hp} {Q : VK} {i j : Int} {a b p : Addr} {xs ys : List V} {z z' : Str}
theorem u_add (h : Q (.int (i + j)) H) : rAddU K (.int i) (.int j) H Q := .inl ⟨i, j, rfl, rfl, h⟩
theorem u_addS (l : z.length + z'.length ≤ sizeLine) (h : Q (.str (z ++ z')) H) : rAddU K (.str z) (.str z') H Q := .inr (.inl ⟨z, z', rfl, rfl, l, h⟩)
theorem u_addL (ha : H a = some (.lst xs)) (hb : H b = some (.lst ys)) (l : xs.length + ys.length ≤ sizeLine) (h : ∀ p, H p = none → Q (.ref p) (upd H p (.lst (xs ++ ys)))) : rAddU K (.ref a) (.ref b) H Q :=
  .inr (.inr (.inl ⟨a, b, xs, ys, rfl, rfl, ha, hb, l, h⟩))
theorem u_mul (c : CMul i j) (h : Q (.int (i * j)) H) : rMulU K (.int i) (.int j) H Q := .inl ⟨i, j, rfl, rfl, c, h⟩
theorem u_sub (h : Q (.int (i - j)) H) : rSubU (.int i) (.int j) H Q := ⟨i, j, rfl, rfl, h⟩
theorem u_mod (c : 0 < j) (h : Q (.int (i % j)) H) : rModU (.int i) (.int j) H Q := ⟨i, j, rfl, rfl, c, h⟩
theorem u_div (c : 0 < j ∧ j < 1073741824) (h : Q (.int (i / j)) H) : rDivU (.int i) (.int j) H Q := ⟨i, j, rfl, rfl, c, h⟩
theorem u_pow (c : CPow i j) (h : Q (.int (i ^ j.toNat)) H) : rPowU (.int i) (.int j) H Q := ⟨i, j, rfl, rfl, c, h⟩
theorem u_lt (h : Q (.bl (decide (i < j))) H) : rLtU (.int i) (.int j) H Q := ⟨i, j, rfl, rfl, h⟩
theorem u_le (h : Q (.bl (decide (i ≤ j))) H) : rLeU (.int i) (.int j) H Q := ⟨i, j, rfl, rfl, h⟩
theorem u_gt (h : Q (.bl (decide (j < i))) H) : rGtU (.int i) (.int j) H Q := ⟨i, j, rfl, rfl, h⟩
theorem u_ge (h : Q (.bl (decide (j ≤ i))) H) : rGeU (.int i) (.int j) H Q := ⟨i, j, rfl, rfl, h⟩
theorem u_eqI (h : Q (.bl (decide (i = j))) H) : rEqU K (.int i) (.int j) H Q := .inl ⟨rfl, by
  have e : decide (V.int i = V.int j) = decide (i = j) := by
    by_cases c : i = j
    · rw [decide_eq_true c, decide_eq_true (congrArg V.int c)]
    · rw [decide_eq_false c, decide_eq_false (fun q => c (V.int.inj q))]
  rw [e]; exact h⟩
theorem u_eqS (h : Q (.bl (decide (z = z'))) H) : rEqU K (.str z) (.str z') H Q := .inl ⟨rfl, by
  have e : decide (V.str z = V.str z') = decide (z = z') := by
    by_cases c : z = z'
    · rw [decide_eq_true c, decide_eq_true (congrArg V.str c)]
    · rw [decide_eq_false c, decide_eq_false (fun q => c (V.str.inj q))]
  rw [e]; exact h⟩
theorem u_neI (h : Q (.bl (!decide (i = j))) H) : rNeU K (.int i) (.int j) H Q := .inl ⟨rfl, by
  have e : decide (V.int i = V.int j) = decide (i = j) := by
    by_cases c : i = j
    · rw [decide_eq_true c, decide_eq_true (congrArg V.int c)]
    · rw [decide_eq_false c, decide_eq_false (fun q => c (V.int.inj q))]
  rw [e]; exact h⟩
theorem u_neB {x y : Bool} (h : Q (.bl (!decide (x = y))) H) : rNeU K (.bl x) (.bl y) H Q := .inl ⟨rfl, by
  have e : decide (V.bl x = V.bl y) = decide (x = y) := by cases x <;> cases y <;> rfl
  rw [e]; exact h⟩
theorem u_ixL {v : V} (s : SqL K H p xs) (e : atI xs i = some v) (h : Q v H) : rIx K (.ref p) (.int i) H Q := .inl ⟨p, xs, i, v, rfl, rfl, s, e, h⟩
theorem u_ixT {v : V} (s : SqT K H p xs) (e : atI xs i = some v) (h : Q v H) : rIx K (.ref p) (.int i) H Q := .inr (.inl ⟨p, xs, i, v, rfl, rfl, s, e, h⟩)
theorem u_ixS {c : Nat} (l : z.length ≤ sizeLine) (e : atI z.cps.toList i = some c) (h : Q (.str ⟨#[c]⟩) H) : rIx K (.str z) (.int i) H Q := .inr (.inr ⟨z, i, c, rfl, rfl, l, e, h⟩)
theorem u_lenL (s : SqL K H p xs) (h : Q (.int xs.length) H) : rLenU K [.ref p] H Q := .inl ⟨p, xs, rfl, .inl s, h⟩
theorem u_lenT (s : SqT K H p xs) (h : Q (.int xs.length) H) : rLenU K [.ref p] H Q := .inl ⟨p, xs, rfl, .inr s, h⟩
theorem u_lenS (l : z.length ≤ sizeLine) (h : Q (.int z.length) H) : rLenU K [.str z] H Q := .inr ⟨z, rfl, l, h⟩
theorem u_int (h : Q (.int i) H) : rIntU [.int i] H Q := .inl ⟨i, rfl, h⟩
theorem u_intB {c : Bool} (h : Q (.int (if c then 1 else 0)) H) : rIntU [.bl c] H Q := .inr ⟨c, rfl, h⟩
theorem u_max (h : Q (.int (if j > i then j else i)) H) : rMax2 [.int i, .int j] H Q := ⟨i, j, rfl, h⟩
theorem u_min (h : Q (.int (if j < i then j else i)) H) : rMin2 [.int i, .int j] H Q := ⟨i, j, rfl, h⟩
theorem u_tupL (s : SqL K H p xs) (h : ∀ l, H l = none → Q (.ref l) (upd H l (.tup xs))) : rTupU K [.ref p] H Q := ⟨p, xs, rfl, .inl ⟨s, h⟩⟩
theorem u_setL {v : V} {n : Nat} {R : Hp → Prop} (h : H p = some (.lst xs)) (e : ixN xs.length i = some n) (q : R (upd H p (.lst (xs.set n v)))) : rSetL (.ref p) (.int i) v H R := ⟨p, xs, i, n, rfl, rfl, h, e, q⟩
theorem u_neg (h : Q (.int (-i)) H) : rU (fun i => .int (-i)) (.int i) H Q := ⟨i, rfl, h⟩
theorem rd_gsub {σ : St} {to ti : TE} {t : TSet} {v : V} {R : St → Hp → Prop} (h : to σ H fun o H1 => ti σ H1 fun i H2 => t o i v H2 fun H3 => R σ H3) : gSub to ti t v σ H R := h
end
end Mine

/-! ### Kit3 -/
namespace HT
open PySem PySem.Spec PyProof.Rows
theorem adjust_rev (n : Nat) : Builtin.Slice.sliceAdjust none none (-1) (n : Int) = ((n : Int) - 1, -1) := by
  unfold Builtin.Slice.sliceAdjust
  simp
theorem places_rev (n : Nat) : Builtin.Slice.slicePlaces ((n : Int) - 1) (-1) (-1) = n := by
  unfold Builtin.Slice.slicePlaces
  have h1 : ¬ ((-1 : Int) > 0) := by omega
  simp only [h1, if_false]
  by_cases h : (n : Int) - 1 > -1
  · rw [if_pos h]
    have e : (-(-1 : Int)) = 1 := by omega
    rw [e, Int.ediv_one]
    omega
  · rw [if_neg h]; omega
theorem pick_rev (xs : Array Value) : ((List.range xs.size).filterMap fun (m : Nat) => xs[((xs.size : Int) - 1 + (m : Int) * (-1)).toNat]?).toArray = xs.toList.reverse.toArray := by
  congr 1
  have e : ∀ l : List Nat, (∀ m ∈ l, m < xs.size) → l.filterMap (fun (m : Nat) => xs[((xs.size : Int) - 1 + (m : Int) * (-1)).toNat]?) = l.map (fun m => xs.getD (xs.size - 1 - m) .none) := by
    intro l
    induction l with
    | nil => intro _; rfl
    | cons m r ih =>
      intro h
      have hm' : m < xs.size := h m List.mem_cons_self
      have e1 : ((xs.size : Int) - 1 + (m : Int) * (-1)).toNat = xs.size - 1 - m := by omega
      have h2 : xs.size - 1 - m < xs.size := by omega
      have e2 : xs[((xs.size : Int) - 1 + (m : Int) * (-1)).toNat]? = some (xs.getD (xs.size - 1 - m) .none) := by
        rw [e1]
        simp [Array.getD, h2]
      rw [List.filterMap_cons, e2, List.map_cons, ih fun q hq => h q (List.mem_cons_of_mem _ hq)]
  rw [e _ fun m hm => List.mem_range.mp hm]
  apply List.ext_getElem?
  intro i
  rw [List.getElem?_map]
  by_cases hi : i < xs.size
  · rw [List.getElem?_range hi]
    rw [List.getElem?_reverse (by simpa using hi)]
    have h2 : xs.size - 1 - i < xs.size := by omega
    simp [Array.getD, h2]
  · have h1 : (List.range xs.size)[i]? = none := by simp; omega
    have h2 : xs.toList.reverse[i]? = none := by simp; omega
    rw [h1, h2]; rfl
theorem extend_tupW (l : Addr) (items : Array Value) (n : Nat) (b : Addr) (items2 : Array Value) (n2 : Nat) (dd : Option Addr) (sl : Array (Option Value)) (hs0 : ¬(!items.isEmpty && Builtin.List.listTooLong (items.size + items2.size)) = true) (hs1 : items.size ≤ sizeLine) (hs2 : items.size + items2.size ≤ sizeLine + 1) :
    Meets (Builtin.«list.extend» ⟨[.ref l, .ref b], []⟩) (fun _ R s => s.heap.get? l = some { cls := .type "list", dict := none, data := .seq items n, slots := #[] } ∧ s.heap.get? b = some { cls := .type "tuple", dict := dd, data := .seq items2 n2, slots := sl } ∧ R (.ok (.ret Value.none)) { s with heap := s.heap.update l (Obj.mapSeq fun x => x ++ items2), toks := s.toks }) :=
  .of_wp fun prog w A R s h => by
    obtain ⟨hp, g, d, tk, os⟩ := s; obtain ⟨hl, hb, h⟩ := h; have f1 := AutoSeq1.idx_int; have f2 := AutoSeq1.sub_tuple_tuple; have f3 := AutoSeq1.sub_list_list; have f4 := AutoSeq1.sub_tuple_list; have f5 := AutoSeq1.sub_list_tuple;
    have hz' : (items ++ items2).size ≤ sizeLine + 1 := by rw [Array.size_append]; exact hs2
    wp_walk using (wpAny_updateSeq hl rfl (hz := hs1) (_hz' := hz')), AutoSeq1.wpAny_loadPart' hl, AutoSeq1.wpAny_loadPart' hb; exact ⟨_, rfl, h⟩
variable {prog : Program} {w : World} {A : Around} {E : Value → Shared → Prop} {s : Shared}
theorem sliceApplied_rev {sl : Addr} {vl vu vs : Value} {n : Nat} {Q : Int × Int × Nat → Shared → Prop} (hs : s.heap.IsSliceOf sl vl vu vs) (pl : IsPart vl none) (pu : IsPart vu none) (ps : IsPart vs (some (-1)))
    (h : Q ((n : Int) - 1, -1, n) s) : wpAny (model prog w) A (Builtin.Slice.sliceApplied (.ref sl) (pure (n : Int))) Q E s := by
  obtain ⟨os, hos, hcs, hds⟩ := id hs
  unfold Builtin.Slice.sliceApplied Builtin.Slice.sliceFields
  refine wpAny_bind (wpAny_bind (wpAny_field hos hds (x := vl) rfl (wpAny_bind (wpAny_field hos hds (x := vu) rfl (wpAny_bind (wpAny_field hos hds (x := vs) rfl (wpAny_pure ?_)))))))
  refine wpAny_bind (slicePart_ ps ?_)
  show wpAny _ _ (if ((-1 : Int) == 0) = true then _ else _) _ _ s
  rw [if_neg (by decide)]
  refine wpAny_bind (slicePart_ pl (wpAny_bind (slicePart_ pu (wpAny_bind (wpAny_pure ?_)))))
  show wpAny _ _ (match Builtin.Slice.sliceAdjust none none (-1) (n : Int) with | (lo, hi) => pure (lo, (-1 : Int), Builtin.Slice.slicePlaces lo hi (-1))) _ _ s
  rw [adjust_rev n]
  show wpAny _ _ (pure ((n : Int) - 1, (-1 : Int), Builtin.Slice.slicePlaces ((n : Int) - 1) (-1) (-1))) _ _ s
  rw [places_rev]
  exact wpAny_pure h
theorem getItem_tuple_rev {t sl : Addr} {items : Array Value} {vl vu vs : Value} {Q : Value → Shared → Prop} (ht : IsTup s.heap t items) (hs : s.heap.IsSliceOf sl vl vu vs) (pl : IsPart vl none) (pu : IsPart vu none) (ps : IsPart vs (some (-1)))
    (h : Q (.ref s.heap.objs.size) { s with heap := s.heap.push { cls := .type "tuple", data := .seq items.toList.reverse.toArray } })
    (hsz : items.size ≤ sizeLine) : wpAny (model prog w) A (getItem (.ref t) (.ref sl)) Q E s := by
  have htake : sizeOk (.seq items.toList.reverse.toArray) := by
    show items.toList.reverse.toArray.size ≤ sizeLine
    rw [List.size_toArray, List.length_reverse, Array.length_toList]
    omega
  obtain ⟨os, hos, hcs, hds⟩ := id hs
  have hTs : s.TypeIs (.ref sl) "slice" := ⟨os, hos, hcs⟩
  unfold getItem
  try with_reducible refine wpAny_holding ?_
  first | refine wpAny_bind (wpAny_pure ?_) | skip
  refine wpAny_bind (wpAny_sequenceKey ht.typeIs (by decide) ?_)
  refine wpAny_bind (wpAny_callSpecial?_slot (name := Str.ofString "__getitem__") ht.typeIs PyProof.Rows.slot_tuple_getitem
    (wpAny_call_entry PyProof.Rows.slot_tuple_getitem ht.typeIs entry_tuple_getitem ?_ (args_tuple_getitem _ _)))
  show wpAny _ _ (Builtin.Tuple.tupleItemsOf (.ref t) >>= _) _ _ s
  refine wpAny_bind (tupleItemsOf_ ht ?_)
  refine wpAny_bind (wpAny_typeOf hTs ?_)
  rw [if_pos (by decide)]
  refine wpAny_bind (sliceApplied_rev (n := items.size) hs pl pu ps ?_)
  have hno : ¬ ((((items.size : Int) - 1) == 0 && (-1 : Int) == 1 && items.size == items.size) = true) := by
    intro q
    rw [Bool.and_eq_true, Bool.and_eq_true] at q
    exact absurd (eq_of_beq q.1.2) (by decide)
  show wpAny _ _ (if (((items.size : Int) - 1) == 0 && (-1 : Int) == 1 && items.size == items.size) = true then _ else _) _ _ s
  rw [if_neg hno, pick_rev]
  first
    | exact wpAny_bind (m := Builtin.Tuple.tupleExact _) (wpAny_newObj_type (wpAny_pure ⟨_, rfl, wpAny_pure h⟩) htake)
    | exact wpAny_bind (m := Builtin.Tuple.tupleExact _) (wpAny_newObj_type (wpAny_bind (wpAny_pure (wpAny_pure ⟨_, rfl, wpAny_pure h⟩))) htake)
    | exact wpAny_bind (wpAny_bind (m := Builtin.Tuple.tupleExact _) (wpAny_newObj_type (wpAny_pure (wpAny_pure ⟨_, rfl, wpAny_pure h⟩)) htake))
    | exact wpAny_bind (wpAny_bind (m := Builtin.Tuple.tupleExact _) (wpAny_newObj_type (wpAny_pure ⟨_, rfl, wpAny_pure h⟩) htake))
end HT
namespace Mine
open PySem PySem.Spec PyProof.Rows L2
section
variable {X : Cx}
/-- e[::-1], a list or a tuple -/
def tRevU (K : PySem.W.Frag) (te : TE) : TE := fun σ H Q => te σ H fun x H1 => ∃ a xs, x = .ref a ∧ ((SqL K H1 a xs ∧ ∀ p, H1 p = none → Q (.ref p) (upd H1 p (.lst xs.reverse))) ∨ (SqT K H1 a xs ∧ ∀ p, H1 p = none → Q (.ref p) (upd H1 p (.tup xs.reverse))))
theorem pe_revU {e : Expr} {te : TE} {k : Nat} {p1 p2 p3 pos : Pos} (he : PE X e te) : PE X (.Subscript e (.Slice none none (some (.UnaryOp .USub (.Constant (.int 1) k p1) p2)) p3) pos) (tRevU X.K te) := by
  refine ⟨fun pins s σ H Q I h => ?_⟩
  refine Subscript_ (thn (he.run pins s σ H _ I h) fun v s1 ⟨x, H1, I1, r1, q1⟩ => ?_)
  obtain ⟨a, xs, ex, q⟩ := q1
  subst ex
  cases r1
  have hst : PO X (some (.UnaryOp .USub (.Constant (.int 1) k p1) p2)) (tPart (tUn (rU fun i => .int (-i)) (tC (.int 1)))) := po_some (pe_un un_neg pe_int)
  refine wpAny_Slice (thn (po_none.run pins s1 σ H1 (fun o H2 => o = none ∧ H2 = H1) I1 ⟨rfl, rfl⟩) fun vl s2 ⟨l, H2, I2, pl, el, e2⟩ => ?_)
  subst el e2
  refine thn (po_none.run pins s2 σ H2 (fun o H3 => o = none ∧ H3 = H2) I2 ⟨rfl, rfl⟩) fun vu s3 ⟨u, H3, I3, pu, eu, e3⟩ => ?_
  subst eu e3
  refine thn (hst.run pins s3 σ H3 (fun o H4 => o = some (-1) ∧ H4 = H3) I3 ⟨1, rfl, -1, rfl, rfl, rfl⟩) fun vs s4 ⟨o, H4, I4, ps, eo, e4⟩ => ?_
  subst eo e4
  have I5 : Inv X pins σ H4 { s4 with heap := s4.heap.push { cls := .type "slice", data := .fields #[vl, vu, vs] } } := I4.kept (t' := s4.toks) fun b ob q => Heap.get?_push_of_some _ q
  show wpAny (model X.prog X.w) X.A (subscriptTail e (.Slice none none (some (.UnaryOp .USub (.Constant (.int 1) k p1) p2)) p3) (.ref a) (.ref s4.heap.objs.size)) (EP X pins σ Q) X.xe { s4 with heap := s4.heap.push { cls := .type "slice", data := .fields #[vl, vu, vs] } }
  rcases q with ⟨hx, q⟩ | ⟨hx, q⟩
  · obtain ⟨its, r, ht, hz⟩ := I5.list hx
    have hlen := r.length
    refine tail_any (ops := [.ref a, .ref s4.heap.objs.size]) ht.isList.typeIs (PySem.slot_list_getitem.lookup) ?_ (by with_unfolding_all rfl)
    refine wpAny_getItem_list_slice ht.isList (Heap.IsSliceOf.new _ vl vu vs) pl pu ps (by decide) ?_ (by rw [List.size_toArray]; omega)
    rw [PySem.W.krv_pick]
    refine ⟨.ref _, _, I5.laid (t' := s4.toks) (o := .lst xs.reverse) (fun b ob q => Heap.get?_push_of_some _ q) (Nat.le_refl _) ?_, rfl, q _ (I5.hok.fresh (Nat.le_refl _))⟩
    exact ⟨by rw [List.length_reverse]; exact hz, _, 0, r.reverse, Heap.get?_push_size _ rfl⟩
  · obtain ⟨its, r, ht, hz⟩ := I5.tuple hx
    have hlen := r.length
    refine tail_any (ops := [.ref a, .ref s4.heap.objs.size]) ht.typeIs (PyProof.Rows.slot_tuple_getitem.lookup) ?_ (by with_unfolding_all rfl)
    refine HT.getItem_tuple_rev ht (Heap.IsSliceOf.new _ vl vu vs) pl pu ps ?_ (by rw [List.size_toArray]; omega)
    refine ⟨.ref _, _, I5.laid (t' := s4.toks) (o := .tup xs.reverse) (fun b ob q => Heap.get?_push_of_some _ q) (Nat.le_refl _) ?_, rfl, q _ (I5.hok.fresh (Nat.le_refl _))⟩
    refine ⟨by rw [List.length_reverse]; exact hz, its.reverse, r.reverse, _, Heap.get?_push_size _ rfl, rfl, 0, rfl⟩
/-- xs.extend(e), e a list or a tuple -/
def rExtT (K : PySem.W.Frag) : V → List V → Hp → VK → Prop := fun x vs H Q => ∃ l b xs zs, x = .ref l ∧ vs = [.ref b] ∧ H l = some (.lst xs) ∧ SqT K H b zs ∧ xs.length + zs.length ≤ sizeLine ∧ Q .non (upd H l (.lst (xs ++ zs)))
theorem mt_extT : MtM X "list.extend" (rExtT X.K) := by
  intro pins s σ H x vs v us Q I rx rv h
  obtain ⟨l, b, xs, zs, rfl, rfl, hH, hB, hz, q⟩ := h
  cases rx
  obtain ⟨u, rfl, ru⟩ := rv.one
  cases ru
  obtain ⟨z, its, n, r, hl, e⟩ := I.lstM hH
  obtain ⟨its2, r2, ⟨⟨cls, dd, data, sl⟩, ho, hc, n2, hd⟩, hs⟩ := I.tuple hB
  simp only at hc hd
  subst hc hd
  have hl2 := r2.length
  have hsz : its.toArray.size + its2.toArray.size ≤ sizeLine := by rw [List.size_toArray, List.size_toArray]; omega
  have hlong : ¬ (!its.toArray.isEmpty && Builtin.List.listTooLong (its.toArray.size + its2.toArray.size)) = true := by
    rw [notLongL hsz, Bool.and_false]
    exact Bool.false_ne_true
  refine call_meets F.slot_list_extend ⟨_, e, rfl⟩ F.entry_list_extend (F.args_list_extend_2 _ _)
    (HT.extend_tupW l its.toArray n b its2.toArray n2 dd sl hlong (by rw [List.size_toArray]; omega) (by omega)) ⟨e, ho, ?_⟩
  refine ⟨.non, _, I.lset (its' := its ++ its2) hH e (by simp) (r.append r2) ?_, rfl, q⟩
  rw [List.length_append]
  omega
def rExtU (K : PySem.W.Frag) : V → List V → Hp → VK → Prop := fun x vs H Q => rExtend x vs H Q ∨ rExtT K x vs H Q
theorem mt_extU : MtR X "list.extend" (rExtU X.K) := MtR.or mt_extend mt_extT
end
end Mine

/-! ### Kit4 -/
namespace Mine
open PySem PySem.Spec L2
section
variable {X : Cx} (K : PySem.W.Frag)
theorem kAdd (h : X.K = K := by rfl) : OpR X (binaryOp .Add) (rAddU K) := by subst h; exact addU
theorem kMul (h : X.K = K := by rfl) : OpR X (binaryOp .Mult) (rMulU K) := by subst h; exact mulU
theorem kEq (hu : X.A.units + 64 < cLine) (h : X.K = K := by rfl) : OpR X (compareOp .Eq) (rEqU K) := by subst h; exact eqU hu
theorem kNe (hu : X.A.units + 64 < cLine) (h : X.K = K := by rfl) : OpR X (compareOp .NotEq) (rNeU K) := by subst h; exact neU hu
theorem kIn (h : X.K = K := by rfl) : OpR X (compareOp .In) (rInU K) := by subst h; exact inU
theorem kNotIn (h : X.K = K := by rfl) : OpR X (compareOp .NotIn) (rNotInU K) := by subst h; exact notInU
theorem kSl (h : X.K = K := by rfl) : SlR X (rSlU K) := by subst h; exact slU
theorem kLen (h : X.K = K := by rfl) : CallR X (.builtin "len") (rLenU K) := by subst h; exact lenU
theorem kTup (h : X.K = K := by rfl) : CallR X (.type "tuple") (rTupU K) := by subst h; exact tupU
theorem kIx (h : X.K = K := by rfl) : IxR X (rIx K) := by subst h; exact ix_seq
theorem kIsi (h : X.K = K := by rfl) : CallR X (.builtin "isinstance") (rIsi K) := by subst h; exact call_isi
theorem kExt (h : X.K = K := by rfl) : MtR X "list.extend" (rExtU K) := by subst h; exact mt_extU
theorem kSum (hc : X.calm = true) (h : X.K = K := by rfl) : CallR X (.builtin "sum") (rSum K) := by subst h; exact cr_sum hc
def rListU (K : PySem.W.Frag) : List V → Hp → VK → Prop := fun xs H Q => ∃ p ys, xs = [.ref p] ∧ (SqL K H p ys ∨ SqT K H p ys) ∧ ∀ l, H l = none → Q (.ref l) (upd H l (.lst ys))
theorem kList (h : X.K = K := by rfl) : CallR X (.type "list") (rListU K) := by subst h; exact call_list_of
variable {e o : Expr} {es : List Expr} {te to : TE} {ta t : TA} {tg : Expr}
theorem pe_revK {k : Nat} {p1 p2 p3 pos : Pos} (he : PE X e te) (h : X.K = K := by rfl) : PE X (.Subscript e (.Slice none none (some (.UnaryOp .USub (.Constant (.int 1) k p1) p2)) p3) pos) (tRevU K te) := by subst h; exact pe_revU he
theorem pi_listK (he : PE X e te) (h : X.K = K := by rfl) : PI X tg e (iList K te) := by subst h; exact pi_list he
theorem pi_tupK (he : PE X e te) (h : X.K = K := by rfl) : PI X tg e (iTup K te) := by subst h; exact pi_tup he
theorem pi_enumK {p pos tpos : Pos} {elts : List Expr} {kk : Nat} (hg : Gl X "enumerate") (hm : X.mg "enumerate" = none) (ha : PA X [e] ta) (h : X.K = K := by rfl) (hs : starEach [e] X.env = [(false, eval e X.env)] := by rfl) :
    PI X (.Tuple elts kk tpos) (.Call (.Name "enumerate" p) [e] [] pos) (iEnum K ta) := by subst h; exact pi_enum hg hm ha hs
theorem pi_zipK {e2 : Expr} {p pos tpos : Pos} {elts : List Expr} {kk : Nat} (hg : Gl X "zip") (hm : X.mg "zip" = none) (ha : PA X [e, e2] ta) (h : X.K = K := by rfl)
    (hs : starEach [e, e2] X.env = (false, eval e X.env) :: starEach [e2] X.env := by rfl) (hpl : (backTo pos (starEach [e2] X.env)).any (·.1) = false := by rfl) :
    PI X (.Tuple elts kk tpos) (.Call (.Name "zip" p) [e, e2] [] pos) (RZ.iZipA K ta) := by subst h; exact RZ.pi_zipA hg hm ha hs hpl
theorem pi_revK {p pos : Pos} (hg : Gl X "reversed") (hm : X.mg "reversed" = none) (he : PE X e te) (h : X.K = K := by rfl) (hs : starEach [e] X.env = (false, eval e X.env) :: starEach [] X.env := by rfl) : PI X tg (.Call (.Name "reversed" p) [e] [] pos) (RT.iRevA K te) := by
  subst h; exact RT.pi_revA hg hm he hs
theorem pg_tupK {es : List Expr} {k : Nat} {t : TGs} {n : Nat} {pos : Pos} (hc : X.calm = true) (hp : PGs X es t) (h : X.K = K := by rfl)
    (hn : (assignEach es X.env).length = n := by rfl) (hst : (assignEach es X.env).findIdx? (·.1) = none := by rfl) : PG X (.Tuple es k pos) (gTup K n t) := by subst h; exact pg_tup hc hp hn hst
/-- a test by truth -/
def tTruU (K : PySem.W.Frag) (ta : TE) : TT := fun σ H Q => ta σ H fun x H' => ∃ k, TruV K x H' k ∧ Q k H'
theorem pt_truthK (ha : PE X e te) (he : ∀ whole, isTrue e X.env whole = (do let v ← whole; standAt e.pos; holding [v] (truthy v))) (h : X.K = K := by rfl) : PT X e (tTruU K te) := by subst h; exact pt_truth ha he
variable {name : Str} {apos cpos : Pos} {T id : String} {r : V → List V → Hp → VK → Prop}
theorem pe_bm0K (pa : PlainAttrs T) (slot : Slot T name id) (hty : typeOf (.builtin id) = pure (.type "method_descriptor")) (hm : MtR X id r) (ho : PE X o to) (h : X.K = K := by rfl)
    (hbase : attributeBase o name X.env (eval o X.env) = eval o X.env := by rfl) (hline : (apos.endLine == cpos.line) = true := by rfl) : PE X (.Call (.Attribute o name apos) [] [] cpos) (tBM0 K T r to) := by
  subst h; exact pe_bm0 pa slot hty hm ho hbase hline
theorem pe_bmK (pa : PlainAttrs T) (slot : Slot T name id) (hty : typeOf (.builtin id) = pure (.type "method_descriptor")) (hm : MtR X id r) (ho : PE X o to) (ha : PA X (e :: es) t) (h : X.K = K := by rfl)
    (hbase : attributeBase o name X.env (eval o X.env) = eval o X.env := by rfl)
    (hfew : ((backTo cpos (starEach (e :: es) X.env)).all (fun x => !x.1) && (backToKw cpos (keywordEach [] X.env)).all (fun x => x.1.isSome)
      && decide ((e :: es).length + ([] : List Keyword).length + (if ([] : List Keyword).isEmpty then 0 else 1) < 30)) = true := by rfl)
    (hline : (apos.endLine == cpos.line) = true := by rfl) (hs : starEach (e :: es) X.env = (false, eval e X.env) :: starEach es X.env := by rfl) (hplain : (backTo cpos (starEach es X.env)).any (·.1) = false := by rfl) :
    PE X (.Call (.Attribute o name apos) (e :: es) [] cpos) (tBM K T r to t) := by subst h; exact pe_bm pa slot hty hm ho ha hbase hfew hline hs hplain
end
section
variable {X : Cx}
def rMin3 : List V → Hp → VK → Prop := fun xs H Q => ∃ a b c, xs = [.int a, .int b, .int c] ∧ Q (.int (if b < a then (if c < b then c else b) else (if c < a then c else a))) H
theorem min3U (hc : X.calm = true) : CallR X (.builtin "min") rMin3 := by
  intro pins s σ H xs us Q I r h
  obtain ⟨a, b, c, rfl, q⟩ := h
  cases r with
  | cons r1 r =>
    cases r with
    | cons r2 r =>
      cases r with
      | cons r3 r =>
        cases r
        obtain ⟨t1, rfl⟩ := r1
        obtain ⟨t2, rfl⟩ := r2
        obtain ⟨t3, rfl⟩ := r3
        refine min_three_ints (I.ok.hd hc) fun h' tk k => ⟨_, H, I.kept k, ?_, q⟩
        by_cases h1 : b < a
        · simp only [if_pos h1]
          by_cases h2 : c < b
          · simp only [if_pos h2]; exact ⟨_, rfl⟩
          · simp only [if_neg h2]; exact ⟨_, rfl⟩
        · simp only [if_neg h1]
          by_cases h2 : c < a
          · simp only [if_pos h2]; exact ⟨_, rfl⟩
          · simp only [if_neg h2]; exact ⟨_, rfl⟩
theorem u_min3 {H : Hp} {Q : VK} {a b c : Int} (h : Q (.int (if b < a then (if c < b then c else b) else (if c < a then c else a))) H) : rMin3 [.int a, .int b, .int c] H Q := ⟨a, b, c, rfl, h⟩
/-- a < b < c < d -/
def tChain3 (r r' r'' : R2) (ta tb tc td : TE) : TE := fun σ H Q => ta σ H fun x H1 => tb σ H1 fun y H2 => r x y H2 fun z H3 => ∃ k, z = .bl k ∧
  (if k = true then tc σ H3 fun w H4 => r' y w H4 fun z2 H5 => ∃ k2, z2 = .bl k2 ∧ (if k2 = true then td σ H5 fun v H6 => r'' w v H6 Q else Q (.bl false) H5) else Q (.bl false) H3)
theorem pe_chain3 {a b c d : Expr} {pos : Pos} {ta tb tc td : TE} {op op' op'' : CmpOp} {r r' r'' : R2} (ho : OpR X (compareOp op) r) (ho' : OpR X (compareOp op') r') (ho'' : OpR X (compareOp op'') r'') (ha : PE X a ta) (hb : PE X b tb) (hc : PE X c tc) (hd : PE X d td)
    (hm : lastMarks [op, op', op''] [b, c, d] = false := by with_unfolding_all rfl) : PE X (.Compare a [op, op', op''] [b, c, d] pos) (tChain3 r r' r'' ta tb tc td) := by
  refine ⟨fun pins s σ H Q I h => ?_⟩
  refine PyProof.Rows.Compare_chain (thn (ha.run pins s σ H _ I h) fun v s1 ⟨x, H1, I1, r1, q1⟩ => PyProof.Rows.chain_link (thn (hb.run pins s1 σ H1 _ I1 q1) fun u s2 ⟨y, H2, I2, r2, q2⟩ =>
    thn (ho pins s2 σ H2 x y v u _ I2 r1 r2 q2) fun d s3 ⟨z, H3, I3, r3, k, e, q3⟩ => ?_)) hm
  subst e
  cases r3
  refine wpAny_truthy_bool ?_
  cases k with
  | false => exact PyProof.Rows.ite_ff ⟨.bl false, H3, I3, rfl, q3⟩
  | true =>
    refine PyProof.Rows.ite_tt (PyProof.Rows.chain_link (thn (hc.run pins s3 σ H3 _ I3 q3) fun w' s4 ⟨z', H4, I4, r4, q4⟩ => thn (ho' pins s4 σ H4 y z' u w' _ I4 r2 r4 q4) fun d2 s5 ⟨z5, H5, I5, r5, k5, e5, q5⟩ => ?_))
    subst e5
    cases r5
    refine wpAny_truthy_bool ?_
    cases k5 with
    | false => exact PyProof.Rows.ite_ff ⟨.bl false, H5, I5, rfl, q5⟩
    | true => exact PyProof.Rows.ite_tt (PyProof.Rows.chain_last (thn (hd.run pins s5 σ H5 _ I5 q5) fun w2 s6 ⟨z6, H6, I6, r6, q6⟩ => ho'' pins s6 σ H6 z' z6 w' w2 Q I6 r4 r6 q6))
end
section
variable {σ : St} {H : Hp} {Q : VK} {D : Ends} {ta tb tc td te : TE} {K : PySem.W.Frag}
theorem rd_chain3 {r r' r'' : R2} (h : ta σ H fun x H1 => tb σ H1 fun y H2 => r x y H2 fun z H3 => ∃ k, z = .bl k ∧
  (if k = true then tc σ H3 fun w H4 => r' y w H4 fun z2 H5 => ∃ k2, z2 = .bl k2 ∧ (if k2 = true then td σ H5 fun v H6 => r'' w v H6 Q else Q (.bl false) H5) else Q (.bl false) H3)) : tChain3 r r' r'' ta tb tc td σ H Q := h
theorem rd_tru {R : Bool → Hp → Prop} (h : te σ H fun x H' => ∃ k, TruV K x H' k ∧ R k H') : tTruU K te σ H R := h
theorem rd_truL {a : Addr} {xs : List V} {R : Bool → Prop} (s : SqL K H a xs) (h : R (!xs.isEmpty)) : ∃ k, TruV K (.ref a) H k ∧ R k := ⟨_, .inl ⟨xs, s, rfl⟩, h⟩
theorem rd_truB {b : Bool} {R : Bool → Prop} (h : R b) : ∃ k, TruV K (.bl b) H k ∧ R k := ⟨b, rfl, h⟩
theorem rd_rev (h : te σ H fun x H1 => ∃ a xs, x = .ref a ∧ ((SqL K H1 a xs ∧ ∀ p, H1 p = none → Q (.ref p) (upd H1 p (.lst xs.reverse))) ∨ (SqT K H1 a xs ∧ ∀ p, H1 p = none → Q (.ref p) (upd H1 p (.tup xs.reverse))))) : tRevU K te σ H Q := h
theorem rd_revT {a : Addr} {xs : List V} {R1 R2 : Addr → List V → Prop} (s : SqT K H a xs) (h : R2 a xs) : ∃ a' xs', V.ref a = .ref a' ∧ ((SqL K H a' xs' ∧ R1 a' xs') ∨ (SqT K H a' xs' ∧ R2 a' xs')) := ⟨a, xs, rfl, .inr ⟨s, h⟩⟩
theorem rd_revL {a : Addr} {xs : List V} {R1 R2 : Addr → List V → Prop} (s : SqL K H a xs) (h : R1 a xs) : ∃ a' xs', V.ref a = .ref a' ∧ ((SqL K H a' xs' ∧ R1 a' xs') ∨ (SqT K H a' xs' ∧ R2 a' xs')) := ⟨a, xs, rfl, .inl ⟨s, h⟩⟩
theorem rd_bm {T : String} {r : V → List V → Hp → VK → Prop} {t : TA} (h : te σ H fun x H1 => tyV K T x H1 ∧ t σ H1 fun xs H2 => r x xs H2 Q) : tBM K T r te t σ H Q := h
theorem rd_bm0 {T : String} {r : V → List V → Hp → VK → Prop} (h : te σ H fun x H1 => tyV K T x H1 ∧ r x [] H1 Q) : tBM0 K T r te σ H Q := h
theorem rd_tyL {a : Addr} {xs : List V} {R : Prop} (s : SqL K H a xs) (h : R) : tyV K "list" (.ref a) H ∧ R := ⟨.inl ⟨rfl, xs, s⟩, h⟩
theorem u_app {a : Addr} {xs : List V} {y : V} (e : H a = some (.lst xs)) (l : xs.length < sizeLine) (h : Q .non (upd H a (.lst (xs ++ [y])))) : rAppend (.ref a) [y] H Q := ⟨a, xs, y, rfl, rfl, e, l, h⟩
theorem u_pop {a : Addr} {xs : List V} {y : V} (e : H a = some (.lst xs)) (l : xs[xs.length - 1]? = some y) (h : Q y (upd H a (.lst xs.dropLast))) : rPop (.ref a) [] H Q := ⟨a, xs, y, rfl, rfl, e, l, h⟩
theorem u_extT {a b : Addr} {xs ys : List V} (e : H a = some (.lst xs)) (s : SqT K H b ys) (l : xs.length + ys.length ≤ sizeLine) (h : Q .non (upd H a (.lst (xs ++ ys)))) : rExtU K (.ref a) [.ref b] H Q := .inr ⟨a, b, xs, ys, rfl, rfl, e, s, l, h⟩
theorem rd_for {wi : TI} {g : TG} {tb : TS} {n bk ct : St → Hp → Prop} {rt : VK} (h : wi σ H fun J H1 => ∃ W : Nat → Nat → St → Hp → Prop, (∃ m, W 0 m σ H1) ∧ ∀ i m σ H, W i m σ H →
  (J.stop i H ∧ n σ H) ∨ (J.go i H ∧ ∃ N : St → Hp → Prop, (∀ σ' H', N σ' H' → ∃ m', m' < m ∧ W (i + 1) m' σ' H') ∧ ∀ x H', J.yld i H x H' → g x σ H' fun σ2 H2 => tb ⟨N, rt, n, N⟩ σ2 H2)) : tFor wi g tb ⟨n, rt, bk, ct⟩ σ H := h
theorem rd_iList {R : It → Hp → Prop} (h : te σ H fun x H1 => ∃ a, x = .ref a ∧ (∃ xs, SqL K H1 a xs) ∧ R (Itl K a) H1) : iList K te σ H R := h
theorem rd_iTup {R : It → Hp → Prop} (h : te σ H fun x H1 => ∃ a, x = .ref a ∧ (∃ xs, SqT K H1 a xs) ∧ R (Itt K a) H1) : iTup K te σ H R := h
theorem rd_itL {a : Addr} {xs : List V} {R : Addr → Prop} (s : SqL K H a xs) (h : R a) : ∃ a', V.ref a = .ref a' ∧ (∃ xs, SqL K H a' xs) ∧ R a' := ⟨a, rfl, ⟨xs, s⟩, h⟩
theorem rd_itT {a : Addr} {xs : List V} {R : Addr → Prop} (s : SqT K H a xs) (h : R a) : ∃ a', V.ref a = .ref a' ∧ (∃ xs, SqT K H a' xs) ∧ R a' := ⟨a, rfl, ⟨xs, s⟩, h⟩
theorem rd_rng1 {t : TA} {R : It → Hp → Prop} (h : t σ H fun vs H1 => ∃ j : Int, vs = [.int j] ∧ -(2 ^ 62) ≤ j ∧ j < 2 ^ 62 ∧ R (Itr 0 j.toNat) H1) : iRng1 t σ H R := h
theorem rd_rng2 {t : TA} {R : It → Hp → Prop} (h : t σ H fun vs H1 => ∃ i j : Int, vs = [.int i, .int j] ∧ (-(2 ^ 62) ≤ i ∧ i < 2 ^ 62 ∧ -(2 ^ 62) ≤ j ∧ j < 2 ^ 62) ∧ R (Itr i (j - i).toNat) H1) : iRng2 t σ H R := h
theorem rd_rng1e {i : Int} {R : Int → Prop} (h1 : -(2 ^ 62) ≤ i) (h2 : i < 2 ^ 62) (h : R i) : ∃ j : Int, [V.int i] = [.int j] ∧ -(2 ^ 62) ≤ j ∧ j < 2 ^ 62 ∧ R j := ⟨i, rfl, h1, h2, h⟩
theorem rd_rng2e {i j : Int} {R : Int → Int → Prop} (h1 : -(2 ^ 62) ≤ i ∧ i < 2 ^ 62 ∧ -(2 ^ 62) ≤ j ∧ j < 2 ^ 62) (h : R i j) : ∃ i' j' : Int, [V.int i, V.int j] = [.int i', .int j'] ∧ (-(2 ^ 62) ≤ i' ∧ i' < 2 ^ 62 ∧ -(2 ^ 62) ≤ j' ∧ j' < 2 ^ 62) ∧ R i' j' := ⟨i, j, rfl, h1, h⟩
theorem rd_gtup {n : Nat} {t : TGs} {a : Addr} {xs : List V} {R : St → Hp → Prop} (s : SqT K H a xs) (l : xs.length = n) (h : t xs σ H R) : gTup K n t (.ref a) σ H R := ⟨a, xs, rfl, s, l, h⟩
theorem rd_gcons {t : TG} {u : TGs} {v : V} {r : List V} {R : St → Hp → Prop} (h : t v σ H fun σ' H' => u r σ' H' R) : gCons t u (v :: r) σ H R := ⟨v, r, rfl, h⟩
theorem rd_gnil {R : St → Hp → Prop} (h : R σ H) : gNil [] σ H R := ⟨rfl, h⟩
theorem st0 {N : List Str} {vs : List V} {t : TS} (σ : St) (e : L2.start N vs = σ) (h : t D σ H) : t D (L2.start N vs) H := by rw [e]; exact h
end
end Mine
namespace Mine
open PySem PySem.Spec L2
section
variable {g : TG} {tb : TS} {n : St → Hp → Prop} {rt : VK} {σ : St} {H : Hp} {K : PySem.W.Frag} {a : Addr} {xs : List V}
theorem forR {lo : Int} {m : Nat} (Pv : Nat → St → Hp → Prop) (h0 : Pv 0 σ H)
    (hs : ∀ i σ H, i < m → Pv i σ H → g (.int (lo + i)) σ H fun σ2 H2 => tb ⟨Pv (i + 1), rt, n, Pv (i + 1)⟩ σ2 H2) (hd : ∀ σ H, Pv m σ H → n σ H) :
    ∃ W : Nat → Nat → St → Hp → Prop, (∃ m, W 0 m σ H) ∧ ∀ i m' σ H, W i m' σ H →
      ((Itr lo m).stop i H ∧ n σ H) ∨ ((Itr lo m).go i H ∧ ∃ N : St → Hp → Prop, (∀ σ' H', N σ' H' → ∃ m'', m'' < m' ∧ W (i + 1) m'' σ' H') ∧ ∀ x H', (Itr lo m).yld i H x H' → g x σ H' fun σ2 H2 => tb ⟨N, rt, n, N⟩ σ2 H2) :=
  for_range (D := ⟨n, rt, fun _ _ => False, fun _ _ => False⟩) Pv h0 hs hd
theorem forL (Pv : Nat → St → Hp → Prop) (h0 : Pv 0 σ H) (hl : ∀ i σ H, i ≤ xs.length → Pv i σ H → SqL K H a xs)
    (hs : ∀ i x σ H, xs[i]? = some x → Pv i σ H → g x σ H fun σ2 H2 => tb ⟨Pv (i + 1), rt, n, Pv (i + 1)⟩ σ2 H2) (hd : ∀ σ H, Pv xs.length σ H → n σ H) :
    ∃ W : Nat → Nat → St → Hp → Prop, (∃ m, W 0 m σ H) ∧ ∀ i m σ H, W i m σ H →
      ((Itl K a).stop i H ∧ n σ H) ∨ ((Itl K a).go i H ∧ ∃ N : St → Hp → Prop, (∀ σ' H', N σ' H' → ∃ m', m' < m ∧ W (i + 1) m' σ' H') ∧ ∀ x H', (Itl K a).yld i H x H' → g x σ H' fun σ2 H2 => tb ⟨N, rt, n, N⟩ σ2 H2) :=
  for_list (D := ⟨n, rt, fun _ _ => False, fun _ _ => False⟩) Pv h0 hl hs hd
theorem forT (Pv : Nat → St → Hp → Prop) (h0 : Pv 0 σ H) (hl : ∀ i σ H, i ≤ xs.length → Pv i σ H → SqT K H a xs)
    (hs : ∀ i x σ H, xs[i]? = some x → Pv i σ H → g x σ H fun σ2 H2 => tb ⟨Pv (i + 1), rt, n, Pv (i + 1)⟩ σ2 H2) (hd : ∀ σ H, Pv xs.length σ H → n σ H) :
    ∃ W : Nat → Nat → St → Hp → Prop, (∃ m, W 0 m σ H) ∧ ∀ i m σ H, W i m σ H →
      ((Itt K a).stop i H ∧ n σ H) ∨ ((Itt K a).go i H ∧ ∃ N : St → Hp → Prop, (∀ σ' H', N σ' H' → ∃ m', m' < m ∧ W (i + 1) m' σ' H') ∧ ∀ x H', (Itt K a).yld i H x H' → g x σ H' fun σ2 H2 => tb ⟨N, rt, n, N⟩ σ2 H2) :=
  for_tup (D := ⟨n, rt, fun _ _ => False, fun _ _ => False⟩) Pv h0 hl hs hd
theorem rd_lc {wi : TI} {tt : TT} {te : TE} {vs : List Nat} {Q : VK} (h : wi σ H fun J H1 => ∀ D, H1 D = none → ∃ W : Nat → Nat → Hp → Prop, (∃ m, W 0 m (upd H1 D (.lst []))) ∧ ∀ i m H, W i m H →
  (J.stop i H ∧ Q (.ref D) H) ∨ (J.go i H ∧ ∃ Nx : Hp → Prop, (∀ H', Nx H' → ∃ m', m' < m ∧ W (i + 1) m' H') ∧ ∀ x H', J.yld i H x H' → g x (wipe σ vs) H' fun σ2 H2 => wipe σ2 vs = wipe σ vs ∧ tt σ2 H2 fun b H3 =>
    if b = true then te σ2 H3 fun y H4 => ∃ acc, H4 D = some (.lst acc) ∧ acc.length < sizeLine ∧ Nx (upd H4 D (.lst (acc ++ [y]))) else Nx H3)) : tLc wi g tt te vs σ H Q := h
theorem rd_yes {R : Bool → Hp → Prop} (h : R true H) : tYes σ H R := h
/-- a while -/
theorem rd_while {c : TT} {bk ct : St → Hp → Prop} (Pv : Nat → St → Hp → Prop) (m0 : Nat) (h0 : Pv m0 σ H)
    (hs : ∀ m σ H, Pv m σ H → c σ H fun b H1 => if b = true then (∃ N : St → Hp → Prop, (∀ σ' H', N σ' H' → ∃ m', m' < m ∧ Pv m' σ' H') ∧ tb ⟨N, rt, n, N⟩ σ H1) else n σ H1) :
    tWhile c tb ⟨n, rt, bk, ct⟩ σ H := ⟨Pv, ⟨m0, h0⟩, hs⟩
end
end Mine

/-! ### Kit5 -/
namespace Mine
open PySem PySem.Spec L2
/-! ## a list or a tuple that is walked -/
section
variable {X : Cx} (K : PySem.W.Frag) {tg e : Expr} {te : TE}
def iSeq (K : PySem.W.Frag) (tl : TE) : TI := fun σ H R => tl σ H fun x H1 => ∃ a, x = .ref a ∧ (((∃ xs, SqL K H1 a xs) ∧ R (Itl K a) H1) ∨ ((∃ xs, SqT K H1 a xs) ∧ R (Itt K a) H1))
theorem pi_seqK (he : PE X e te) (h : X.K = K := by rfl) : PI X tg e (iSeq K te) := by
  subst h
  refine ⟨fun pins s σ H R I h => ?_⟩
  refine thn (he.run pins s σ H _ I h) fun v s1 ⟨x, H1, I1, r1, a, ex, q⟩ => ?_
  subst ex
  cases r1
  have it : ∀ b, b ∈ [s1.heap.objs.size] → FpOk X pins H1 b := fun b hb => by
    obtain rfl : b = s1.heap.objs.size := by simpa using hb
    exact I1.fpOk (Nat.le_refl _) (I1.hok.fresh (Nat.le_refl _))
  rcases q with ⟨⟨xs, hx⟩, q⟩ | ⟨⟨xs, hx⟩, q⟩
  · obtain ⟨its, rv, p, hz⟩ := I1.list hx
    exact wpAny_pyIter_list p.isList ⟨s1.heap.objs.size, [s1.heap.objs.size], _, _, H1, rfl, I1.kept (t' := s1.toks) fun b o e => Heap.get?_push_of_some _ e, turn_list a _, ⟨_, Heap.get?_push_size _ rfl, rfl, rfl⟩, it, q⟩
  · obtain ⟨its, rv, p, hz⟩ := I1.tuple hx
    exact wpAny_pyIter_tuple (show s1.heap.IsTuple a its.toArray from p) ⟨s1.heap.objs.size, [s1.heap.objs.size], _, _, H1, rfl, I1.kept (t' := s1.toks) fun b o e => Heap.get?_push_of_some _ e, turn_tuple a _, ⟨_, Heap.get?_push_size _ rfl, rfl, rfl⟩, it, q⟩
theorem kAll (hc : X.calm = true) (h : X.K = K := by rfl) : CallR X (.builtin "all") (rAll K) := by subst h; exact cr_all hc
theorem kAny (hc : X.calm = true) (h : X.K = K := by rfl) : CallR X (.builtin "any") (rAny K) := by subst h; exact cr_any hc
end
section
variable {K : PySem.W.Frag} {σ : St} {H : Hp} {Q : VK} {te : TE} {a : Addr} {xs : List V}
theorem rd_iSeq {R : It → Hp → Prop} (h : te σ H fun x H1 => ∃ a, x = .ref a ∧ (((∃ xs, SqL K H1 a xs) ∧ R (Itl K a) H1) ∨ ((∃ xs, SqT K H1 a xs) ∧ R (Itt K a) H1))) : iSeq K te σ H R := h
theorem rd_seqL {R1 R2 : Addr → Prop} (s : SqL K H a xs) (h : R1 a) : ∃ a', V.ref a = .ref a' ∧ (((∃ xs, SqL K H a' xs) ∧ R1 a') ∨ ((∃ xs, SqT K H a' xs) ∧ R2 a')) := ⟨a, rfl, .inl ⟨⟨xs, s⟩, h⟩⟩
theorem rd_seqT {R1 R2 : Addr → Prop} (s : SqT K H a xs) (h : R2 a) : ∃ a', V.ref a = .ref a' ∧ (((∃ xs, SqL K H a' xs) ∧ R1 a') ∨ ((∃ xs, SqT K H a' xs) ∧ R2 a')) := ⟨a, rfl, .inr ⟨⟨xs, s⟩, h⟩⟩
theorem rd_istr {R : It → Hp → Prop} (h : te σ H fun v H1 => ∃ x, v = .str x ∧ R (Its x) H1) : iStr te σ H R := h
theorem rd_istrE {z : Str} {R : Str → Prop} (h : R z) : ∃ x, V.str z = .str x ∧ R x := ⟨z, rfl, h⟩
theorem u_all {bs : List Bool} (s : SqL K H a (bs.map V.bl)) (h : Q (.bl (bs.all id)) H) : rAll K [.ref a] H Q := ⟨a, bs, rfl, s, h⟩
end
/-- a text walked in a comprehension -/
theorem lcS {x : Str} {g : TG} {tt : TT} {te : TE} {vs : List Nat} {σ : St} {H1 : Hp} {D : Addr} {Qd : Hp → Prop} (Pv : Nat → Hp → Prop) (h0 : Pv 0 (upd H1 D (.lst [])))
    (hs : ∀ i c H, x.cps[i]? = some c → Pv i H → g (.str ⟨#[c]⟩) (wipe σ vs) H fun σ2 H2 => wipe σ2 vs = wipe σ vs ∧ tt σ2 H2 fun b H3 =>
      if b = true then te σ2 H3 fun y H4 => ∃ acc, H4 D = some (.lst acc) ∧ acc.length < sizeLine ∧ Pv (i + 1) (upd H4 D (.lst (acc ++ [y]))) else Pv (i + 1) H3) (hd : ∀ H, Pv x.cps.size H → Qd H) :
    ∃ W : Nat → Nat → Hp → Prop, (∃ m, W 0 m (upd H1 D (.lst []))) ∧ ∀ i m H, W i m H →
      ((Its x).stop i H ∧ Qd H) ∨ ((Its x).go i H ∧ ∃ Nx : Hp → Prop, (∀ H', Nx H' → ∃ m', m' < m ∧ W (i + 1) m' H') ∧ ∀ v H', (Its x).yld i H v H' → g v (wipe σ vs) H' fun σ2 H2 => wipe σ2 vs = wipe σ vs ∧ tt σ2 H2 fun b H3 =>
        if b = true then te σ2 H3 fun y H4 => ∃ acc, H4 D = some (.lst acc) ∧ acc.length < sizeLine ∧ Nx (upd H4 D (.lst (acc ++ [y]))) else Nx H3) := by
  refine ⟨fun i m H => m = x.cps.size - i ∧ i ≤ x.cps.size ∧ Pv i H, ⟨x.cps.size, by simp, Nat.zero_le _, h0⟩, ?_⟩
  rintro i m H ⟨rfl, hi, p⟩
  by_cases hlt : i < x.cps.size
  · refine .inr ⟨hlt, Pv (i + 1), fun H' p' => ⟨x.cps.size - (i + 1), by omega, rfl, hlt, p'⟩, fun v H' y => ?_⟩
    obtain ⟨e, c, hc, ev⟩ := y
    subst e ev
    exact hs i c _ hc p
  · obtain rfl : i = x.cps.size := by omega
    exact .inl ⟨Nat.le_refl _, hd H p⟩
/-! ## isinstance of data -/
def isT (n : String) : PyData → Bool
  | .none => n == "NoneType"
  | .bool _ => n == "bool" || n == "int"
  | .int _ => n == "int"
  | .str _ => n == "str"
  | .tuple _ => n == "tuple"
  | _ => false
theorem tyx_tup {K : PySem.W.Frag} {H : Hp} {a : Addr} {xs : List V} (h : SqT K H a xs) : TyX K H (.ref a) (.type "tuple") := by
  rcases h with (h | ⟨o, h⟩) | ⟨o, its, n, e, c, _⟩
  · exact .base (.tup h)
  · exact .fTuple h
  · exact .kTuple e c
theorem u_isi {K : PySem.W.Frag} {H : Hp} {Q : VK} {v : V} {d : PyData} {n : String} (hn : n = "int" ∨ n = "str" ∨ n = "tuple" ∨ n = "bool") (r : Rp K H v d) (h : Q (.bl (isT n d)) H) : rIsi K [v, .ty n] H Q := by
  cases r with
  | non => rcases hn with rfl | rfl | rfl | rfl <;> exact ⟨_, _, _, _, _, rfl, .ty _, .base .non, kit_ty (by simp only [isT]; decide +kernel), h⟩
  | bl b => rcases hn with rfl | rfl | rfl | rfl <;> exact ⟨_, _, _, _, _, rfl, .ty _, .base (.bl b), kit_ty (by simp only [isT]; decide +kernel), h⟩
  | int i => rcases hn with rfl | rfl | rfl | rfl <;> exact ⟨_, _, _, _, _, rfl, .ty _, .base (.int i), kit_ty (by simp only [isT]; decide +kernel), h⟩
  | str z => rcases hn with rfl | rfl | rfl | rfl <;> exact ⟨_, _, _, _, _, rfl, .ty _, .base (.str z), kit_ty (by simp only [isT]; decide +kernel), h⟩
  | tup s _ => rcases hn with rfl | rfl | rfl | rfl <;> exact ⟨_, _, _, _, _, rfl, .ty _, tyx_tup s, kit_ty (by simp only [isT]; decide +kernel), h⟩
end Mine

/-! ### Kit6 -/
namespace L2
open PySem PySem.Spec PyProof.Rows
/-! ## several except clauses, with names or without -/
abbrev Cl := Value × Option Nat × (Addr → Value → Option Addr → TS)
def endsAt (D : Ends) : Option Nat → Ends
  | none => D
  | some i => { nx := fun σ' H' => D.nx (σ'.set i none) H', rt := D.rt, bk := fun σ' H' => D.bk (σ'.set i none) H', ct := fun σ' H' => D.ct (σ'.set i none) H' }
def stAt (σ : St) (a : Addr) : Option Nat → St
  | none => σ
  | some i => σ.set i (some (.ref a))
def wMix (K : PySem.W.Frag) (Wout : WX) (D : Ends) : List Cl → WX
  | [] => Wout
  | (c, o, ts) :: r => fun cls d σ H => ∃ b, PySem.W.exmOne K cls c = some b ∧ (b = true → ∀ a, H a = none → ts a cls d (endsAt D o) (stAt σ a o) H) ∧ (b = false → wMix K Wout D r cls d σ H)
inductive Hds (X : Cx) : List ExceptHandler → List Cl → Prop
  | nil : Hds X [] []
  | plain {x : Str} {c : Value} {ts : Addr → Value → Option Addr → TS} {b₀ : Stmt} {suite : List Stmt} {np pos' : Pos} {hds : List ExceptHandler} {l : List Cl} (hc : Names X x c)
      (hsu : ∀ (a : Addr) (oe : Obj) (cls : Value) (d : Option Addr) (pn : List (Addr × Obj)), Zc cls d oe → (∃ vs, oe.data = .fields vs) → PSs (X.suite a ((a, oe) :: pn)) (b₀ :: suite) (ts a cls d)) (r : Hds X hds l) :
      Hds X (.ExceptHandler (some (.Name x np)) none (b₀ :: suite) pos' :: hds) ((c, none, ts) :: l)
  | named {x n : Str} {i : Nat} {c : Value} {ts : Addr → Value → Option Addr → TS} {b₀ : Stmt} {suite : List Stmt} {np pos' : Pos} {hds : List ExceptHandler} {l : List Cl} (hc : Names X x c) (hN : X.N.Nodup) (hi : X.N[i]? = some n) (hln : X.env.kindOf n = some .local)
      (hsu : ∀ (a : Addr) (oe : Obj) (cls : Value) (d : Option Addr) (pn : List (Addr × Obj)), Zc cls d oe → (∃ vs, oe.data = .fields vs) → PSs (X.suite a ((a, oe) :: pn)) (b₀ :: suite) (ts a cls d)) (r : Hds X hds l) :
      Hds X (.ExceptHandler (some (.Name x np)) (some n) (b₀ :: suite) pos' :: hds) ((c, some i, ts) :: l)
section
variable {X : Cx} {body : List Stmt} {h₀ : ExceptHandler} {hds : List ExceptHandler} {l : List Cl} {pos : Pos} {tb : WX → TS} {Wout : WX}
theorem ps_try_mix (hs : X.stack = X.env :: X.outer) (hf : X.env.frame = some X.env.locals) (tk : Takes X Wout)
    (hb : ∀ (W : WX) (pn : List (Addr × Obj)) (xe : Value → Shared → Prop), Takes (X.tr pn xe) W → PassesOwn (model X.prog X.w) X.A X.env xe → PSs (X.tr pn xe) body (tb W))
    (K : PySem.W.Frag) (hK : X.K = K) (hh : Hds X (h₀ :: hds) l) : PS X (.Try body (h₀ :: hds) [] [] pos) (fun D σ H => tb (wMix K Wout D l) D σ H) := by
  subst hK
  refine ⟨fun pins s σ H D I h => ?_⟩
  have ok := I.ok
  have hfr : X.A.frames = some (X.env :: X.outer) := by rw [ok.frames, hs]
  refine wpAny_Try_except ?_
  refine wpAny_mono ((hb (wMix X.K Wout D l) (X.pn ++ pins) (fun e s₁ => wpAny (model X.prog X.w) X.A (noteFrame e X.env) (fun _ s₂ => wpAny (model X.prog X.w) X.A (setFlight e none) (fun _ s₃ =>
    wpAny (model X.prog X.w) X.A (handleBy e X.env (h₀ :: hds)) (SP X pins D) X.xe s₃) X.xe s₂) X.xe s₁) (fun u s' xx => ?_) PassesOwn.looking).run [] s σ H D (I.toTry _) h) (fun f s1 hsp => ?_) (fun e s1 he => he)
  · obtain ⟨a, B, sI, pins', σ', H', cls, d, rfl, J', nb, up, sky, na, os, ag, w⟩ := xx
    have J : Inv X pins σ' H' sI := J'.ofTry ok
    have sky' : Sky B (X.env :: X.outer) a (Zc cls d) X.env.locals s'.heap := by rw [← hs]; exact sky
    show wpAny (model X.prog X.w) X.A (noteFrame (.ref a) X.env) _ _ _
    refine Sky.land Zc.steady hfr hf sky' fun h3 fl3 up3 => ?_
    have J3 : Inv X pins σ' H' { s' with heap := h3 } := J.landed nb fl3.1 (up.trans up3) os ag
    obtain ⟨oe3, vs3, he3, hz3, hd3⟩ := fl3.there
    have notFr : ∀ {h : Heap} {o : Obj} {vs : Array Value}, h.FunFrames B (X.env :: X.outer) → h.get? a = some o → o.data = .fields vs → a ∉ frs (X.env :: X.outer) := fun {h o vs} ff e dd hm => by
      obtain ⟨_, o', e', hnf⟩ := ff.mem hm
      rw [e] at e'; cases e'
      exact hnf _ dd
    have nfr := notFr fl3.2.2.1 he3 hd3
    have nL : a ≠ X.env.locals := fun z => nfr (List.mem_filterMap.mpr ⟨X.env, List.mem_cons_self, by rw [hf, z]⟩)
    have nF : a ∉ X.fs := fun hm => by
      obtain ⟨e, he, q⟩ := List.mem_filterMap.mp hm
      exact nfr (List.mem_filterMap.mpr ⟨e, List.mem_cons_of_mem _ he, q⟩)
    have S3 := J3.suite he3 hd3 na nL nF
    have LT : PySem.W.Looks (model X.prog X.w) h3 (typeOf (.ref a)) cls := fun A Q E s k q => wpAny_typeOf_ref (k _ _ he3) (by rw [hz3.1]; exact q)
    have test : ∀ {x : Str} {c : Value} {np : Pos}, Names X x c → ∀ {Q : Value → Shared → Prop} {E : Value → Shared → Prop}, Q c { s' with heap := h3 } → wpAny (model X.prog X.w) (X.A.mark (some (.ref a))) (eval (.Name x np) X.env) Q E { s' with heap := h3 } := fun {x c np} hc {Q E} q => by
      obtain ⟨hg, hdbg, hm | ⟨hm, hv, hnn⟩⟩ := hc
      · exact ld_glob (X := X.suite a ((a, oe3) :: (X.pn ++ pins))) S3 hg hm q hdbg
      · exact ld_blt (X := X.suite a ((a, oe3) :: (X.pn ++ pins))) S3 hg hm hv q hnn hdbg
    have go : ∀ {hds' : List ExceptHandler} {l' : List Cl}, Hds X hds' l' → wMix X.K Wout D l' cls d σ' H' →
        wpAny (model X.prog X.w) X.A (handleBy (.ref a) X.env hds') (SP X pins D) X.xe { s' with heap := h3 } := by
      intro hds' l' hk
      induction hk with
      | nil =>
        intro w
        refine wpAny_handleBy_nil ?_
        obtain ⟨k1, k2, k3, oe, vs, T, oT, ts', he, hz, hd, h1, hr⟩ := id fl3
        unfold PySem.passOn
        refine wpAny_bind (wpAny_field he hd h1 ?_)
        rw [if_neg (show ¬ ((Value.ref T == Value.none) = true) from by simp)]
        have fin : wpAny (model X.prog X.w) X.A (setFlight (.ref a) X.env.frame) (fun _ s4 => wpAny (model X.prog X.w) X.A (throw (.ref a) : Sem Flow) (SP X pins D) X.xe s4) X.xe { s' with heap := h3 } := by
          rw [hf]
          refine HandSPX.setFlight_upZ fl3 fun h4 hh4 up4 => wpAny_throw (tk _ _ ?_)
          exact ⟨a, B, sI, pins, σ', H', cls, d, rfl, J, nb, (up.trans up3).trans up4, .inr (.inr (by rw [hs]; exact hh4)), na, os, ag, w⟩
        first
          | exact wpAny_bind (wpAny_pure (wpAny_bind fin))
          | exact wpAny_bind fin
      | @plain x c ts b₀ suite np pos' hds2 l2 hc hsu r ih =>
        intro w
        obtain ⟨b, hb1, hyes, hno⟩ := w
        have LM := PySem.W.exm_one (M := model X.prog X.w) (J3.kIn) LT hb1
        refine wpAny_handleBy_cons (codeAny_handlers_test ?_) (by intro q; cases q)
        refine test hc (LM.here ?_)
        cases b with
        | true =>
          refine codeAny_handlers_suite ?_
          refine HandSPX.lands_againZ fl3 fun h4 fl4 up4 => ?_
          have J4 : Inv X pins σ' H' { s' with heap := h4 } := J.landed nb fl4.1 ((up.trans up3).trans up4) os ag
          obtain ⟨oe4, vs4, he4, hz4, hd4⟩ := fl4.there
          have S4 := J4.suite he4 hd4 na nL nF
          refine wpAny_mono ((hsu a oe4 cls d (X.pn ++ pins) hz4 ⟨_, hd4⟩).run [] _ _ H' _ S4 (hyes rfl a na)) (fun f s6 hsp => ?_) (fun _ _ z => False.elim z)
          cases f with
          | next =>
            obtain ⟨σ6, H6, S6, q6⟩ := hsp
            exact ⟨_, _, S6.unsuite ok, q6⟩
          | brk =>
            obtain ⟨σ6, H6, S6, q6⟩ := hsp
            exact ⟨_, _, S6.unsuite ok, q6⟩
          | cont =>
            obtain ⟨σ6, H6, S6, q6⟩ := hsp
            exact ⟨_, _, S6.unsuite ok, q6⟩
          | ret u =>
            obtain ⟨v6, σ6, H6, S6, r6, q6⟩ := hsp
            exact ⟨_, _, _, S6.unsuite ok, r6, q6⟩
        | false =>
          show wpAny _ X.A (handleBy (.ref a) X.env hds2) _ _ _
          exact ih (hno rfl)
      | @named x n i c ts b₀ suite np pos' hds2 l2 hc hN hi hln hsu r ih =>
        intro w
        obtain ⟨b, hb1, hyes, hno⟩ := w
        have LM := PySem.W.exm_one (M := model X.prog X.w) (J3.kIn) LT hb1
        have hloc : Loc X.env.scope n := .inl hln
        refine wpAny_handleBy_cons (codeAny_handlers_test ?_) (by intro q; cases q)
        refine test hc (LM.here ?_)
        cases b with
        | true =>
          refine codeAny_handlers_suite_as ?_
          refine HandSPX.lands_againZ fl3 fun h4 fl4 up4 => ?_
          have J4 : Inv X pins σ' H' { s' with heap := h4 } := J.landed nb fl4.1 ((up.trans up3).trans up4) os ag
          obtain ⟨oe4, vs4, he4, hz4, hd4⟩ := fl4.there
          have S4 := J4.suite he4 hd4 na nL nF
          refine store_ok (X := X.suite a ((a, oe4) :: (X.pn ++ pins))) (v := .ref a) S4 hN hi hloc rfl (fun s5 S5 => ?_) (.inr hln)
          refine wpAny_mono ((hsu a oe4 cls d (X.pn ++ pins) hz4 ⟨_, hd4⟩).run [] s5 _ H' _ S5 (hyes rfl a na)) (fun f s6 hsp => ?_) (fun _ _ z => False.elim z)
          have end_ : ∀ {σ6 : St} {H6 : Hp} {Q : Shared → Prop}, Inv (X.suite a ((a, oe4) :: (X.pn ++ pins))) [] σ6 H6 s6 → (∀ s7, Inv X pins (σ6.set i none) H6 s7 → Q s7) →
              wpAny (model X.prog X.w) X.A (do bindName X.env n .none; unbindBehindTheSuite X.env n pos') (fun _ s7 => Q s7) X.xe s6 := fun {σ6 H6 Q} S6 hq => gone_ok (S6.unsuite ok) hN hi hln hq
          cases f with
          | next =>
            obtain ⟨σ6, H6, S6, q6⟩ := hsp
            exact end_ S6 fun s7 J7 => ⟨_, _, J7, q6⟩
          | brk =>
            obtain ⟨σ6, H6, S6, q6⟩ := hsp
            exact end_ S6 fun s7 J7 => ⟨_, _, J7, q6⟩
          | cont =>
            obtain ⟨σ6, H6, S6, q6⟩ := hsp
            exact end_ S6 fun s7 J7 => ⟨_, _, J7, q6⟩
          | ret u =>
            obtain ⟨v6, σ6, H6, S6, r6, q6⟩ := hsp
            exact end_ S6 fun s7 J7 => ⟨_, _, _, J7, r6, q6⟩
        | false =>
          show wpAny _ X.A (handleBy (.ref a) X.env hds2) _ _ _
          exact ih (hno rfl)
    exact go hh w
  · cases f with
    | next =>
      obtain ⟨σ', H', J', q⟩ := hsp
      exact wpAny_execs_nil ⟨σ', H', J'.ofTry ok, q⟩
    | brk =>
      obtain ⟨σ', H', J', q⟩ := hsp
      exact ⟨σ', H', J'.ofTry ok, q⟩
    | cont =>
      obtain ⟨σ', H', J', q⟩ := hsp
      exact ⟨σ', H', J'.ofTry ok, q⟩
    | ret u =>
      obtain ⟨v, σ', H', J', r, q⟩ := hsp
      exact ⟨v, σ', H', J'.ofTry ok, r, q⟩
end
end L2

/-! ### Kit7 -/
namespace Mine
open PySem PySem.Spec L2
/-! ## own errors over ValueError, made by the __init__ of their root: self.what = what -/
def spInit (K : PySem.W.Frag) : Sp := fun vs H Q _ => ∃ (a C : Addr) (v : V), vs = [.ref a, v] ∧ OexC K C ∧ PySem.W.findIn K (.ref C) "what" = some none ∧ H a = some (exo a C none) ∧
  ∀ dx, H dx = none → dx ≠ a → Q .non (upd (upd H dx (exd dx [("what", v)])) a (exo a C (some dx)))
/-- what the written part says of the error class of the name x -/
structure ErrC (K : PySem.W.Frag) (mg : Str → Option Value) (fI : Addr) (x : Str) (C : Addr) : Prop where
  g : mg x = some (.ref C)
  c : OexC K C
  n : PySem.W.findIn K (.ref C) "what" = some none
  i : PySem.W.findIn K (.ref C) "__init__" = some (some (.ref fI))
  f : XfC K C
/-- the root's __init__ -/
def InitF (P : Program) (w : World) (K : PySem.W.Frag) (mg : Str → Option Value) (base : Heap) (fI : Addr) : Prop :=
  PySem.W.typeIn K (.ref fI) = some (.type "function") ∧ ∃ fd : FuncData, FnOk P w K mg base CX0 1 fI fd ["self", "what"] (spInit K) ∧ Binds K fd ["self", "what"] []
theorem has_init {P : Program} {w : World} {K : PySem.W.Frag} {mg : Str → Option Value} {base : Heap} {fI : Addr} {fd : FuncData} {st : Stmt} {qual : Str} (F : Fun K "__init__" qual st fI fd) (hS : FnScope ["self", "what"] ["self", "what"] (defScope st))
    (hb : ∀ (kV doc pm : Value) (an : Option Addr) (cdv ct : Value) (us : List Value), us.length = 2 → bindArgs (PySem.W.fnOf "__init__" qual (defArgs st) (defBody st) (defScope st) .none kV doc pm an cdv ct) ⟨us, []⟩ = pure ((["self", "what"] : List Str).zip us))
    (ht : PySem.W.typeIn K (.ref fI) = some (.type "function"))
    (body : ∀ (cdv : Value) (A : Around) (outer : List Env) (s : Shared) (H : Hp) (E : XK), PSs (cxOf CX0 P w K mg base ["self", "what"] qual (defScope st) fI cdv A outer s H E).nox (defBody st) (tOst K "what" (tVar 0) (tVar 1))) :
    InitF P w K mg base fI := by
  refine ⟨ht, fd, ?_, F.binds hb⟩
  refine F.ok (k := 0) hS (fun vs H Q E h => ?_) (fun cdv A outer s H vs Q E hr h => ⟨_, body cdv A outer s H E, ?_⟩)
  · obtain ⟨a, C, v, rfl, _⟩ := h
    rfl
  obtain ⟨a, C, v, rfl, hc, hn, ha, q⟩ := h
  exact ⟨v, rfl, .ref a, rfl, a, C, rfl, hc, hn, .inl ⟨ha, q⟩⟩
section
variable {X : Cx} {W : WX}
/-- what the making of x(v) asks -/
def RaiseAt (K : PySem.W.Frag) (C : Addr) (W : WX) (σ : St) (v : V) (H1 : Hp) : Prop := [v].length ≤ 1000 ∧ ∀ a, H1 a = none → spInit K (.ref a :: ([v] ++ [])) (upd H1 a (exo a C none))
  (fun u H2 => u = .non ∧ ∃ (d : Addr) (fs : List (Str × V)), H2 a = some (exo a C (some d)) ∧ H2 d = some (exd d fs) ∧ H1 d = none ∧ W (.ref C) (some d) σ (upd (del H2 a) d (.xd fs))) (fun _ _ _ => False)
def tRaiseE (K : PySem.W.Frag) (C : Addr) (W : WX) (te : TE) : TS := fun _ σ H => te σ H fun v H1 => RaiseAt K C W σ v H1
theorem ps_raiseE {fI C : Addr} {x : Str} {p pos pos2 : Pos} {e : Expr} {te : TE} (K : PySem.W.Frag) (hI : InitF X.prog X.w X.K X.mg X.base fI) (M : ErrC X.K X.mg fI x C) (hc : X.calm = true) (hr : Room 2 X.A) (tk : Takes X W) (he : PE X e te) (hg : Gl X x) (hK : X.K = K := by rfl)
    (hs : starEach [e] X.env = (false, eval e X.env) :: starEach [] X.env := by rfl) (hpl : (backTo pos (starEach [] X.env)).any (·.1) = false := by rfl) (hdb : (x == ("__debug__" : Str)) = false := by decide) :
    PS X (.Raise (some (.Call (.Name x p) [e] [] pos)) none pos2) (tRaiseE K C W te) := by
  subst hK
  obtain ⟨ht, fd, F, hb⟩ := hI
  exact ps_raise hc tk (pmk_oex (pos := pos) (p := p) (dvs := []) M.c M.i ht F hr hb .nil (fun _ _ _ _ _ _ _ z => z.elim) hg M.g (pa_cons he pa_nil hs) hdb hs hpl) (pos := pos2)
theorem rd_raiseE {K : PySem.W.Frag} {C : Addr} {te : TE} {D : Ends} {σ : St} {H : Hp} (h : te σ H fun v H1 => RaiseAt K C W σ v H1) : tRaiseE K C W te D σ H := h
theorem exd_ne_exo {a d C : Addr} {o : Option Addr} {fs : List (Str × V)} : True := trivial
theorem u_raise {K : PySem.W.Frag} {C : Addr} {σ : St} {v : V} {H : Hp} (c : OexC K C) (n : PySem.W.findIn K (.ref C) "what" = some none) (h : ∀ d, H d = none → W (.ref C) (some d) σ (upd H d (.xd [("what", v)]))) : RaiseAt K C W σ v H := by
  refine ⟨by show 1 ≤ 1000; decide, fun a ha => ⟨a, C, v, rfl, c, n, upd_same, fun dx hdx hne => ⟨rfl, dx, [("what", v)], ?_, ?_, ?_, ?_⟩⟩⟩
  · exact upd_same
  · rw [upd_ne hne, upd_same]
  · rw [upd_ne hne] at hdx; exact hdx
  · have hd : H dx = none := by rw [upd_ne hne] at hdx; exact hdx
    have e : upd (del (upd (upd (upd H a (exo a C none)) dx (exd dx [("what", v)])) a (exo a C (some dx))) a) dx (.xd [("what", v)]) = upd H dx (.xd [("what", v)]) := by
      funext b
      by_cases h1 : b = dx
      · subst h1; rw [upd_same, upd_same]
      · rw [upd_ne h1, upd_ne h1]
        by_cases h2 : b = a
        · subst h2; rw [del_same, ha]
        · rw [del_ne h2, upd_ne h2, upd_ne h1, upd_ne h2]
    rw [e]
    exact h dx hd
end
/-- what leaves a def that may raise -/
theorem tkX {P : Program} {w : World} {K : PySem.W.Frag} {mg : Str → Option Value} {base : Heap} {N : List Str} {qual : Str} {scope : Scope} {f : Addr} {cd : Value} {A : Around} {outer : List Env} {s : Shared} {H : Hp} {E : XK} :
    Takes (cxOf (L2.CX P w) P w K mg base N qual scope f cd A outer s H E) (fun cls d _ H' => E cls d H') := takes_of rfl rfl rfl rfl
theorem poX {P : Program} {w : World} {K : PySem.W.Frag} {mg : Str → Option Value} {base : Heap} {N : List Str} {qual : Str} {scope : Scope} {f : Addr} {cd : Value} {A : Around} {outer : List Env} {s : Shared} {H : Hp} {E : XK} :
    PassesOwn (model P w) (cxOf (L2.CX P w) P w K mg base N qual scope f cd A outer s H E).A (cxOf (L2.CX P w) P w K mg base N qual scope f cd A outer s H E).env (cxOf (L2.CX P w) P w K mg base N qual scope f cd A outer s H E).xe := passes_of (X := cxOf (L2.CX P w) P w K mg base N qual scope f cd A outer s H E) rfl
/-! ## a dict of the module, text keys -/
/-- at x: a dict that tells g of a text -/
structure Tab (w : World) (K : PySem.W.Frag) (mg : Str → Option Value) (x : Str) (a : Addr) (g : Str → Option Value) : Prop where
  m : mg x = some (.ref a)
  d : ∃ es n, KDict K w a es n
  t : ∀ z, PySem.W.nsIn K a z = some (g z)
section
variable {X : Cx}
def rInD (a : Addr) (g : Str → Option Value) : R2 := fun x y H Q => ∃ z, x = .str z ∧ y = .ref a ∧ Q (.bl (g z).isSome) H
def rNotInD (a : Addr) (g : Str → Option Value) : R2 := fun x y H Q => ∃ z, x = .str z ∧ y = .ref a ∧ Q (.bl (!(g z).isSome)) H
theorem op_inD {x : Str} {a : Addr} {g : Str → Option Value} (T : Tab X.w X.K X.mg x a g) : OpR X (compareOp .In) (rInD a g) := by
  obtain ⟨es, n, D⟩ := T.d
  intro pins s σ H u y v v2 Q I rx ry h
  obtain ⟨z, rfl, rfl, q⟩ := h
  exact op_in_kd D pins s σ H _ _ v v2 Q I rx ry ⟨z, _, rfl, rfl, T.t z, q⟩
theorem op_notInD {x : Str} {a : Addr} {g : Str → Option Value} (T : Tab X.w X.K X.mg x a g) : OpR X (compareOp .NotIn) (rNotInD a g) := by
  obtain ⟨es, n, D⟩ := T.d
  intro pins s σ H u y v v2 Q I rx ry h
  obtain ⟨z, rfl, rfl, q⟩ := h
  exact op_notIn_kd D pins s σ H _ _ v v2 Q I rx ry ⟨z, _, rfl, rfl, T.t z, q⟩
def rIxT' (a : Addr) (g : Str → Option Value) : R2 := fun x y H Q => ∃ z u v, x = .ref a ∧ y = .str z ∧ g z = some u ∧ RelV v u ∧ Q v H
theorem ix_tab {x : Str} {a : Addr} {g : Str → Option Value} (T : Tab X.w X.K X.mg x a g) : IxR X (rIxT' a g) := by
  obtain ⟨es, n, D⟩ := T.d
  intro value slice pins s σ H u y v v2 Q I rx ry h hs
  obtain ⟨z, u0, v0, rfl, rfl, e, r, q⟩ := h
  exact ix_kdict value slice pins s σ H _ _ v v2 Q I rx ry ⟨a, z, v0, rfl, rfl, ⟨es, n, u0, D.at_, D.lit, by rw [T.t z, e], r⟩, q⟩ hs
theorem u_inD {a : Addr} {g : Str → Option Value} {z : Str} {H : Hp} {Q : VK} (h : Q (.bl (g z).isSome) H) : rInD a g (.str z) (.ref a) H Q := ⟨z, rfl, rfl, h⟩
theorem u_notInD {a : Addr} {g : Str → Option Value} {z : Str} {H : Hp} {Q : VK} (h : Q (.bl (!(g z).isSome)) H) : rNotInD a g (.str z) (.ref a) H Q := ⟨z, rfl, rfl, h⟩
theorem u_ixTab {a : Addr} {g : Str → Option Value} {z : Str} {u : Value} {v : V} {H : Hp} {Q : VK} (e : g z = some u) (r : RelV v u) (h : Q v H) : rIxT' a g (.ref a) (.str z) H Q := ⟨z, u, v, rfl, rfl, e, r, h⟩
/-- the call of a def that a local name holds -/
def tCallV (P : Program) (w : World) (K : PySem.W.Frag) (mg : Str → Option Value) (base : Heap) (k : Nat) (i : Nat) (t : TA) : TE := fun σ H Q => ∃ f sp, σ[i]? = some (some (.ref f)) ∧ Held P w K mg base k f sp ∧ t σ H fun vs H1 => sp vs H1 Q E0
theorem pe_callV {P : Program} {w : World} {K : PySem.W.Frag} {mg : Str → Option Value} {base : Heap} {k i : Nat} {x : Str} {p pos : Pos} {e : Expr} {es : List Expr} {t : TA} (h1 : X.prog = P) (h2 : X.w = w) (h3 : X.K = K) (h4 : X.mg = mg) (h5 : X.base = base) (hr : Room k X.A) (hN : X.N[i]? = some x) (hv : Vis X.env.scope x) (ha : PA X (e :: es) t)
    (hdb : (x == ("__debug__" : Str)) = false := by decide) (hcd : (x == ("__classdict__" : Str)) = false := by decide)
    (he : starEach (e :: es) X.env = (false, eval e X.env) :: starEach es X.env := by rfl) (hpl : (backTo pos (starEach es X.env)).any (·.1) = false := by rfl) : PE X (.Call (.Name x p) (e :: es) [] pos) (tCallV P w K mg base k i t) := by
  subst h1 h2 h3 h4 h5
  refine ⟨fun pins s σ H Q I h => ?_⟩
  obtain ⟨f, sp, hs, hH, ht⟩ := h
  obtain ⟨fd, ps, F, hk, hb⟩ := hH.ex
  refine (pe_callL (i := i) (f := f) (sp := sp) (dvs := []) (E := fun _ _ _ => False) F hr hN hv hk hb .nil (fun _ _ _ _ _ _ _ z => z.elim) ha hdb hcd he hpl).run pins s σ H Q I ⟨hs, ?_⟩
  have e0 : (fun (vs : List V) (H1 : Hp) => sp (vs ++ []) H1 Q (fun _ _ _ => False)) = fun vs H1 => sp vs H1 Q E0 := by
    funext vs H1; rw [List.append_nil]
  show t σ H (fun vs H1 => sp (vs ++ []) H1 Q (fun _ _ _ => False))
  rw [e0]
  exact ht
theorem rd_callV {P : Program} {w : World} {K : PySem.W.Frag} {mg : Str → Option Value} {base : Heap} {k i : Nat} {t : TA} {σ : St} {H : Hp} {Q : VK} {f : Addr} {sp : Sp} (e : σ[i]? = some (some (.ref f))) (hH : Held P w K mg base k f sp) (h : t σ H fun vs H1 => sp vs H1 Q E0) : tCallV P w K mg base k i t σ H Q := ⟨f, sp, e, hH, h⟩
theorem HasF.held {P : Program} {w : World} {K : PySem.W.Frag} {mg : Str → Option Value} {base : Heap} {k : Nat} {x : Str} {ps : List Str} {sp : Sp} (h : HasF P w K mg base CX0 k x ps sp) : ∃ f, mg x = some (.ref f) ∧ Held P w K mg base k f sp := by
  obtain ⟨f, fd, F, m, kp, b⟩ := h
  exact ⟨f, m, ⟨fd, ps, F, kp, b⟩⟩
theorem u_inS {K : PySem.W.Frag} {c : Nat} {z : Str} {H : Hp} {Q : VK} (h : Q (.bl (decide (c ∈ z.cps.toList))) H) : rInU K (.str ⟨#[c]⟩) (.str z) H Q := .inr ⟨c, z, rfl, rfl, h⟩
theorem u_notInS {K : PySem.W.Frag} {c : Nat} {z : Str} {H : Hp} {Q : VK} (h : Q (.bl (!decide (c ∈ z.cps.toList))) H) : rNotInU K (.str ⟨#[c]⟩) (.str z) H Q := .inr ⟨c, z, rfl, rfl, h⟩
end
section
variable {K : PySem.W.Frag} {H : Hp} {xs : List V} {ds : List PyData}
theorem Rps.none (h : Rps K H xs ds) (l : (xs.length : Int) = 0) : xs = [] ∧ ds = [] := by
  cases h with
  | nil => exact ⟨rfl, rfl⟩
  | cons a r => rw [List.length_cons] at l; omega
theorem Rps.only (h : Rps K H xs ds) (l : (xs.length : Int) = 1) : ∃ x d, xs = [x] ∧ ds = [d] ∧ Rp K H x d := by
  cases h with
  | nil => cases l
  | cons a r =>
    cases r with
    | nil => exact ⟨_, _, rfl, rfl, a⟩
    | cons b r => rw [List.length_cons, List.length_cons] at l; omega
theorem Rps.pair (h : Rps K H xs ds) (l : (xs.length : Int) = 2) : ∃ x y d e, xs = [x, y] ∧ ds = [d, e] ∧ Rp K H x d ∧ Rp K H y e := by
  cases h with
  | nil => cases l
  | cons a r =>
    cases r with
    | nil => cases l
    | cons b r =>
      cases r with
      | nil => exact ⟨_, _, _, _, rfl, rfl, a, b⟩
      | cons c r => rw [List.length_cons, List.length_cons, List.length_cons] at l; omega
theorem Rps.three (h : Rps K H xs ds) (l : (xs.length : Int) = 3) : ∃ x y z d e f, xs = [x, y, z] ∧ ds = [d, e, f] ∧ Rp K H x d ∧ Rp K H y e ∧ Rp K H z f := by
  cases h with
  | nil => cases l
  | cons a r =>
    cases r with
    | nil => cases l
    | cons b r =>
      cases r with
      | nil => cases l
      | cons c r =>
        cases r with
        | nil => exact ⟨_, _, _, _, _, _, rfl, rfl, a, b, c⟩
        | cons c2 r => rw [List.length_cons, List.length_cons, List.length_cons, List.length_cons] at l; omega
end
end Mine
namespace Mine
open PySem PySem.Spec L2
section
variable {σ : St} {H : Hp} {Q : VK} {te : TE}
theorem rd_retE {n bk ct : St → Hp → Prop} {rt : VK} {o : Option Nat} (h : te σ H rt) : tRet te (endsAt ⟨n, rt, bk, ct⟩ o) σ H := by cases o <;> exact h
theorem rd_xf {a C : Addr} {cls : Value} {d : Option Addr} {f : Str} (h : te σ H fun x H1 => x = .ref a ∧ cls = .ref C ∧ ∃ (dd : Addr) (fs : List (Str × V)) (v : V), d = some dd ∧ H1 dd = some (.xd fs) ∧ fs.lookup f = some v ∧ Q v H1) : tXf a cls d C f te σ H Q := h
theorem u_xf {a C dd : Addr} {cls : Value} {v : V} {R : V → Prop} (ec : cls = .ref C) (e : H dd = some (.xd [("what", v)])) (h : R v) : V.ref a = .ref a ∧ cls = .ref C ∧ ∃ (dd' : Addr) (fs : List (Str × V)) (v' : V), some dd = some dd' ∧ H dd' = some (.xd fs) ∧ fs.lookup ("what" : Str) = some v' ∧ R v' :=
  ⟨rfl, ec, dd, [("what", v)], v, rfl, e, by simp [List.lookup], h⟩
end
end Mine

/-! ### Kit8 -/
namespace Mine
open PySem PySem.Spec L2
section
variable {X : Cx}
/-! ## == and != of numbers, texts, data of any depth below 200 -/
def rEqG (K : PySem.W.Frag) : R2 := fun x y H Q => (scal x y = true ∧ Q (.bl (decide (x = y))) H) ∨
  ∃ d e, Dp K H x d ∧ Dp K H y e ∧ d.canLay0 = true ∧ e.canLay0 = true ∧ min d.depth e.depth ≤ 199 ∧ Q (.bl (PyData.eqv d e)) H
def rNeG (K : PySem.W.Frag) : R2 := fun x y H Q => (scal x y = true ∧ Q (.bl (!decide (x = y))) H) ∨
  ∃ d e, Dp K H x d ∧ Dp K H y e ∧ d.canLay0 = true ∧ e.canLay0 = true ∧ min d.depth e.depth ≤ 199 ∧ Q (.bl (!PyData.eqv d e)) H
theorem hU {k : Nat} {A : Around} (r : Room k A) : A.units + 200 < cLine := by have := r.un; omega
theorem kEqG (K : PySem.W.Frag) (hu : X.A.units + 200 < cLine) (h : X.K = K := by rfl) : OpR X (compareOp .Eq) (rEqG K) := by
  subst h
  refine op_eq.or ?_
  intro pins s σ H x y v u Q I rx ry h
  obtain ⟨d, e, hd, he, sd, se, dd, q⟩ := h
  obtain ⟨as, r1⟩ := Dp.reads I d x v hd rx
  obtain ⟨bs, r2⟩ := Dp.reads I e y u he ry
  exact SeqAt.compareEq_reads r1 r2 sd se (by omega) ⟨.bl _, H, I, rfl, q⟩
theorem kNeG (K : PySem.W.Frag) (hu : X.A.units + 200 < cLine) (h : X.K = K := by rfl) : OpR X (compareOp .NotEq) (rNeG K) := by
  subst h
  refine op_ne.or ?_
  intro pins s σ H x y v u Q I rx ry h
  obtain ⟨d, e, hd, he, sd, se, dd, q⟩ := h
  obtain ⟨as, r1⟩ := Dp.reads I d x v hd rx
  obtain ⟨bs, r2⟩ := Dp.reads I e y u he ry
  exact SeqAt.compareNe_reads r1 r2 sd se (by omega) ⟨.bl _, H, I, rfl, q⟩
end
section
variable {K : PySem.W.Frag} {H : Hp} {Q : VK} {i j : Int} {z z' : Str} {x y : V} {d e : PyData} {a : Addr} {xs : List V}
theorem dV_int : decide (V.int i = V.int j) = decide (i = j) := by
  by_cases c : i = j
  · rw [decide_eq_true c, decide_eq_true (congrArg V.int c)]
  · rw [decide_eq_false c, decide_eq_false (fun q => c (V.int.inj q))]
theorem dV_str : decide (V.str z = V.str z') = decide (z = z') := by
  by_cases c : z = z'
  · rw [decide_eq_true c, decide_eq_true (congrArg V.str c)]
  · rw [decide_eq_false c, decide_eq_false (fun q => c (V.str.inj q))]
theorem dV_bl {x y : Bool} : decide (V.bl x = V.bl y) = decide (x = y) := by cases x <;> cases y <;> rfl
theorem g_eqI (h : Q (.bl (decide (i = j))) H) : rEqG K (.int i) (.int j) H Q := .inl ⟨rfl, by rw [dV_int]; exact h⟩
theorem g_eqS (h : Q (.bl (decide (z = z'))) H) : rEqG K (.str z) (.str z') H Q := .inl ⟨rfl, by rw [dV_str]; exact h⟩
theorem g_neI (h : Q (.bl (!decide (i = j))) H) : rNeG K (.int i) (.int j) H Q := .inl ⟨rfl, by rw [dV_int]; exact h⟩
theorem g_neS (h : Q (.bl (!decide (z = z'))) H) : rNeG K (.str z) (.str z') H Q := .inl ⟨rfl, by rw [dV_str]; exact h⟩
theorem g_neB {x y : Bool} (h : Q (.bl (!decide (x = y))) H) : rNeG K (.bl x) (.bl y) H Q := .inl ⟨rfl, by rw [dV_bl]; exact h⟩
theorem g_eqD (hx : Dp K H x d) (hy : Dp K H y e) (c1 : d.canLay0 = true) (c2 : e.canLay0 = true) (dd : min d.depth e.depth ≤ 199) (h : Q (.bl (PyData.eqv d e)) H) : rEqG K x y H Q := .inr ⟨d, e, hx, hy, c1, c2, dd, h⟩
theorem g_neD (hx : Dp K H x d) (hy : Dp K H y e) (c1 : d.canLay0 = true) (c2 : e.canLay0 = true) (dd : min d.depth e.depth ≤ 199) (h : Q (.bl (!PyData.eqv d e)) H) : rNeG K x y H Q := .inr ⟨d, e, hx, hy, c1, c2, dd, h⟩
theorem u_inL (s : SqL K H a xs) (fx : flatV x = true) (fxs : xs.all flatV = true) (h : Q (.bl (inV x xs)) H) : rInU K x (.ref a) H Q := .inl ⟨a, xs, rfl, .inl s, fx, fxs, h⟩
theorem u_inT (s : SqT K H a xs) (fx : flatV x = true) (fxs : xs.all flatV = true) (h : Q (.bl (inV x xs)) H) : rInU K x (.ref a) H Q := .inl ⟨a, xs, rfl, .inr s, fx, fxs, h⟩
end
/-! ## data -/
def okS (z : Str) : Prop := z.length ≤ 1000 ∧ PyData.canLay0 (.str z) = true
mutual
def dat : PyData → Prop
  | .none => True
  | .int _ => True
  | .str z => okS z
  | .tuple ds => ds.length ≤ 1000 ∧ dats ds
  | _ => False
def dats : List PyData → Prop
  | [] => True
  | d :: r => dat d ∧ dats r
end
mutual
theorem dat_lay : ∀ d : PyData, dat d → d.canLay0 = true
  | .none, _ => by simp only [PyData.canLay0]
  | .int _, _ => by simp only [PyData.canLay0]
  | .str z, h => by
    have h' : okS z := by simpa only [dat] using h
    exact h'.2
  | .tuple ds, h => by
    have h' : ds.length ≤ 1000 ∧ dats ds := by simpa only [dat] using h
    simp only [PyData.canLay0]
    exact dats_lay ds h'.2
  | .bool _, h => by simp only [dat] at h
  | .list _, h => by simp only [dat] at h
  | .dict _, h => by simp only [dat] at h
theorem dats_lay : ∀ ds : List PyData, dats ds → PyData.canLayAll0 ds = true
  | [], _ => by simp only [PyData.canLayAll0]
  | d :: r, h => by
    have h' : dat d ∧ dats r := by simpa only [dats] using h
    simp only [PyData.canLayAll0, dat_lay d h'.1, dats_lay r h'.2, Bool.and_self]
end
mutual
theorem eqv_same : ∀ d : PyData, dat d → PyData.eqv d d = true
  | .none, _ => by simp [PyData.eqv]
  | .int _, _ => by simp [PyData.eqv]
  | .str z, _ => by simp [PyData.eqv]
  | .tuple ds, h => by
    have h' : ds.length ≤ 1000 ∧ dats ds := by simpa only [dat] using h
    simp only [PyData.eqv]
    exact eqvs_same ds h'.2
  | .bool _, h => by simp only [dat] at h
  | .list _, h => by simp only [dat] at h
  | .dict _, h => by simp only [dat] at h
theorem eqvs_same : ∀ ds : List PyData, dats ds → PyData.eqvAll ds ds = true
  | [], _ => by simp [PyData.eqvAll]
  | d :: r, h => by
    have h' : dat d ∧ dats r := by simpa only [dats] using h
    simp only [PyData.eqvAll, eqv_same d h'.1, eqvs_same r h'.2, Bool.and_self]
end
end Mine

/-! ### Kit9 -/
/-! ## enumerate of a tuple -/
namespace HE
open PySem PySem.Spec PyProof.Rows L2
/-- one argument, whatever begins -/
theorem meets1 {v : Value} {ob : Obj} {Hb : Heap → Prop} (bg : Begins v ob Hb) : Meets (Builtin.«enumerate.__new__» ⟨[.type "enumerate", v], []⟩) (fun _ Z st => Hb st.heap ∧
    Z (.ok (.ret (.ref (st.heap.push ob).objs.size))) { st with heap := (st.heap.push ob).push { cls := .type "enumerate", data := .fields #[.none, .bool false, .ref st.heap.objs.size, rawInt 0, .none, .none] } }) := by
  refine .of_wp fun pr w2 A2 Z st hst => ?_
  obtain ⟨h0, gg, dd, tt, oo⟩ := st
  obtain ⟨hb, hst⟩ := hst
  have hs1 := sub_enumerate
  have it1 : ∀ {B : Around} {E2 : Value → Shared → Prop} {Q2 : Value → Shared → Prop}, Q2 (.ref h0.objs.size) ⟨h0.push ob, gg, dd, tt, oo⟩ → wpAny (model pr w2) B (pyIter v) Q2 E2 ⟨h0, gg, dd, tt, oo⟩ :=
    fun q2 => bg.iter pr w2 _ _ ⟨h0, gg, dd, tt, oo⟩ _ hb q2
  wp_walk using it1
  refine wpAny_stack_any fun sta => wpAny_pure ?_
  split
  · rename_i cc _ _ _ _ _
    cases (cc == Value.type "enumerate") <;> (wp_walk using it1; exact ⟨_, rfl, hst⟩)
  · wp_walk using it1; exact ⟨_, rfl, hst⟩
section
variable {prog : Program} {w : World} {A : Around} {E : Value → Shared → Prop} {s : Shared}
theorem call1 {a : Addr} {its : Array Value} {Q : Value → Shared → Prop} (ht : s.heap.IsTuple a its)
    (k : ∀ h2, IsEnum h2 (s.heap.objs.size + 1) s.heap.objs.size 0 .none → h2.IsTupleIter s.heap.objs.size a 0 → (∀ c u, s.heap.get? c = some u → h2.get? c = some u) → Q (.ref (s.heap.objs.size + 1)) { s with heap := h2 }) :
    wpAny (model prog w) A (call (.type "enumerate") [.ref a]) Q E s := by
  have bg := begins_tuple a its
  refine callType_new F.called_enumerate (by decide) (F.typeCall_enumerate_1 _) (F.newCall_enumerate_1 _) (fun ob => F.args_object_init_2 ob _) F.entry_enumerate_new (meets1 bg) ⟨ht, ?_⟩
  have sz : (s.heap.push ({ cls := .type "tuple_iterator", data := .fields #[.ref a, .int 0 0] } : Obj)).objs.size = s.heap.objs.size + 1 := Heap.size_push ..
  show _ ∧ _
  rw [sz]
  have en := Heap.get?_push_size (s.heap.push ({ cls := .type "tuple_iterator", data := .fields #[.ref a, .int 0 0] } : Obj)) (o := { cls := .type "enumerate", data := .fields #[.none, .bool false, .ref s.heap.objs.size, rawInt 0, .none, .none] }) rfl
  rw [sz] at en
  exact ⟨⟨_, en, rfl⟩, k _ en ⟨_, Heap.get?_push_of_some _ (Heap.get?_push_size _ rfl), rfl, rfl⟩ fun c u x => Heap.get?_push_of_some _ (Heap.get?_push_of_some _ x)⟩
end
/-- the tuple at a, each item in a new pair -/
def IteT (K : PySem.W.Frag) (a : Addr) : It where
  go := fun i H => ∃ (xs : List V) (x : V), SqT K H a xs ∧ xs[i]? = some x
  yld := fun i H v H' => ∃ t x, v = .ref t ∧ H t = none ∧ H' = upd H t (.tup [.int (i : Nat), x]) ∧ ∀ xs, SqT K H a xs → xs[i]? = some x
  stop := fun i H => ∃ xs : List V, SqT K H a xs ∧ xs.length ≤ i
theorem apartT {h : Heap} {a it : Addr} {i : Nat} {its : Array Value} (ht : h.IsTuple a its) (hi : h.IsTupleIter it a i) : a ≠ it := fun z => by
  obtain ⟨o, e, _, n, d⟩ := ht
  obtain ⟨o2, e2, _, d2⟩ := hi
  rw [z, e2] at e
  cases e
  rw [d2] at d
  cases d
theorem apartE {h : Heap} {a e it : Addr} {i : Int} {old : Value} {its : Array Value} (ht : h.IsTuple a its) (he : IsEnum h e it i old) : e ≠ a := fun z => by
  obtain ⟨o, q, _, n, d⟩ := ht
  rw [← z] at q
  have q2 : h.get? e = some _ := he
  rw [q2] at q
  cases q
  cases d
theorem turn_enT {P : Program} {w : World} {K : PySem.W.Frag} {elts : List Expr} {kk : Nat} {tpos : Pos} (a e it : Addr) :
    Turn P w K (.Tuple elts kk tpos) (IteT K a) [e, it] e (fun i h => (∃ old, IsEnum h e it ((i : Nat) : Int) old) ∧ h.IsTupleIter it a i ∧ e ≠ it) := by
  refine ⟨by simp, fun i h st b hb => ?_, fun i h h' st k => ?_, ?_, ?_, fun A i s Q E st h => ?_⟩
  · obtain ⟨⟨old, he⟩, ⟨o, ho, hc, hd⟩, _⟩ := st
    rcases (by simpa using hb : b = e ∨ b = it) with rfl | rfl
    · exact ⟨_, he, fun v q => nomatch q⟩
    · exact ⟨o, ho, fun v q => by rw [hd] at q; cases q⟩
  · obtain ⟨⟨old, he⟩, hi, hne⟩ := st
    exact ⟨⟨old, k e (by simp) _ he⟩, hi.at fun o q => k it (by simp) o q, hne⟩
  · intro X hP hw hK hc i pins s σ H E I hf st hg
    subst hP hw hK
    obtain ⟨⟨old, he⟩, hit, hne⟩ := st
    obtain ⟨xs, x, hq, hx⟩ := hg
    obtain ⟨its, rv, p, hz⟩ := I.tuple hq
    have p2 : s.heap.IsTuple a its.toArray := p
    obtain ⟨u, hu, ru⟩ := rv.get hx
    have hu2 : its.toArray[i]? = some u := by simpa using hu
    have hel : e < s.heap.objs.size := Heap.lt_size he
    have hil : it < s.heap.objs.size := by obtain ⟨_, q, _⟩ := hit; exact Heap.lt_size q
    have dr := Draws.tuple (prog := X.prog) (w := X.w) (A := X.A.in1) (I.ok.hd hc) it a (apartT p2 hit) its.toArray
    refine wpAny_pyNext_enum_itemD dr he ⟨hit, p2⟩ (by rcases Nat.lt_or_ge i its.toArray.size with g | g; exact g; rw [Array.getElem?_eq_none g] at hu2; cases hu2) hne (fun m => by rcases (by simpa using m : e = it ∨ e = a) with z | z; exact hne z; exact apartE p2 he z) fun u' h2 tk hu' out st2 hT hsz hk => ?_
    have eu : u' = u := Option.some.inj (hu'.symm.trans hu2)
    subst eu
    refine ⟨_, rfl, wpAny_letOwnedTupleGo_enum (s := { s with heap := h2, toks := tk + 1 }) out fun h3 he3 sb => ?_⟩
    have hT3 := (sb.2 _ (Nat.ne_of_gt hel)).trans hT
    have new : ObjOk X.prog X.w (upd H s.heap.objs.size (.tup [.int (i : Nat), x])) h3 s.heap.objs.size (.tup [.int (i : Nat), x]) :=
      ⟨(by decide : 2 ≤ sizeLine), [.int i tk, u'], .cons ⟨_, rfl⟩ (.cons ru .nil), ⟨_, hT3, rfl, _, rfl⟩⟩
    have I2 : Inv X pins σ (upd H s.heap.objs.size (.tup [.int (i : Nat), x])) { s with heap := h3, toks := tk + 1 } :=
      I.turnedNew (ch := [e, it]) (fun b ob hb q => (sb.2 b (fun z => hb (by simp [z]))).trans (hk b ob (fun z => hb (by simp [z])) (fun z => hb (by simp [z])) q)) hf (Nat.le_refl _) new
    refine ⟨.ref s.heap.objs.size, _, I2, rfl, ⟨_, x, rfl, I.hok.fresh (Nat.le_refl _), rfl, fun ys hy => by rw [I.tuple_inj hy hq]; exact hx⟩, ⟨⟨u', ?_⟩, st2.1.at fun o q => (sb.2 it (Ne.symm hne)).trans q, hne⟩, fun b hb => ?_⟩
    · rw [show ((i + 1 : Nat) : Int) = (i : Int) + 1 from by omega]; exact he3
    · have lt : b < s.heap.objs.size := by rcases (by simpa using hb : b = e ∨ b = it) with rfl | rfl <;> assumption
      rw [upd_ne (Nat.ne_of_lt lt)]
      exact (hf b hb).1
  · intro X hP hw hK hc i pins s σ H E I hf st hg
    subst hP hw hK
    obtain ⟨⟨old, he⟩, hit, hne⟩ := st
    obtain ⟨xs, hq, hx⟩ := hg
    obtain ⟨its, rv, p, hz⟩ := I.tuple hq
    have p2 : s.heap.IsTuple a its.toArray := p
    obtain ⟨f0, f1, f2, f3, f4, f5⟩ := hf it (by simp)
    have hl := rv.length
    unfold pyNext
    refine wpAny_bind (wpAny_attempt (wpAny_callSpecial?_slot (name := Str.ofString "__next__") (⟨_, he, rfl⟩ : s.TypeIs (.ref e) "enumerate") F.slot_enumerate_next
      (wpAny_call_entry F.slot_enumerate_next ⟨_, he, rfl⟩ F.entry_enumerate_next ?_ (F.args_enumerate_next_1 _))))
    show wpAny _ _ (field (.ref e) 2 >>= _) _ _ _
    refine wpAny_bind (wpAny_field he rfl (x := .ref it) rfl ?_)
    refine wpAny_bind (wpAny_nextOf_tuple_end (I.ok.hd hc) hit p2 (by simp; omega) fun h2 y eb hy => ?_)
    obtain ⟨o, ho, hc2⟩ := hy
    refine wpAny_bind (wpAny_isInstance (T := "StopIteration") (b := true) ⟨o, ho, hc2⟩ isSubtype_stop (wpAny_pure ?_))
    exact ⟨rfl, I.turned (t' := s.toks) (fun b o hb q => eb b o hb q) f0 f1 f3 f4 f5⟩
  · obtain ⟨⟨_, he⟩, _⟩ := st
    exact wpAny_pyIter_enum he h
/-- what enumerate walks: a list or a tuple -/
def iEnA (K : PySem.W.Frag) (ta : TA) : TI := fun σ H R => ta σ H fun vs H1 => ∃ a xs, vs = [.ref a] ∧ ((SqL K H1 a xs ∧ R (Ite K a) H1) ∨ (SqT K H1 a xs ∧ R (IteT K a) H1))
theorem pi_enA {X : Cx} {e : Expr} {ta : TA} {p pos tpos : Pos} {elts : List Expr} {kk : Nat} (hg : Gl X "enumerate") (hm : X.mg "enumerate" = none) (ha : PA X [e] ta) (hs : starEach [e] X.env = [(false, eval e X.env)] := by rfl) :
    PI X (.Tuple elts kk tpos) (.Call (.Name "enumerate" p) [e] [] pos) (iEnA X.K ta) := by
  refine ⟨fun pins s σ H R I h => ?_⟩
  refine Call_ (ld_blt I hg hm boot_enumerate (PyProof.Rows.callWith_type1 (thn (ha.run pos pins s σ H _ I h) fun us s1 ⟨vs, H1, I1, r1, q1⟩ => ?_) hs rfl))
  obtain ⟨a, xs, ex, q1⟩ := q1
  subst ex
  obtain _ | ⟨ru, rn⟩ := r1
  cases rn
  cases ru
  have fp : ∀ b ∈ [s1.heap.objs.size + 1, s1.heap.objs.size], FpOk X pins H1 b := fun b hb => by
    have le : s1.heap.objs.size ≤ b := by rcases (by simpa using hb : b = s1.heap.objs.size + 1 ∨ b = s1.heap.objs.size) with rfl | rfl <;> omega
    exact I1.fpOk le (I1.hok.fresh le)
  rcases q1 with ⟨hq, q⟩ | ⟨hq, q⟩
  · obtain ⟨its, rv, pl, hz⟩ := I1.list hq
    refine call_enumerate_list pl.isList fun h' he hit hsz hk => wpAny_pyIter_enum he ?_
    exact ⟨s1.heap.objs.size + 1, [s1.heap.objs.size + 1, s1.heap.objs.size], _, _, H1, rfl, I1.kept (t' := s1.toks) hk, turn_enum a _ _, ⟨⟨.none, he⟩, hit, Nat.succ_ne_self _⟩, fp, q⟩
  · obtain ⟨its, rv, pt, hz⟩ := I1.tuple hq
    refine call1 (show s1.heap.IsTuple a its.toArray from pt) fun h' he hit hk => wpAny_pyIter_enum he ?_
    exact ⟨s1.heap.objs.size + 1, [s1.heap.objs.size + 1, s1.heap.objs.size], _, _, H1, rfl, I1.kept (t' := s1.toks) hk, turn_enT a _ _, ⟨⟨.none, he⟩, hit, Nat.succ_ne_self _⟩, fp, q⟩
/-- a loop over enumerate of a tuple -/
theorem forET {K : PySem.W.Frag} {a : Addr} {xs : List V} {g : TG} {tb : TS} {n : L2.St → Hp → Prop} {rt : VK} {σ : L2.St} {H : Hp} (Pv : Nat → L2.St → Hp → Prop) (h0 : Pv 0 σ H) (hq : ∀ i σ H, i ≤ xs.length → Pv i σ H → SqT K H a xs)
    (hs : ∀ (i : Nat) (x : V) (t : Addr) (σ : L2.St) (H : Hp), xs[i]? = some x → Pv i σ H → H t = none → g (.ref t) σ (upd H t (.tup [.int (i : Nat), x])) fun σ2 H2 => tb ⟨Pv (i + 1), rt, n, Pv (i + 1)⟩ σ2 H2) (hd : ∀ σ H, Pv xs.length σ H → n σ H) :
    ∃ W : Nat → Nat → L2.St → Hp → Prop, (∃ m, W 0 m σ H) ∧ ∀ i m σ H, W i m σ H →
      ((IteT K a).stop i H ∧ n σ H) ∨ ((IteT K a).go i H ∧ ∃ N : L2.St → Hp → Prop, (∀ σ' H', N σ' H' → ∃ m', m' < m ∧ W (i + 1) m' σ' H') ∧ ∀ v H', (IteT K a).yld i H v H' → g v σ H' fun σ2 H2 => tb ⟨N, rt, n, N⟩ σ2 H2) := by
  refine ⟨fun i m σ H => m = xs.length - i ∧ i ≤ xs.length ∧ Pv i σ H, ⟨xs.length, by simp, Nat.zero_le _, h0⟩, ?_⟩
  rintro i m σ H ⟨rfl, hi, pv⟩
  have sq := hq i σ H hi pv
  rcases Nat.lt_or_ge i xs.length with hl | hl
  · refine .inr ⟨⟨xs, _, sq, List.getElem?_eq_getElem hl⟩, Pv (i + 1), fun σ' H' p' => ⟨xs.length - (i + 1), by omega, rfl, hl, p'⟩, ?_⟩
    rintro v H' ⟨t, x, rfl, ht, rfl, hx⟩
    exact hs i x t σ H (hx xs sq) pv ht
  · have : i = xs.length := by omega
    subst this
    exact .inl ⟨⟨xs, sq, Nat.le_refl _⟩, hd σ H pv⟩
end HE

/-! ### KitA -/
namespace Mine
open PySem PySem.Spec L2
section
variable {K : PySem.W.Frag} {H : Hp} {Q : VK} {a b : Addr} {xs ys : List V} {lo hi : Option Int}
/-! ## slices and sums of tuples, whatever object stands for them -/
theorem cut_whole (z : HT.sIx xs.length 0 lo = 0 ∧ HT.sIx xs.length xs.length hi = xs.length) : cutV xs lo hi = xs := by
  unfold cutV
  rw [z.1, z.2]
  simp
theorem u_slS (ha : SqT K H a xs) (h : ∀ q H', Same H H' → SqT K H' q (cutV xs lo hi) → Q (.ref q) H') : rSlU K (.ref a) lo hi H Q :=
  .inr ⟨a, xs, rfl, ha, fun z => h a H (Same.refl H) (by rw [cut_whole z]; exact ha), fun _ p hp => h p _ (same_new hp _) (SqT.of upd_same)⟩
theorem u_slL (ha : SqL K H a xs) (h : ∀ p, H p = none → Q (.ref p) (upd H p (.lst (cutV xs lo hi)))) : rSlU K (.ref a) lo hi H Q := .inl ⟨a, xs, rfl, ha, h⟩
theorem u_catS (ha : SqT K H a xs) (hb : SqT K H b ys) (l : xs.length + ys.length ≤ sizeLine) (h : ∀ q H', Same H H' → SqT K H' q (xs ++ ys) → Q (.ref q) H') : rAddU K (.ref a) (.ref b) H Q :=
  .inr (.inr (.inr ⟨a, b, xs, ys, rfl, rfl, ha, hb, l, fun z => h b H (Same.refl H) (by rw [z]; exact hb), fun _ z => h a H (Same.refl H) (by rw [z, List.append_nil]; exact ha), fun _ _ p hp => h p _ (same_new hp _) (SqT.of upd_same)⟩))
theorem cut_from (xs : List V) (i : Nat) : cutV xs (some (i : Int)) none = xs.drop i := by
  unfold cutV
  rw [HT.sIx_nat, HT.sIx_none]
  rcases Nat.le_total i xs.length with h | h
  · rw [Nat.min_eq_left h]
    exact List.take_of_length_le (by rw [List.length_drop]; omega)
  · rw [Nat.min_eq_right h, List.drop_of_length_le (Nat.le_refl _), List.drop_of_length_le h]
    simp
theorem cut_to (xs : List V) (j : Nat) : cutV xs none (some (j : Int)) = xs.take j := by
  unfold cutV
  rw [HT.sIx_nat, HT.sIx_none, List.drop_zero, Nat.sub_zero]
  rcases Nat.le_total j xs.length with h | h
  · rw [Nat.min_eq_left h]
  · rw [Nat.min_eq_right h, List.take_of_length_le (Nat.le_refl _), List.take_of_length_le h]
theorem cut_mid (xs : List V) (i j : Nat) (h : i ≤ xs.length) (k : j ≤ xs.length) : cutV xs (some (i : Int)) (some (j : Int)) = (xs.drop i).take (j - i) := by
  unfold cutV
  rw [HT.sIx_nat, HT.sIx_nat, Nat.min_eq_left h, Nat.min_eq_left k]
end
/-! ## enumerate of a list or a tuple -/
section
variable {X : Cx} (K : PySem.W.Frag) {e : Expr} {ta : TA}
theorem pi_enAK {p pos tpos : Pos} {elts : List Expr} {kk : Nat} (hg : Gl X "enumerate") (hm : X.mg "enumerate" = none) (ha : PA X [e] ta) (h : X.K = K := by rfl) (hs : starEach [e] X.env = [(false, eval e X.env)] := by rfl) :
    PI X (.Tuple elts kk tpos) (.Call (.Name "enumerate" p) [e] [] pos) (HE.iEnA K ta) := by subst h; exact HE.pi_enA hg hm ha hs
end
section
variable {K : PySem.W.Frag} {σ : St} {H : Hp} {ta : TA} {a b : Addr} {xs ys : List V}
theorem rd_enA {R : It → Hp → Prop} (h : ta σ H fun vs H1 => ∃ a xs, vs = [.ref a] ∧ ((SqL K H1 a xs ∧ R (Ite K a) H1) ∨ (SqT K H1 a xs ∧ R (HE.IteT K a) H1))) : HE.iEnA K ta σ H R := h
theorem u_enT {R1 R2 : Addr → Prop} (s : SqT K H a xs) (h : R2 a) : ∃ a' xs', [V.ref a] = [V.ref a'] ∧ ((SqL K H a' xs' ∧ R1 a') ∨ (SqT K H a' xs' ∧ R2 a')) := ⟨a, xs, rfl, .inr ⟨s, h⟩⟩
theorem u_enL {R1 R2 : Addr → Prop} (s : SqL K H a xs) (h : R1 a) : ∃ a' xs', [V.ref a] = [V.ref a'] ∧ ((SqL K H a' xs' ∧ R1 a') ∨ (SqT K H a' xs' ∧ R2 a')) := ⟨a, xs, rfl, .inl ⟨s, h⟩⟩
theorem rd_zip {R : It → Hp → Prop} (h : ta σ H fun vs H1 => ∃ a b xs ys, vs = [.ref a, .ref b] ∧ ((SqL K H1 a xs ∧ SqL K H1 b ys ∧ R (Itz K a b) H1) ∨ (SqT K H1 a xs ∧ SqT K H1 b ys ∧ R (RZ.ItzT K a b) H1))) : RZ.iZipA K ta σ H R := h
theorem u_zipL {R1 R2 : Addr → Addr → Prop} (s : SqL K H a xs) (t : SqL K H b ys) (h : R1 a b) : ∃ a' b' xs' ys', [V.ref a, V.ref b] = [V.ref a', V.ref b'] ∧ ((SqL K H a' xs' ∧ SqL K H b' ys' ∧ R1 a' b') ∨ (SqT K H a' xs' ∧ SqT K H b' ys' ∧ R2 a' b')) := ⟨a, b, xs, ys, rfl, .inl ⟨s, t, h⟩⟩
/-- a loop over zip of two lists of one length -/
theorem forZ {g : TG} {tb : TS} {n : St → Hp → Prop} {rt : VK} (hl : xs.length = ys.length) (Pv : Nat → St → Hp → Prop) (h0 : Pv 0 σ H) (hq : ∀ i σ H, Pv i σ H → SqL K H a xs ∧ SqL K H b ys)
    (hs : ∀ (i : Nat) (x y : V) (T : Addr) (σ : St) (H : Hp), xs[i]? = some x → ys[i]? = some y → Pv i σ H → H T = none → g (.ref T) σ (upd H T (.tup [x, y])) fun σ2 H2 => tb ⟨Pv (i + 1), rt, n, Pv (i + 1)⟩ σ2 H2) (hd : ∀ σ H, Pv xs.length σ H → n σ H) :
    ∃ W : Nat → Nat → St → Hp → Prop, (∃ m, W 0 m σ H) ∧ ∀ i m σ H, W i m σ H →
      ((Itz K a b).stop i H ∧ n σ H) ∨ ((Itz K a b).go i H ∧ ∃ N : St → Hp → Prop, (∀ σ' H', N σ' H' → ∃ m', m' < m ∧ W (i + 1) m' σ' H') ∧ ∀ v H', (Itz K a b).yld i H v H' → g v σ H' fun σ2 H2 => tb ⟨N, rt, n, N⟩ σ2 H2) :=
  RZ.for_zipL (D := ⟨n, rt, fun _ _ => False, fun _ _ => False⟩) hl Pv h0 hq hs hd
/-- a loop over zip of two lists, as long as the shorter -/
theorem forZm {g : TG} {tb : TS} {n : St → Hp → Prop} {rt : VK} {m : Nat} (hm : m = min xs.length ys.length) (Pv : Nat → St → Hp → Prop) (h0 : Pv 0 σ H) (hq : ∀ i σ H, i ≤ m → Pv i σ H → SqL K H a xs ∧ SqL K H b ys)
    (hs : ∀ (i : Nat) (x y : V) (t : Addr) (σ : St) (H : Hp), i < m → xs[i]? = some x → ys[i]? = some y → Pv i σ H → H t = none → g (.ref t) σ (upd H t (.tup [x, y])) fun σ2 H2 => tb ⟨Pv (i + 1), rt, n, Pv (i + 1)⟩ σ2 H2) (hd : ∀ σ H, Pv m σ H → n σ H) :
    ∃ W : Nat → Nat → St → Hp → Prop, (∃ m, W 0 m σ H) ∧ ∀ i m σ H, W i m σ H →
      ((Itz K a b).stop i H ∧ n σ H) ∨ ((Itz K a b).go i H ∧ ∃ N : St → Hp → Prop, (∀ σ' H', N σ' H' → ∃ m', m' < m ∧ W (i + 1) m' σ' H') ∧ ∀ v H', (Itz K a b).yld i H v H' → g v σ H' fun σ2 H2 => tb ⟨N, rt, n, N⟩ σ2 H2) := by
  refine ⟨fun i k σ H => k = m - i ∧ i ≤ m ∧ Pv i σ H, ⟨m, by simp, Nat.zero_le _, h0⟩, ?_⟩
  rintro i k σ H ⟨rfl, hi, pv⟩
  obtain ⟨q1, q2⟩ := hq i σ H hi pv
  rcases Nat.lt_or_ge i m with hl | hl
  · have l1 : i < xs.length := by omega
    have l2 : i < ys.length := by omega
    refine .inr ⟨⟨xs, ys, _, _, q1, q2, List.getElem?_eq_getElem l1, List.getElem?_eq_getElem l2⟩, Pv (i + 1), fun σ' H' p' => ⟨m - (i + 1), by omega, rfl, hl, p'⟩, ?_⟩
    rintro v H' ⟨t, x, y, rfl, ht, rfl, hx, hy⟩
    exact hs i x y t σ H hl (hx xs q1) (hy ys q2) pv ht
  · obtain rfl : i = m := by omega
    exact .inl ⟨⟨xs, ys, q1, q2, by omega⟩, hd σ H pv⟩
/-! ## a comprehension with two for -/
theorem rd_lc2 {wi : TI} {g : TG} {tt : TT} {wi1 : TI} {g1 : TG} {tt1 : TT} {te : TE} {vs vs1 : List Nat} {Q : VK} (h : wi σ H fun J H1 => ∀ D, H1 D = none → ∃ W : Nat → Nat → Hp → Prop, (∃ m, W 0 m (upd H1 D (.lst []))) ∧ ∀ i m H, W i m H →
  (J.stop i H ∧ Q (.ref D) H) ∨ (J.go i H ∧ ∃ Nx : Hp → Prop, (∀ H', Nx H' → ∃ m', m' < m ∧ W (i + 1) m' H') ∧ ∀ x H', J.yld i H x H' → g x (wipe σ vs) H' fun σ2 H2 => wipe σ2 vs = wipe σ vs ∧ tt σ2 H2 fun b H3 =>
    if b = true then wi1 σ2 H3 fun J1 H4 => ∃ W1 : Nat → Nat → Hp → Prop, (∃ m, W1 0 m H4) ∧ ∀ j k H, W1 j k H →
      (J1.stop j H ∧ Nx H) ∨ (J1.go j H ∧ ∃ Nx1 : Hp → Prop, (∀ H', Nx1 H' → ∃ k', k' < k ∧ W1 (j + 1) k' H') ∧ ∀ x H', J1.yld j H x H' → g1 x (wipe σ2 vs1) H' fun σ3 H5 => wipe σ3 vs1 = wipe σ2 vs1 ∧ tt1 σ3 H5 fun b H6 =>
        if b = true then te σ3 H6 fun y H7 => ∃ acc, H7 D = some (.lst acc) ∧ acc.length < sizeLine ∧ Nx1 (upd H7 D (.lst (acc ++ [y]))) else Nx1 H6)
    else Nx H3)) : tLc2 wi g tt wi1 g1 tt1 te vs vs1 σ H Q := h
/-- its outer and its inner walk, both over tuples: BB is what follows the tests -/
theorem lcG {g : TG} {tt : TT} {vs : List Nat} {Qd : Hp → Prop} {BB : (Hp → Prop) → St → Hp → Prop} (Pv : Nat → Hp → Prop) (h0 : Pv 0 H) (hl : ∀ i H, i ≤ xs.length → Pv i H → SqT K H a xs)
    (hs : ∀ i x H, xs[i]? = some x → Pv i H → g x (wipe σ vs) H fun σ2 H2 => wipe σ2 vs = wipe σ vs ∧ tt σ2 H2 fun b H3 => if b = true then BB (Pv (i + 1)) σ2 H3 else Pv (i + 1) H3) (hd : ∀ H, Pv xs.length H → Qd H) :
    ∃ W : Nat → Nat → Hp → Prop, (∃ m, W 0 m H) ∧ ∀ i m H, W i m H →
      ((Itt K a).stop i H ∧ Qd H) ∨ ((Itt K a).go i H ∧ ∃ Nx : Hp → Prop, (∀ H', Nx H' → ∃ m', m' < m ∧ W (i + 1) m' H') ∧ ∀ x H', (Itt K a).yld i H x H' → g x (wipe σ vs) H' fun σ2 H2 => wipe σ2 vs = wipe σ vs ∧ tt σ2 H2 fun b H3 =>
        if b = true then BB Nx σ2 H3 else Nx H3) := by
  refine ⟨fun i m H => m = xs.length - i ∧ i ≤ xs.length ∧ Pv i H, ⟨xs.length, by simp, Nat.zero_le _, h0⟩, ?_⟩
  rintro i m H ⟨rfl, hi, pv⟩
  have sq := hl i H hi pv
  rcases Nat.lt_or_ge i xs.length with hlt | hlt
  · refine .inr ⟨⟨xs, _, sq, List.getElem?_eq_getElem hlt⟩, Pv (i + 1), fun H' p' => ⟨xs.length - (i + 1), by omega, rfl, hlt, p'⟩, fun x H' y => ?_⟩
    obtain ⟨e1, e2⟩ := y
    subst e1
    exact hs i x _ (e2 xs sq) pv
  · obtain rfl : i = xs.length := by omega
    exact .inl ⟨⟨xs, sq, Nat.le_refl _⟩, hd H pv⟩
end
end Mine

/-! ### KitB -/
namespace Mine
open PySem PySem.Spec L2
section
variable {K : PySem.W.Frag} {σ : St} {H : Hp} {Q : VK}
/-- a loop over a range with a step -/
theorem forC {lo c : Int} {m : Nat} {g : TG} {tb : TS} {n : St → Hp → Prop} {rt : VK} (Pv : Nat → St → Hp → Prop) (h0 : Pv 0 σ H)
    (hs : ∀ i σ H, i < m → Pv i σ H → g (.int (lo + (i : Nat) * c)) σ H fun σ2 H2 => tb ⟨Pv (i + 1), rt, n, Pv (i + 1)⟩ σ2 H2) (hd : ∀ σ H, Pv m σ H → n σ H) :
    ∃ W : Nat → Nat → St → Hp → Prop, (∃ m, W 0 m σ H) ∧ ∀ i k σ H, W i k σ H →
      ((Itc lo c m).stop i H ∧ n σ H) ∨ ((Itc lo c m).go i H ∧ ∃ N : St → Hp → Prop, (∀ σ' H', N σ' H' → ∃ m', m' < k ∧ W (i + 1) m' σ' H') ∧ ∀ x H', (Itc lo c m).yld i H x H' → g x σ H' fun σ2 H2 => tb ⟨N, rt, n, N⟩ σ2 H2) :=
  for_rangeC (D := ⟨n, rt, fun _ _ => False, fun _ _ => False⟩) Pv h0 hs hd
theorem rd_revR {tr : St → Hp → (Int → Int → Hp → Prop) → Prop} {R : It → Hp → Prop} (h : tr σ H fun a b H1 => -(2 ^ 62) ≤ a ∧ a < 2 ^ 62 ∧ -(2 ^ 62) ≤ b ∧ b < 2 ^ 62 ∧ R (Itc (a + (((b - a).toNat : Nat) : Int) - 1) (-1) (b - a).toNat) H1) : iRevR tr σ H R := h
theorem rd_rg1 {ta : TE} {R : Int → Int → Hp → Prop} (h : ta σ H fun x H1 => ∃ n, x = .int n ∧ R 0 n H1) : tRg1 ta σ H R := h
theorem rd_rng3 {t : TA} {R : It → Hp → Prop} (h : t σ H fun vs H1 => ∃ (i j c : Int) (n : Nat), vs = [.int i, .int j, .int c] ∧ RgC i j c n ∧ R (Itc i c n) H1) : iRng3 t σ H R := h
theorem rep_one : ∀ (n : Nat) (v : V), (List.replicate n [v]).flatten = List.replicate n v
  | 0, _ => rfl
  | n + 1, v => by rw [List.replicate_succ, List.flatten_cons, rep_one n v] <;> rfl
theorem u_rep1 {l : Addr} {v : V} {n : Nat} (h : H l = some (.lst [v])) (hn : n ≤ 1000) (q : ∀ p, H p = none → Q (.ref p) (upd H p (.lst (List.replicate n v)))) : rMulU K (.ref l) (.int (n : Nat)) H Q := by
  refine .inr (.inl ⟨l, n, [v], rfl, rfl, h, by omega, by omega, ?_, fun p hp => ?_⟩)
  · show 1 * ((n : Int).toNat) ≤ sizeLine
    exact Nat.le_trans (show 1 * ((n : Int).toNat) ≤ 1000000 by omega) (by decide)
  · rw [Int.toNat_natCast, rep_one]
    exact q p hp
end
end Mine

/-! ### KitC -/
/-! ## a tuple once -/
namespace HE
open PySem PySem.Spec PyProof.Rows L2
theorem once (q : Addr) (vs : Array Value) (ep : Nat) (dc : Option Addr) (ss : Array (Option Value)) (tk : Tok) (ne : vs.isEmpty = false) :
    Meets (Builtin.«tuple.__mul__» ⟨[.ref q, .int 1 tk], []⟩) (fun _ Z st => st.heap.get? q = some { cls := .type "tuple", dict := dc, data := .seq vs ep, slots := ss } ∧ Z (.ok (.ret (.ref q))) st) := by
  refine .of_wp fun pr w2 A2 Z st hst => ?_
  obtain ⟨h0, gg, dd, tt, oo⟩ := st
  obtain ⟨hq, hz⟩ := hst
  have ix := AutoSeq1.idx_int
  wp_walk using wpAny_loadPart' hq
  exact ⟨_, rfl, hz⟩
def rRep1 (K : PySem.W.Frag) : R2 := fun x y H Q => ∃ l xs, x = .ref l ∧ y = .int 1 ∧ SqT K H l xs ∧ xs ≠ [] ∧ Q (.ref l) H
theorem op_rep1 {X : Cx} : OpR X (binaryOp .Mult) (rRep1 X.K) := by
  intro pins s σ H x y v u Q I rx ry h
  obtain ⟨l, xs, rfl, rfl, hT, hne, q⟩ := h
  cases rx
  obtain ⟨t, rfl⟩ := ry
  obtain ⟨its, r, ⟨⟨cls, dd, data, sl⟩, ho, hc, n, hd⟩, hs⟩ := I.tuple hT
  simp only at hc hd
  subst hc hd
  have hi : its.toArray.isEmpty = false := by
    cases r with
    | nil => exact absurd rfl hne
    | cons a b => rfl
  exact wpAny_binaryOp_repeat_ref (T := "tuple") (U := "int") (by decide) ⟨_, ho, rfl⟩ (fun s' => typeIs_int s' 1 t) noFill_tuple_mul F.fills_int_mul F.slot_int_rmul repeat_tuple F.slot_int_index.lookup
    (call_meets F.slot_int_rmul (typeIs_int s 1 t) F.entry_int_rmul (F.args_int_rmul_2 _ _) (int_rmul_tuple 1 t l its.toArray n dd sl)
      ⟨ho, rfl, ⟨_, ho, rfl⟩, call_meets F.slot_tuple_mul ⟨_, ho, rfl⟩ F.entry_tuple_mul (F.args_tuple_mul_2 _ _) (once l its.toArray n dd sl t hi) ⟨ho, ⟨.ref l, H, I, rfl, q⟩⟩⟩)
end HE
namespace Mine
open PySem PySem.Spec L2
def rMulV (K : PySem.W.Frag) : R2 := fun x y H Q => rMulU K x y H Q ∨ HE.rRep1 K x y H Q
theorem kMulV {X : Cx} (K : PySem.W.Frag) (h : X.K = K := by rfl) : OpR X (binaryOp .Mult) (rMulV K) := by subst h; exact mulU.or HE.op_rep1
/-- a tuple of one some times -/
theorem u_rowOf {K : PySem.W.Frag} {H : Hp} {Q : VK} {l : Addr} {v : V} {k : Int} (h : SqT K H l [v]) (h1 : 1 ≤ k) (h2 : k ≤ 1000) (q : ∀ p H', Same H H' → SqT K H' p (List.replicate k.toNat v) → Q (.ref p) H') : rMulV K (.ref l) (.int k) H Q := by
  by_cases c : k = 1
  · subst c
    exact .inr ⟨l, [v], rfl, rfl, h, by simp, q l H (Same.refl H) h⟩
  · refine .inl (.inr (.inr ⟨l, k, [v], rfl, rfl, h, by simp, by omega, h2, by simp, fun p hp => q p _ (same_new hp _) ?_⟩))
    rw [rep_one]
    exact SqT.of upd_same
end Mine

/-! ### KitD -/
namespace HE
open PySem PySem.Spec PyProof.Rows L2
section
variable {X : Cx}
/-- xs[i] op= y: what is read of a list -/
theorem get_list : PGet X (rIxL X.K) := by
  intro pins s σ H x y v u Q I rx ry h
  obtain ⟨p, xs, i, z, rfl, rfl, hq, he, q⟩ := h
  cases rx
  obtain ⟨t, rfl⟩ := ry
  obtain ⟨its, r, pl, hz⟩ := I.list hq
  obtain ⟨j, h1, h2, h3, h4, h5⟩ := atI_get he
  obtain ⟨w, ew, rw'⟩ := r.get h2
  have hl := r.length
  have hn := line63
  have fin : EP X pins σ Q w s := ⟨z, H, I, rw', q⟩
  by_cases h0 : 0 ≤ i
  · have hj : i.toNat = j := by
      rw [seqIndex_of h0 h5] at h1
      exact Option.some.inj h1
    exact wpAny_getItem_list pl.isList h0 (by omega) (by rw [hj]; simpa using ew) fin
  · have hj : (i + (its.toArray.size : Int)).toNat = j := by
      rw [seqIndex_neg (by omega) h4] at h1
      rw [List.size_toArray, ← hl]
      exact Option.some.inj h1
    exact wpAny_getItem_list_neg pl.isList (by omega) (by rw [List.size_toArray] <;> omega) (by omega) (by rw [hj]; simpa using ew) fin
theorem kGetL {X : Cx} (K : PySem.W.Frag) (h : X.K = K := by rfl) : PGet X (rIxL K) := by subst h; exact get_list
theorem rd_augS {to ti te : TE} {tget : V → V → Hp → VK → Prop} {tip : TIp} {tset : TSet} {D : Ends} {σ : L2.St} {H : Hp} (h : to σ H fun o H1 => ti σ H1 fun i H2 => tget o i H2 fun x H3 => te σ H3 fun y H4 => tip x y H4 fun z H5 => tset o i z H5 fun H6 => D.nx σ H6) : tAugS to ti te tget tip tset D σ H := h
end
end HE

/-! ### KitE -/
namespace HE
open PySem PySem.Spec PyProof.Rows L2
/-- t.index(i) of a tuple of ints -/
def rTix (K : PySem.W.Frag) : V → List V → Hp → VK → Prop := fun x vs H Q => ∃ (a : Addr) (ns : List Int) (k : Int), x = .ref a ∧ vs = [.int k] ∧ SqT K H a (ns.map V.int) ∧ k ∈ ns ∧ Q (.int (ns.idxOf k : Nat)) H
theorem mt_tix {X : Cx} : MtR X "tuple.index" (rTix X.K) := by
  intro pins s σ H x vs v us Q I rx rv h
  obtain ⟨a, ns, k, rfl, rfl, hs, hk, q⟩ := h
  cases rx
  obtain ⟨u, rfl, ru⟩ := rv.one
  obtain ⟨t, rfl⟩ := ru
  obtain ⟨its, r, pt, hz⟩ := I.tuple hs
  have hT : s.heap.IsTuple a its.toArray := pt
  exact PySem.SeqAt.tuple_index_ints hT r.ints hk ⟨.int _, H, I.kept (t' := s.toks + 1) (fun _ _ e => e), ⟨_, rfl⟩, q⟩
end HE
namespace Mine
open PySem PySem.Spec L2
theorem kTix {X : Cx} (K : PySem.W.Frag) (h : X.K = K := by rfl) : MtR X "tuple.index" (HE.rTix K) := by subst h; exact HE.mt_tix
variable {K : PySem.W.Frag} {σ : St} {H : Hp} {Q : VK} {a : Addr} {xs : List V}
theorem u_tix {ns : List Int} {k : Int} (s : SqT K H a (ns.map V.int)) (hk : k ∈ ns) (h : Q (.int (ns.idxOf k : Nat)) H) : HE.rTix K (.ref a) [.int k] H Q := ⟨a, ns, k, rfl, rfl, s, hk, h⟩
theorem rd_dc {wi : TI} {g : TG} {tt : TT} {tk tv : TE} {vs : List Nat} (h : wi σ H fun J H1 => ∀ D, H1 D = none → ∃ W : Nat → Nat → Hp → Prop, (∃ m, W 0 m (upd H1 D (.dK []))) ∧ ∀ i m H, W i m H →
  (J.stop i H ∧ Q (.ref D) H) ∨ (J.go i H ∧ ∃ Nx : Hp → Prop, (∀ H', Nx H' → ∃ m', m' < m ∧ W (i + 1) m' H') ∧ ∀ x H', J.yld i H x H' → g x (wipe σ vs) H' fun σ2 H2 => wipe σ2 vs = wipe σ vs ∧ tt σ2 H2 fun b H3 =>
    if b = true then tk σ2 H3 fun y H4 => tv σ2 H4 fun z H5 => ∃ kvs k, y = kV k ∧ H5 D = some (.dK kvs) ∧ kvs.length < sizeLine ∧ Nx (upd H5 D (.dK (putK kvs k z))) else Nx H3)) : tDc wi g tt tk tv vs σ H Q := h
/-- a dict comprehension over enumerate of a tuple -/
theorem dcET {g : TG} {tt : TT} {tk tv : TE} {vs : List Nat} {H1 : Hp} {D : Addr} {Qd : Hp → Prop} (Pv : Nat → Hp → Prop) (h0 : Pv 0 (upd H1 D (.dK []))) (hl : ∀ i H, i ≤ xs.length → Pv i H → SqT K H a xs)
    (hs : ∀ (i : Nat) (x : V) (t : Addr) (H : Hp), xs[i]? = some x → Pv i H → H t = none → g (.ref t) (wipe σ vs) (upd H t (.tup [.int (i : Nat), x])) fun σ2 H2 => wipe σ2 vs = wipe σ vs ∧ tt σ2 H2 fun b H3 =>
      if b = true then tk σ2 H3 fun y H4 => tv σ2 H4 fun z H5 => ∃ kvs k, y = kV k ∧ H5 D = some (.dK kvs) ∧ kvs.length < sizeLine ∧ Pv (i + 1) (upd H5 D (.dK (putK kvs k z))) else Pv (i + 1) H3) (hd : ∀ H, Pv xs.length H → Qd H) :
    ∃ W : Nat → Nat → Hp → Prop, (∃ m, W 0 m (upd H1 D (.dK []))) ∧ ∀ i m H, W i m H →
      ((HE.IteT K a).stop i H ∧ Qd H) ∨ ((HE.IteT K a).go i H ∧ ∃ Nx : Hp → Prop, (∀ H', Nx H' → ∃ m', m' < m ∧ W (i + 1) m' H') ∧ ∀ x H', (HE.IteT K a).yld i H x H' → g x (wipe σ vs) H' fun σ2 H2 => wipe σ2 vs = wipe σ vs ∧ tt σ2 H2 fun b H3 =>
        if b = true then tk σ2 H3 fun y H4 => tv σ2 H4 fun z H5 => ∃ kvs k, y = kV k ∧ H5 D = some (.dK kvs) ∧ kvs.length < sizeLine ∧ Nx (upd H5 D (.dK (putK kvs k z))) else Nx H3) := by
  refine ⟨fun i m H => m = xs.length - i ∧ i ≤ xs.length ∧ Pv i H, ⟨xs.length, by simp, Nat.zero_le _, h0⟩, ?_⟩
  rintro i m H ⟨rfl, hi, p⟩
  have q := hl i H hi p
  by_cases hlt : i < xs.length
  · refine .inr ⟨⟨xs, xs[i], q, by simp [hlt]⟩, Pv (i + 1), fun H' p' => ⟨xs.length - (i + 1), by omega, rfl, hlt, p'⟩, ?_⟩
    rintro v H' ⟨t, x, rfl, ht, rfl, hx⟩
    exact hs i x t H (hx xs q) p ht
  · have e : i = xs.length := by omega
    subst e
    exact .inl ⟨⟨xs, q, Nat.le_refl _⟩, hd H p⟩
theorem u_maxL {ns : List Int} (s : SqL K H a (ns.map V.int)) (l : 0 < ns.length) (h : ∀ m, m ∈ ns → (∀ y, y ∈ ns → y ≤ m) → Q (.int m) H) : rMax K [.ref a] H Q := ⟨a, ns, rfl, s, l, h⟩
theorem u_minL {ns : List Int} (s : SqL K H a (ns.map V.int)) (l : 0 < ns.length) (h : ∀ m, m ∈ ns → (∀ y, y ∈ ns → m ≤ y) → Q (.int m) H) : rMin K [.ref a] H Q := ⟨a, ns, rfl, s, l, h⟩
end Mine
namespace HE
open PySem PySem.Spec PyProof.Rows L2
variable {X : Cx}
/-- is, is not: two bools -/
def rIsB : R2 := fun x y H Q => ∃ a b, x = .bl a ∧ y = .bl b ∧ Q (.bl (decide (a = b))) H
def rNotB : R2 := fun x y H Q => ∃ a b, x = .bl a ∧ y = .bl b ∧ Q (.bl (!decide (a = b))) H
theorem op_isB : OpR X (compareOp .Is) rIsB := by
  intro pins s σ H x y v u Q I rx ry h
  obtain ⟨a, b, rfl, rfl, q⟩ := h
  cases rx
  cases ry
  show wpAny _ _ ((isSame (Value.bool a) (Value.bool b)) >>= fun z => pure (Value.bool z)) _ _ s
  exact wpAny_bind (wpAny_isSame_plain rfl (wpAny_pure (fin_bl I q (by cases a <;> cases b <;> rfl))))
theorem op_notB : OpR X (compareOp .IsNot) rNotB := by
  intro pins s σ H x y v u Q I rx ry h
  obtain ⟨a, b, rfl, rfl, q⟩ := h
  cases rx
  cases ry
  show wpAny _ _ ((isSame (Value.bool a) (Value.bool b)) >>= fun z => pure (Value.bool (!z))) _ _ s
  exact wpAny_bind (wpAny_isSame_plain rfl (wpAny_pure (fin_bl I q (by cases a <;> cases b <;> rfl))))
end HE
namespace Mine
open PySem PySem.Spec L2
variable {H : Hp} {Q : VK}
theorem u_isB {a b : Bool} (h : Q (.bl (decide (a = b))) H) : HE.rIsB (.bl a) (.bl b) H Q := ⟨a, b, rfl, rfl, h⟩
theorem u_notB {a b : Bool} (h : Q (.bl (!decide (a = b))) H) : HE.rNotB (.bl a) (.bl b) H Q := ⟨a, b, rfl, rfl, h⟩
end Mine

/-! ## tuples whose object is known -/
namespace HE
open PySem PySem.Spec PyProof.Rows L2
/-- a tuple without a dict -/
def FT (H : Hp) (a : Addr) (xs : List V) : Prop := ∃ o, H a = some (.frz o (.tup xs)) ∧ o.dict = none
theorem FT.sq {K : PySem.W.Frag} {H : Hp} {a : Addr} {xs : List V} (h : FT H a xs) : SqT K H a xs := .inl (.inr ⟨h.choose, h.choose_spec.1⟩)
variable {X : Cx} {e o : Expr} {es : List Expr} {to : TE} {t : TA} {name : Str} {apos cpos pos : Pos} {id : String} {r : V → List V → Hp → VK → Prop}
def tBMt (r : V → List V → Hp → VK → Prop) (to : TE) (t : TA) : TE := fun σ H Q => to σ H fun x H1 => (∃ a xs, x = .ref a ∧ FT H1 a xs) ∧ t σ H1 fun xs H2 => r x xs H2 Q
theorem pe_bmT (pa : PlainAttrs "tuple") (slot : Slot "tuple" name id) (hty : typeOf (.builtin id) = pure (.type "method_descriptor")) (hm : MtR X id r) (ho : PE X o to) (ha : PA X (e :: es) t)
    (hbase : attributeBase o name X.env (eval o X.env) = eval o X.env := by rfl)
    (hfew : ((backTo cpos (starEach (e :: es) X.env)).all (fun x => !x.1) && (backToKw cpos (keywordEach [] X.env)).all (fun x => x.1.isSome)
      && decide ((e :: es).length + ([] : List Keyword).length + (if ([] : List Keyword).isEmpty then 0 else 1) < 30)) = true := by rfl)
    (hline : (apos.endLine == cpos.line) = true := by rfl) (hs : starEach (e :: es) X.env = (false, eval e X.env) :: starEach es X.env := by rfl) (hplain : (backTo cpos (starEach es X.env)).any (·.1) = false := by rfl) :
    PE X (.Call (.Attribute o name apos) (e :: es) [] cpos) (tBMt r to t) := by
  refine ⟨fun pins s σ H Q I h => ?_⟩
  refine wpAny_Call_method_late hbase hfew hline rfl (thn (ho.run pins s σ H _ I h) fun v s1 ⟨x, H1, I1, r1, ty, q1⟩ => ?_)
  obtain ⟨a, xs, rfl, ob, e1, e2⟩ := ty
  cases r1
  obtain ⟨e3, _, its, _, p1⟩ := (show ObjOk X.prog X.w H1 s1.heap a (.frz ob (.tup xs)) from I1.hok a _ e1)
  refine ⟨"tuple", id, pa, slot, hty, IsTup.typeIs p1, (fun a' e' => by cases e'; exact ⟨ob, e3, e2⟩), ?_⟩
  have hA := ha.run cpos pins s1 σ H1 _ I1 q1
  rw [hs] at hA ⊢
  refine Calls.callWith_builtin (by show (false || (backTo cpos (starEach es X.env)).any (·.1)) = false; rw [hplain] <;> rfl) (Calls.evalArgs_plain ?_)
  exact thn hA fun us s2 ⟨vs, H2, I2, r2, q2⟩ => hm pins s2 σ H2 (.ref a) vs _ us Q I2 rfl r2 q2
/-- a display -/
def tTupF (t : TA) : TE := fun σ H Q => t σ H fun xs H1 => xs.length ≤ sizeLine ∧ ∀ p o, H1 p = none → o.dict = none → Q (.ref p) (upd H1 p (.frz o (.tup xs)))
theorem pe_tupF {x1} (h : PA X es t) : PE X (.Tuple es x1 pos) (tTupF t) := by
  refine ⟨fun pins s σ H Q I hq => ?_⟩
  refine wpAny_Tuple_spliced (thn (h.run pos pins s σ H _ I hq) fun us s1 ⟨xs, H1, I1, r, z, q⟩ => ⟨by rw [← r.length]; exact z, ?_⟩)
  have hf : H1 s1.heap.objs.size = none := I1.hok.fresh (Nat.le_refl _)
  refine ⟨.ref s1.heap.objs.size, upd H1 s1.heap.objs.size (.frz { cls := .type "tuple", data := .seq us.toArray } (.tup xs)), I1.laid (t' := s1.toks) (fun b u e => Heap.get?_push_of_some _ e) (Nat.le_refl _) ?_, rfl, q _ _ hf rfl⟩
  exact ⟨Heap.get?_push_size _ rfl, z, us, r, ⟨_, Heap.get?_push_size _ rfl, rfl, _, rfl⟩⟩
/-- tuple(xs) of a list -/
def rTupF (K : PySem.W.Frag) : List V → Hp → VK → Prop := fun xs H Q => ∃ p ys, xs = [.ref p] ∧ SqL K H p ys ∧ ∀ l o, H l = none → o.dict = none → Q (.ref l) (upd H l (.frz o (.tup ys)))
theorem call_tupF : CallR X (.type "tuple") (rTupF X.K) := by
  intro pins s σ H xs us Q I r h
  obtain ⟨p, ys, rfl, hq, q⟩ := h
  obtain ⟨u, rfl, rx⟩ := vals1 r
  cases rx
  obtain ⟨its, r', pl, hz⟩ := I.list hq
  have hlen := r'.length
  refine call_tuple_list pl.isList (fun h' kp => ?_) (by simp only [List.size_toArray] <;> omega)
  have I1 : Inv X pins σ H { s with heap := h' } := I.kept (t' := s.toks) kp
  have I2 : Inv X pins σ (upd H h'.objs.size (.frz { cls := .type "tuple", data := .seq its.toArray } (.tup ys))) { s with heap := h'.push { cls := .type "tuple", data := .seq its.toArray } } :=
    I1.laid (t' := s.toks) (fun b o e => Heap.get?_push_of_some _ e) (Nat.le_refl _) (show ObjOk X.prog X.w _ _ _ (.frz { cls := .type "tuple", data := .seq its.toArray } (.tup ys)) from ⟨Heap.get?_push_size _ rfl, hz, its, r', IsTup.new _ _⟩)
  exact ⟨.ref h'.objs.size, _, I2, rfl, q _ _ (I1.hok.fresh (Nat.le_refl _)) rfl⟩
/-- a + b -/
def rCatF (K : PySem.W.Frag) : R2 := fun x y H Q => ∃ a b xs ys, x = .ref a ∧ y = .ref b ∧ SqT K H a xs ∧ SqT K H b ys ∧ xs.length + ys.length ≤ sizeLine ∧
  (xs = [] → Q (.ref b) H) ∧ (xs ≠ [] → ys = [] → Q (.ref a) H) ∧ (xs ≠ [] → ys ≠ [] → ∀ p o, H p = none → o.dict = none → Q (.ref p) (upd H p (.frz o (.tup (xs ++ ys)))))
theorem op_catF : OpR X (binaryOp .Add) (rCatF X.K) := by
  intro pins s σ H x y v u Q I rx ry h
  obtain ⟨a, b, xs, ys, rfl, rfl, ha, hb, hz, q0, q1, q2⟩ := h
  by_cases hx : xs = []
  · subst hx
    exact op_catA pins s σ H _ _ v u Q I rx ry ⟨a, b, [], ys, rfl, rfl, ha, hb, hz, q0, fun z => absurd rfl z, fun z => absurd rfl z⟩
  cases rx
  cases ry
  obtain ⟨its, r1, p1, _⟩ := I.tuple ha
  obtain ⟨its2, r2, p2, _⟩ := I.tuple hb
  refine HT.cat_tup p1 p2 (fun z => hx (r1.nil_iff.mp z)) (fun z => ⟨.ref a, H, I, rfl, q1 hx (r2.nil_iff.mp z)⟩) (fun z => ?_) (by rw [← r1.length, ← r2.length]; exact hz)
  refine ⟨.ref s.heap.objs.size, _, I.laid (t' := s.toks) (o := .frz { cls := .type "tuple", data := .seq (its ++ its2).toArray } (.tup (xs ++ ys))) (fun b ob q => Heap.get?_push_of_some _ q) (Nat.le_refl _) ?_, rfl, q2 hx (fun w => z (r2.nil_iff.mpr w)) _ _ (I.hok.fresh (Nat.le_refl _)) rfl⟩
  exact ⟨Heap.get?_push_size _ rfl, by rw [List.length_append]; exact hz, _, r1.append r2, IsTup.new _ _⟩
end HE
namespace Mine
open PySem PySem.Spec L2
theorem kTupF {X : Cx} (K : PySem.W.Frag) (h : X.K = K := by rfl) : CallR X (.type "tuple") (HE.rTupF K) := by subst h; exact HE.call_tupF
theorem kCatF {X : Cx} (K : PySem.W.Frag) (h : X.K = K := by rfl) : OpR X (binaryOp .Add) (HE.rCatF K) := by subst h; exact HE.op_catF
variable {K : PySem.W.Frag} {σ : St} {H : Hp} {Q : VK} {a b : Addr} {xs ys : List V}
theorem rd_tupF {t : TA} (h : t σ H fun xs H1 => xs.length ≤ sizeLine ∧ ∀ p o, H1 p = none → o.dict = none → Q (.ref p) (upd H1 p (.frz o (.tup xs)))) : HE.tTupF t σ H Q := h
theorem rd_bmT {r : V → List V → Hp → VK → Prop} {te : TE} {t : TA} (h : te σ H fun x H1 => (∃ a xs, x = .ref a ∧ HE.FT H1 a xs) ∧ t σ H1 fun xs H2 => r x xs H2 Q) : HE.tBMt r te t σ H Q := h
theorem rd_tyF {R : Prop} (s : HE.FT H a xs) (h : R) : (∃ a' xs', V.ref a = .ref a' ∧ HE.FT H a' xs') ∧ R := ⟨⟨a, xs, rfl, s⟩, h⟩
theorem FTmk {o : Obj} (h : o.dict = none) : HE.FT (upd H a (.frz o (.tup xs))) a xs := ⟨o, upd_same, h⟩
theorem FT.same {H' : Hp} (h : HE.FT H a xs) (s : Same H H') : HE.FT H' a xs := by
  obtain ⟨o, e, d⟩ := h
  exact ⟨o, s _ _ e, d⟩
theorem FT.sb {H' : Hp} (h : HE.FT H a xs) (s : SB b H H') (n : a ≠ b) : HE.FT H' a xs := by
  obtain ⟨o, e, d⟩ := h
  exact ⟨o, s _ _ n e, d⟩
theorem u_tupF (s : SqL K H a xs) (h : ∀ q H', Same H H' → HE.FT H' q xs → Q (.ref q) H') : HE.rTupF K [.ref a] H Q := ⟨a, xs, rfl, s, fun l o hl ho => h l _ (same_new hl _) (FTmk ho)⟩
theorem u_catF (ha : SqT K H a xs) (hb : HE.FT H b ys) (n : ys ≠ []) (l : xs.length + ys.length ≤ sizeLine) (h : ∀ q H', Same H H' → HE.FT H' q (xs ++ ys) → Q (.ref q) H') : HE.rCatF K (.ref a) (.ref b) H Q :=
  ⟨a, b, xs, ys, rfl, rfl, ha, hb.sq, l, fun e => h _ _ (Same.refl H) (by rw [e]; exact hb), fun _ e => absurd e n, fun _ _ p o hp ho => h p _ (same_new hp _) (FTmk ho)⟩
theorem u_catG (ha : HE.FT H a xs) (hb : SqT K H b ys) (n : xs ≠ []) (l : xs.length + ys.length ≤ sizeLine) (h : ∀ q H', Same H H' → HE.FT H' q (xs ++ ys) → Q (.ref q) H') : HE.rCatF K (.ref a) (.ref b) H Q :=
  ⟨a, b, xs, ys, rfl, rfl, ha.sq, hb, l, fun e => absurd e n, fun _ e => h _ _ (Same.refl H) (by rw [e, List.append_nil]; exact ha), fun _ _ p o hp ho => h p _ (same_new hp _) (FTmk ho)⟩
end Mine

/-! ### KitF -/
namespace HE
open PySem PySem.Spec PyProof.Rows L2
variable {X : Cx}
/-- repr of a bool -/
def rRepB : List V → Hp → VK → Prop := fun xs H Q => ∃ b, xs = [.bl b] ∧ Q (.str (if b then "True" else "False")) H
theorem call_repr_bool : CallR X (.builtin "repr") rRepB := by
  intro pins s σ H xs us Q I r h
  obtain ⟨b, rfl, q⟩ := h
  obtain ⟨u, rfl, ru⟩ := vals1 r
  cases ru
  exact PySem.P.repr_of_bool ⟨.str _, H, I.tok _, ⟨_, rfl⟩, q⟩
end HE
namespace Mine
open PySem PySem.Spec L2
variable {K : PySem.W.Frag} {H : Hp} {Q : VK} {a : Addr} {xs : List V}
theorem u_repB {b : Bool} (h : Q (.str (if b then "True" else "False")) H) : HE.rRepB [.bl b] H Q := ⟨b, rfl, h⟩
theorem u_ninT {x : V} (s : SqT K H a xs) (fx : flatV x = true) (fxs : xs.all flatV = true) (h : Q (.bl (!inV x xs)) H) : rNotInU K x (.ref a) H Q := .inl ⟨a, xs, rfl, .inr s, fx, fxs, h⟩
theorem u_ninL {x : V} (s : SqL K H a xs) (fx : flatV x = true) (fxs : xs.all flatV = true) (h : Q (.bl (!inV x xs)) H) : rNotInU K x (.ref a) H Q := .inl ⟨a, xs, rfl, .inl s, fx, fxs, h⟩
/-- a list comprehension over enumerate of a list, as a loop -/
theorem forEL {g : TG} {tb : TS} {n : St → Hp → Prop} {rt : VK} {σ : St} (Pv : Nat → St → Hp → Prop) (h0 : Pv 0 σ H) (hq : ∀ i σ H, i ≤ xs.length → Pv i σ H → SqL K H a xs)
    (hs : ∀ (i : Nat) (x : V) (t : Addr) (σ : St) (H : Hp), xs[i]? = some x → Pv i σ H → H t = none → g (.ref t) σ (upd H t (.tup [.int (i : Nat), x])) fun σ2 H2 => tb ⟨Pv (i + 1), rt, n, Pv (i + 1)⟩ σ2 H2) (hd : ∀ σ H, Pv xs.length σ H → n σ H) :
    ∃ W : Nat → Nat → St → Hp → Prop, (∃ m, W 0 m σ H) ∧ ∀ i m σ H, W i m σ H →
      ((Ite K a).stop i H ∧ n σ H) ∨ ((Ite K a).go i H ∧ ∃ N : St → Hp → Prop, (∀ σ' H', N σ' H' → ∃ m', m' < m ∧ W (i + 1) m' σ' H') ∧ ∀ v H', (Ite K a).yld i H v H' → g v σ H' fun σ2 H2 => tb ⟨N, rt, n, N⟩ σ2 H2) := by
  refine ⟨fun i m σ H => m = xs.length - i ∧ i ≤ xs.length ∧ Pv i σ H, ⟨xs.length, by simp, Nat.zero_le _, h0⟩, ?_⟩
  rintro i m σ H ⟨rfl, hi, pv⟩
  have sq := hq i σ H hi pv
  rcases Nat.lt_or_ge i xs.length with hl | hl
  · refine .inr ⟨⟨xs, _, sq, List.getElem?_eq_getElem hl⟩, Pv (i + 1), fun σ' H' p' => ⟨xs.length - (i + 1), by omega, rfl, hl, p'⟩, ?_⟩
    rintro v H' ⟨t, x, rfl, ht, rfl, hx⟩
    exact hs i x t σ H (hx xs sq) pv ht
  · have : i = xs.length := by omega
    subst this
    exact .inl ⟨⟨xs, sq, Nat.le_refl _⟩, hd σ H pv⟩
end Mine

/-! ### KitL -/
set_option maxHeartbeats 2000000
/-! sorted(xs, key=lambda x: x[1] - x[0]) -/
namespace HE
open PySem PySem.Spec PyProof.Rows L2 LamX
/-- x[1] - x[0] -/
def falB (a : Str) (j1 j2 : Nat) (q1 q2 q3 q4 q5 q6 q7 : Pos) : Expr := .BinOp (.Subscript (.Name a q1) (.Constant (.int 1) j1 q2) q3) .Sub (.Subscript (.Name a q4) (.Constant (.int 0) j2 q5) q6) q7
theorem at_tuple {prog : Program} {w : World} {A : Around} {E : Value → Shared → Prop} {s : Shared} {t : Addr} {its : List Value} {v : Value} {i : Int} {k : Tok} {j : Nat} {e1 e2 : Expr} {Q : Value → Shared → Prop} (pl : IsTup s.heap t its.toArray) (hi : i = (j : Int)) (hl : its.length ≤ sizeLine) (hj : its[j]? = some v) (hs : NoSl e2) (h : Q v s) :
    wpAny (model prog w) A (subscriptTail e1 e2 (.ref t) (.int i k)) Q E s := by
  subst hi
  have hn := line63
  have hjl : j < its.length := (List.getElem?_eq_some_iff.mp hj).1
  exact subscriptTail_builtinR (x := v) pl.typeIs slot_tuple_getitem.lookup
    (getItem_tuple (j := j) (Q := fun r s' => r = v ∧ Q r s') pl (by omega) (by omega) (by rw [List.size_toArray]; exact seqIndex_of (by omega) (by omega)) (by simpa using hj) ⟨rfl, h⟩) (hs _ _)
/-- one call of the key -/
theorem key_turn {prog : Program} {w : World} {A : Around} {s : Shared} {f c' t : Addr} {qual a : Str} {params : Arguments} {scope : Scope} {pm ctv : Value} {its : List Value} {u0 u1 : Int} {t0 t1 : Tok} {j1 j2 : Nat} {q1 q2 q3 q4 q5 q6 q7 : Pos}
    (hroom : A.depth < recursionLimit) (of : s.heap.get? f = some (PySem.W.kla_obj "<lambda>" qual params (falB a j1 j2 q1 q2 q3 q4 q5 q6 q7) scope [] pm c' ctv)) (hcd : s.heap.CodeRec (.ref c') qual) (hlim : s.heap.NoLimit)
    (hbind : ∀ v, bindArgs (PySem.W.kla_fn "<lambda>" qual params (falB a j1 j2 q1 q2 q3 q4 q5 q6 q7) scope [] pm (.ref c') ctv) ⟨[v], []⟩ = pure [(a, v)])
    (hk : scope.kind = .function) (hco : scope.isCoroutine = false) (hgen : scope.isGenerator = false) (hn : scope.names = [(a, .local)]) (hda : (a == ("__debug__" : Str)) = false)
    (ht : IsTup s.heap t its.toArray) (hl : its.length ≤ sizeLine) (e0 : its[0]? = some (.int u0 t0)) (e1 : its[1]? = some (.int u1 t1)) :
    wpAny (model prog w) A (call (.ref f) [.ref t]) (PySem.W.KeyPure (.int (u1 - u0)) s) (fun _ _ => False) s := by
  refine wpAny_call ?_
  refine PySem.W.kla_callFunE hroom of rfl hco hgen rfl hcd ?_
  rw [hbind]
  have look : scope.names.lookup a = some .local := by rw [hn]; simp
  refine wpAny_pure (wpAny_newFunctionEnv (fun y hy => by rw [hn] at hy; simp at hy; rw [hy]; exact nofun) (fun y hy => by simp at hy; rw [hy]; exact look) (fun h₁ hns hsb => ⟨hlim.fresh _ hsb, ?_⟩) hk)
  have kp : ∀ b o, s.heap.get? b = some o → h₁.get? b = some o := fun b o e => hsb.extBut b o (Nat.ne_of_lt (Heap.lt_size e)) (Heap.get?_push_of_some _ e)
  have ht1 : IsTup h₁ t its.toArray := by
    obtain ⟨o, h1, h2⟩ := ht
    exact ⟨o, kp _ _ h1, h2⟩
  refine PySem.W.kla_codeExpr ?_
  refine wpAny_BinOp (Subscript_ (wpAny_Name (wpAny_loadName_local (v := .ref t) hk look hns (by simp) (wpAny_Constant_int ?_)) hda))
  refine at_tuple (j := 1) ht1 rfl hl e1 (fun _ _ => rfl) ?_
  refine Subscript_ (wpAny_Name (wpAny_loadName_local (v := .ref t) hk look hns (by simp) (wpAny_Constant_int ?_)) hda)
  refine at_tuple (j := 0) ht1 rfl hl e0 (fun _ _ => rfl) ?_
  refine sub_int ?_
  exact ⟨h₁, _, rfl, kp, .int _ _⟩
/-- segments and their keys -/
def SegK (K : PySem.W.Frag) (H : Hp) (xs : List V) (ks : List Int) : Prop := xs.length = ks.length ∧ ∀ (i : Nat) (v : V), xs[i]? = some v → ∃ (t : Addr) (u0 u1 : Int) (r : List V), v = .ref t ∧ SqT K H t (.int u0 :: .int u1 :: r) ∧ ks[i]? = some (u1 - u0)
theorem SegK.ext {K : PySem.W.Frag} {H H' : Hp} {xs : List V} {ks : List Int} (h : SegK K H xs ks) (e : ∀ a ys, SqT K H a ys → SqT K H' a ys) : SegK K H' xs ks := ⟨h.1, fun i v hv => by
  obtain ⟨t, u0, u1, r, h1, h2, h3⟩ := h.2 i v hv
  exact ⟨t, u0, u1, r, h1, e _ _ h2, h3⟩⟩
theorem ExtN.sqT {K : PySem.W.Frag} {H H' : Hp} {a : Addr} {xs : List V} (e : ExtN H H') (h : SqT K H a xs) : SqT K H' a xs := by
  rcases h with (h | ⟨o, h⟩) | h
  · exact .inl (.inl (e _ _ h (fun ps z => by cases z)))
  · exact .inl (.inr ⟨o, e _ _ h (fun ps z => by cases z)⟩)
  · exact .inr h
theorem ExtN.sqL {K : PySem.W.Frag} {H H' : Hp} {a : Addr} {xs : List V} (e : ExtN H H') (h : SqL K H a xs) : SqL K H' a xs := by
  rcases h with (h | ⟨o, h⟩) | h
  · exact .inl (.inl (e _ _ h (fun ps z => by cases z)))
  · exact .inl (.inr ⟨o, e _ _ h (fun ps z => by cases z)⟩)
  · exact .inr h
theorem each_zip {xs : List V} {its : List Value} (r : Vals xs its) : ∀ {ks : List Int}, xs.length = ks.length → PySem.W.EachIs (fun u (p : V × Int) => RelV p.1 u) its (xs.zip ks) := by
  induction r with
  | nil => intro ks _; exact .nil
  | cons h t ih =>
    intro ks hl
    cases ks with
    | nil => simp at hl
    | cons k ks => exact .cons h (ih (by simpa using hl))
theorem each_vals {out : List Value} {bs : List (V × Int)} (e : PySem.W.EachIs (fun u (p : V × Int) => RelV p.1 u) out bs) : Vals (bs.map (·.1)) out := by
  induction e with
  | nil => exact .nil
  | cons h t ih => exact .cons h ih
/-- sorted by the key, stably -/
def byFall (xs : List V) (ks : List Int) : List V := ((xs.zip ks).mergeSort fun a b => decide (a.2 ≤ b.2)).map (·.1)
def tSortF (T : List (Addr × Str)) (K : PySem.W.Frag) (te : TE) : TE := fun σ H Q => te σ H fun x H1 => Tabs T H1 ∧ ∃ (p : Addr) (xs : List V) (ks : List Int), x = .ref p ∧ SqL K H1 p xs ∧ SegK K H1 xs ks ∧ ∀ (H2 : Hp) (D : Addr), ExtN H1 H2 → Tabs T H2 → H2 D = none → Q (.ref D) (upd H2 D (.lst (byFall xs ks)))
theorem pe_sortF {X : Cx} {T : List (Addr × Str)} {c P : Addr} {a : Str} {e : Expr} {te : TE} {params : Arguments} {scope : Scope} {j1 j2 : Nat} {p lpos kpos pos q1 q2 q3 q4 q5 q6 q7 : Pos}
    (hg : Gl X "sorted") (hm : X.mg "sorted" = none) (ha : PE X e te) (TB : TabB X.base X.mg c P) (hcode : X.env.code = .ref c) (hmT : (P, X.env.qual ++ "<lambda>") ∈ T) (hu : ∀ p ∈ T, p.1 = P → p.2 = X.env.qual ++ "<lambda>")
    (hroom : X.A.depth < recursionLimit) (hunits : X.A.units + 200 < cLine) (hdef : defaultsOf params X.env = ([], [])) (hclo : cloFrom X.env.cells scope.names [] = [])
    (hfree : ∀ y ∈ scope.names, y.2 = .free → ∃ c, X.env.cells.lookup y.1 = some c)
    (hbind : ∀ (q : Str) (pm cv ctv : Value) (v : Value), bindArgs (PySem.W.kla_fn "<lambda>" q params (falB a j1 j2 q1 q2 q3 q4 q5 q6 q7) scope [] pm cv ctv) ⟨[v], []⟩ = pure [(a, v)])
    (hk : scope.kind = .function) (hco : scope.isCoroutine = false) (hgen : scope.isGenerator = false) (hn : scope.names = [(a, .local)]) (hda : (a == ("__debug__" : Str)) = false)
    (he2 : starEach [e] X.env = (false, eval e X.env) :: starEach [] X.env := by rfl) (he : backTo pos (starEach [e] X.env) = (false, eval e X.env) :: backTo pos (starEach [] X.env) := by rfl) (hpl : (backTo pos (starEach [e] X.env)).any (·.1) = false := by rfl)
    (hall : (backToKw pos (keywordEach [⟨some "key", .Lambda params (falB a j1 j2 q1 q2 q3 q4 q5 q6 q7) scope lpos, kpos⟩] X.env)).all (·.1.isSome) = true := by rfl) (hnone : (backToKw pos (keywordEach [⟨some "key", .Lambda params (falB a j1 j2 q1 q2 q3 q4 q5 q6 q7) scope lpos, kpos⟩] X.env)).any (·.1.isNone) = false := by rfl) (hks : (backToKw pos (keywordEach [⟨some "key", .Lambda params (falB a j1 j2 q1 q2 q3 q4 q5 q6 q7) scope lpos, kpos⟩] X.env)).filterMap (·.1) = [Str.ofString "key"] := by rfl) :
    PE X (.Call (.Name "sorted" p) [e] [⟨some "key", .Lambda params (falB a j1 j2 q1 q2 q3 q4 q5 q6 q7) scope lpos, kpos⟩] pos) (tSortF T X.K te) := by
  refine ⟨fun pins s σ H Q I h => ?_⟩
  refine wpAny_Call_Name_kw (ld_blt I hg hm (by rfl) ?_)
  refine PyProof.Rows.callWith_kw (thn ((pa_cons (hs := he2) ha pa_nil).run pos pins s σ H (fun vs H1 => match vs with
    | [x] => Tabs T H1 ∧ ∃ (p : Addr) (xs : List V) (ks : List Int), x = .ref p ∧ SqL X.K H1 p xs ∧ SegK X.K H1 xs ks ∧ ∀ (H2 : Hp) (D : Addr), ExtN H1 H2 → Tabs T H2 → H2 D = none → Q (.ref D) (upd H2 D (.lst (byFall xs ks)))
    | _ => False) I h) fun us s1 ⟨vs, H1, I1, r1, q1⟩ => ?_) he hpl hall hnone
  rw [hks]
  obtain ⟨x, rfl⟩ : ∃ x, vs = [x] := by
    match vs, q1 with
    | [x], _ => exact ⟨x, rfl⟩
  obtain ⟨hT, l, xs, ks, rfl, hx, hs, q⟩ := q1
  obtain ⟨u, rfl, ru⟩ := vals1 r1
  cases ru
  show wpAny _ _ (evalAll ((do let v ← eval (.Lambda params (falB a j1 j2 q1 q2 q3 q4 q5 q6 q7) scope lpos) X.env; standAt pos; pure v) :: [])) _ _ s1
  refine wpAny_evalAll_cons (wpAny_bind (lam_make2 I1 TB hcode hmT hu hT hdef hfree fun f c' pm ctv H2 s2 I2 eN T2 hf hfn hfr hco2 => wpAny_bind (wpAny_standAt (wpAny_pure (wpAny_evalAll_nil ?_)))))
  rw [hclo] at hf
  have hx2 : SqL X.K H2 l xs := ExtN.sqL eN hx
  have hs2 : SegK X.K H2 xs ks := hs.ext fun a ys => ExtN.sqT eN
  obtain ⟨its, rv, pl, hz⟩ := I2.list hx2
  obtain ⟨⟨oc, vs, tk0, hoc, hdc, hvc⟩, _, _⟩ := I2.hok c' _ hco2
  have hl := rv.length
  have eZ := each_zip rv hs2.1
  have lb : (xs.zip ks).length = xs.length := by rw [List.length_zip, hs2.1, Nat.min_self]
  have hkey : ∀ p ∈ xs.zip ks, ∃ (t : Addr) (u0 u1 : Int) (r : List V), p.1 = .ref t ∧ SqT X.K H2 t (.int u0 :: .int u1 :: r) ∧ p.2 = u1 - u0 := fun p hp => by
    obtain ⟨i, hi⟩ := List.getElem?_of_mem hp
    rw [List.getElem?_zip_eq_some] at hi
    obtain ⟨t, u0, u1, r, h1, h2, h3⟩ := hs2.2 i p.1 hi.1
    rw [hi.2, Option.some.injEq] at h3
    exact ⟨t, u0, u1, r, h1, h2, h3⟩
  refine PySem.W.sorted_key_data (vs := its) (bs := xs.zip ks) (R := fun u (p : V × Int) => RelV p.1 u) (fun p => PyData.int p.2) pl.isList eZ (fun d hd d' hd' => ?_) (.inr fun d hd => ?_) (by rw [lb]; exact hz) (fun p _ => ?_) (ksk_s1 _ _) (fun x => ksk_l1 _ _) (fun x => ksk_t1 _ _) (fun v p hR hp h tk kp => ?_) (fun out cc h' tk kp fresh hD lo eo => ?_)
  · obtain ⟨p, _, rfl⟩ := List.mem_map.mp hd
    obtain ⟨p', _, rfl⟩ := List.mem_map.mp hd'
    simp [PySem.W.alike]
  · obtain ⟨p, _, rfl⟩ := List.mem_map.mp hd
    exact ⟨nofun, fun _ => nofun⟩
  · simp only [PyData.depth]
    omega
  · obtain ⟨t, u0, u1, r, h1, h2, h3⟩ := hkey p hp
    rw [h1] at hR
    cases hR
    obtain ⟨its2, rv2, pt, hz2⟩ := I2.tuple h2
    obtain ⟨w0, z0, k0⟩ := rv2.get (i := 0) (x := .int u0) rfl
    obtain ⟨w1, z1, k1⟩ := rv2.get (i := 1) (x := .int u1) rfl
    obtain ⟨t0, rfl⟩ := k0
    obtain ⟨t1, rfl⟩ := k1
    rw [h3]
    refine key_turn (s := { s2 with heap := h, toks := tk }) hroom (kp _ _ hf) ⟨c', oc, vs, tk0, rfl, kp _ _ hoc, hdc, hvc⟩ (I2.nolimit.keeps kp) (fun v => hbind _ _ _ _ v) hk hco hgen hn hda ?_ (by rw [← rv2.length]; exact hz2) z0 z1
    obtain ⟨o, o1, o2⟩ := pt
    exact ⟨o, kp _ _ o1, o2⟩
  · rw [PySem.W.dataLe_int] at eo
    have vo := each_vals eo
    have lout : ((((xs.zip ks).mergeSort fun a b => decide (a.2 ≤ b.2)).map (·.1))).length = xs.length := by rw [List.length_map, List.length_mergeSort, lb]
    refine ⟨.ref (s2.heap.objs.size + 1), _, I2.laid (t' := tk) (a := s2.heap.objs.size + 1) (o := .lst (byFall xs ks)) kp (Nat.le_succ _) ?_, rfl, q H2 _ eN T2 (I2.hok.fresh (Nat.le_succ _))⟩
    exact ⟨by unfold byFall; rw [lout]; exact hz, out, cc, vo, hD⟩
end HE
namespace HE
open PySem PySem.Spec PyProof.Rows L2
/-! sorted(xs) of plain things -/
theorem each_zipD {xs : List V} {its : List Value} (r : Vals xs its) : ∀ {ds : List PyData}, xs.length = ds.length → PySem.W.EachIs (fun u (p : V × PyData) => RelV p.1 u) its (xs.zip ds) := by
  induction r with
  | nil => intro ks _; exact .nil
  | cons h t ih =>
    intro ks hl
    cases ks with
    | nil => simp at hl
    | cons k ks => exact .cons h (ih (by simpa using hl))
theorem each_valsD {out : List Value} {bs : List (V × PyData)} (e : PySem.W.EachIs (fun u (p : V × PyData) => RelV p.1 u) out bs) : Vals (bs.map (·.1)) out := by
  induction e with
  | nil => exact .nil
  | cons h t ih => exact .cons h ih
theorem each_reads {X : Cx} {pins : List (Addr × Obj)} {σ : L2.St} {H : Hp} {s : Shared} (I : Inv X pins σ H s) {xs : List V} {its : List Value} (r : Vals xs its) : ∀ {ds : List PyData}, DpAll X.K H xs ds → PySem.W.EachIs (fun u (p : V × PyData) => ∃ as, Reads s.heap u p.2 as) its (xs.zip ds) := by
  induction r with
  | nil => intro ds h; cases h; exact .nil
  | cons h t ih =>
    intro ds hd
    cases hd with
    | cons d1 d2 => exact .cons (Dp.reads I _ _ _ d1 h) (ih d2)
def byData (xs : List V) (ds : List PyData) : List V := ((xs.zip ds).mergeSort (PySem.W.dataLe false fun p => p.2)).map (·.1)
def rSortD (K : PySem.W.Frag) : List V → Hp → VK → Prop := fun vs H Q => ∃ (a : Addr) (xs : List V) (ds : List PyData), vs = [.ref a] ∧ SqL K H a xs ∧ DpAll K H xs ds ∧ xs.length = ds.length ∧ PySem.W.AllAlike ds ∧ PySem.W.Sortable ds ∧ (∀ d ∈ ds, d.depth ≤ 60) ∧ ∀ D, H D = none → Q (.ref D) (upd H D (.lst (byData xs ds)))
theorem cr_sortD {X : Cx} (hu : X.A.units + 200 < cLine) : CallR X (.builtin "sorted") (rSortD X.K) := by
  intro pins s σ H vs us Q I r h
  obtain ⟨a, xs, ds, rfl, hs, hd, hlen, hal, hso, hdp, q⟩ := h
  obtain ⟨u, rfl, ru⟩ := vals1 r
  cases ru
  obtain ⟨its, rv, pl, hz⟩ := I.list hs
  have lb : (xs.zip ds).length = xs.length := by rw [List.length_zip, hlen, Nat.min_self]
  have em : (xs.zip ds).map (fun p => p.2) = ds := by rw [List.map_snd_zip]; omega
  refine PySem.W.sorted_data (vs := its) (bs := xs.zip ds) (R := fun u (p : V × PyData) => RelV p.1 u) (enc := fun p => p.2) pl.isList (each_zipD rv hlen) (each_reads I rv hd) (by rw [em]; exact hal) (by rw [em]; exact hso) (by rw [lb]; exact hz) (fun p hp => ?_) fun out lo eo => ?_
  · have : p.2 ∈ ds := by rw [← em]; exact List.mem_map_of_mem hp
    have := hdp _ this
    omega
  · obtain ⟨ep, he'⟩ := PyProof.Rows.sortedAll_at s.heap its (List.toArray out)
    have lout : (byData xs ds).length = xs.length := by unfold byData; rw [List.length_map, List.length_mergeSort, lb]
    refine ⟨.ref _, upd H (s.heap.objs.size + 1) (.lst (byData xs ds)), I.laid (t' := s.toks) (fun _ _ => PyProof.Rows.sortedAll_old) (Nat.le_succ _) ⟨by rw [lout]; exact hz, out, ep, each_valsD eo, by simpa using he'⟩, rfl, q _ (I.hok.fresh (Nat.le_succ _))⟩
end HE
namespace Mine
open PySem PySem.Spec PyProof.Rows L2
variable {P : Program} {w : World} {K : PySem.W.Frag} {mg : Str → Option Value} {base : Heap}
/-- a def whose code object's address is known -/
def OwnC (K : PySem.W.Frag) (mg : Str → Option Value) (x : Str) (st : Stmt) (c : Addr) : Prop := ∃ (f : Addr) (oc : Value) (od : Option Addr) (kV doc pm : Value) (an : Option Addr) (ct : Value) (osl : Array (Option Value)),
  K.lookup f = some ⟨oc, od, .func (PySem.W.fnOf x x (defArgs st) (defBody st) (defScope st) .none kV doc pm an (.ref c) ct), osl⟩ ∧ PySem.W.codeIn K (.ref c) x = true ∧ PySem.W.keepIn K (.ref f) = true ∧ mg x = some (.ref f)
theorem has0C {x : Str} {st : Stmt} {N ps : List Str} {k : Nat} {sp : Sp} {c : Addr} (O : OwnC K mg x st c) (S : FnScope N ps (defScope st))
    (hb : ∀ (kV doc pm : Value) (an : Option Addr) (cdv ct : Value) (us : List Value), us.length = ps.length → bindArgs (PySem.W.fnOf x x (defArgs st) (defBody st) (defScope st) .none kV doc pm an cdv ct) ⟨us, []⟩ = pure (ps.zip us))
    (len : ∀ vs H Q E, sp vs H Q E → vs.length = ps.length)
    (body : ∀ (f : Addr) (A : Around) (outer : List Env) (s : Shared) (H : Hp) (vs : List V) (Q : VK) (E : XK), Room k (A.deeper (PyProof.Rows.envOfC x (defScope st) s.heap.objs.size f (.ref c))) → sp vs H Q E →
      ∃ t, PSs (cxOf CX0 P w K mg base N x (defScope st) f (.ref c) A outer s H E).nox (defBody st) t ∧ t { nx := fun _ H' => Q .non H', rt := Q } (start N vs) H) :
    HasF P w K mg base CX0 (k + 1) x ps sp := by
  obtain ⟨f, oc, od, kV, doc, pm, an, ct, osl, lk, hcd, kp, m⟩ := O
  have F : Fun K x x st f (PySem.W.fnOf x x (defArgs st) (defBody st) (defScope st) .none kV doc pm an (.ref c) ct) := fun_mk lk hcd kp
  refine ⟨f, _, ?_, m, kp, F.binds hb⟩
  refine fn_of lk hcd S len fun A outer s H vs Q E hr hsp => ?_
  obtain ⟨t, h, q⟩ := body f A outer s H vs Q E hr hsp
  exact ⟨t, h.nox, q⟩
end Mine

/-! ### KitM -/
/-! sorted(t) of a tuple of ints -/
namespace SrtO
open PySem PyProof.Rows Srt
section
variable {prog : Program} {w : World} {A : Around} {E : Value → Shared → Prop} {s : Shared}
theorem collect_tup {l : Addr} {vs : List Value} {Q : List Value → Shared → Prop} (hl : s.heap.IsTuple l vs.toArray)
    (h : Q vs { s with heap := (s.heap.push (seqObj "list" #[] 0)).update s.heap.objs.size (Obj.mapSeq (· ++ vs.toArray)) }) (hsz : vs.length ≤ sizeLine) :
    wpAny (model prog w) A (collect (.ref l)) Q E s := by
  obtain ⟨o, ho, hc, n, hd⟩ := id hl
  unfold collect
  refine wpAny_bind (wpAny_runValue (codeAny_builtin entry_proto_collect' ?_))
  show wpAny _ _ (do again (.builtin "list.__iadd__" ⟨[← newList [], .ref l], []⟩)) _ _ s
  refine wpAny_bind (wpAny_newList (wpAny_pure ⟨Code.quiet_builtin _ (by decide +kernel), codeAny_builtin entry_list_iadd' ?_⟩))
  show wpAny _ _ (Builtin.List.listExtendWith (.ref s.heap.objs.size) (.ref l) (.ref s.heap.objs.size)) _ _ { s with heap := s.heap.push (seqObj "list" #[] 0) }
  unfold Builtin.List.listExtendWith
  have ho' : (s.heap.push (seqObj "list" #[] 0)).get? l = some o := Heap.get?_push_of_some _ ho
  refine wpAny_bind (wpAny_typeOf (T := "tuple") ⟨o, ho', hc⟩ ?_)
  have ht : (Value.type "tuple" == Value.type "tuple") = true := by rfl
  rw [if_pos (by rw [ht]; simp)]
  refine wpAny_bind (listItems_at ho' hd ?_)
  refine wpAny_bind (listItems_at (xs := #[]) (n := 0) (Heap.get?_push_size _ rfl) rfl ?_)
  rw [if_neg (by simp)]
  refine wpAny_bind (listUpdate_at (xs := #[]) (n := 0) (Heap.get?_push_size _ rfl) rfl ?_ (Nat.zero_le _) (by show (#[] ++ vs.toArray).size ≤ sizeLine + 1; simp only [Array.size_append, List.size_toArray, List.length_nil]; omega))
  refine wpAny_pure ?_
  show wpAny (model prog w) A (do
      let o ← load s.heap.objs.size
      match o.data with
      | .seq xs _ => pure xs.toList
      | _ => unsupported "internal:collect") Q E { s with heap := (s.heap.push (seqObj "list" #[] 0)).update s.heap.objs.size (Obj.mapSeq (· ++ vs.toArray)) }
  refine wpAny_bind (wpAny_load (get?_update_seq (Heap.get?_push_size _ rfl) _) ?_)
  show wpAny _ _ (pure ((#[] : Array Value) ++ vs.toArray).toList) Q E _
  rw [show ((#[] : Array Value) ++ vs.toArray).toList = vs by simp]
  exact wpAny_pure h
theorem sorted_ordT {l : Addr} {vs : List Value} {ltv : Value → Value → Bool} {Q : Value → Shared → Prop} (O : Swo ltv) (hl : s.heap.IsTuple l vs.toArray) (hz : vs.length ≤ sizeLine)
    (hS : 2 ≤ vs.length → ∀ (h₁ : Heap) (a : Addr), h₁.get? a = some (seqObj "list" vs.toArray 0) → (∀ b o, s.heap.get? b = some o → b ≠ a ∧ h₁.get? b = some o) → SortableO prog w A.in1.in1 { s with heap := h₁ } a vs ltv)
    (h : ∀ out : List Value, Srtd ltv out → Stb ltv out vs → Q (.ref (s.heap.objs.size + 1)) { s with heap := sortedAll s.heap vs out.toArray }) :
    wpAny (model prog w) A (call (.builtin "sorted") [.ref l]) Q E s := by
  refine Calls.call_function_entry kind_sorted plain_sorted entry_sorted (args_sorted1 _) ?_
  unfold Builtin.«sorted»
  refine wpAny_bind (m := checkCount "sorted" 1 1 _) (wpAny_pure ?_)
  refine wpAny_bind (collect_tup hl ?_ hz)
  refine wpAny_bind (wpAny_newList ?_ hz)
  have hsz : ((s.heap.push (seqObj "list" #[] 0)).update s.heap.objs.size (Obj.mapSeq (· ++ vs.toArray))).objs.size = s.heap.objs.size + 1 := by
    rw [Heap.size_update, size_push']
  have hoL : (((s.heap.push (seqObj "list" #[] 0)).update s.heap.objs.size (Obj.mapSeq (· ++ vs.toArray))).push (seqObj "list" vs.toArray 0)).get? (s.heap.objs.size + 1) = some (seqObj "list" vs.toArray 0) := by
    rw [← hsz]; exact Heap.get?_push_size _ rfl
  have keep : ∀ b o, s.heap.get? b = some o → b ≠ s.heap.objs.size + 1 ∧ (((s.heap.push (seqObj "list" #[] 0)).update s.heap.objs.size (Obj.mapSeq (· ++ vs.toArray))).push (seqObj "list" vs.toArray 0)).get? b = some o := fun b o q => by
    have hlt : b < s.heap.objs.size := Heap.lt_size q
    refine ⟨Nat.ne_of_lt (Nat.lt_succ_of_lt hlt), Heap.get?_push_of_some _ ?_⟩
    rw [Heap.get?_update_ne _ _ _ _ (Nat.ne_of_lt hlt)]
    exact Heap.get?_push_of_some _ q
  show wpAny _ _ _ _ _ { s with heap := ((s.heap.push (seqObj "list" #[] 0)).update s.heap.objs.size (Obj.mapSeq (· ++ vs.toArray))).push (seqObj "list" vs.toArray 0) }
  rw [hsz]
  refine wpAny_bind (wpAny_holding (wpAny_call_entry slot_list_sort ⟨_, hoL, rfl⟩ entry_list_sort (list_sort_ord O hoL hz (fun h2 => hS h2 _ _ hoL keep) fun out hs hb => ⟨_, rfl, ?_⟩) (args_list_sort _)))
  exact wpAny_pure ⟨_, rfl, h out hs hb⟩
end
end SrtO
namespace HE
open PySem PySem.Spec PyProof.Rows L2
/-- sorted(t) of ints, a new list -/
def rSortTI (K : PySem.W.Frag) : List V → Hp → VK → Prop := fun vs H Q => ∃ (a : Addr) (ns : List Int), vs = [V.ref a] ∧ SqT K H a (ns.map V.int) ∧
  ∀ (ns' : List Int) (p : Addr), ns'.Perm ns → ns'.Pairwise (· ≤ ·) → H p = none → Q (.ref p) (upd H p (.lst (ns'.map V.int)))
theorem cr_sortedTI {X : Cx} : CallR X (.builtin "sorted") (rSortTI X.K) := by
  intro pins s σ H vs us Q I r h
  obtain ⟨a, ns, rfl, hs, q⟩ := h
  obtain ⟨its, rv, pt, hz⟩ := I.tuple hs
  rw [Vals.ref1 r]
  have hi := rv.ints
  refine SrtO.sorted_ordT SrtO.swo_int pt (by rw [← rv.length]; exact hz) (fun h2 h₁ a' _ _ => SrtO.ints_sortable hi h2) fun out h1 h2 => ?_
  obtain ⟨k1, k2, k3⟩ := SrtO.ints_out hi h1 h2
  obtain ⟨ep, he'⟩ := PyProof.Rows.sortedAll_at s.heap its out.toArray
  have hlen : ((out.map SrtO.iv).map V.int).length ≤ sizeLine := by
    rw [List.length_map, k2.length_eq]
    rw [List.length_map] at hz
    exact hz
  exact ⟨.ref _, upd H (s.heap.objs.size + 1) (.lst ((out.map SrtO.iv).map V.int)), I.laid (t' := s.toks) (fun _ _ => PyProof.Rows.sortedAll_old) (Nat.le_succ _) ⟨hlen, out, ep, vals_of_ints k1, he'⟩, rfl, q _ _ k2 k3 (I.hok.fresh (Nat.le_succ _))⟩
theorem kSortTI (K : PySem.W.Frag) {X : Cx} (h : X.K = K := by rfl) : CallR X (.builtin "sorted") (rSortTI K) := by
  subst h
  exact cr_sortedTI
/-- a comprehension over enumerate of a tuple -/
theorem lcET {K : PySem.W.Frag} {a : Addr} {xs : List V} {g : TG} {tt : TT} {te : TE} {vs : List Nat} {σ : L2.St} {H1 : Hp} {D : Addr} {Qd : Hp → Prop} (Pv : Nat → Hp → Prop) (h0 : Pv 0 (upd H1 D (.lst []))) (hl : ∀ i H, i ≤ xs.length → Pv i H → SqT K H a xs)
    (hs : ∀ (i : Nat) (x : V) (t : Addr) (H : Hp), xs[i]? = some x → Pv i H → H t = none → g (.ref t) (wipe σ vs) (upd H t (.tup [.int (i : Nat), x])) fun σ2 H2 => wipe σ2 vs = wipe σ vs ∧ tt σ2 H2 fun b H3 =>
      if b = true then te σ2 H3 fun y H4 => ∃ acc, H4 D = some (.lst acc) ∧ acc.length < sizeLine ∧ Pv (i + 1) (upd H4 D (.lst (acc ++ [y]))) else Pv (i + 1) H3) (hd : ∀ H, Pv xs.length H → Qd H) :
    ∃ W : Nat → Nat → Hp → Prop, (∃ m, W 0 m (upd H1 D (.lst []))) ∧ ∀ i m H, W i m H →
      ((IteT K a).stop i H ∧ Qd H) ∨ ((IteT K a).go i H ∧ ∃ Nx : Hp → Prop, (∀ H', Nx H' → ∃ m', m' < m ∧ W (i + 1) m' H') ∧ ∀ x H', (IteT K a).yld i H x H' → g x (wipe σ vs) H' fun σ2 H2 => wipe σ2 vs = wipe σ vs ∧ tt σ2 H2 fun b H3 =>
        if b = true then te σ2 H3 fun y H4 => ∃ acc, H4 D = some (.lst acc) ∧ acc.length < sizeLine ∧ Nx (upd H4 D (.lst (acc ++ [y]))) else Nx H3) := by
  refine ⟨fun i m H => m = xs.length - i ∧ i ≤ xs.length ∧ Pv i H, ⟨xs.length, by simp, Nat.zero_le _, h0⟩, ?_⟩
  rintro i m H ⟨rfl, hi, pv⟩
  have sq := hl i H hi pv
  rcases Nat.lt_or_ge i xs.length with hlt | hge
  · refine .inr ⟨⟨xs, _, sq, List.getElem?_eq_getElem hlt⟩, Pv (i + 1), fun H' p' => ⟨xs.length - (i + 1), by omega, rfl, hlt, p'⟩, ?_⟩
    rintro v H' ⟨t, x, rfl, ht, rfl, hx⟩
    exact hs i x t H (hx xs sq) pv ht
  · have : i = xs.length := by omega
    subst this
    exact .inl ⟨⟨xs, sq, Nat.le_refl _⟩, hd H pv⟩
end HE

/-! ### KitO -/
namespace Mine
open PySem PySem.Spec L2
/-! ## data: what is alike is the same -/
mutual
theorem eqv_eq : ∀ d e : PyData, dat d → dat e → PyData.eqv d e = true → d = e
  | .none, e, _, he, h => by
    cases e <;> first | rfl | (simp [PyData.eqv] at h) | (simp only [dat] at he)
  | .int a, e, _, he, h => by
    cases e with
    | int b =>
      have : a = b := by simpa [PyData.eqv] using h
      rw [this]
    | bool b => simp only [dat] at he
    | _ => simp [PyData.eqv] at h
  | .str a, e, _, he, h => by
    cases e with
    | str b =>
      have : a = b := by simpa [PyData.eqv] using h
      rw [this]
    | _ => simp [PyData.eqv] at h
  | .tuple xs, e, hd, he, h => by
    cases e with
    | tuple ys =>
      have h1 : xs.length ≤ 1000 ∧ dats xs := by simpa only [dat] using hd
      have h2 : ys.length ≤ 1000 ∧ dats ys := by simpa only [dat] using he
      simp only [PyData.eqv] at h
      rw [eqvs_eq xs ys h1.2 h2.2 h]
    | _ => simp [PyData.eqv] at h
  | .bool _, _, h, _, _ => by simp only [dat] at h
  | .list _, _, h, _, _ => by simp only [dat] at h
  | .dict _, _, h, _, _ => by simp only [dat] at h
theorem eqvs_eq : ∀ xs ys : List PyData, dats xs → dats ys → PyData.eqvAll xs ys = true → xs = ys
  | [], ys, _, _, h => by
    cases ys with
    | nil => rfl
    | cons y r => simp [PyData.eqvAll] at h
  | x :: xs, ys, hx, hy, h => by
    cases ys with
    | nil => simp [PyData.eqvAll] at h
    | cons y r =>
      have h1 : dat x ∧ dats xs := by simpa only [dats] using hx
      have h2 : dat y ∧ dats r := by simpa only [dats] using hy
      simp only [PyData.eqvAll, Bool.and_eq_true] at h
      rw [eqv_eq x y h1.1 h2.1 h.1, eqvs_eq xs r h1.2 h2.2 h.2]
end
theorem eqv_iff {d e : PyData} (hd : dat d) (he : dat e) : PyData.eqv d e = true ↔ d = e := ⟨eqv_eq d e hd he, fun h => by rw [h]; exact eqv_same e he⟩
/-- a thing that may stand in a bent paper -/
structure Bt (K : PySem.W.Frag) (H : Hp) (v : V) (d : PyData) : Prop where
  r : Rp K H v d
  dt : dat d
  dp : d.depth ≤ 60
theorem Bt.mono {K : PySem.W.Frag} {H H' : Hp} {v : V} {d : PyData} (h : Bt K H v d) (e : Ext K H H') : Bt K H' v d := ⟨h.r.mono e _ _, h.dt, h.dp⟩
/-- two things are compared -/
theorem neq_bt {K : PySem.W.Frag} {H : Hp} {x y : V} {d e : PyData} {Q : VK} (h1 : Bt K H x d) (h2 : Bt K H y e) (q : ∀ b : Bool, (b = true ↔ d ≠ e) → Q (.bl b) H) : rNeG K x y H Q := by
  refine g_neD (Rp.dp _ _ h1.r) (Rp.dp _ _ h2.r) (dat_lay _ h1.dt) (dat_lay _ h2.dt) (Nat.le_trans (Nat.min_le_left _ _) (by have := h1.dp; omega)) (q _ ?_)
  have := eqv_iff h1.dt h2.dt
  cases hb : PyData.eqv d e with
  | true => rw [hb] at this; simp [this.mp rfl]
  | false =>
    rw [hb] at this
    simp only [Bool.not_false, true_iff, ne_eq]
    intro z
    exact absurd (this.mpr z) (by simp)
theorem eq_bt {K : PySem.W.Frag} {H : Hp} {x y : V} {d e : PyData} {Q : VK} (h1 : Bt K H x d) (h2 : Bt K H y e) (q : ∀ b : Bool, (b = true ↔ d = e) → Q (.bl b) H) : rEqG K x y H Q := by
  refine g_eqD (Rp.dp _ _ h1.r) (Rp.dp _ _ h2.r) (dat_lay _ h1.dt) (dat_lay _ h2.dt) (Nat.le_trans (Nat.min_le_left _ _) (by have := h1.dp; omega)) (q _ ?_)
  exact eqv_iff h1.dt h2.dt
theorem Bt.shaped {K : PySem.W.Frag} {H : Hp} {v : V} {d : PyData} (h : Bt K H v d) : SeqAt.shaped d = true := by
  show (d.canLay0 && decide (d.depth ≤ 64)) = true
  rw [dat_lay _ h.dt, decide_eq_true (by have := h.dp; omega)] <;> rfl
/-- things of a list -/
structure Bts (K : PySem.W.Frag) (H : Hp) (vs : List V) (ds : List PyData) : Prop where
  r : Rps K H vs ds
  dt : dats ds
  dp : PyData.depthAll ds ≤ 50
theorem dats_all : ∀ {ds : List PyData}, dats ds → ∀ d ∈ ds, dat d
  | [], _, _, z => by cases z
  | x :: r, h, d, z => by
    have h' : dat x ∧ dats r := by simpa only [dats] using h
    rcases List.mem_cons.mp z with rfl | z
    · exact h'.1
    · exact dats_all h'.2 d z
theorem dats_of : ∀ {ds : List PyData}, (∀ d ∈ ds, dat d) → dats ds
  | [], _ => trivial
  | x :: r, h => ⟨h x List.mem_cons_self, dats_of fun d z => h d (List.mem_cons_of_mem _ z)⟩
theorem depth_of : ∀ {ds : List PyData} {n : Nat}, (∀ d ∈ ds, d.depth ≤ n) → PyData.depthAll ds ≤ n
  | [], n, _ => by simp [PyData.depthAll]
  | x :: r, n, h => by
    have h1 := h x List.mem_cons_self
    have h2 := depth_of (ds := r) (n := n) fun d z => h d (List.mem_cons_of_mem _ z)
    simp only [PyData.depthAll]
    omega
theorem Bts.shaped {K : PySem.W.Frag} {H : Hp} {vs : List V} {ds : List PyData} (h : Bts K H vs ds) : SeqAt.shaped (.list ds) = true := by
  have h2 : PyData.depth (.list ds) ≤ 64 := by
    have := h.dp
    simp only [PyData.depth]
    omega
  show (PyData.canLay0 (.list ds) && decide (PyData.depth (.list ds) ≤ 64)) = true
  rw [Bool.and_eq_true]
  exact ⟨by simp only [PyData.canLay0]; exact dats_lay ds h.dt, decide_eq_true h2⟩
theorem Bts.tup {K : PySem.W.Frag} {H : Hp} {a : Addr} {vs : List V} {ds : List PyData} (h : Bts K H vs ds) (s : SqT K H a vs) (hl : ds.length ≤ 1000) : Bt K H (.ref a) (.tuple ds) := by
  refine ⟨.tup s h.r, ?_, ?_⟩
  · simp only [dat]
    exact ⟨hl, h.dt⟩
  · have := h.dp
    simp only [PyData.depth]
    omega
section
variable {X : Cx} (K : PySem.W.Frag)
/-- x in xs, x and the items any things -/
theorem kInD (hu : X.A.units + 200 < cLine) (h : X.K = K := by rfl) : OpR X (compareOp .In) (L2.rInD K) := by subst h; exact L2.op_inD (by omega)
/-- xs.index(x) -/
theorem kIndexD (hu : X.A.units + 200 < cLine) (h : X.K = K := by rfl) : MtR X "list.index" (L2.rIndexD K) := by subst h; exact L2.mt_indexD (by omega)
end
section
variable {K : PySem.W.Frag} {H : Hp} {Q : VK} {a : Addr} {x : V} {d : PyData} {xs : List V} {ds : List PyData}
theorem u_inBt (hx : Bt K H x d) (s : SqL K H a xs) (r : Bts K H xs ds) (q : ∀ b : Bool, (b = true ↔ d ∈ ds) → Q (.bl b) H) : L2.rInD K x (.ref a) H Q := by
  refine ⟨d, ds, Rp.dp _ _ hx.r, .lst s (Rps.dp _ _ r.r), hx.shaped, r.shaped, q _ ?_⟩
  rw [List.any_eq_true]
  constructor
  · rintro ⟨z, hz, e⟩
    rw [← eqv_eq z d (dats_all r.dt z hz) hx.dt e]
    exact hz
  · exact fun hz => ⟨d, hz, eqv_same d hx.dt⟩
theorem u_indexBt {j : Nat} (s : SqL K H a xs) (r : Bts K H xs ds) (hx : Bt K H x d) (hj : ds[j]? = some d) (hn : ∀ m, m < j → ds[m]? ≠ some d) (q : Q (.int (j : Nat)) H) : L2.rIndexD K (.ref a) [x] H Q :=
  ⟨a, x, d, ds, j, d, rfl, rfl, .lst s (Rps.dp _ _ r.r), Rp.dp _ _ hx.r, r.shaped, hx.shaped, hj, eqv_same d hx.dt, fun m z' hm hz => by
    cases e : PyData.eqv z' d with
    | false => rfl
    | true => exact absurd (eqv_eq z' d (dats_all r.dt z' (List.mem_of_getElem? hz)) hx.dt e ▸ hz) (hn m hm), q⟩
end
end Mine

/-! ### KitP -/
/-! dict(t) of a tuple of pairs, tuple(d.items()), list(zip(a, b)), comprehensions over a dict and its items -/
namespace HE
open PySem PySem.Spec PyProof.Rows L2
section
variable {X : Cx}
theorem pairs_at {pins : List (Addr × Obj)} {σ : L2.St} {H : Hp} {s : Shared} (I : Inv X pins σ H s) : ∀ {ps : List Addr} {kvs : List (Key × V)}, Paired (fun p kv => SqT X.K H p [kV kv.1, kv.2]) ps kvs →
    ∃ (prs : List (Key × Value)) (pv : List (Value × Value)), KV kvs prs ∧ prs.length = ps.length ∧ pv.length = ps.length ∧ ∀ (j : Nat) (b : Addr), ps[j]? = some b → ∃ (q : Key × Value) (u : Value), prs[j]? = some q ∧ pv[j]? = some (u, q.2) ∧ s.heap.IsTuple b #[u, q.2] ∧ keyIs q.1 u = true
  | _, _, .nil => ⟨[], [], .nil, rfl, rfl, fun j q e => by simp at e⟩
  | _, _, .cons (a := p) (b := kv) h t => by
    obtain ⟨prs, pv, r, hl, hl2, hp⟩ := pairs_at I t
    obtain ⟨its, rv, ht, _⟩ := I.tuple h
    obtain ⟨u, y, ei, ru, ry⟩ := vals2 rv
    subst ei
    refine ⟨(kv.1, y) :: prs, (u, y) :: pv, .cons ⟨rfl, ry⟩ r, by rw [List.length_cons, List.length_cons, hl], by rw [List.length_cons, List.length_cons, hl2], fun j b e => ?_⟩
    cases j with
    | zero =>
      obtain rfl := Option.some.inj e
      exact ⟨(kv.1, y), u, rfl, rfl, ht, kV_is (P := X.prog) (w := X.w) ru⟩
    | succ j => exact hp j b e
/-- dict(t) of a tuple of pairs -/
def rDictF (K : PySem.W.Frag) : List V → Hp → VK → Prop := fun xs H Q => ∃ (a : Addr) (ps : List Addr) (kvs : List (Key × V)), xs = [.ref a] ∧ FT H a (ps.map V.ref) ∧ Paired (fun p kv => SqT K H p [kV kv.1, kv.2]) ps kvs ∧ ∀ p, H p = none → Q (.ref p) (upd H p (.dK (mergeK [] kvs)))
theorem cr_dictF (hc : X.calm = true) : CallR X (.type "dict") (rDictF X.K) := by
  intro pins s σ H xs us Q I r q
  obtain ⟨a, ps, kvs, rfl, ⟨oa, hq, hdn⟩, hp, q⟩ := q
  obtain ⟨u, rfl, rx⟩ := vals1 r
  cases rx
  obtain ⟨ha, hz, its, rv, o2, ho2, hc2, n2, hd2⟩ := I.hok a _ hq
  rw [ha] at ho2
  obtain rfl := Option.some.inj ho2
  have ei := refs_at rv
  subst ei
  rw [List.length_map] at hz
  obtain ⟨prs, pv, rel, hl, hl2, hpr⟩ := pairs_at I hp
  have okA : PlainSeq "tuple" s.heap a (ps.map Value.ref).toArray ∧ PairItems s.heap (ps.map Value.ref).toArray (fun j => ps.getD j 0) pv := by
    refine ⟨⟨oa, n2, ha, hc2, hdn, hd2⟩, by simp [hl2], fun j k v e => ?_⟩
    obtain ⟨b, hb⟩ : ∃ b, ps[j]? = some b := ⟨_, List.getElem?_eq_getElem (by rw [← hl2]; exact (List.getElem?_eq_some_iff.mp e).1)⟩
    obtain ⟨q1, u1, _, e2, e3, _⟩ := hpr j b hb
    rw [e] at e2
    cases e2
    have eb : ps.getD j 0 = b := by rw [List.getD_eq_getElem?_getD, hb]; rfl
    refine ⟨?_, .inl ?_⟩
    · show (ps.map Value.ref).toArray[j]? = some (.ref (ps.getD j 0))
      rw [eb]
      simp [hb]
    · show s.heap.IsTuple (ps.getD j 0) _
      rw [eb]
      exact e3
  have have_ : PairsHave (mixKind X.prog X.w) pv.length (PairRel pv) prs := by
    refine ⟨by rw [hl, hl2], fun i key v e => ?_⟩
    have e : pv[i]? = some (key, v) := e
    obtain ⟨b, hb⟩ : ∃ b, ps[i]? = some b := ⟨_, List.getElem?_eq_getElem (by rw [← hl2]; exact (List.getElem?_eq_some_iff.mp e).1)⟩
    obtain ⟨q1, u1, e1, e2, _, e4⟩ := hpr i b hb
    rw [e] at e2
    cases e2
    exact ⟨q1.1, e1, e4⟩
  refine PySem.call_dict_pairs (knd := mixKind X.prog X.w) (kvs := prs) (PairArg.tuple a (ps.map Value.ref).toArray (fun j => ps.getD j 0) pv) (I.ok.hd hc) okA have_ (by rw [hl2]; exact hz) fun h' tk hd' k => ?_
  have hm : (s.heap.objs.size == sysModules) = false := beq_eq_false_iff_ne.mpr (Nat.ne_of_gt I.big)
  have hlen : (mergeK [] kvs).length ≤ sizeLine := by
    refine Nat.le_trans (length_mergeK kvs []) ?_
    rw [List.length_nil, Nat.zero_add, rel.length, hl]
    exact hz
  exact ⟨.ref s.heap.objs.size, upd H s.heap.objs.size (.dK (mergeK [] kvs)), I.laid (t' := tk) (fun b o e => k b o (by simp) e) (Nat.le_refl _) (show ObjOk X.prog X.w _ _ _ (.dK (mergeK [] kvs)) from ⟨hlen, hm, merged [] prs, KV.merge rel .nil, hd'⟩), rfl, q _ (I.hok.fresh (Nat.le_refl _))⟩
end
/-- tuple(d.items()): the model's call -/
theorem meets_tuple_view (r d : Addr) (es : Array DictEntry) (ep : Nat) (hn : es.size ≤ sizeLine) :
    Meets (Builtin.«tuple.__new__» ⟨[.type "tuple", .ref r], []⟩) (fun A R s => A.handled = none ∧ s.heap.IsItemsView r d ∧ s.heap.DictRaw d es ep ∧
      ∀ (h' : Heap) (tk : Nat) (as : List Addr), (∀ b o, s.heap.get? b = some o → h'.get? b = some o) → as.length = es.size → PySem.W.DilG es s.heap.objs.size h' as → R (.ok (.ret (.ref h'.objs.size))) { s with heap := h'.push { cls := .type "tuple", data := .seq (as.map Value.ref).toArray }, toks := tk }) :=
  .of_wp fun prog w A R s h => by
    obtain ⟨hp, g, dw, tk, os⟩ := s
    obtain ⟨hh, hv, hm, h⟩ := h
    have hv0 := hv
    obtain ⟨o, ho, hc, hd⟩ := hv0
    have hsub := sub_tuple_self
    have hinit := init_tuple_lookup
    have hmh := madeHere_tuple
    have hT : Shared.TypeIs ⟨hp, g, dw, tk, os⟩ (.ref r) "dict_items" := ⟨o, ho, hc⟩
    wp_walk using wpAny_loadPart' ho, wpAny_typeOf hT, PySem.W.dil_collect (A := A.in1) hh hv hm hn
    intro h' tk1 as hk hl hG
    show wpAny _ _ (Builtin.Tuple.tupleExact (as.map Value.ref).toArray >>= fun v => ret v) _ _ _
    unfold Builtin.Tuple.tupleExact
    refine wpAny_bind (wpAny_newObj_type ?_ (by show (as.map Value.ref).toArray.size ≤ sizeLine; simp [hl]; exact hn))
    exact wpAny_pure ⟨_, rfl, h h' tk1 as hk hl hG⟩
theorem call_tuple_view {prog : Program} {w : World} {A : Around} {E : Value → Shared → Prop} {s : Shared} {r d : Addr} {es : Array DictEntry} {ep : Nat} {Q : Value → Shared → Prop} (hh : A.handled = none) (hv : s.heap.IsItemsView r d) (hm : s.heap.DictRaw d es ep) (hn : es.size ≤ sizeLine)
    (h : ∀ (h' : Heap) (tk : Nat) (as : List Addr), (∀ b o, s.heap.get? b = some o → h'.get? b = some o) → as.length = es.size → PySem.W.DilG es s.heap.objs.size h' as → Q (.ref h'.objs.size) { s with heap := h'.push { cls := .type "tuple", data := .seq (as.map Value.ref).toArray }, toks := tk }) :
    wpAny (model prog w) A (call (.type "tuple") [.ref r]) Q E s :=
  callType_new F.called_tuple (by decide) (F.typeCall_tuple_1 _) (F.newCall_tuple_1 _) (fun obj => F.args_object_init_2 obj _) F.entry_tuple_new
    (meets_tuple_view r d es ep hn) ⟨hh, hv, hm, fun h' tk as hk hl hG => ⟨⟨_, Heap.get?_push_size _ rfl, rfl⟩, h h' tk as hk hl hG⟩⟩
section
variable {X : Cx}
/-- pairs of a dict as new tuples, tracked -/
theorem tups_laid {pins : List (Addr × Obj)} {σ : L2.St} {H : Hp} {s : Shared} {h' : Heap} {tk : Nat} {kvs : List (Key × V)} {vs : List (Key × Value)} {es : Array DictEntry} {as : List Addr} (I : Inv X pins σ H s) (kv : KV kvs vs) (hk : ∀ b o, s.heap.get? b = some o → h'.get? b = some o) (hl : as.length = es.size)
    (hes : es.size = vs.length) (hat : ∀ i (hi : i < es.size) k v, vs[i]? = some (k, v) → keyIs k es[i].key = true ∧ es[i].val = v) (hG : PySem.W.DilG es s.heap.objs.size h' as) :
    ∃ H' : Hp, (∀ b o, H b = some o → H' b = some o) ∧ (∀ t ∈ as, H t = none) ∧ Paired (fun (t : Addr) (q : Key × V) => H' t = some (.tup [kV q.1, q.2])) as kvs ∧ Inv X pins σ H' { s with heap := h', toks := tk } := by
  have lk : kvs.length = vs.length := Paired.length kv
  have nd : as.Nodup := hG.rise.imp fun {a b} (h : a < b) => Nat.ne_of_lt h
  have new : ∀ t ∈ as, H t = none := fun t ht => I.hok.fresh (Nat.le_of_lt (hG.above t ht))
  have atP := LiI.putT_at as kvs H (by omega) nd
  have kp : ∀ b u, H b = some u → (LiI.putT H as kvs) b = some u := fun b u e => by
    rw [LiI.putT_off as kvs H fun z => by rw [new b z] at e; cases e]
    exact e
  refine ⟨LiI.putT H as kvs, kp, new, atP, I.call' (ch := []) rfl ⟨fun b o q _ _ _ => hk b o q, fun b o q _ _ _ => ⟨o.slots, hk b o q⟩, fun b o q n _ => ?_, fun b o q _ => ⟨o, hk b o q⟩, fun b xs q => kp b _ q, fun b o u q => kp b _ q, fun b ps q => ⟨#[], by rw [kp b _ q]; simp⟩⟩ (fun b u q => ?_) I.bare fun b z => by simp at z⟩
  · rw [LiI.putT_off as kvs H fun z => absurd (Heap.lt_size q) (Nat.not_lt.mpr (Nat.le_of_lt (hG.above b z)))]
    exact n
  · by_cases hb : b ∈ as
    · obtain ⟨j, pk, e1, e2, e3⟩ := LiI.paired_ix atP hb
      rw [e3] at q
      cases q
      obtain ⟨hj, f3⟩ := hG.pairs j b e1
      obtain ⟨qv, g1, g2, g3⟩ := LiI.paired_get kv e2
      obtain ⟨k1, k2⟩ := hat j hj qv.1 qv.2 g1
      have rk : RelV (kV pk.1) es[j].key := by
        rw [g2]
        exact relV_key k1
      exact ⟨by show 2 ≤ sizeLine; decide, [es[j].key, es[j].val], .cons rk (.cons (by rw [k2]; exact g3) .nil), ⟨_, f3, rfl, _, rfl⟩⟩
    · rw [LiI.putT_off as kvs H hb] at q
      exact (I.hok b u q).stay (fun d v _ y => hk d v y) (fun d y => kp d _ y) fun d xs y => kp d _ y
def rItemsT2 : V → Hp → VK → Prop := fun x H Q => ∃ (d : Addr) (kvs : List (Key × V)), x = .ref d ∧ H d = some (.dK kvs) ∧
  ∀ (H' : Hp) (p : Addr) (ts : List Addr), (∀ b o, H b = some o → H' b = some o) → H p = none → H' p = none → Paired (fun (t : Addr) (q : Key × V) => H' t = some (.tup [kV q.1, q.2])) ts kvs → ∀ o : Obj, o.dict = none → Q (.ref p) (upd H' p (.frz o (.tup (ts.map V.ref))))
def tTupItems (te : TE) : TE := fun σ H Q => te σ H fun x H1 => rItemsT2 x H1 Q
/-- tuple(e.items()) -/
theorem pe_tupItems {e : Expr} {te : TE} {p apos cpos pos : Pos} (hc : X.calm = true) (he : PE X e te) (hg : Gl X "tuple") (hm : X.mg "tuple" = none) (hv : bootBuiltins "tuple" = some (.type "tuple")) (hbase : attributeBase e "items" X.env (eval e X.env) = eval e X.env := by rfl) (hline : (apos.endLine == cpos.line) = true := by rfl)
    (hs : starEach [.Call (.Attribute e "items" apos) [] [] cpos] X.env = (false, eval (.Call (.Attribute e "items" apos) [] [] cpos) X.env) :: starEach [] X.env := by rfl) :
    PE X (.Call (.Name "tuple" p) [.Call (.Attribute e "items" apos) [] [] cpos] [] pos) (tTupItems te) := by
  refine ⟨fun pins s σ H Q I hq => ?_⟩
  refine wpAny_Call_Name_kw (ld_blt I hg hm hv ?_)
  refine PyProof.Rows.callWith_type1 ?_ hs rfl
  rw [hs]
  show wpAny _ _ (spliced ((false, eval (.Call (.Attribute e "items" apos) [] [] cpos) X.env) :: backTo pos (starEach [] X.env))) _ _ s
  refine Calls.spliced_cons ?_
  refine wpAny_Call_method (T := "dict") (id := "dict.items") hbase rfl hline PySem.F.plainAttrs_dict PySem.F.slot_dict_items PySem.F.type_dict_items (thn (he.run pins s σ H _ I hq) fun u s1 ⟨x, H1, I1, rx, d, kvs, ex, hd, q⟩ => ?_)
  subst ex
  obtain rfl : u = Value.ref d := rx
  obtain ⟨hz, hs0, vs, kv, hdo⟩ := I1.hok d _ hd
  obtain ⟨ep, hat⟩ := hdo.dictAt
  have lk : kvs.length = vs.length := Paired.length kv
  have I2 : Inv X pins σ H1 { s1 with heap := s1.heap.push { cls := .type "dict_items", data := .fields #[.ref d] } } := I1.kept (t' := s1.toks) fun b ob q => Heap.get?_push_of_some _ q
  refine ⟨hdo.typeIs, hdo.mapOf.noDict, ?_⟩
  show wpAny _ _ (callWith cpos (.builtin "dict.items") [.ref d] [] []) _ X.xe s1
  refine method_meetsIn PySem.F.slot_dict_items PySem.F.entry_dict_items rfl (PySem.evalArgs_none ⟨rfl, hdo.typeIs, PySem.F.args_dict_items_1 _, _, meets_dict_items (mixKind X.prog X.w) d hs0, ⟨vs, hdo⟩, ?_⟩)
  refine Calls.spliced_nil ?_
  obtain ⟨es, hraw, hsz, hes⟩ := (hat.push { cls := .type "dict_items", data := .fields #[.ref d] }).raw
  refine call_tuple_view (I1.ok.hd hc) ⟨_, Heap.get?_push_size _ rfl, rfl, rfl⟩ hraw (by omega) fun h' tk as hk hl hG => ?_
  obtain ⟨H', k1, k2, k3, J⟩ := tups_laid (tk := tk) I2 kv hk hl hsz hes hG
  have hp' : H' h'.objs.size = none := J.hok.fresh (Nat.le_refl _)
  have hp : H1 h'.objs.size = none := by
    cases z : H1 h'.objs.size with
    | none => rfl
    | some u =>
      rw [k1 _ _ z] at hp'
      cases hp'
  exact ⟨.ref h'.objs.size, upd H' h'.objs.size (.frz { cls := .type "tuple", data := .seq (as.map Value.ref).toArray } (.tup (as.map V.ref))), J.laid (t' := tk) (fun b o e => Heap.get?_push_of_some _ e) (Nat.le_refl _) (show ObjOk X.prog X.w _ _ _ (.frz _ (.tup _)) from ⟨Heap.get?_push_size _ rfl, by rw [List.length_map]; omega, as.map Value.ref, LiI.vals_refs as, ⟨_, Heap.get?_push_size _ rfl, rfl, _, rfl⟩⟩), rfl, q H' _ as k1 hp hp' k3 _ rfl⟩
end
end HE

/-! ### KitZ -/
/-! list(zip(a, b)) of two lists: the pairs stay, each a tuple of its own -/
namespace ZpL
open PySem
/-- zip, its tuple T out of its hands -/
abbrev IsZo (h : Heap) (z TI TO T : Addr) (f : Bool) : Prop :=
  h.get? z = some { cls := .type "zip", dict := none, data := .fields #[rawInt T, .bool f, .bool false, .ref TI, .ref TO], slots := #[] }
section
variable {prog : Program} {w : World} {A : Around} {E : Value → Shared → Prop} {s : Shared} {z TI TO T i1 i2 l1 l2 : Addr} {f : Bool} {oT : Obj} {k1 k2 : Nat} {xs ys : Array Value} {x y : Value}
/-- up to the draws: the tuple is alive, so a new one is made -/
theorem not_free {α : Type} {k : Bool → Sem α} {Q : α → Shared → Prop} (hz : IsZo s.heap z TI TO T f) (hT : s.heap.get? T = some oT)
    (h : ∀ h1, IsZo h1 z TI TO T true → Heap.SameBut z s.heap h1 → wpAny (model prog w) A (k false) Q E { s with heap := h1 }) :
    wpAny (model prog w) A (Builtin.SmallTypes.ownedTupleIsFree (.ref z) >>= k) Q E s := by
  refine wpAny_bind ?_
  unfold Builtin.SmallTypes.ownedTupleIsFree
  refine wpAny_bind (wpAny_field hz rfl (x := rawInt T) rfl ?_)
  show wpAny _ _ (loadIfAlive ((T : Int).toNat) >>= _) _ _ _
  rw [Int.toNat_natCast]
  refine wpAny_bind (PySem.W.kdx_alive hT ?_)
  simp only [Option.isNone_some, Bool.false_eq_true, if_false]
  refine wpAny_bind (wpAny_field hz rfl (x := .bool f) rfl ?_)
  cases f with
  | true =>
    rw [if_neg (show ¬ ((Value.bool true != Value.bool true) = true) from Bool.false_ne_true)]
    exact wpAny_pure (h s.heap hz (Heap.SameBut.refl _ _))
  | false =>
    rw [if_pos (show (Value.bool false != Value.bool true) = true from rfl)]
    exact wpAny_bind (wpAny_setField_rec hz (by simp) fun h1 hz1 hs1 => wpAny_pure (h h1 hz1 hs1))
theorem kept_item {Q : Value → Shared → Prop} (D : ZipApart z TI TO i1 i2 l1 l2) (hz : IsZo s.heap z TI TO T f) (hT : s.heap.get? T = some oT) (hTI : IsPair s.heap TI (.ref i1) (.ref i2))
    (h1 : s.heap.IsListIter i1 l1 k1) (h2 : s.heap.IsListIter i2 l2 k2) (hl1 : s.heap.IsList l1 xs) (hl2 : s.heap.IsList l2 ys) (hx : xs[k1]? = some x) (hy : ys[k2]? = some y)
    (hQ : ∀ h', IsZo h' z TI TO T true → h'.IsListIter i1 l1 (k1 + 1) → h'.IsListIter i2 l2 (k2 + 1) → IsPair h' s.heap.objs.size x y → h'.objs.size = s.heap.objs.size + 1 →
      (∀ c o, c ≠ z → c ≠ i1 → c ≠ i2 → s.heap.get? c = some o → h'.get? c = some o) → Q (.ref s.heap.objs.size) { s with heap := h' }) :
    wpAny (model prog w) A (Builtin.«zip.__next__» ⟨[.ref z], []⟩) (fun fin s' => ∃ v, fin = .done (.ret v) ∧ Q v s') E s := by
  show wpAny _ _ (field (.ref z) 2 >>= _) _ _ _
  refine wpAny_bind (wpAny_field hz rfl (x := .bool false) rfl ?_)
  show wpAny _ _ (field (.ref z) 3 >>= _) _ _ _
  refine wpAny_bind (wpAny_field hz rfl (x := .ref TI) rfl ?_)
  refine wpAny_bind (wpAny_seqItems hTI rfl ?_)
  show wpAny _ _ (Builtin.SmallTypes.ownedTupleIsFree (.ref z) >>= _) _ _ _
  refine not_free hz hT fun g1 hz1 hs1 => ?_
  simp only [Bool.false_eq_true, if_false]
  refine wpAny_bind ?_
  simp only [List.forIn_toArray, List.forIn_cons, List.forIn_nil]
  refine wpAny_bind (wpAny_bind (wpAny_holding ?_))
  show wpAny _ _ (Builtin.SmallTypes.nextOf (.ref i1) >>= _) _ _ _
  refine wpAny_bind (wpAny_nextOf_list_item (h1.extBut hs1.extBut D.i1z) (hl1.extBut hs1.extBut D.l1z) hx fun g2 a2 hs2 => wpAny_pure (wpAny_pure ?_))
  refine wpAny_bind (wpAny_bind (wpAny_holding ?_))
  show wpAny _ _ (Builtin.SmallTypes.nextOf (.ref i2) >>= _) _ _ _
  refine wpAny_bind (wpAny_nextOf_list_item ((h2.extBut hs1.extBut D.i2z).extBut hs2.extBut D.i12.symm) ((hl2.extBut hs1.extBut D.l2z).extBut hs2.extBut D.l2i1) hy fun g3 a3 hs3 => wpAny_pure (wpAny_pure (wpAny_pure ?_)))
  show wpAny _ _ (newTuple [x, y] >>= fun v => ret v) _ _ _
  refine wpAny_bind (wpAny_newTuple (wpAny_pure ⟨_, rfl, ?_⟩))
  have up : ∀ c o, c ≠ z → c ≠ i1 → c ≠ i2 → s.heap.get? c = some o → g3.get? c = some o := fun c o c1 c2 c3 e => hs3.extBut _ _ c3 (hs2.extBut _ _ c2 (hs1.extBut _ _ c1 e))
  have sz : g3.objs.size = s.heap.objs.size := by rw [hs3.1, hs2.1, hs1.1]
  have e := hQ (g3.push { cls := .type "tuple", data := .seq #[x, y] }) (Heap.get?_push_of_some _ (hs3.extBut _ _ D.i2z.symm (hs2.extBut _ _ D.i1z.symm hz1))) ((a2.extBut hs3.extBut D.i12).at fun o e => Heap.get?_push_of_some _ e) (a3.at fun o e => Heap.get?_push_of_some _ e)
    (by rw [← sz]; exact Heap.get?_push_size _ rfl) (by rw [Heap.size_push, sz]) fun c o c1 c2 c3 e => Heap.get?_push_of_some _ (up c o c1 c2 c3 e)
  show Q (.ref g3.objs.size) _
  rw [sz]
  exact e
/-- it is over -/
theorem kept_end {Q : Fin → Shared → Prop} (hh : A.handled = none) (D : ZipApart z TI TO i1 i2 l1 l2) (hz : IsZo s.heap z TI TO T f) (hT : s.heap.get? T = some oT) (hTI : IsPair s.heap TI (.ref i1) (.ref i2))
    (h1 : s.heap.IsListIter i1 l1 k1) (h2 : s.heap.IsListIter i2 l2 k2) (hl1 : s.heap.IsList l1 xs) (hl2 : s.heap.IsList l2 ys) (hend : xs[k1]? = none ∨ ys[k2]? = none)
    (hE : ∀ h' e, (∀ c o, c ≠ z → c ≠ i1 → c ≠ i2 → s.heap.get? c = some o → h'.get? c = some o) → (∃ o, h'.get? e = some o ∧ o.cls = .type "StopIteration") → E (.ref e) { s with heap := h' }) :
    wpAny (model prog w) A (Builtin.«zip.__next__» ⟨[.ref z], []⟩) Q E s := by
  show wpAny _ _ (field (.ref z) 2 >>= _) _ _ _
  refine wpAny_bind (wpAny_field hz rfl (x := .bool false) rfl ?_)
  show wpAny _ _ (field (.ref z) 3 >>= _) _ _ _
  refine wpAny_bind (wpAny_field hz rfl (x := .ref TI) rfl ?_)
  refine wpAny_bind (wpAny_seqItems hTI rfl ?_)
  show wpAny _ _ (Builtin.SmallTypes.ownedTupleIsFree (.ref z) >>= _) _ _ _
  refine not_free hz hT fun g1 hz1 hs1 => ?_
  simp only [Bool.false_eq_true, if_false]
  refine wpAny_bind ?_
  simp only [List.forIn_toArray, List.forIn_cons, List.forIn_nil]
  refine wpAny_bind (wpAny_bind (wpAny_holding ?_))
  show wpAny _ _ (Builtin.SmallTypes.nextOf (.ref i1) >>= _) _ _ _
  cases hx : xs[k1]? with
  | none => exact wpAny_bind (wpAny_nextOf_list_end hh (h1.extBut hs1.extBut D.i1z) (hl1.extBut hs1.extBut D.l1z) hx fun g2 e hs2 he => hE g2 e (fun c o c1 c2 _ x => hs2 _ _ c2 (hs1.extBut _ _ c1 x)) he)
  | some x =>
    have hy : ys[k2]? = none := by rcases hend with h | h; rw [hx] at h; cases h; exact h
    refine wpAny_bind (wpAny_nextOf_list_item (h1.extBut hs1.extBut D.i1z) (hl1.extBut hs1.extBut D.l1z) hx fun g2 a2 hs2 => wpAny_pure (wpAny_pure ?_))
    refine wpAny_bind (wpAny_bind (wpAny_holding ?_))
    show wpAny _ _ (Builtin.SmallTypes.nextOf (.ref i2) >>= _) _ _ _
    exact wpAny_bind (wpAny_nextOf_list_end hh ((h2.extBut hs1.extBut D.i2z).extBut hs2.extBut D.i12.symm) ((hl2.extBut hs1.extBut D.l2z).extBut hs2.extBut D.l2i1) hy fun g3 e hs3 he => hE g3 e (fun c o c1 c2 c3 x => hs3 _ _ c3 (hs2.extBut _ _ c2 (hs1.extBut _ _ c1 x))) he)
/-- both states of the iterator, ahead of the first pair and behind it -/
def ZSt (h : Heap) (z TI TO i1 i2 l1 l2 S : Addr) (i : Nat) : Prop :=
  IsPair h TI (.ref i1) (.ref i2) ∧ h.IsListIter i1 l1 i ∧ h.IsListIter i2 l2 i ∧ ((i = 0 ∧ IsZip h z TI TO .none ∧ ∃ a b, IsPair h TO a b) ∨ ∃ (T : Addr) (f : Bool) (oT : Obj), IsZo h z TI TO T f ∧ h.get? T = some oT ∧ T ≠ z ∧ T ≠ i1 ∧ T ≠ i2 ∧ T ≠ S)
theorem zst_item {S : Addr} {i : Nat} {Q : Option Value → Shared → Prop} (D : ZipApart z TI TO i1 i2 l1 l2) (st : ZSt s.heap z TI TO i1 i2 l1 l2 S i) (hS : S < s.heap.objs.size) (hTO : TO ≠ S) (hl1 : s.heap.IsList l1 xs) (hl2 : s.heap.IsList l2 ys) (hx : xs[i]? = some x) (hy : ys[i]? = some y)
    (hQ : ∀ h', ZSt h' z TI TO i1 i2 l1 l2 S (i + 1) → IsPair h' s.heap.objs.size x y → h'.objs.size = s.heap.objs.size + 1 → (∀ c o, c ≠ z → c ≠ TO → c ≠ i1 → c ≠ i2 → s.heap.get? c = some o → h'.get? c = some o) → Q (some (.ref s.heap.objs.size)) { s with heap := h' }) :
    wpAny (model prog w) A (pyNext (.ref z)) Q E s := by
  obtain ⟨hTI, h1, h2, ⟨_, hz, a, b, hTOp⟩ | ⟨T, f, oT, hz, hT, t1, t2, t3, t4⟩⟩ := st
  · have lt : ∀ {c o}, s.heap.get? c = some o → s.heap.objs.size ≠ c := fun e => Nat.ne_of_gt (Heap.lt_size e)
    refine wpAny_pyNext_zip_item D hz hTI hTOp h1 h2 hl1 hl2 hx hy fun h' a1 a2 a3 a4 a5 a6 hk => hQ h' ⟨hk _ _ D.TIz D.TITO D.TIi1 D.TIi2 hTI, a3, a4, .inr ⟨_, false, _, a1, a5, lt hz, (by obtain ⟨_, e, _⟩ := h1; exact lt e), (by obtain ⟨_, e, _⟩ := h2; exact lt e), Nat.ne_of_gt hS⟩⟩ a5 a6 hk
  · have hTy : s.TypeIs (.ref z) "zip" := ⟨_, hz, rfl⟩
    unfold pyNext
    exact wpAny_bind (wpAny_attempt (wpAny_callSpecial?_slot (name := Str.ofString "__next__") hTy F.slot_zip_next (wpAny_call_entry F.slot_zip_next hTy F.entry_zip_next
      (kept_item D hz hT hTI h1 h2 hl1 hl2 hx hy fun h' a1 a3 a4 a5 a6 hk => wpAny_pure (hQ h' ⟨hk _ _ D.TIz D.TIi1 D.TIi2 hTI, a3, a4, .inr ⟨T, true, oT, a1, hk _ _ t1 t2 t3 hT, t1, t2, t3, t4⟩⟩ a5 a6 fun c o c1 _ c3 c4 e => hk c o c1 c3 c4 e)) (F.args_zip_next_1 _))))
theorem zst_end {S : Addr} {i : Nat} {Q : Option Value → Shared → Prop} (hh : A.handled = none) (D : ZipApart z TI TO i1 i2 l1 l2) (st : ZSt s.heap z TI TO i1 i2 l1 l2 S i) (hl1 : s.heap.IsList l1 xs) (hl2 : s.heap.IsList l2 ys) (hend : xs[i]? = none ∨ ys[i]? = none)
    (hQ : ∀ h', (∀ c o, c ≠ z → c ≠ TO → c ≠ i1 → c ≠ i2 → s.heap.get? c = some o → h'.get? c = some o) → Q none { s with heap := h' }) : wpAny (model prog w) A (pyNext (.ref z)) Q E s := by
  obtain ⟨hTI, h1, h2, ⟨_, hz, a, b, hTOp⟩ | ⟨T, f, oT, hz, hT, t1, t2, t3, t4⟩⟩ := st
  · exact wpAny_pyNext_zip_end hh D hz hTI hTOp h1 h2 hl1 hl2 hend hQ
  · have hTy : s.TypeIs (.ref z) "zip" := ⟨_, hz, rfl⟩
    unfold pyNext
    refine wpAny_bind (wpAny_attempt (wpAny_callSpecial?_slot (name := Str.ofString "__next__") hTy F.slot_zip_next (wpAny_call_entry F.slot_zip_next hTy F.entry_zip_next
      (kept_end hh D hz hT hTI h1 h2 hl1 hl2 hend fun h' e hk he => ?_) (F.args_zip_next_1 _))))
    obtain ⟨o, ho, hc⟩ := he
    refine wpAny_bind (wpAny_isInstance (T := "StopIteration") (b := true) ⟨o, ho, hc⟩ isSubtype_stop ?_)
    exact wpAny_pure (hQ _ fun c o c1 _ c3 c4 e => hk c o c1 c3 c4 e)
end
theorem ZSt.keep {h h' : Heap} {z TI TO i1 i2 l1 l2 S : Addr} {i : Nat} (x : ZSt h z TI TO i1 i2 l1 l2 S i) (hk : ∀ b o, b ≠ S → h.get? b = some o → h'.get? b = some o) (n1 : z ≠ S) (n2 : TI ≠ S) (n3 : TO ≠ S) (n4 : i1 ≠ S) (n5 : i2 ≠ S) : ZSt h' z TI TO i1 i2 l1 l2 S i := by
  obtain ⟨a, b, c, ⟨d, e, u, v, g⟩ | ⟨T, f, oT, e, g, t1, t2, t3, t4⟩⟩ := x
  · exact ⟨hk _ _ n2 a, b.at fun o e => hk _ o n4 e, c.at fun o e => hk _ o n5 e, .inl ⟨d, hk _ _ n1 e, u, v, hk _ _ n3 g⟩⟩
  · exact ⟨hk _ _ n2 a, b.at fun o e => hk _ o n4 e, c.at fun o e => hk _ o n5 e, .inr ⟨T, f, oT, hk _ _ n1 e, hk _ _ t4 g, t1, t2, t3, t4⟩⟩
/-- the pairs that were made -/
structure ZpG (xs ys : Array Value) (lo : Addr) (h : Heap) (as : List Addr) : Prop where
  rise : as.Pairwise (· < ·)
  above : ∀ a ∈ as, lo < a
  pairs : ∀ (j : Nat) (a : Addr), as[j]? = some a → ∃ x y, xs[j]? = some x ∧ ys[j]? = some y ∧ h.get? a = some { cls := .type "tuple", data := .seq #[x, y] }
theorem ZpG.there {xs ys : Array Value} {lo : Addr} {h : Heap} {as : List Addr} (g : ZpG xs ys lo h as) {a : Addr} (ha : a ∈ as) : a < h.objs.size := by
  obtain ⟨j, hj⟩ := List.mem_iff_getElem?.mp ha
  obtain ⟨_, _, _, _, e⟩ := g.pairs j a hj
  exact Heap.lt_size e
theorem zip_no_len : typeLookup (.type "zip") "__len__" = pure none := by rw [typeLookup_type, builtinLookup_eq_fast]; kernel_rfl
theorem zip_no_hint : typeLookup (.type "zip") "__length_hint__" = pure none := by rw [typeLookup_type, builtinLookup_eq_fast]; kernel_rfl
section
variable {prog : Program} {w : World} {A : Around} {E : Value → Shared → Prop} {s : Shared} {R : Result → Shared → Prop} {z TI TO i1 i2 l1 l2 S lo : Addr} {xs ys : Array Value}
theorem zp_loop (hh : A.handled = none) (D : ZipApart z TI TO i1 i2 l1 l2) (n1 : z ≠ S) (n2 : TI ≠ S) (n3 : TO ≠ S) (n4 : i1 ≠ S) (n5 : i2 ≠ S) (n6 : l1 ≠ S) (n7 : l2 ≠ S) (q1 : z ≤ lo) (q2 : TO ≤ lo) (q3 : i1 ≤ lo) (q4 : i2 ≤ lo) (q5 : S ≤ lo) (hn : min xs.size ys.size ≤ sizeLine) (res : Value) {h₁ : Heap}
    (hR : ∀ h' tk acc c as, (∀ b o, b ≠ S → b ≠ z → b ≠ TO → b ≠ i1 → b ≠ i2 → h₁.get? b = some o → h'.get? b = some o) → h'.get? S = some { cls := .type "list", dict := none, data := .seq acc c, slots := #[] } → as.length = min xs.size ys.size → ZpG xs ys lo h' as →
      acc.toList = as.map Value.ref → R (.ok (.ret res)) { s with heap := h', toks := tk }) :
    ∀ (k i : Nat) (h : Heap) (tk c : Nat) (acc : Array Value) (as : List Addr), min xs.size ys.size - i = k → i ≤ min xs.size ys.size → ZSt h z TI TO i1 i2 l1 l2 S i → h.IsList l1 xs → h.IsList l2 ys → (∀ b o, b ≠ S → b ≠ z → b ≠ TO → b ≠ i1 → b ≠ i2 → h₁.get? b = some o → h.get? b = some o) →
      h.get? S = some { cls := .type "list", dict := none, data := .seq acc c, slots := #[] } → acc.toList = as.map Value.ref → as.length = i → ZpG xs ys lo h as → lo < h.objs.size →
      codeAny (model prog w) A (.builtin "list.extend.loop" ⟨[.ref S, .ref z, res], []⟩) R { s with heap := h, toks := tk } := by
  intro k
  induction k with
  | zero =>
    intro i h tk c acc as hk hi st hl1 hl2 hkeep hS hacc hal hG hIs
    refine codeAny_builtin PySem.F.entry_extend_loop ?_
    rw [Around.under_plainId PySem.F.plain_extend_loop _]
    show wpAny _ A.in1 (pyNext (.ref z) >>= _) _ _ _
    have hend : xs[i]? = none ∨ ys[i]? = none := by
      rcases Nat.le_total xs.size ys.size with g | g
      · exact .inl (Array.getElem?_eq_none (by rw [Nat.min_eq_left g] at *; omega))
      · exact .inr (Array.getElem?_eq_none (by rw [Nat.min_eq_right g] at *; omega))
    refine wpAny_bind (zst_end (s := { s with heap := h, toks := tk }) (A := A.in1) hh D st hl1 hl2 hend fun h' he => ?_)
    refine wpAny_pure (hR h' tk acc c as (fun b o b1 b2 b3 b4 b5 e => he b o b2 b3 b4 b5 (hkeep b o b1 b2 b3 b4 b5 e)) (he S _ n1.symm n3.symm n4.symm n5.symm hS) (by omega) ⟨hG.rise, hG.above, fun j a hj => ?_⟩ hacc)
    obtain ⟨x, y, e1, e2, e3⟩ := hG.pairs j a hj
    have hb := hG.above a (List.mem_of_getElem? hj)
    exact ⟨x, y, e1, e2, he a _ (Nat.ne_of_gt (Nat.lt_of_le_of_lt q1 hb)) (Nat.ne_of_gt (Nat.lt_of_le_of_lt q2 hb)) (Nat.ne_of_gt (Nat.lt_of_le_of_lt q3 hb)) (Nat.ne_of_gt (Nat.lt_of_le_of_lt q4 hb)) e3⟩
  | succ k ih =>
    intro i h tk c acc as hk hi st hl1 hl2 hkeep hS hacc hal hG hIs
    have hix : i < xs.size := by omega
    have hiy : i < ys.size := by omega
    have hsz : acc.size = i := by rw [← Array.length_toList, hacc, List.length_map, hal]
    refine codeAny_builtin PySem.F.entry_extend_loop ?_
    rw [Around.under_plainId PySem.F.plain_extend_loop _]
    show wpAny _ A.in1 (pyNext (.ref z) >>= _) _ _ _
    refine wpAny_bind (zst_item (s := { s with heap := h, toks := tk }) D st (Heap.lt_size hS) n3 hl1 hl2 (Array.getElem?_eq_getElem hix) (Array.getElem?_eq_getElem hiy) fun h' st' ht hz hkp => ?_)
    dsimp only at ht hz hkp ⊢
    have hS' := hkp S _ n1.symm n3.symm n4.symm n5.symm hS
    have up : ∀ b o, b ≠ S → h'.get? b = some o → (h'.update S (Obj.mapSeq (·.push (Value.ref h.objs.size)))).get? b = some o := fun b o hb e => (Heap.get?_update_other _ _ (Ne.symm hb)).trans e
    have hSl : S < h.objs.size := Heap.lt_size hS
    show wpAny _ A.in1 (updateSeq S (·.push (Value.ref h.objs.size)) >>= _) _ _ _
    refine wpAny_bind ?_
    refine wpAny_updateSeq hS' rfl (wpAny_pure ⟨plainId_quiet PySem.F.plain_extend_loop _, ih (i + 1) _ tk _ (acc.push (Value.ref h.objs.size)) (as ++ [h.objs.size]) (by omega) (by omega) (st'.keep up n1 n2 n3 n4 n5)
      (hl1.at fun o e => up l1 o n6 (hkp l1 o D.l1z D.l1TO D.l1i1 D.l1i2 e)) (hl2.at fun o e => up l2 o n7 (hkp l2 o D.l2z D.l2TO D.l2i1 D.l2i2 e)) (fun b o b1 b2 b3 b4 b5 e => up b o b1 (hkp b o b2 b3 b4 b5 (hkeep b o b1 b2 b3 b4 b5 e)))
      (Heap.get?_update_self _ hS' rfl) (by rw [Array.toList_push, hacc, List.map_append]; rfl) (by rw [List.length_append, hal]; rfl) ⟨?_, ?_, ?_⟩ ?_⟩) (by rw [hsz]; omega) (by show (acc.push (Value.ref h.objs.size)).size ≤ sizeLine + 1; rw [Array.size_push, hsz]; omega)
    · refine List.pairwise_append.mpr ⟨hG.rise, List.pairwise_singleton _ _, fun a ha b hb => ?_⟩
      rw [List.mem_singleton.mp hb]
      exact hG.there ha
    · intro a ha
      rcases List.mem_append.mp ha with ha | ha
      · exact hG.above a ha
      · rw [List.mem_singleton.mp ha]; exact hIs
    · intro j b hj
      rcases Nat.lt_trichotomy j as.length with g1 | g1 | g1
      · rw [List.getElem?_append_left g1] at hj
        obtain ⟨x, y, e1, e2, e3⟩ := hG.pairs j b hj
        have hb := hG.above b (List.mem_of_getElem? hj)
        exact ⟨x, y, e1, e2, up b _ (Nat.ne_of_gt (Nat.lt_of_le_of_lt q5 hb)) (hkp b _ (Nat.ne_of_gt (Nat.lt_of_le_of_lt q1 hb)) (Nat.ne_of_gt (Nat.lt_of_le_of_lt q2 hb)) (Nat.ne_of_gt (Nat.lt_of_le_of_lt q3 hb)) (Nat.ne_of_gt (Nat.lt_of_le_of_lt q4 hb)) e3)⟩
      · subst g1
        have hb : h.objs.size = b := by simpa using hj
        subst hb
        exact ⟨xs[i], ys[i], by rw [hal]; exact Array.getElem?_eq_getElem hix, by rw [hal]; exact Array.getElem?_eq_getElem hiy, up _ _ (Nat.ne_of_gt hSl) ht⟩
      · have hnone : (as ++ [h.objs.size])[j]? = none := List.getElem?_eq_none (by rw [List.length_append, List.length_singleton]; omega)
        rw [hnone] at hj; cases hj
    · have e : (h'.update S (Obj.mapSeq (·.push (Value.ref h.objs.size)))).get? h.objs.size = _ := up _ _ (Nat.ne_of_gt hSl) ht
      exact Nat.lt_trans hIs (Heap.lt_size e)
theorem zp_hint (hT : s.TypeIs (.ref z) "zip") {Q : Bool → Shared → Prop} (h : Q true s) : wpAny (model prog w) A (Builtin.List.listLengthHint (.ref z)) Q E s := by
  unfold Builtin.List.listLengthHint
  refine wpAny_bind (wpAny_specialOf hT zip_no_len ?_)
  show wpAny _ _ (specialOf (.ref z) "__length_hint__" >>= _) _ _ _
  refine wpAny_bind (wpAny_specialOf hT zip_no_hint ?_)
  exact wpAny_pure h
theorem zp_extend (hh : A.handled = none) (D : ZipApart z TI TO i1 i2 l1 l2) (n1 : z ≠ S) (n2 : TI ≠ S) (n3 : TO ≠ S) (n4 : i1 ≠ S) (n5 : i2 ≠ S) (n6 : l1 ≠ S) (n7 : l2 ≠ S) (hn : min xs.size ys.size ≤ sizeLine) (res : Value) (c₀ : Nat) (st : ZSt s.heap z TI TO i1 i2 l1 l2 S 0) (hz : ∃ f0, IsZip s.heap z TI TO f0)
    (hl1 : s.heap.IsList l1 xs) (hl2 : s.heap.IsList l2 ys) (hTOs : TO < s.heap.objs.size) (hS : s.heap.get? S = some { cls := .type "list", data := .seq #[] c₀ })
    (hR : ∀ h' tk acc c as, (∀ b o, b ≠ S → b ≠ z → b ≠ TO → b ≠ i1 → b ≠ i2 → s.heap.get? b = some o → h'.get? b = some o) → h'.get? S = some { cls := .type "list", dict := none, data := .seq acc c, slots := #[] } → as.length = min xs.size ys.size → ZpG xs ys (s.heap.objs.size - 1) h' as →
      acc.toList = as.map Value.ref → R (.ok (.ret res)) { s with heap := h', toks := tk }) :
    wpAny (model prog w) A.in1 (Builtin.List.listExtendWith (.ref S) (.ref z) res)
      (fun fin s' => match fin with | .done f => R (.ok f) s' | .again c' => c'.quiet = true ∧ codeAny (model prog w) A c' R s') (fun e s' => R (.error e) s') s := by
  obtain ⟨f0, hz⟩ := hz
  have hSl : S < s.heap.objs.size := Heap.lt_size hS
  have hzl : z < s.heap.objs.size := Heap.lt_size hz
  have h1l : i1 < s.heap.objs.size := by obtain ⟨_, e, _⟩ := st.2.1; exact Heap.lt_size e
  have h2l : i2 < s.heap.objs.size := by obtain ⟨_, e, _⟩ := st.2.2.1; exact Heap.lt_size e
  have hpos : s.heap.objs.size - 1 < s.heap.objs.size := Nat.sub_one_lt (Nat.ne_of_gt (Nat.lt_of_le_of_lt (Nat.zero_le S) hSl))
  have key : ∀ (h : Heap) (c₁ tk : Nat), (∀ b o, b ≠ S → s.heap.get? b = some o → h.get? b = some o) → h.get? S = some { cls := .type "list", data := .seq #[] c₁ } → s.heap.objs.size - 1 < h.objs.size → codeAny (model prog w) A (.builtin "list.extend.loop" ⟨[.ref S, .ref z, res], []⟩) R { s with heap := h, toks := tk } := by
    intro h c₁ tk hk hS₁ hsz
    exact zp_loop (s := s) (lo := s.heap.objs.size - 1) (h₁ := s.heap) hh D n1 n2 n3 n4 n5 n6 n7 (Nat.le_sub_one_of_lt hzl) (Nat.le_sub_one_of_lt hTOs) (Nat.le_sub_one_of_lt h1l) (Nat.le_sub_one_of_lt h2l) (Nat.le_sub_one_of_lt hSl) hn res hR _ 0 h tk c₁ #[] [] (Nat.sub_zero _) (Nat.zero_le _) (st.keep hk n1 n2 n3 n4 n5) (hl1.at fun o e => hk l1 o n6 e) (hl2.at fun o e => hk l2 o n7 e)
      (fun b o hb _ _ _ _ e => hk b o hb e) hS₁ rfl rfl ⟨List.Pairwise.nil, (fun _ ha => nomatch ha), (fun j a hj => by simp at hj)⟩ hsz
  unfold Builtin.List.listExtendWith
  have hT : s.TypeIs (.ref z) "zip" := ⟨_, hz, rfl⟩
  refine wpAny_bind (wpAny_typeOf (T := "zip") hT ?_)
  have h1 : Builtin.List.listSameRef (.ref S) (.ref z) = false := by simp [Builtin.List.listSameRef, n1.symm]
  have h2 : (Value.type "zip" == Value.type "list") = false := by decide
  have h3 : (Value.type "zip" == Value.type "tuple") = false := by decide
  simp only [h1, h2, h3, Bool.or_false, Bool.false_eq_true, if_false]
  refine wpAny_bind (wpAny_pyIter_zip hz ?_)
  refine wpAny_bind (wpAny_holding (zp_hint hT ?_))
  refine wpAny_ite_split (fun _ => ?_) (fun _ => wpAny_pure ⟨plainId_quiet PySem.F.plain_extend_loop _, key _ c₀ _ (fun b o _ e => e) hS hpos⟩)
  refine wpAny_bind (wpAny_rule ?_)
  refine wpAny_bind ?_
  show wpAny _ _ (updateSeq S (·.push .none) >>= fun _ => updateSeq S (·.pop)) _ _ _
  refine wpAny_bind (wpAny_updateSeq hS rfl ?_)
  have hS₂ := Heap.get?_update_self (Obj.mapSeq (·.push Value.none)) hS rfl
  refine wpAny_updateSeq (hz := by seq_fits) hS₂ rfl ?_
  have hS₃ := Heap.get?_update_self (Obj.mapSeq (·.pop)) hS₂ rfl
  refine wpAny_pure ⟨plainId_quiet PySem.F.plain_extend_loop _, key _ _ _ (fun b o hb e => ?_) hS₃ (by rw [Heap.size_update, Heap.size_update]; exact hpos)⟩
  exact (Heap.get?_update_other _ _ (Ne.symm hb)).trans ((Heap.get?_update_other _ _ (Ne.symm hb)).trans e)
theorem zp_call {Q : Value → Shared → Prop} (hh : A.handled = none) (D : ZipApart z TI TO i1 i2 l1 l2) (hn : min xs.size ys.size ≤ sizeLine) (hz : IsZip s.heap z TI TO .none) (hTI : IsPair s.heap TI (.ref i1) (.ref i2)) (hTO : IsPair s.heap TO .none .none) (h1 : s.heap.IsListIter i1 l1 0) (h2 : s.heap.IsListIter i2 l2 0)
    (hl1 : s.heap.IsList l1 xs) (hl2 : s.heap.IsList l2 ys)
    (hQ : ∀ h' tk acc c as, (∀ b o, b ≠ z → b ≠ TO → b ≠ i1 → b ≠ i2 → s.heap.get? b = some o → h'.get? b = some o) → h'.get? s.heap.objs.size = some { cls := .type "list", dict := none, data := .seq acc c, slots := #[] } → as.length = min xs.size ys.size → ZpG xs ys s.heap.objs.size h' as →
      acc.toList = as.map Value.ref → Q (.ref s.heap.objs.size) { s with heap := h', toks := tk }) :
    wpAny (model prog w) A (call (.type "list") [.ref z]) Q E s := by
  refine callType_codes (Q₁ := fun obj s₁ => obj = .ref s.heap.objs.size ∧ s₁ = { s with heap := s.heap.push { cls := .type "list", data := .seq #[] } }) PySem.F.called_list (PySem.F.typeCall_list_1 _) PySem.F.entry_list_init
    (code_list_new _ ⟨rfl, rfl⟩) fun obj s₁ h₁ => ?_
  obtain ⟨rfl, rfl⟩ := h₁
  have hS : (s.heap.push { cls := .type "list", data := .seq #[] }).get? s.heap.objs.size = some { cls := .type "list", data := .seq #[] } := Heap.get?_push_size _ rfl
  have up0 : ∀ b o, s.heap.get? b = some o → (s.heap.push { cls := .type "list", data := .seq #[] }).get? b = some o := fun b o e => Heap.get?_push_of_some _ e
  have lt : ∀ {b : Addr} {o : Obj}, s.heap.get? b = some o → b ≠ s.heap.objs.size := fun e => Nat.ne_of_lt (Heap.lt_size e)
  have m1 : i1 ≠ s.heap.objs.size := by obtain ⟨_, e, _⟩ := h1; exact lt e
  have m2 : i2 ≠ s.heap.objs.size := by obtain ⟨_, e, _⟩ := h2; exact lt e
  have m3 : l1 ≠ s.heap.objs.size := by obtain ⟨_, e, _⟩ := hl1; exact lt e
  have m4 : l2 ≠ s.heap.objs.size := by obtain ⟨_, e, _⟩ := hl2; exact lt e
  refine ⟨⟨_, hS, rfl⟩, PySem.F.args_list_init_2 _ _, ?_⟩
  show wpAny _ _ (do let old ← Builtin.List.listItems (.ref s.heap.objs.size); Builtin.List.listUpdate (.ref s.heap.objs.size) (fun _ => #[]); letGo old.toList.reverse; Builtin.List.listExtendWith (.ref s.heap.objs.size) (.ref z) .none) _ _ _
  refine wpAny_bind ?_
  unfold Builtin.List.listItems
  refine wpAny_bind (wpAny_seqItems hS rfl (wpAny_pure ?_))
  show wpAny _ _ (updateSeq s.heap.objs.size (fun _ => #[]) >>= fun _ => letGo (#[] : Array Value).toList.reverse >>= fun _ => Builtin.List.listExtendWith (.ref s.heap.objs.size) (.ref z) .none) _ _ _
  refine wpAny_bind (wpAny_updateSeq hS rfl ?_)
  have hS₂ := Heap.get?_update_self (Obj.mapSeq (fun _ => (#[] : Array Value))) hS rfl
  have oth : ∀ b o, s.heap.get? b = some o → ((s.heap.push { cls := .type "list", data := .seq #[] }).update s.heap.objs.size (Obj.mapSeq (fun _ => (#[] : Array Value)))).get? b = some o :=
    fun b o e => (Heap.get?_update_other _ _ (Ne.symm (lt e))).trans (up0 b o e)
  have hsz : ((s.heap.push { cls := .type "list", data := .seq #[] }).update s.heap.objs.size (Obj.mapSeq (fun _ => (#[] : Array Value)))).objs.size = s.heap.objs.size + 1 := by rw [Heap.size_update, Heap.size_push]
  refine wpAny_bind (wpAny_letGo ?_)
  refine zp_extend (A := A.in1) (TI := TI) (TO := TO) (i1 := i1) (i2 := i2) (l1 := l1) (l2 := l2) (xs := xs) (ys := ys) hh D (lt hz) (lt hTI) (lt hTO) m1 m2 m3 m4 hn .none _ ⟨oth _ _ hTI, h1.at fun o e => oth _ o e, h2.at fun o e => oth _ o e, .inl ⟨rfl, oth _ _ hz, _, _, oth _ _ hTO⟩⟩ ⟨_, oth _ _ hz⟩ (hl1.at fun o e => oth _ o e) (hl2.at fun o e => oth _ o e) (by
    show TO < _
    rw [hsz]
    exact Nat.lt_succ_of_lt (Heap.lt_size hTO)) hS₂ fun h' tk acc c as hk hS' hl hG hacc => ?_
  refine ⟨rfl, hQ h' tk acc c as (fun b o b1 b2 b3 b4 e => hk b o (lt e) b1 b2 b3 b4 (oth b o e)) hS' hl ?_ hacc⟩
  have e : ((s.heap.push { cls := .type "list", data := .seq #[] }).update s.heap.objs.size (Obj.mapSeq (fun _ => (#[] : Array Value)))).objs.size - 1 = s.heap.objs.size := by rw [hsz]; rfl
  rw [← e]
  exact hG
end
end ZpL
namespace HE
open PySem PySem.Spec PyProof.Rows L2
def putP : Hp → List Addr → List (V × V) → Hp
  | H, a :: as, p :: ps => putP (upd H a (.tup [p.1, p.2])) as ps
  | H, _, _ => H
theorem putP_off {b : Addr} : ∀ (as : List Addr) (ps : List (V × V)) (H : Hp), b ∉ as → putP H as ps b = H b
  | [], _, _, _ => rfl
  | _ :: _, [], _, _ => rfl
  | a :: as, p :: ps, H, h => (putP_off as ps _ fun z => h (.tail _ z)).trans (upd_ne fun z => h (z ▸ .head _))
theorem putP_at : ∀ (as : List Addr) (ps : List (V × V)) (H : Hp), as.length = ps.length → as.Nodup → ∀ (j : Nat) (t : Addr), as[j]? = some t → ∃ p, ps[j]? = some p ∧ putP H as ps t = some (.tup [p.1, p.2])
  | [], _, _, _, _, j, t, h => by simp at h
  | _ :: _, [], _, h, _, _, _, _ => by cases h
  | a :: as, p :: ps, H, h, hn, j, t, hj => by
    obtain ⟨n1, n2⟩ := List.nodup_cons.mp hn
    cases j with
    | zero =>
      obtain rfl := Option.some.inj hj
      exact ⟨p, rfl, (putP_off as ps _ n1).trans upd_same⟩
    | succ j => exact putP_at as ps (upd H a (.tup [p.1, p.2])) (Nat.succ.inj h) n2 j t hj
theorem vals_get : ∀ {xs : List V} {its : List Value}, Vals xs its → ∀ {j : Nat} {u : Value}, its[j]? = some u → ∃ x, xs[j]? = some x ∧ RelV x u
  | _, _, .nil, j, u, h => by simp at h
  | _, _, .cons r t, 0, u, h => by
    obtain rfl := Option.some.inj h
    exact ⟨_, rfl, r⟩
  | _, _, .cons r t, j + 1, u, h => vals_get t (j := j) h
section
variable {X : Cx}
theorem zips_laid {pins : List (Addr × Obj)} {σ : L2.St} {H : Hp} {s : Shared} {h' : Heap} {tk c : Nat} {S : Addr} {acc : Array Value} {as : List Addr} {xs ys : List V} {its its2 : List Value} (I : Inv X pins σ H s) (rx : Vals xs its) (ry : Vals ys its2) (hz : min xs.length ys.length ≤ sizeLine) (hk : ∀ b o, s.heap.get? b = some o → h'.get? b = some o)
    (hlo : s.heap.objs.size ≤ S) (hS : h'.get? S = some { cls := .type "list", dict := none, data := .seq acc c, slots := #[] }) (hl : as.length = min xs.length ys.length) (hG : ZpL.ZpG its.toArray its2.toArray S h' as) (hacc : acc.toList = as.map Value.ref) :
    ∃ H' : Hp, (∀ b o, H b = some o → H' b = some o) ∧ H S = none ∧ (∀ t ∈ as, H t = none) ∧ H' S = some (.lst (as.map V.ref)) ∧ (∀ (j : Nat) (t : Addr), as[j]? = some t → ∃ x y, xs[j]? = some x ∧ ys[j]? = some y ∧ H' t = some (.tup [x, y])) ∧ Inv X pins σ H' { s with heap := h', toks := tk } := by
  have nS : S ∉ as := fun z => Nat.lt_irrefl _ (hG.above _ z)
  have nd : as.Nodup := hG.rise.imp fun {a b} (h : a < b) => Nat.ne_of_lt h
  have new : ∀ t ∈ as, H t = none := fun t ht => I.hok.fresh (Nat.le_trans hlo (Nat.le_of_lt (hG.above t ht)))
  have newS : H S = none := I.hok.fresh hlo
  have lz : (xs.zip ys).length = as.length := by rw [List.length_zip, hl]
  have atP := putP_at as (xs.zip ys) (upd H S (.lst (as.map V.ref))) lz.symm nd
  have off : ∀ b, b ∉ as → b ≠ S → putP (upd H S (.lst (as.map V.ref))) as (xs.zip ys) b = H b := fun b h1 h2 => (putP_off as _ _ h1).trans (upd_ne h2)
  have kp : ∀ b u, H b = some u → putP (upd H S (.lst (as.map V.ref))) as (xs.zip ys) b = some u := fun b u e => by
    rw [off b (fun z => by rw [new b z] at e; cases e) (fun z => by rw [z, newS] at e; cases e)]
    exact e
  have low : ∀ b o, s.heap.get? b = some o → b ∉ as ∧ b ≠ S := fun b o e => ⟨fun z => absurd (Heap.lt_size e) (Nat.not_lt.mpr (Nat.le_trans hlo (Nat.le_of_lt (hG.above b z)))), Nat.ne_of_lt (Nat.lt_of_lt_of_le (Heap.lt_size e) hlo)⟩
  have eS : putP (upd H S (.lst (as.map V.ref))) as (xs.zip ys) S = some (.lst (as.map V.ref)) := (putP_off as _ _ nS).trans upd_same
  have prs : ∀ (j : Nat) (t : Addr), as[j]? = some t → ∃ x y, xs[j]? = some x ∧ ys[j]? = some y ∧ putP (upd H S (.lst (as.map V.ref))) as (xs.zip ys) t = some (.tup [x, y]) := fun j t hj => by
    obtain ⟨⟨x, y⟩, e1, e2⟩ := atP j t hj
    obtain ⟨z1, z2⟩ := List.getElem?_zip_eq_some.mp e1
    exact ⟨x, y, z1, z2, e2⟩
  refine ⟨_, kp, newS, new, eS, prs, I.call' (ch := []) rfl ⟨fun b o q _ _ _ => hk b o q, fun b o q _ _ _ => ⟨o.slots, hk b o q⟩, fun b o q n _ => ?_, fun b o q _ => ⟨o, hk b o q⟩, fun b xs q => kp b _ q, fun b o u q => kp b _ q, fun b ps q => ⟨#[], by rw [kp b _ q]; simp⟩⟩ (fun b u q => ?_) I.bare fun b z => by simp at z⟩
  · obtain ⟨z1, z2⟩ := low b o q
    rw [off b z1 z2]
    exact n
  · by_cases hb : b ∈ as
    · obtain ⟨j, hj⟩ := List.getElem?_of_mem hb
      obtain ⟨x, y, e1, e2, e3⟩ := prs j b hj
      rw [e3] at q
      cases q
      obtain ⟨u, v, f1, f2, f3⟩ := hG.pairs j b hj
      obtain ⟨x', g1, g2⟩ := vals_get rx (j := j) (by simpa using f1)
      obtain ⟨y', g3, g4⟩ := vals_get ry (j := j) (by simpa using f2)
      rw [e1] at g1
      rw [e2] at g3
      cases g1
      cases g3
      exact ⟨by show 2 ≤ sizeLine; decide, [u, v], .cons g2 (.cons g4 .nil), ⟨_, f3, rfl, _, rfl⟩⟩
    · by_cases hb2 : b = S
      · rw [hb2] at q ⊢
        rw [eS] at q
        cases q
        refine ⟨by rw [List.length_map]; omega, acc.toList, c, by rw [hacc]; exact LiI.vals_refs as, ?_⟩
        rw [Array.toArray_toList]
        exact hS
      · rw [off b hb hb2] at q
        exact (I.hok b u q).stay (fun d v _ y => hk d v y) (fun d y => kp d _ y) fun d xs y => kp d _ y
def rZipL (K : PySem.W.Frag) : List V → Hp → VK → Prop := fun vs H Q => ∃ (a b : Addr) (xs ys : List V), vs = [.ref a, .ref b] ∧ SqL K H a xs ∧ SqL K H b ys ∧
  ∀ (H' : Hp) (p : Addr) (ts : List Addr), (∀ b o, H b = some o → H' b = some o) → H p = none → H' p = some (.lst (ts.map V.ref)) → ts.length = min xs.length ys.length → (∀ (j : Nat) (t : Addr), ts[j]? = some t → ∃ x y, xs[j]? = some x ∧ ys[j]? = some y ∧ H' t = some (.tup [x, y])) → Q (.ref p) H'
def tZipL (K : PySem.W.Frag) (ta : TA) : TE := fun σ H Q => ta σ H fun vs H1 => rZipL K vs H1 Q
/-- list(zip(a, b)) -/
theorem pe_zipL {e e2 : Expr} {ta : TA} {p p2 pos pos2 : Pos} (K : PySem.W.Frag) (hc : X.calm = true) (hg : Gl X "list") (hm : X.mg "list" = none) (hv : bootBuiltins "list" = some (.type "list")) (hg2 : Gl X "zip") (hm2 : X.mg "zip" = none) (ha : PA X [e, e2] ta) (h : X.K = K := by rfl)
    (hs2 : starEach [e, e2] X.env = (false, eval e X.env) :: starEach [e2] X.env := by rfl) (hpl : (backTo pos2 (starEach [e2] X.env)).any (·.1) = false := by rfl)
    (hs : starEach [.Call (.Name "zip" p2) [e, e2] [] pos2] X.env = (false, eval (.Call (.Name "zip" p2) [e, e2] [] pos2) X.env) :: starEach [] X.env := by rfl) :
    PE X (.Call (.Name "list" p) [.Call (.Name "zip" p2) [e, e2] [] pos2] [] pos) (tZipL K ta) := by
  subst h
  refine ⟨fun pins s σ H Q I hq => ?_⟩
  refine wpAny_Call_Name_kw (ld_blt I hg hm hv ?_)
  refine PyProof.Rows.callWith_type1 ?_ hs rfl
  rw [hs]
  show wpAny _ _ (spliced ((false, eval (.Call (.Name "zip" p2) [e, e2] [] pos2) X.env) :: backTo pos (starEach [] X.env))) _ _ s
  refine Calls.spliced_cons ?_
  refine Call_ (ld_blt I hg2 hm2 PyProof.Rows.boot_zip (PyProof.Rows.callWith_type1 (thn (ha.run pos2 pins s σ H _ I hq) fun us s1 ⟨vs, H1, I1, r1, q1⟩ => ?_) hs2 hpl))
  obtain ⟨a, b, xs, ys, ex, hqx, hqy, q⟩ := q1
  subst ex
  cases r1 with
  | cons r rr =>
    cases rr with
    | cons r' rr =>
      cases rr
      cases r
      cases r'
      obtain ⟨its, rv, p1, z1⟩ := I1.list hqx
      obtain ⟨its2, rv2, p3, z2⟩ := I1.list hqy
      have la : a < s1.heap.objs.size := p1.lt
      have lb : b < s1.heap.objs.size := p3.lt
      have l1 := rv.length
      have l2 := rv2.length
      refine call_zip_2 p1.isList p3.isList fun h' hz hTI hTO h1 h2 hsz hk => ?_
      refine Calls.spliced_nil ?_
      refine ZpL.zp_call (xs := its.toArray) (ys := its2.toArray) (I1.ok.hd hc) (PySem.W.ktu_apart s1.heap.objs.size a b la lb) (by
        show min its.toArray.size its2.toArray.size ≤ sizeLine
        rw [List.size_toArray, List.size_toArray]
        omega) hz hTI hTO h1 h2 (p1.isList.at fun o e => hk _ o e) (p3.isList.at fun o e => hk _ o e) fun h3 tk acc c as hk3 hS hl hG hacc => ?_
      have kp : ∀ b o, s1.heap.get? b = some o → h3.get? b = some o := fun b o e => by
        have lt := Heap.lt_size e
        exact hk3 b o (Nat.ne_of_lt (Nat.lt_of_lt_of_le lt (Nat.le_add_right _ _))) (Nat.ne_of_lt (Nat.lt_of_lt_of_le lt (Nat.le_add_right _ _))) (Nat.ne_of_lt lt) (Nat.ne_of_lt (Nat.lt_of_lt_of_le lt (Nat.le_add_right _ _))) (hk b o e)
      have hl' : as.length = min xs.length ys.length := by
        rw [hl, List.size_toArray, List.size_toArray, l1, l2]
      obtain ⟨H', k1, k2, k3, k4, k5, J⟩ := zips_laid (tk := tk) I1 rv rv2 (by omega) kp (by show _ ≤ h'.objs.size; rw [hsz]; exact Nat.le_add_right _ _) hS hl' hG hacc
      exact ⟨.ref _, H', J, rfl, q H' _ as k1 k2 k4 hl' k5⟩
end
end HE
namespace Mine
open PySem PySem.Spec L2
section
variable {K : PySem.W.Frag} {d : Addr} {o : Obj} {kvs : List (Key × V)} {g : TG} {tt : TT} {te : TE} {vs : List Nat} {σ : L2.St} {H1 : Hp} {D : Addr} {Qd : Hp → Prop}
theorem kDictF {X : Cx} (K : PySem.W.Frag) (hc : X.calm = true) (h : X.K = K := by rfl) : CallR X (.type "dict") (HE.rDictF K) := by subst h; exact HE.cr_dictF hc
/-- a comprehension over the keys of a dict that is locked -/
theorem lc_keys (Pv : Nat → Hp → Prop) (h0 : Pv 0 (upd H1 D (.lst []))) (hl : ∀ i H, i ≤ kvs.length → Pv i H → H d = some (.frz o (.dK kvs)))
    (hs : ∀ (i : Nat) (p : Key × V) (H : Hp), kvs[i]? = some p → Pv i H → g (kV p.1) (wipe σ vs) H fun σ2 H2 => wipe σ2 vs = wipe σ vs ∧ tt σ2 H2 fun b H3 =>
      if b = true then te σ2 H3 fun y H4 => ∃ acc, H4 D = some (.lst acc) ∧ acc.length < sizeLine ∧ Pv (i + 1) (upd H4 D (.lst (acc ++ [y]))) else Pv (i + 1) H3) (hd : ∀ H, Pv kvs.length H → Qd H) :
    ∃ W : Nat → Nat → Hp → Prop, (∃ m, W 0 m (upd H1 D (.lst []))) ∧ ∀ i m H, W i m H →
      ((Itk d o kvs).stop i H ∧ Qd H) ∨ ((Itk d o kvs).go i H ∧ ∃ Nx : Hp → Prop, (∀ H', Nx H' → ∃ m', m' < m ∧ W (i + 1) m' H') ∧ ∀ x H', (Itk d o kvs).yld i H x H' → g x (wipe σ vs) H' fun σ2 H2 => wipe σ2 vs = wipe σ vs ∧ tt σ2 H2 fun b H3 =>
        if b = true then te σ2 H3 fun y H4 => ∃ acc, H4 D = some (.lst acc) ∧ acc.length < sizeLine ∧ Nx (upd H4 D (.lst (acc ++ [y]))) else Nx H3) := by
  refine ⟨fun i m H => m = kvs.length - i ∧ i ≤ kvs.length ∧ Pv i H, ⟨kvs.length, by simp, Nat.zero_le _, h0⟩, ?_⟩
  rintro i m H ⟨rfl, hi, p⟩
  have q := hl i H hi p
  by_cases hlt : i < kvs.length
  · refine .inr ⟨⟨q, hlt⟩, Pv (i + 1), fun H' p' => ⟨kvs.length - (i + 1), by omega, rfl, hlt, p'⟩, ?_⟩
    rintro x H' ⟨rfl, k, v, hk, rfl⟩
    exact hs i (k, v) H' hk p
  · have e : i = kvs.length := by omega
    subst e
    exact .inl ⟨⟨q, Nat.le_refl _⟩, hd H p⟩
/-- .. over its items -/
theorem lc_items (Pv : Nat → Hp → Prop) (h0 : Pv 0 (upd H1 D (.lst []))) (hl : ∀ i H, i ≤ kvs.length → Pv i H → H d = some (.frz o (.dK kvs)))
    (hs : ∀ (i : Nat) (p : Key × V) (t : Addr) (H : Hp), kvs[i]? = some p → Pv i H → H t = none → g (.ref t) (wipe σ vs) (upd H t (.tup [kV p.1, p.2])) fun σ2 H2 => wipe σ2 vs = wipe σ vs ∧ tt σ2 H2 fun b H3 =>
      if b = true then te σ2 H3 fun y H4 => ∃ acc, H4 D = some (.lst acc) ∧ acc.length < sizeLine ∧ Pv (i + 1) (upd H4 D (.lst (acc ++ [y]))) else Pv (i + 1) H3) (hd : ∀ H, Pv kvs.length H → Qd H) :
    ∃ W : Nat → Nat → Hp → Prop, (∃ m, W 0 m (upd H1 D (.lst []))) ∧ ∀ i m H, W i m H →
      ((Iti d o kvs).stop i H ∧ Qd H) ∨ ((Iti d o kvs).go i H ∧ ∃ Nx : Hp → Prop, (∀ H', Nx H' → ∃ m', m' < m ∧ W (i + 1) m' H') ∧ ∀ x H', (Iti d o kvs).yld i H x H' → g x (wipe σ vs) H' fun σ2 H2 => wipe σ2 vs = wipe σ vs ∧ tt σ2 H2 fun b H3 =>
        if b = true then te σ2 H3 fun y H4 => ∃ acc, H4 D = some (.lst acc) ∧ acc.length < sizeLine ∧ Nx (upd H4 D (.lst (acc ++ [y]))) else Nx H3) := by
  refine ⟨fun i m H => m = kvs.length - i ∧ i ≤ kvs.length ∧ Pv i H, ⟨kvs.length, by simp, Nat.zero_le _, h0⟩, ?_⟩
  rintro i m H ⟨rfl, hi, p⟩
  have q := hl i H hi p
  by_cases hlt : i < kvs.length
  · refine .inr ⟨⟨q, hlt⟩, Pv (i + 1), fun H' p' => ⟨kvs.length - (i + 1), by omega, rfl, hlt, p'⟩, ?_⟩
    rintro x H' ⟨T, k, v, hk, rfl, hT, rfl⟩
    exact hs i (k, v) T H hk p hT
  · have e : i = kvs.length := by omega
    subst e
    exact .inl ⟨⟨q, Nat.le_refl _⟩, hd H p⟩
/-- a comprehension over zip of two lists or two tuples of one length -/
theorem lc_zip {a b : Addr} {xs ys : List V} {J : It} (hJ : J = Itz K a b ∨ J = RZ.ItzT K a b) (hn : xs.length = ys.length) (Pv : Nat → Hp → Prop) (h0 : Pv 0 (upd H1 D (.lst []))) (hl : ∀ i H, i ≤ xs.length → Pv i H → (J = Itz K a b ∧ SqL K H a xs ∧ SqL K H b ys) ∨ (J = RZ.ItzT K a b ∧ SqT K H a xs ∧ SqT K H b ys))
    (hs : ∀ (i : Nat) (x y : V) (t : Addr) (H : Hp), xs[i]? = some x → ys[i]? = some y → Pv i H → H t = none → g (.ref t) (wipe σ vs) (upd H t (.tup [x, y])) fun σ2 H2 => wipe σ2 vs = wipe σ vs ∧ tt σ2 H2 fun b H3 =>
      if b = true then te σ2 H3 fun y H4 => ∃ acc, H4 D = some (.lst acc) ∧ acc.length < sizeLine ∧ Pv (i + 1) (upd H4 D (.lst (acc ++ [y]))) else Pv (i + 1) H3) (hd : ∀ H, Pv xs.length H → Qd H) :
    ∃ W : Nat → Nat → Hp → Prop, (∃ m, W 0 m (upd H1 D (.lst []))) ∧ ∀ i m H, W i m H →
      (J.stop i H ∧ Qd H) ∨ (J.go i H ∧ ∃ Nx : Hp → Prop, (∀ H', Nx H' → ∃ m', m' < m ∧ W (i + 1) m' H') ∧ ∀ x H', J.yld i H x H' → g x (wipe σ vs) H' fun σ2 H2 => wipe σ2 vs = wipe σ vs ∧ tt σ2 H2 fun b H3 =>
        if b = true then te σ2 H3 fun y H4 => ∃ acc, H4 D = some (.lst acc) ∧ acc.length < sizeLine ∧ Nx (upd H4 D (.lst (acc ++ [y]))) else Nx H3) := by
  refine ⟨fun i m H => m = xs.length - i ∧ i ≤ xs.length ∧ Pv i H, ⟨xs.length, by simp, Nat.zero_le _, h0⟩, ?_⟩
  rintro i m H ⟨rfl, hi, p⟩
  rcases hl i H hi p with ⟨rfl, q1, q2⟩ | ⟨rfl, q1, q2⟩
  · by_cases hlt : i < xs.length
    · refine .inr ⟨⟨xs, ys, _, _, q1, q2, List.getElem?_eq_getElem hlt, List.getElem?_eq_getElem (by omega)⟩, Pv (i + 1), fun H' p' => ⟨xs.length - (i + 1), by omega, rfl, hlt, p'⟩, ?_⟩
      rintro v H' ⟨t, x, y, rfl, ht, rfl, hx, hy⟩
      exact hs i x y t H (hx xs q1) (hy ys q2) p ht
    · have e : i = xs.length := by omega
      subst e
      exact .inl ⟨⟨xs, ys, q1, q2, by omega⟩, hd H p⟩
  · by_cases hlt : i < xs.length
    · refine .inr ⟨⟨xs, ys, _, _, q1, q2, List.getElem?_eq_getElem hlt, List.getElem?_eq_getElem (by omega)⟩, Pv (i + 1), fun H' p' => ⟨xs.length - (i + 1), by omega, rfl, hlt, p'⟩, ?_⟩
      rintro v H' ⟨t, x, y, rfl, ht, rfl, hx, hy⟩
      exact hs i x y t H (hx xs q1) (hy ys q2) p ht
    · have e : i = xs.length := by omega
      subst e
      exact .inl ⟨⟨xs, ys, q1, q2, by omega⟩, hd H p⟩
end
end Mine

/-! ### KitQ -/
/-! sum, max of a tuple of ints -/
namespace HE
open PySem PySem.Spec PyProof.Rows L2
section
variable {prog : Program} {w : World} {A : Around} {E : Value → Shared → Prop} {s : Shared} {l : Addr} {its : List Value} {ns : List Int} {Q : Value → Shared → Prop}
theorem sumT_raw (hh : A.handled = none) (hl : s.heap.IsTuple l its.toArray) (hi : IntsAre its ns)
    (h : ∀ h' tk t', (∀ b o, s.heap.get? b = some o → h'.get? b = some o) → Q (.int ns.sum t') { s with heap := h', toks := tk }) : wpAny (model prog w) A (call (.builtin "sum") [.ref l]) Q E s := by
  obtain ⟨xs, e⟩ := hi.allInts.items
  have hn : numsOf (intItems xs).toList = ns := by rw [← e]; exact hi.numsOf
  rw [nums_intItems] at hn
  rw [e] at hl
  refine PySem.W.ktm_sumG hh hl fun h' tk t' hk => ?_
  have := h h' tk t' hk
  rw [preSum_eq, List.take_of_length_le (by simp), hn]; exact this
theorem max_intTup {xs : Array (Int × Tok)} (hh : A.handled = none) (ht : s.heap.IsTuple l (intItems xs)) (hne : 0 < xs.size)
    (h : ∀ v h' tk, (intItems xs)[argBest (fun i j => decide (numAt xs i > numAt xs j)) (xs.size - 1)]? = some v → (∀ b o, s.heap.get? b = some o → h'.get? b = some o) → Q v { s with heap := h', toks := tk }) :
    wpAny (model prog w) A (call (.builtin "max") [.ref l]) Q E s := by
  obtain ⟨o, ho, hc, n, hd⟩ := id ht
  have hneq : l ≠ s.heap.objs.size := Nat.ne_of_lt (Heap.lt_size ho)
  refine call_max_walk (wpAny_pyIter_tuple ht ?_)
  refine ⟨s.heap.objs.size, _, _, _, _, _, _, rfl, Walks.tuple (prog := prog) (w := w) (A := A.in1) hh s.heap.objs.size l hneq (intItems xs), ⟨⟨_, Heap.get?_push_size _ rfl, rfl, rfl⟩, ht.at fun o e => Heap.get?_push_of_some _ e⟩, fun b hb => ?_, by simpa [intItems] using hne, CmpOf.ints_gt (numAt xs) (fun _ _ => intItems_at), fun v h' tk hP hk => ?_⟩
  · rcases List.mem_cons.mp hb with rfl | hb
    · exact Heap.lt_size (Heap.get?_push_size _ rfl)
    · obtain rfl := List.mem_singleton.mp hb
      exact Heap.lt_size (Heap.get?_push_of_some _ ho)
  · exact h v h' tk (by simpa [intItems] using hP) fun b o e => hk b o (fun hb => absurd (Heap.lt_size e) ((List.mem_singleton.mp hb) ▸ Nat.lt_irrefl _)) (Heap.get?_push_of_some _ e)
theorem maxT_raw (hh : A.handled = none) (hl : s.heap.IsTuple l its.toArray) (hi : IntsAre its ns) (hne : 0 < ns.length)
    (h : ∀ h' tk M t', (∀ b o, s.heap.get? b = some o → h'.get? b = some o) → M ∈ ns → (∀ a, a ∈ ns → a ≤ M) → Q (.int M t') { s with heap := h', toks := tk }) : wpAny (model prog w) A (call (.builtin "max") [.ref l]) Q E s := by
  obtain ⟨xs, e⟩ := hi.allInts.items
  have hn : numsOf (intItems xs).toList = ns := by rw [← e]; exact hi.numsOf
  rw [nums_intItems] at hn
  subst hn
  rw [e] at hl
  have hsz : 0 < xs.size := by simpa using hne
  refine max_intTup hh hl hsz fun v h' tk hv hk => ?_
  obtain ⟨t, rfl⟩ := intItems_at hv
  obtain ⟨h1, h2⟩ := argBest_gt (numAt xs) (xs.size - 1)
  refine h h' tk _ t hk ?_ fun a ha => ?_
  · rw [numAt_eq]; exact PySem.getD_mem (by rw [List.length_map, Array.length_toList]; omega)
  · obtain ⟨j, hj, rfl⟩ := mem_getD ha
    rw [List.length_map, Array.length_toList] at hj
    rw [← numAt_eq]; exact h2 j (by omega)
end
variable {X : Cx}
def rSumT (K : PySem.W.Frag) : List V → Hp → VK → Prop := fun vs H Q => ∃ (a : Addr) (ns : List Int), vs = [V.ref a] ∧ SqT K H a (ns.map V.int) ∧ Q (.int ns.sum) H
def rMaxT (K : PySem.W.Frag) : List V → Hp → VK → Prop := fun vs H Q => ∃ (a : Addr) (ns : List Int), vs = [V.ref a] ∧ SqT K H a (ns.map V.int) ∧ 0 < ns.length ∧ ∀ m, m ∈ ns → (∀ y, y ∈ ns → y ≤ m) → Q (.int m) H
theorem cr_sumT (hc : X.calm = true) : CallR X (.builtin "sum") (rSumT X.K) := by
  intro pins s σ H vs us Q I r h
  obtain ⟨a, ns, rfl, hs, q⟩ := h
  obtain ⟨its, rv, hl, _⟩ := I.tuple hs
  rw [Vals.ref1 r]
  exact sumT_raw (I.ok.hd hc) hl rv.ints fun h' tk t' hk => ⟨.int _, H, I.kept hk, ⟨_, rfl⟩, q⟩
theorem cr_maxT (hc : X.calm = true) : CallR X (.builtin "max") (rMaxT X.K) := by
  intro pins s σ H vs us Q I r h
  obtain ⟨a, ns, rfl, hs, hne, q⟩ := h
  obtain ⟨its, rv, hl, _⟩ := I.tuple hs
  rw [Vals.ref1 r]
  exact maxT_raw (I.ok.hd hc) hl rv.ints hne fun h' tk m t' hk h1 h2 => ⟨.int _, H, I.kept hk, ⟨_, rfl⟩, q m h1 h2⟩
end HE
namespace Mine
open PySem PySem.Spec L2
theorem kSumT {X : Cx} (K : PySem.W.Frag) (hc : X.calm = true) (h : X.K = K := by rfl) : CallR X (.builtin "sum") (HE.rSumT K) := by subst h; exact HE.cr_sumT hc
theorem kMaxT {X : Cx} (K : PySem.W.Frag) (hc : X.calm = true) (h : X.K = K := by rfl) : CallR X (.builtin "max") (HE.rMaxT K) := by subst h; exact HE.cr_maxT hc
theorem pg_lstK {X : Cx} {es : List Expr} {k : Nat} {t : TGs} {n : Nat} {pos : Pos} (K : PySem.W.Frag) (hc : X.calm = true) (hp : PGs X es t) (h : X.K = K := by rfl)
    (hn : (assignEach es X.env).length = n := by rfl) (hst : (assignEach es X.env).findIdx? (·.1) = none := by rfl) : PG X (.Tuple es k pos) (gLst K n t) := by subst h; exact pg_lst hc hp hn hst
theorem rd_glst {K : PySem.W.Frag} {σ : L2.St} {H : Hp} {n : Nat} {t : TGs} {a : Addr} {xs : List V} {R : L2.St → Hp → Prop} (s : SqL K H a xs) (l : xs.length = n) (h : t xs σ H R) : gLst K n t (.ref a) σ H R := ⟨a, xs, rfl, s, l, h⟩
theorem rd_tupItems {te : TE} {σ : L2.St} {H : Hp} {Q : VK} (h : te σ H fun x H1 => HE.rItemsT2 x H1 Q) : HE.tTupItems te σ H Q := h
theorem rd_zipLs {K : PySem.W.Frag} {ta : TA} {σ : L2.St} {H : Hp} {Q : VK} (h : ta σ H fun vs H1 => HE.rZipL K vs H1 Q) : HE.tZipL K ta σ H Q := h
theorem rd_dnotin {ty td : TE} {σ : L2.St} {H : Hp} {Q : VK} (h : ty σ H fun y H1 => td σ H1 fun x H2 => ∃ a o, x = .ref a ∧ DGet H2 a y o ∧ Q (.bl (!o.isSome)) H2) : tDNotIn ty td σ H Q := h
theorem u_dinS {H : Hp} {a : Addr} {z : Str} {kvs : List (Key × V)} {R : Option V → Prop} (e : H a = some (.dK kvs)) (h : R (valV kvs (Sum.inr z))) : ∃ a' o, V.ref a = .ref a' ∧ DGet H a' (.str z) o ∧ R o := ⟨a, _, rfl, DGet.k (k := Sum.inr z) e, h⟩
theorem u_dgetS {H : Hp} {a : Addr} {v : V} {z : Str} {kvs : List (Key × V)} {R : V → Prop} (e : H a = some (.dK kvs)) (ev : valV kvs (Sum.inr z) = some v) (h : R v) : ∃ a' v', V.ref a = .ref a' ∧ DGet H a' (.str z) (some v') ∧ R v' := ⟨a, v, rfl, by rw [← ev]; exact DGet.k (k := Sum.inr z) e, h⟩
end Mine

/-! ### KitR -/
/-! a call of an item: [f, g][i](x) -/
namespace Mine
open PySem PySem.Spec PyProof.Rows L2
structure HeldX (P : Program) (w : World) (K : PySem.W.Frag) (mg : Str → Option Value) (base : Heap) (CX : CXT) (k : Nat) (f : Addr) (sp : Sp) : Prop where
  ex : ∃ (fd : FuncData) (ps : List Str), FnOk P w K mg base CX k f fd ps sp ∧ PySem.W.keepIn K (.ref f) = true ∧ Binds K fd ps []
theorem HasF.heldX {P : Program} {w : World} {K : PySem.W.Frag} {mg : Str → Option Value} {base : Heap} {CX : CXT} {k : Nat} {x : Str} {ps : List Str} {sp : Sp} (h : HasF P w K mg base CX k x ps sp) : ∃ f, mg x = some (.ref f) ∧ HeldX P w K mg base CX k f sp := by
  obtain ⟨f, fd, F, m, kp, b⟩ := h
  exact ⟨f, m, ⟨fd, ps, F, kp, b⟩⟩
def tCallE (P : Program) (w : World) (K : PySem.W.Frag) (mg : Str → Option Value) (base : Heap) (CX : CXT) (k : Nat) (E : L2.St → XK) (te : TE) (t : TA) : TE := fun σ H Q => te σ H fun x H1 => ∃ f sp, x = .ref f ∧ HeldX P w K mg base CX k f sp ∧ t σ H1 fun vs H2 => sp vs H2 Q (E σ)
theorem pe_callE {X : Cx} {P : Program} {w : World} {K : PySem.W.Frag} {mg : Str → Option Value} {base : Heap} {CX : CXT} {k : Nat} {E : L2.St → XK} {o i e : Expr} {es : List Expr} {p0 pos : Pos} {te : TE} {t : TA} (h1 : X.prog = P) (h2 : X.w = w) (h3 : X.K = K) (h4 : X.mg = mg) (h5 : X.base = base) (hr : Room k X.A) (hx : ∀ σ, PassesAt CX X σ (E σ)) (ho : PE X (.Subscript o i p0) te) (ha : PA X (e :: es) t)
    (he : starEach (e :: es) X.env = (false, eval e X.env) :: starEach es X.env := by rfl) (hpl : (backTo pos (starEach es X.env)).any (·.1) = false := by rfl) : PE X (.Call (.Subscript o i p0) (e :: es) [] pos) (tCallE P w K mg base CX k E te t) := by
  subst h1 h2 h3 h4 h5
  refine ⟨fun pins s σ H Q I h => ?_⟩
  show wpAny _ _ (eval (.Subscript o i p0) X.env >>= fun f => callWith pos f [] (backTo pos (starEach (e :: es) X.env)) (backToKw pos (keywordEach [] X.env))) _ _ s
  refine wpAny_bind (thn (ho.run pins s σ H _ I h) fun u s1 ⟨v, H1, I1, r1, f, sp, ev, hH, ht⟩ => ?_)
  subst ev
  cases r1
  obtain ⟨fd, ps, F, hk, hb⟩ := hH.ex
  refine PySem.W.callWith_K (h₀ := X.base) I1.ok.mod.kin hk (thn (ha.run pos pins s1 σ H1 _ I1 ht) fun us s2 ⟨vs, H2, I2, r, q⟩ => ⟨I2.kIn, ?_⟩) he hpl
  exact run_fnS F hr hb (hx σ) I2 r q
theorem rd_callE {P : Program} {w : World} {K : PySem.W.Frag} {mg : Str → Option Value} {base : Heap} {CX : CXT} {k : Nat} {E : L2.St → XK} {te : TE} {t : TA} {σ : L2.St} {H : Hp} {Q : VK} (h : te σ H fun x H1 => ∃ f sp, x = .ref f ∧ HeldX P w K mg base CX k f sp ∧ t σ H1 fun vs H2 => sp vs H2 Q (E σ)) : tCallE P w K mg base CX k E te t σ H Q := h
end Mine

/-! ### KitS -/
/-! a call by keyword: f(p=e), of a def of one parameter -/
namespace Mine
open PySem PySem.Spec PyProof.Rows L2
def HasK (P : Program) (w : World) (K : PySem.W.Frag) (mg : Str → Option Value) (base : Heap) (CX : CXT) (k : Nat) (x p : Str) (sp : Sp) : Prop :=
  ∃ (f : Addr) (fd : FuncData), FnOk P w K mg base CX k f fd [p] sp ∧ mg x = some (.ref f) ∧ PySem.W.keepIn K (.ref f) = true ∧ Binds K fd [p] [] ∧ ∀ (s : Shared) (u : Value), K.In s.heap → BindsTo s fd ⟨[], [(p, u)]⟩ [(p, u)]
section
variable {P : Program} {w : World} {K : PySem.W.Frag} {mg : Str → Option Value} {base : Heap} {CX : CXT}
theorem HasK.pos {k : Nat} {x p : Str} {sp : Sp} (h : HasK P w K mg base CX k x p sp) : HasF P w K mg base CX k x [p] sp := by
  obtain ⟨f, fd, F, m, kp, b, _⟩ := h
  exact ⟨f, fd, F, m, kp, b⟩
theorem hasXK {x p : Str} {st : Stmt} {N : List Str} {k : Nat} {sp : Sp} (O : OwnF K mg x st) (S : FnScope N [p] (defScope st))
    (hb : ∀ (kV doc pm : Value) (an : Option Addr) (cdv ct : Value) (us : List Value), us.length = 1 → bindArgs (PySem.W.fnOf x x (defArgs st) (defBody st) (defScope st) .none kV doc pm an cdv ct) ⟨us, []⟩ = pure ([p].zip us))
    (hk : ∀ (kV doc pm : Value) (an : Option Addr) (cdv ct : Value) (u : Value), bindArgs (PySem.W.fnOf x x (defArgs st) (defBody st) (defScope st) .none kV doc pm an cdv ct) ⟨[], [(p, u)]⟩ = pure [(p, u)])
    (len : ∀ vs H Q E, sp vs H Q E → vs.length = 1)
    (body : ∀ (f : Addr) (cdv : Value) (A : Around) (outer : List Env) (s : Shared) (H : Hp) (vs : List V) (Q : VK) (E : XK), Room k (A.deeper (PyProof.Rows.envOfC x (defScope st) s.heap.objs.size f cdv)) → sp vs H Q E →
      ∃ t, PSs (cxOf (L2.CX P w) P w K mg base N x (defScope st) f cdv A outer s H E) (defBody st) t ∧ t { nx := fun _ H' => Q .non H', rt := Q } (start N vs) H) :
    HasK P w K mg base (L2.CX P w) (k + 1) x p sp := by
  obtain ⟨f, fd, F, m⟩ := O
  refine ⟨f, fd, F.okX S len (fun cdv A outer s H vs Q E hr h => body f cdv A outer s H vs Q E hr h), m, F.kp, F.binds hb, fun s u _ => ?_⟩
  obtain ⟨oc, od, kV, doc, pm, an, cdv, ct, osl, rfl, lk, hcd⟩ := F.ex
  exact BindsTo.of_eq (hk kV doc pm an cdv ct u)
end
section
variable {X : Cx} {CX : CXT} {k : Nat} {sp : Sp} {x q : Str} {p pos kpos : Pos} {e : Expr} {te : TE}
theorem pe_callKS {E : L2.St → XK} (h : HasK X.prog X.w X.K X.mg X.base CX k x q sp) (hr : Room k X.A) (hg : Gl X x) (hx : ∀ σ, PassesAt CX X σ (E σ)) (ha : PE X e te) (hdb : (x == ("__debug__" : Str)) = false := by decide) :
    PE X (.Call (.Name x p) [] [⟨some q, e, kpos⟩] pos) (tCallS sp E (tCons te tNil)) := by
  obtain ⟨f, fd, F, hm, hk, hb, hkw⟩ := h
  refine ⟨fun pins s σ H Q I h => ?_⟩
  refine wpAny_Call_Name_kw (ld_glob I hg hm ?_ hdb)
  refine PySem.W.callWith_KW0 (h₀ := X.base) I.ok.mod.kin hk rfl ?_ rfl
  refine thn ((pk_cons (nm := some q) (kpos := kpos) ha pk_nil).run pos pins s σ H _ I h) fun ws s2 ⟨zs, H2, I2, rz, q2⟩ => ⟨I2.kIn, ?_⟩
  have hl : ws.length = 1 := by rw [← rz.length]; exact F.len _ _ _ _ q2
  match ws, hl with
  | [u], _ =>
  refine wpAny_call (codeAny_mono (F.run X.A X.stack s2 H2 ⟨[], [(q, u)]⟩ [u] zs Q (E σ) hr I2.env0 (hkw s2 u I2.kIn) rz q2) fun r s' hq => ?_)
  cases r with
  | error e => exact hx σ pins H2 s2 e s' I2 hq
  | ok fl =>
    cases fl with
    | ret u => exact I2.after hq
    | next => exact False.elim hq
    | brk => exact False.elim hq
    | cont => exact False.elim hq
end
end Mine

/-! ### KitT -/
/-! texts: str, join, slices -/
namespace Mine
open PySem PySem.Spec PyProof.Rows L2
section
variable {K : PySem.W.Frag} {X : Cx}
/-- str of an int or a text -/
def rStrU : List V → Hp → VK → Prop := fun xs H Q => (∃ i : Int, xs = [.int i] ∧ i.natAbs.log2 < 1920 ∧ Q (.str (toString i)) H) ∨ ∃ a : Str, xs = [.str a] ∧ Q (.str a) H
theorem kStrU : CallR X (.type "str") rStrU := call_str_int.or SkE.call_str_str
theorem u_strI {i : Int} {H : Hp} {Q : VK} (h : i.natAbs.log2 < 1920) (q : Q (.str (toString i)) H) : rStrU [.int i] H Q := .inl ⟨i, rfl, h, q⟩
theorem u_strS {a : Str} {H : Hp} {Q : VK} (q : Q (.str a) H) : rStrU [.str a] H Q := .inr ⟨a, rfl, q⟩
/-- sep.join(list or tuple of texts) -/
def rJoin (K : PySem.W.Frag) : V → List V → Hp → VK → Prop := fun x xs H Q => ∃ (a : Str) (p : Addr), ∃ ys : List Str, x = .str a ∧ xs = [.ref p] ∧ (SqL K H p (ys.map V.str) ∨ SqT K H p (ys.map V.str)) ∧ (ys.map (·.length)).sum + ys.length * a.length ≤ 16777216 ∧ Q (.str (Txt.join a ys)) H
theorem pe_joinK (K : PySem.W.Frag) {o e : Expr} {to te : TE} {apos pos : Pos} (ho : PE X o to) (he : PE X e te) (h : X.K = K := by rfl) (hs : starEach [e] X.env = [(false, eval e X.env)] := by rfl) (hbase : attributeBase o "join" X.env (eval o X.env) = eval o X.env := by rfl) (hline : (apos.endLine == pos.line) = true := by rfl) :
    PE X (.Call (.Attribute o "join" apos) [e] [] pos) (tM1 (rJoin K) to te) := by
  subst h
  exact pe_join ho he hs hbase hline
theorem rd_m1 {r : V → List V → Hp → VK → Prop} {to te : TE} {σ : L2.St} {H : Hp} {Q : VK} (h : to σ H fun x H1 => (∃ a, x = .str a) ∧ te σ H1 fun y H2 => r x [y] H2 Q) : tM1 r to te σ H Q := h
theorem u_joinL {a : Str} {p : Addr} {ys : List Str} {H : Hp} {Q : VK} (s : SqL K H p (ys.map V.str)) (l : (ys.map (·.length)).sum + ys.length * a.length ≤ 16777216) (q : Q (.str (Txt.join a ys)) H) : rJoin K (.str a) [.ref p] H Q := ⟨a, p, ys, rfl, rfl, .inl s, l, q⟩
/-- slices of lists, tuples and texts -/
def rSlT (K : PySem.W.Frag) : V → Option Int → Option Int → Hp → VK → Prop := fun x lo hi H Q => rSlU K x lo hi H Q ∨ C8.rSlX x lo hi H Q
theorem kSlT (K : PySem.W.Frag) (h : X.K = K := by rfl) : SlR X (rSlT K) := by
  subst h
  exact slU.or C8.sl_txt
theorem u_slX {z : Str} {lo hi : Option Int} {H : Hp} {Q : VK} (l : z.length ≤ sizeLine) (q : Q (.str (Txt.slice z lo hi)) H) : rSlT K (.str z) lo hi H Q := .inr ⟨z, rfl, l, q⟩
end
end Mine

/-! ### KitU -/
/-! own classes: made, their fields -/
namespace Mine
open PySem PySem.Spec PyProof.Rows L2
def HasM (P : Program) (w : World) (K : PySem.W.Frag) (mg : Str → Option Value) (base : Heap) (CX : CXT) (k : Nat) (x : Str) (C : Addr) (ps : List Str) (sp : Sp) : Prop :=
  ∃ (f : Addr) (fd : FuncData), Mk K C f ∧ FnOk P w K mg base CX k f fd ps sp ∧ mg x = some (.ref C) ∧ Binds K fd ps []
def OwnM (K : PySem.W.Frag) (mg : Str → Option Value) (x q : Str) (C : Addr) (st : Stmt) : Prop := ∃ (f : Addr) (fd : FuncData), Fun K "__init__" q st f fd ∧ Mk K C f ∧ mg x = some (.ref C)
section
variable {P : Program} {w : World} {K : PySem.W.Frag} {mg : Str → Option Value} {base : Heap}
theorem hasM0 {x q : Str} {C : Addr} {st : Stmt} {N ps : List Str} {k : Nat} {sp : Sp} (O : OwnM K mg x q C st) (S : FnScope N ps (defScope st))
    (hb : ∀ (kV doc pm : Value) (an : Option Addr) (cdv ct : Value) (us : List Value), us.length = ps.length → bindArgs (PySem.W.fnOf "__init__" q (defArgs st) (defBody st) (defScope st) .none kV doc pm an cdv ct) ⟨us, []⟩ = pure (ps.zip us))
    (len : ∀ vs H Q E, sp vs H Q E → vs.length = ps.length)
    (body : ∀ (f : Addr) (cdv : Value) (A : Around) (outer : List Env) (s : Shared) (H : Hp) (vs : List V) (Q : VK) (E : XK), Room k (A.deeper (PyProof.Rows.envOfC q (defScope st) s.heap.objs.size f cdv)) → sp vs H Q E →
      ∃ t, PSs (cxOf CX0 P w K mg base N q (defScope st) f cdv A outer s H E).nox (defBody st) t ∧ t { nx := fun _ H' => Q .non H', rt := Q } (start N vs) H) :
    HasM P w K mg base CX0 (k + 1) x C ps sp := by
  obtain ⟨f, fd, F, M, m⟩ := O
  exact ⟨f, fd, M, F.ok S len (fun cdv A outer s H vs Q E hr h => body f cdv A outer s H vs Q E hr h), m, F.binds hb⟩
end
section
variable {X : Cx} {CX : CXT} {k : Nat} {C : Addr} {ps : List Str} {sp : Sp} {E : XK} {x f : Str} {p pos pos' : Pos} {e o value : Expr} {es : List Expr} {t : TA} {ta tv : TE}
theorem pe_makeH (h : HasM X.prog X.w X.K X.mg X.base CX k x C ps sp) (hr : Room (k + 1) X.A) (hg : Gl X x) (hx : Passes CX X E) (ha : PA X (e :: es) t)
    (hdb : (x == ("__debug__" : Str)) = false := by decide) (he : starEach (e :: es) X.env = (false, eval e X.env) :: starEach es X.env := by rfl) (hpl : (backTo pos (starEach es X.env)).any (·.1) = false := by rfl) :
    PE X (.Call (.Name x p) (e :: es) [] pos) (tMake C sp [] E t) := by
  obtain ⟨g, fd, M, F, m, b⟩ := h
  exact pe_make M F hr hg m b .nil hx ha hdb he hpl
theorem pe_fldK (K : PySem.W.Frag) (he : PE X e ta) (h : X.K = K := by rfl) (hb : attributeBase e f X.env (eval e X.env) = eval e X.env := by rfl) : PE X (.Attribute e f pos) (tFld K ta f) := by
  subst h
  exact pe_fld he hb
theorem ps_fldK (K : PySem.W.Frag) (ha : PE X o ta) (hv : PE X value tv) (h : X.K = K := by rfl) (hs : swapsWith value (some (.Attribute o f pos')) pos.line X.env = pure false := by rfl) : PS X (.Assign [.Attribute o f pos'] value pos) (sFld K ta tv f) := by
  subst h
  exact ps_fld ha hv hs
end
section
variable {K : PySem.W.Frag} {ta tv : TE} {f : Str} {σ : L2.St} {H : Hp} {Q : VK}
theorem rd_fld (h : ta σ H fun x H1 => ∃ a C dx fs v, x = .ref a ∧ H1 a = some (.ins C dx fs) ∧ Cls K C ∧ NoAttr K C f ∧ fs.lookup f = some v ∧ Q v H1) : tFld K ta f σ H Q := h
theorem u_fld {a C dx : Addr} {fs : List (Str × V)} {v : V} (h : H a = some (.ins C dx fs)) (c : Cls K C) (n : NoAttr K C f) (l : fs.lookup f = some v) (q : Q v H) : ∃ a' C' dx' fs' v', V.ref a = .ref a' ∧ H a' = some (.ins C' dx' fs') ∧ Cls K C' ∧ NoAttr K C' f ∧ fs'.lookup f = some v' ∧ Q v' H := ⟨a, C, dx, fs, v, rfl, h, c, n, l, q⟩
theorem rd_make {C : Addr} {sp : Sp} {E : XK} {t : TA} (h : t σ H fun vs H1 => ∀ x dx, H1 x = none → H1 dx = none → dx ≠ x → sp (.ref x :: vs) (upd (upd H1 dx (.own x)) x (.ins C dx [])) (fun v H2 => v = .non ∧ Q (.ref x) H2) E) : tMake C sp [] E t σ H Q := by
  show t σ H fun vs H1 => ∀ x dx, H1 x = none → H1 dx = none → dx ≠ x → sp (.ref x :: (vs ++ [])) (upd (upd H1 dx (.own x)) x (.ins C dx [])) (fun v H2 => v = .non ∧ Q (.ref x) H2) E
  simpa only [List.append_nil] using h
theorem rd_sfld {D : Ends} (h : tv σ H fun y H1 => ta σ H1 fun x H2 => ∃ a C dx fs, x = .ref a ∧ H2 a = some (.ins C dx fs) ∧ Cls K C ∧ NoAttr K C f ∧ fs.length < 1000 ∧ D.nx σ (upd H2 a (.ins C dx (putF f y fs)))) : sFld K ta tv f D σ H := h
end
end Mine

/-! ### R00 -/
namespace Mine
open PySem PySem.Spec L2
def top (i : Nat) : Stmt := PySem.Challenge.pw_hillrooms_k03_texts_written_and_read_bac.main.body.getD i (.Pass ⟨0, 0, 0, 0⟩)
/-- no global stands before these built-ins -/
structure Bl (mg : Str → Option Value) : Prop where
  all : mg "all" = none
  enumerate : mg "enumerate" = none
  sorted : mg "sorted" = none
  zip : mg "zip" = none
  bool : mg "bool" = none
  int : mg "int" = none
  isinstance : mg "isinstance" = none
  len : mg "len" = none
  max : mg "max" = none
  min : mg "min" = none
  range : mg "range" = none
  str : mg "str" = none
  tuple : mg "tuple" = none
/-- the source of draws: two numbers -/
def Src (H : Hp) (a : Addr) : Prop := ∃ b s : Int, H a = some (.lst [.int b, .int s]) ∧ 0 ≤ b ∧ 0 ≤ s ∧ s < 2147483647
theorem Src.ext {K : PySem.W.Frag} {H H' : Hp} {a : Addr} (h : Src H a) (s : SB a H H') : Ext K H H' := by
  obtain ⟨b, t, e, _⟩ := h
  exact Ext.of_SB s e trivial
theorem Src.ne {H : Hp} {a p : Addr} (h : Src H a) (hp : H p = none) : p ≠ a := by
  obtain ⟨b, t, e, _⟩ := h
  intro z
  rw [z, e] at hp
  cases hp
theorem Src.new {H : Hp} {a p : Addr} {o : HO} (h : Src H a) (hp : H p = none) : Src (upd H p o) a := by
  have n := h.ne hp
  obtain ⟨b, t, e, x⟩ := h
  exact ⟨b, t, by rw [upd_ne n.symm]; exact e, x⟩
theorem Src.set {H : Hp} {a p : Addr} {o : HO} (h : Src H a) (n : p ≠ a) : Src (upd H p o) a := by
  obtain ⟨b, t, e, x⟩ := h
  exact ⟨b, t, by rw [upd_ne n.symm]; exact e, x⟩
theorem Src.same {H H' : Hp} {a : Addr} (h : Src H a) (s : Same H H') : Src H' a := by
  obtain ⟨b, t, e, x⟩ := h
  exact ⟨b, t, s _ _ e, x⟩
/-- one draw -/
def spTake : Sp := fun vs H Q _ => ∃ (a : Addr) (t : Int), vs = [.ref a, .int t] ∧ Src H a ∧ 0 < t ∧ t < 1073741824 ∧
  ∀ (H' : Hp) (r : Int), SB a H H' → Src H' a → 0 ≤ r → r < t → Q (.int r) H'
theorem use_take {a : Addr} {t : Int} {H : Hp} {Q : VK} {E : XK} (h : Src H a) (h1 : 0 < t) (h2 : t < 1073741824) (q : ∀ (H' : Hp) (r : Int), SB a H H' → Src H' a → 0 ≤ r → r < t → Q (.int r) H') :
    spTake [.ref a, .int t] H Q E := ⟨a, t, rfl, h, h1, h2, q⟩
/-- one of a list -/
def spOne (K : PySem.W.Frag) : Sp := fun vs H Q _ => ∃ (a p : Addr) (xs : List V), vs = [.ref a, .ref p] ∧ Src H a ∧ SqL K H p xs ∧ p ≠ a ∧ 0 < xs.length ∧ xs.length < 1000 ∧
  ∀ (H' : Hp) (v : V), SB a H H' → Src H' a → v ∈ xs → Q v H'
theorem use_one {K : PySem.W.Frag} {a p : Addr} {xs : List V} {H : Hp} {Q : VK} {E : XK} (h : Src H a) (s : SqL K H p xs) (n : p ≠ a) (h1 : 0 < xs.length) (h2 : xs.length < 1000) (q : ∀ (H' : Hp) (v : V), SB a H H' → Src H' a → v ∈ xs → Q v H') :
    spOne K [.ref a, .ref p] H Q E := ⟨a, p, xs, rfl, h, s, n, h1, h2, q⟩
theorem SB.seqL {K : PySem.W.Frag} {a p : Addr} {H H' : Hp} {xs : List V} (s : SB a H H') (n : p ≠ a) (h : SqL K H p xs) : SqL K H' p xs := by
  rcases h with (h | ⟨o, h⟩) | h
  · exact .inl (.inl (s _ _ n h))
  · exact .inl (.inr ⟨o, s _ _ n h⟩)
  · exact .inr h
theorem at_in {xs : List V} {i : Int} (h0 : 0 ≤ i) (h1 : i < (xs.length : Int)) : ∃ v, atI xs i = some v ∧ v ∈ xs := by
  have hk : i.toNat < xs.length := by omega
  have e : i = ((i.toNat : Nat) : Int) := by omega
  have q : atI xs ((i.toNat : Nat) : Int) = some xs[i.toNat] := atI_nat (List.getElem?_eq_getElem hk)
  rw [← e] at q
  exact ⟨xs[i.toNat], q, List.getElem_mem hk⟩
theorem Same.upd_new {H H' : Hp} {D : Addr} {o : HO} (s : Same H H') (hD : H D = none) : Same H (upd H' D o) := fun b u h => by
  rw [upd_ne (ne_of_none h hD)]; exact s b u h
theorem at_ints {ns : List Int} {i : Int} (h0 : 0 ≤ i) (h1 : i < (ns.length : Int)) : ∃ n : Int, atI (ns.map V.int) i = some (.int n) := by
  obtain ⟨v, e, m⟩ := at_in (xs := ns.map V.int) h0 (by rw [List.length_map]; exact h1)
  obtain ⟨n, _, rfl⟩ := List.mem_map.mp m
  exact ⟨n, e⟩
theorem ll {n : Nat} (h : n ≤ 1000000) : n ≤ sizeLine := Nat.le_trans h (by decide)
theorem lk {n : Nat} (h : Nat.ble n 1000000 = true) : n ≤ sizeLine := ll (Nat.le_of_ble_eq_true h)
theorem ls {n : Nat} (h : n ≤ 1000000) : n < sizeLine := Nat.lt_of_le_of_lt h (by decide)
theorem cm {p : Bool} : -(2 ^ 64) < (if p then (1 : Int) else 0) ∧ (if p then (1 : Int) else 0) < 2 ^ 64 := by cases p <;> decide
theorem isE {ns : List Int} (h : (!(ns.map V.int).isEmpty) = true) : 0 < ns.length := by
  cases ns with
  | nil => cases h
  | cons a r => exact Nat.succ_pos _
end Mine

/-! ### M0 -/
namespace Mine
open PySem PySem.Spec L2
abbrev Letters : Str := "abcdefghijklmnopqrstuvwxyz"
/-! ## what the program tells of data -/
def isNum : PyData → Bool
  | .int _ => true
  | _ => false
def isBtw (d : PyData) (lo hi : Int) : Bool := match d with
  | .int i => decide (lo ≤ i) && decide (i ≤ hi)
  | _ => false
def lowAll (l : List Nat) : Bool := l.all fun c => decide (c ∈ Letters.cps.toList)
def isWord : PyData → Bool
  | .str z => decide ((1 : Int) ≤ z.length) && decide ((z.length : Int) ≤ 8) && lowAll z.cps.toList
  | _ => false
def rowNums (ds : List PyData) : Bool := ds.all fun d => isBtw d 0 1000002
def tellsRow (ds : List PyData) : Bool := decide ((1 : Int) ≤ ds.length) && decide ((ds.length : Int) ≤ 64) && rowNums ds
def tellsInput : List PyData → Bool
  | [a, b] => isWord a && isBtw b 1 64
  | _ => false
def tellsStretch : List PyData → Bool
  | [a, .int j] => isBtw (.int j) 0 64 && isBtw a 0 (j - 1)
  | _ => false
def tellsTimes : List PyData → Bool
  | [a] => isBtw a 1 16
  | _ => false
def tellsRoom : List PyData → Bool
  | [a] => isBtw a 0 64
  | _ => false
theorem dats_get : ∀ {ds : List PyData} {i : Nat} {d : PyData}, dats ds → ds[i]? = some d → dat d
  | [], _, _, _, e => by simp at e
  | a :: r, 0, d, h, e => by
    have q : a = d := by simpa using e
    rw [← q]; exact h.1
  | a :: r, i + 1, d, h, e => dats_get (ds := r) (i := i) h.2 (by simpa using e)
theorem dats_append : ∀ {a b : List PyData}, dats a → dats b → dats (a ++ b)
  | [], _, _, h => h
  | x :: r, b, h, k => ⟨h.1, dats_append h.2 k⟩
theorem dats_reverse : ∀ {a : List PyData}, dats a → dats a.reverse
  | [], _ => trivial
  | x :: r, h => by rw [List.reverse_cons]; exact dats_append (dats_reverse h.2) ⟨h.1, trivial⟩
theorem dats_dropLast : ∀ {a : List PyData}, dats a → dats a.dropLast
  | [], _ => trivial
  | [x], _ => trivial
  | x :: y :: r, h => ⟨h.1, dats_dropLast h.2⟩
theorem dats_mem : ∀ {ds : List PyData} {d : PyData}, dats ds → d ∈ ds → dat d
  | a :: r, d, h, m => by
    rcases List.mem_cons.mp m with rfl | m
    · exact h.1
    · exact dats_mem h.2 m
theorem app_list (x y : Str) : (x ++ y).cps.toList = x.cps.toList ++ y.cps.toList := by
  show (x.cps ++ y.cps).toList = _
  simp
theorem len_list (x : Str) : x.length = x.cps.toList.length := by
  show x.cps.size = _
  simp
/-- two numbers that end the range are tuples of two by turns -/
theorem all_map {α : Type} (f : α → Bool) (l : List α) : (l.map f).all id = l.all f := by
  induction l with
  | nil => rfl
  | cons a r ih => rw [List.map_cons, List.all_cons, List.all_cons, ih] <;> rfl
end Mine

/-! ### M1 -/
namespace Mine
open PySem PySem.Spec L2
/-- the ops: how few parts, how many -/
def op0 : List Str := ["row", "in"]
def op1 : List Str := ["rev", "sort", "sum", "top", "part", "rep", "hold"]
def op2 : List Str := ["add", "sub", "mul", "dot", "outer", "blend"]
def arity (z : Str) : Option (Int × Int) := if z ∈ op0 then some (0, 0) else if z ∈ op1 then some (1, 1) else if z ∈ op2 then some (2, 2) else if z = "cat" then some (1, 4) else none
def asks (z : Str) : Option (List PyData → Bool) := if z = "row" then some tellsRow else if z = "in" then some tellsInput else if z = "part" then some tellsStretch else if z = "rep" then some tellsTimes else if z = "hold" then some tellsRoom else none
def toldFits (z : Str) (ds : List PyData) : Bool := match arity z with
  | none => false
  | some _ => match asks z with
    | none => decide ((ds.length : Int) = 0)
    | some f => f ds
def partsFit (z : Str) (n : Int) : Bool := match arity z with
  | none => false
  | some (lo, hi) => decide (lo ≤ n) && decide (n ≤ hi)
theorem fits_arity {z : Str} {ds : List PyData} (h : toldFits z ds = true) : ∃ lo hi, arity z = some (lo, hi) := by
  unfold toldFits at h
  cases e : arity z with
  | none => rw [e] at h; cases h
  | some p => exact ⟨p.1, p.2, rfl⟩
def isTri : PyData → Bool
  | .tuple [.str _, .tuple _, .tuple _] => true
  | _ => false
inductive Flt | many | prog | op | parts
  deriving DecidableEq
def fval : Flt → Int → Int
  | .many, _ => 41
  | _, n => n
/-- the fault of a joint -/
def jf (d : PyData) (n : Int) : Option Flt := if 40 ≤ n then some .many else match d with
  | .tuple [.str op, .tuple told, .tuple parts] => if toldFits op told = true then (if partsFit op parts.length = true then none else some .parts) else some .op
  | _ => some .prog
def partsOf : PyData → List PyData
  | .tuple [_, _, .tuple parts] => parts
  | _ => []
/-- the walk by numbers -/
def walk : Nat → List PyData → Int → Option (Flt × Int)
  | 0, _, _ => none
  | _ + 1, [], _ => none
  | k + 1, d :: r, n => match jf d n with
    | some f => some (f, fval f n)
    | none => walk k (partsOf d ++ r) (n + 1)
theorem jf_many {d : PyData} {n : Int} (h : jf d n = none) : n < 40 := by
  unfold jf at h
  by_cases c : 40 ≤ n
  · rw [if_pos c] at h; cases h
  · omega
theorem jf_tri {d : PyData} {n : Int} (h : jf d n = none) : ∃ op told parts, d = .tuple [.str op, .tuple told, .tuple parts] := by
  have c := jf_many h
  unfold jf at h
  rw [if_neg (by omega)] at h
  split at h
  · exact ⟨_, _, _, rfl⟩
  · cases h
theorem walk_none {k : Nat} {n : Int} : walk k [] n = none := by cases k <;> rfl
end Mine
namespace Mine
open PySem PySem.Spec L2
def isProg (d : PyData) : Bool := (walk 42 [d] 0).isNone
/-- the answer in words: ('good', d) or (word, number) -/
def fword : Flt → Str
  | .many => "many"
  | .prog => "program"
  | .op => "op"
  | .parts => "parts"
def due (d : PyData) : PyData := match walk 42 [d] 0 with
  | none => .tuple [.str "good", d]
  | some (f, n) => .tuple [.str (fword f), .int n]
end Mine
namespace Mine
open PySem PySem.Spec L2
def isIntD : PyData → Bool
  | .int _ => true
  | _ => false
theorem isInt_isT {d : PyData} (h : dat d) : isT "int" d = isIntD d := by
  cases d with
  | bool b => simp only [dat] at h
  | list b => simp only [dat] at h
  | dict b => simp only [dat] at h
  | none => rfl
  | int i => rfl
  | str i => rfl
  | tuple i => rfl
theorem btw_int {d : PyData} {lo hi : Int} (h : isBtw d lo hi = true) : isIntD d = true := by cases d <;> first | rfl | cases h
theorem fits_row {ds : List PyData} : toldFits "row" ds = tellsRow ds := rfl
theorem fits_in {ds : List PyData} : toldFits "in" ds = tellsInput ds := rfl
theorem fits_part {ds : List PyData} : toldFits "part" ds = tellsStretch ds := rfl
theorem fits_rep {ds : List PyData} : toldFits "rep" ds = tellsTimes ds := rfl
theorem fits_hold {ds : List PyData} : toldFits "hold" ds = tellsRoom ds := rfl
def ops11 : List Str := ["rev", "sort", "sum", "top", "add", "sub", "mul", "dot", "cat", "outer", "blend"]
theorem fits_other {z : Str} {ds : List PyData} (h1 : z ≠ "row") (h2 : z ≠ "in") (h3 : z ≠ "part") (h4 : z ≠ "rep") (h5 : z ≠ "hold") : toldFits z ds = (decide (z ∈ ops11) && ds.isEmpty) := by
  have ea : asks z = none := by unfold asks; rw [if_neg h1, if_neg h2, if_neg h3, if_neg h4, if_neg h5]
  have eb : (decide ((ds.length : Int) = 0)) = ds.isEmpty := by
    cases ds with
    | nil => rfl
    | cons a r =>
      show decide (((r.length + 1 : Nat) : Int) = 0) = false
      exact decide_eq_false (by omega)
  unfold toldFits
  by_cases hz : z ∈ ops11
  · have hs : ∃ p, arity z = some p := by
      have k : ∀ y ∈ ops11, (arity y).isSome = true := by decide +kernel
      exact Option.isSome_iff_exists.mp (k z hz)
    obtain ⟨p, ep⟩ := hs
    rw [ep, ea, decide_eq_true hz, Bool.true_and]
    exact eb
  · have hn : arity z = none := by
      unfold arity
      have k0 : ∀ y ∈ op0, y = "row" ∨ y = "in" := by decide +kernel
      have k1 : ∀ y ∈ op1, y ∈ ops11 ∨ y = "part" ∨ y = "rep" ∨ y = "hold" := by decide +kernel
      have k2 : ∀ y ∈ op2, y ∈ ops11 := by decide +kernel
      have k3 : ("cat" : Str) ∈ ops11 := by decide +kernel
      rw [if_neg (fun h => (k0 z h).elim h1 h2), if_neg (fun h => (k1 z h).elim hz fun h => h.elim h3 fun h => h.elim h4 h5), if_neg (fun h => hz (k2 z h)), if_neg (fun (h : z = "cat") => hz (by rw [h]; exact k3))]
    rw [hn, decide_eq_false hz, Bool.false_and]
/-- told things of an op but "in" are numbers -/
theorem fits_ints {z : Str} {ds : List PyData} (h2 : z ≠ "in") (h : toldFits z ds = true) : ds.all isIntD = true := by
  by_cases c1 : z = "row"
  · subst c1
    rw [fits_row] at h
    unfold tellsRow rowNums at h
    have h' := (Bool.and_eq_true_iff.mp h).2
    rw [List.all_eq_true] at h' ⊢
    exact fun d hd => btw_int (h' d hd)
  by_cases c3 : z = "part"
  · subst c3
    rw [fits_part] at h
    unfold tellsStretch at h
    split at h
    · rename_i a j
      have h' := Bool.and_eq_true_iff.mp h
      have h3 : isIntD (.int j) = true := rfl
      simp only [List.all_cons, btw_int h'.2, h3, List.all_nil, Bool.and_self]
    · cases h
  by_cases c4 : z = "rep"
  · subst c4
    rw [fits_rep] at h
    unfold tellsTimes at h
    split at h
    · simp only [List.all_cons, btw_int h, List.all_nil, Bool.and_self]
    · cases h
  by_cases c5 : z = "hold"
  · subst c5
    rw [fits_hold] at h
    unfold tellsRoom at h
    split at h
    · simp only [List.all_cons, btw_int h, List.all_nil, Bool.and_self]
    · cases h
  rw [fits_other c1 h2 c3 c4 c5] at h
  have h' := (Bool.and_eq_true_iff.mp h).2
  cases ds with
  | nil => rfl
  | cons a r => cases h'
theorem eqv_nil : ∀ xs : List PyData, PyData.eqv (.list xs) (.list []) = xs.isEmpty
  | [] => by simp [PyData.eqv, PyData.eqvAll]
  | a :: r => by simp [PyData.eqv, PyData.eqvAll]
theorem filter_empty {p : PyData → Bool} : ∀ ds : List PyData, (ds.filter fun d => !p d).isEmpty = ds.all p
  | [] => rfl
  | a :: r => by
    rw [List.filter_cons, List.all_cons]
    cases h : p a with
    | true => simp only [Bool.not_true, Bool.true_and, Bool.false_eq_true, if_false]; exact filter_empty r
    | false => simp only [Bool.not_false, if_true, Bool.false_and]; rfl
theorem dats_filter {p : PyData → Bool} : ∀ {ds : List PyData}, dats ds → dats (ds.filter p)
  | [], _ => trivial
  | a :: r, h => by
    rw [List.filter_cons]
    split
    · exact ⟨h.1, dats_filter h.2⟩
    · exact dats_filter h.2
theorem Rps.filter_snoc {K : PySem.W.Frag} {H : Hp} {ws : List V} {v : V} {d : PyData} {ds : List PyData} {i : Nat} {p : PyData → Bool} (hw : Rps K H ws ((ds.take i).filter p)) (e : ds[i]? = some d) (r : Rp K H v d) (hp : p d = true) : Rps K H (ws ++ [v]) ((ds.take (i + 1)).filter p) := by
  rw [List.take_add_one, e, List.filter_append]
  refine hw.append ?_
  rw [show List.filter p (some d).toList = [d] from by rw [Option.toList_some, List.filter_cons, if_pos hp]; rfl]
  exact .one r
theorem Rps.filter_skip {K : PySem.W.Frag} {H : Hp} {ws : List V} {d : PyData} {ds : List PyData} {i : Nat} {p : PyData → Bool} (hw : Rps K H ws ((ds.take i).filter p)) (e : ds[i]? = some d) (hp : p d = false) : Rps K H ws ((ds.take (i + 1)).filter p) := by
  rw [List.take_add_one, e, List.filter_append]
  rw [show List.filter p (some d).toList = [] from by rw [Option.toList_some, List.filter_cons, hp]; rfl, List.append_nil]
  exact hw
end Mine
namespace Mine
open PySem PySem.Spec L2
theorem Rps.intsOf {K : PySem.W.Frag} {H : Hp} : ∀ {xs : List V} {ds : List PyData}, Rps K H xs ds → ds.all isIntD = true → ∃ ns : List Int, ds = ns.map PyData.int ∧ xs = ns.map V.int
  | _, _, .nil, _ => ⟨[], rfl, rfl⟩
  | _, _, .cons (v := v) (d := d) h t, e => by
    rw [List.all_cons, Bool.and_eq_true] at e
    obtain ⟨ns, e1, e2⟩ := Rps.intsOf t e.2
    cases h with
    | int i => exact ⟨i :: ns, by rw [e1]; rfl, by rw [e2]; rfl⟩
    | non => cases e.1
    | bl _ => cases e.1
    | str _ => cases e.1
    | tup _ _ => cases e.1
def inRow (d : PyData) : Bool := isBtw d 0 1000002
end Mine
namespace Mine
open PySem PySem.Spec L2
theorem inV_str (z : Str) : ∀ l : List Str, inV (.str z) (l.map V.str) = decide (z ∈ l) := by
  intro l
  unfold inV
  rw [List.any_map]
  induction l with
  | nil => rfl
  | cons a r ih =>
    rw [List.any_cons, ih]
    have e3 : eqV (V.str a) (V.str z) = decide (z = a) := by
      show (a == z) = _
      by_cases c : z = a
      · subst c; simp
      · rw [decide_eq_false c]
        exact beq_eq_false_iff_ne.mpr (fun h => c h.symm)
    show (eqV (V.str a) (V.str z) || decide (z ∈ r)) = _
    rw [e3]
    simp [List.mem_cons]
theorem flat_strs : ∀ l : List Str, (l.map V.str).all flatV = true
  | [] => rfl
  | _ :: r => by rw [List.map_cons, List.all_cons, flat_strs r] <;> rfl
theorem jf_prog {d : PyData} {n : Int} (h : n < 40) (c : ¬ ∃ op told parts, d = .tuple [.str op, .tuple told, .tuple parts]) : jf d n = some .prog := by
  unfold jf
  rw [if_neg (by omega)]
  split
  · exact absurd ⟨_, _, _, rfl⟩ c
  · rfl
theorem walk_step {k : Nat} {d : PyData} {r : List PyData} {n : Int} : walk (k + 1) (d :: r) n = match jf d n with
    | some f => some (f, fval f n)
    | none => walk k (partsOf d ++ r) (n + 1) := rfl
end Mine
namespace Mine
open PySem PySem.Spec L2
theorem isT_str {d : PyData} (h : isT "str" d = true) : ∃ z, d = .str z := by
  cases d with
  | str z => exact ⟨z, rfl⟩
  | none => cases h
  | bool _ => exact absurd h (by simp only [isT]; decide)
  | int _ => exact absurd h (by simp only [isT]; decide)
  | tuple _ => exact absurd h (by simp only [isT]; decide)
  | list _ => cases h
  | dict _ => cases h
theorem isT_tuple {d : PyData} (h : isT "tuple" d = true) : ∃ z, d = .tuple z := by
  cases d with
  | tuple z => exact ⟨z, rfl⟩
  | none => exact absurd h (by simp only [isT]; decide)
  | bool _ => exact absurd h (by simp only [isT]; decide)
  | int _ => exact absurd h (by simp only [isT]; decide)
  | str _ => exact absurd h (by simp only [isT]; decide)
  | list _ => cases h
  | dict _ => cases h
end Mine

/-! ### M2 -/
namespace Mine
open PySem PySem.Spec L2
theorem okS_of {z : Str} (h1 : z.length ≤ 1000) (h2 : PyData.strOk z = true) : okS z := ⟨h1, by simp only [PyData.canLay0]; exact h2⟩
/-! ## programs as trees -/
inductive Jn where
  | mk (op : Str) (told : List PyData) (parts : List Jn)
mutual
def Jn.py : Jn → PyData
  | .mk op told parts => .tuple [.str op, .tuple told, .tuple (Jn.pys parts)]
def Jn.pys : List Jn → List PyData
  | [] => []
  | j :: r => j.py :: Jn.pys r
end
mutual
def Jn.cnt : Jn → Nat
  | .mk _ _ parts => 1 + Jn.cnts parts
def Jn.cnts : List Jn → Nat
  | [] => 0
  | j :: r => j.cnt + Jn.cnts r
end
def flatD : PyData → Prop
  | .int _ => True
  | .str z => okS z
  | _ => False
mutual
def Jn.ok : Jn → Prop
  | .mk op told parts => okS op ∧ told.length ≤ 64 ∧ (∀ d ∈ told, flatD d) ∧ parts.length ≤ 4 ∧ Jn.oks parts
def Jn.oks : List Jn → Prop
  | [] => True
  | j :: r => j.ok ∧ Jn.oks r
end
mutual
def Jn.all : Jn → List Jn
  | .mk op told parts => .mk op told parts :: Jn.alls parts
def Jn.alls : List Jn → List Jn
  | [] => []
  | j :: r => j.all ++ Jn.alls r
end
theorem pys_length : ∀ l : List Jn, (Jn.pys l).length = l.length
  | [] => rfl
  | j :: r => by simp only [Jn.pys, List.length_cons, pys_length r]
theorem cnts_append : ∀ a b : List Jn, Jn.cnts (a ++ b) = Jn.cnts a + Jn.cnts b
  | [], b => by simp [Jn.cnts]
  | j :: r, b => by simp only [List.cons_append, Jn.cnts, cnts_append r b]; omega
theorem oks_append : ∀ a b : List Jn, Jn.oks a → Jn.oks b → Jn.oks (a ++ b)
  | [], b, _, h => h
  | j :: r, b, h, k => by
    simp only [List.cons_append, Jn.oks] at h ⊢
    exact ⟨h.1, oks_append r b h.2 k⟩
theorem pys_append : ∀ a b : List Jn, Jn.pys (a ++ b) = Jn.pys a ++ Jn.pys b
  | [], b => by simp [Jn.pys]
  | j :: r, b => by simp only [List.cons_append, Jn.pys, pys_append r b]
theorem flat_dat {d : PyData} (h : flatD d) : dat d := by
  cases d with
  | int i => simp only [dat]
  | str z => simpa only [dat, flatD] using h
  | none => simp only [flatD] at h
  | bool _ => simp only [flatD] at h
  | list _ => simp only [flatD] at h
  | tuple _ => simp only [flatD] at h
  | dict _ => simp only [flatD] at h
theorem flat_dats : ∀ {l : List PyData}, (∀ d ∈ l, flatD d) → dats l
  | [], _ => by simp only [dats]
  | d :: r, h => by
    simp only [dats]
    exact ⟨flat_dat (h d List.mem_cons_self), flat_dats fun x hx => h x (List.mem_cons_of_mem _ hx)⟩
theorem flat_depth : ∀ {l : List PyData}, (∀ d ∈ l, flatD d) → PyData.depthAll l = 0
  | [], _ => by simp only [PyData.depthAll]
  | d :: r, h => by
    have h1 := h d List.mem_cons_self
    have hr := flat_depth fun x hx => h x (List.mem_cons_of_mem _ hx)
    simp only [PyData.depthAll, hr]
    cases d with
    | int i => simp [PyData.depth]
    | str z => simp [PyData.depth]
    | none => simp only [flatD] at h1
    | bool _ => simp only [flatD] at h1
    | list _ => simp only [flatD] at h1
    | tuple _ => simp only [flatD] at h1
    | dict _ => simp only [flatD] at h1
mutual
theorem Jn.dat : ∀ j : Jn, j.ok → Mine.dat j.py
  | .mk op told parts, h => by
    simp only [Jn.ok] at h
    obtain ⟨h1, h2, h3, h4, h5⟩ := h
    simp only [Jn.py, Mine.dat, dats, List.length_cons, List.length_nil]
    refine ⟨by omega, h1, ⟨by omega, flat_dats h3⟩, ⟨?_, Jn.dats parts h5⟩, trivial⟩
    rw [pys_length]; omega
theorem Jn.dats : ∀ l : List Jn, Jn.oks l → Mine.dats (Jn.pys l)
  | [], _ => by simp only [Jn.pys, Mine.dats]
  | j :: r, h => by
    simp only [Jn.oks] at h
    simp only [Jn.pys, Mine.dats]
    exact ⟨Jn.dat j h.1, Jn.dats r h.2⟩
end
mutual
theorem Jn.deep : ∀ j : Jn, j.ok → j.py.depth ≤ 2 * j.cnt
  | .mk op told parts, h => by
    simp only [Jn.ok] at h
    obtain ⟨h1, h2, h3, h4, h5⟩ := h
    have hp := Jn.deeps parts h5
    simp only [Jn.py, PyData.depth, PyData.depthAll, flat_depth h3, Jn.cnt]
    omega
theorem Jn.deeps : ∀ l : List Jn, Jn.oks l → PyData.depthAll (Jn.pys l) ≤ 2 * Jn.cnts l
  | [], _ => by simp [Jn.pys, PyData.depthAll]
  | j :: r, h => by
    simp only [Jn.oks] at h
    have a := Jn.deep j h.1
    have b := Jn.deeps r h.2
    simp only [Jn.pys, PyData.depthAll, Jn.cnts]
    omega
end
theorem cnt_pos (j : Jn) : 1 ≤ j.cnt := by
  cases j
  simp only [Jn.cnt]
  omega
/-! ## a joint laid -/
theorem mkJ {K : PySem.W.Frag} {H : Hp} {op : Str} {t q p : Addr} {tv pv : List V} {td : List PyData} {parts : List Jn} (h1 : SqT K H t tv) (h2 : Rps K H tv td) (h3 : SqT K H q pv) (h4 : Rps K H pv (Jn.pys parts)) (hp : H p = none) :
    Rp K (upd H p (.tup [.str op, .ref t, .ref q])) (.ref p) (Jn.mk op td parts).py := by
  simp only [Jn.py]
  exact .tup (SqT.of upd_same) (.cons (.str op) (.cons (.tup ((Ext.new hp) _ _ h1) (h2.mono (Ext.new hp) _ _)) (.cons (.tup ((Ext.new hp) _ _ h3) (h4.mono (Ext.new hp) _ _)) .nil)))
theorem SB.upd_new {a : Addr} {H H' : Hp} {D : Addr} {o : HO} (s : SB a H H') (hD : H D = none) : SB a H (L2.upd H' D o) := fun b u n h => by
  rw [upd_ne (ne_of_none h hD)]; exact s b u n h
theorem mod_le {k n : Int} (hk : 1 ≤ k) (hn : 1 ≤ n) (h : k % n = 0) : n ≤ k ∧ 1 ≤ k / n ∧ k / n ≤ k := by
  have h1 : n ≤ k := by
    by_cases c : n ≤ k
    · exact c
    · have := Int.emod_eq_of_lt (show 0 ≤ k by omega) (show k < n by omega)
      omega
  have h2 : 1 ≤ k / n := by
    rw [Int.le_ediv_iff_mul_le (by omega)]
    omega
  have h3 : k / n ≤ k := Int.ediv_le_self _ (by omega)
  exact ⟨h1, h2, h3⟩
end Mine

/-! ### M3 -/
namespace Mine
open PySem PySem.Spec L2
/-- v is plain data of a depth of at most n -/
def Dt (K : PySem.W.Frag) (n : Nat) (H : Hp) (v : V) : Prop := ∃ d, Rp K H v d ∧ dat d ∧ d.depth ≤ n
section
variable {K : PySem.W.Frag} {n m : Nat} {H H' : Hp} {v : V} {xs ys : List V} {p a : Addr} {d : PyData}
theorem Dt.mono (h : Dt K n H v) (e : Ext K H H') : Dt K n H' v := by
  obtain ⟨d, r, x, y⟩ := h
  exact ⟨d, r.mono e _ _, x, y⟩
theorem Dt.le (h : Dt K n H v) (e : n ≤ m) : Dt K m H v := by
  obtain ⟨d, r, x, y⟩ := h
  exact ⟨d, r, x, Nat.le_trans y e⟩
theorem Dt.int (i : Int) : Dt K n H (.int i) := ⟨.int i, .int i, by simp only [dat], by simp [PyData.depth]⟩
theorem Dt.non : Dt K n H .non := ⟨.none, .non, by simp only [dat], by simp [PyData.depth]⟩
theorem Dt.str {z : Str} (h : okS z) : Dt K n H (.str z) := ⟨.str z, .str z, by simpa only [dat] using h, by simp [PyData.depth]⟩
theorem Dt.all (h : ∀ x ∈ xs, Dt K n H x) : ∃ ds, Rps K H xs ds ∧ dats ds ∧ PyData.depthAll ds ≤ n ∧ ds.length = xs.length := by
  induction xs with
  | nil => exact ⟨[], .nil, trivial, by simp [PyData.depthAll], rfl⟩
  | cons x r ih =>
    obtain ⟨ds, a, b, c, e⟩ := ih (fun y hy => h y (List.mem_cons_of_mem _ hy))
    obtain ⟨d, a1, b1, c1⟩ := h x List.mem_cons_self
    exact ⟨d :: ds, .cons a1 a, ⟨b1, b⟩, by simp only [PyData.depthAll]; omega, by simp [e]⟩
theorem Dt.tup (h : ∀ x ∈ xs, Dt K n H x) (l : xs.length ≤ 1000) (s : SqT K H p xs) : Dt K (n + 1) H (.ref p) := by
  obtain ⟨ds, a, b, c, e⟩ := Dt.all h
  exact ⟨.tuple ds, .tup s a, by simp only [dat]; exact ⟨by omega, b⟩, by simp only [PyData.depth]; omega⟩
/-- the parts of a tuple -/
theorem Dt.parts {K : PySem.W.Frag} {n : Nat} {H : Hp} : ∀ {xs : List V} {ds : List PyData}, Rps K H xs ds → dats ds → PyData.depthAll ds ≤ n → ∀ x ∈ xs, Dt K n H x
  | _, _, .nil, _, _ => fun _ z => nomatch z
  | _, _, .cons (v := v) (d := d) (ds := ds) h1 h2, h, l => by
    simp only [PyData.depthAll] at l
    intro x hx
    rcases List.mem_cons.mp hx with rfl | hx
    · exact ⟨d, h1, h.1, by omega⟩
    · exact Dt.parts h2 h.2 (by omega) x hx
theorem Dt.jn {j : Jn} (r : Rp K H v j.py) (h : j.ok) (l : 2 * j.cnt ≤ n) : Dt K n H v := ⟨_, r, Jn.dat j h, Nat.le_trans (Jn.deep j h) l⟩
/-! ## what has been laid: a stack of values -/
def atomB : V → Bool
  | .int _ => true
  | .non => true
  | .str z => decide (z.length ≤ 1000) && PyData.strOk z
  | _ => false
theorem atom_dt (h : atomB v = true) : Dt K n H v := by
  cases v with
  | int i => exact .int i
  | non => exact .non
  | str z =>
    have q : (decide (z.length ≤ 1000) && PyData.strOk z) = true := h
    have q' := Bool.and_eq_true_iff.mp q
    exact .str (okS_of (of_decide_eq_true q'.1) q'.2)
  | _ => cases h
structure Lay (K : PySem.W.Frag) (a : Addr) (H0 : Hp) (n : Nat) (L : List V) (H : Hp) : Prop where
  sb : SB a H0 H
  src : Src H a
  dt : ∀ x ∈ L, Dt K n H x
theorem Lay.start (h : Src H a) : Lay K a H 0 [] H := ⟨SB.refl, h, fun _ z => nomatch z⟩
theorem Lay.tup {H0 : Hp} {L : List V} (h : Lay K a H0 n L H) (hp : H p = none) (l : xs.length ≤ 1000) (hx : ∀ x ∈ xs, x ∈ L ∨ atomB x = true) : Lay K a H0 (n + 1) (.ref p :: L) (upd H p (.tup xs)) := by
  have e : Ext K H (upd H p (.tup xs)) := Ext.new hp
  refine ⟨h.sb.new hp, h.src.new hp, fun x hm => ?_⟩
  rcases List.mem_cons.mp hm with rfl | hm
  · refine Dt.tup (xs := xs) (fun y hy => ?_) l (SqT.of upd_same)
    rcases hx y hy with q | q
    · exact (h.dt y q).mono e
    · exact atom_dt q
  · exact ((h.dt x hm).mono e).le (Nat.le_succ _)
theorem Lay.ext {H0 : Hp} {L : List V} (h : Lay K a H0 n L H) (s : Src H0 a) : Ext K H0 H := s.ext h.sb
theorem Lay.lst {H0 : Hp} {L : List V} (h : Lay K a H0 n L H) (hp : H p = none) : Lay K a H0 n L (upd H p (.lst xs)) := by
  have e : Ext K H (upd H p (.lst xs)) := Ext.new hp
  exact ⟨h.sb.new hp, h.src.new hp, fun x hm => (h.dt x hm).mono e⟩
theorem Lay.sbx {H0 : Hp} {L : List V} (h : Lay K a H0 n L H) (s : SB a H H') (hs : Src H' a) : Lay K a H0 n L H' := ⟨h.sb.trans s, hs, fun x hm => (h.dt x hm).mono (h.src.ext s)⟩
theorem Lay.push {H0 : Hp} {L : List V} (h : Lay K a H0 n L H) (d : Dt K m H v) (l : n ≤ m) : Lay K a H0 m (v :: L) H := ⟨h.sb, h.src, fun x hm => by
  rcases List.mem_cons.mp hm with rfl | hm
  · exact d
  · exact (h.dt x hm).le l⟩
theorem Lay.any {H0 : Hp} {L : List V} (h : Lay K a H0 n L H) (hx : ∀ x ∈ xs, x ∈ L ∨ atomB x = true) : ∀ x ∈ xs, Dt K n H x := fun y hy => by
  rcases hx y hy with q | q
  · exact h.dt y q
  · exact atom_dt q
theorem al0 {L : List V} : ∀ x ∈ ([] : List V), x ∈ L ∨ atomB x = true := fun _ z => nomatch z
theorem al1 {L : List V} {r : List V} (h : v ∈ L ∨ atomB v = true) (k : ∀ x ∈ r, x ∈ L ∨ atomB x = true) : ∀ x ∈ v :: r, x ∈ L ∨ atomB x = true := fun x hm => by
  rcases List.mem_cons.mp hm with rfl | hm
  · exact h
  · exact k x hm
/-! ## readings: dicts, tuples -/
variable {Q : VK} {σ : St}
theorem rd_dnew (h : ∀ p, H p = none → Q (.ref p) (upd H p (.dK []))) : tDNewK σ H Q := h
theorem rd_din {ty td : TE} (h : ty σ H fun y H1 => td σ H1 fun x H2 => ∃ a o, x = .ref a ∧ DGet H2 a y o ∧ Q (.bl o.isSome) H2) : tDIn ty td σ H Q := h
theorem u_din {i : Int} {kvs : List (Key × V)} {R : Option V → Prop} (e : H a = some (.dK kvs)) (h : R (valV kvs (Sum.inl i))) : ∃ a' o, V.ref a = .ref a' ∧ DGet H a' (.int i) o ∧ R o := ⟨a, _, rfl, DGet.k (k := Sum.inl i) e, h⟩
theorem rd_dget {ty td : TE} (h : td σ H fun x H1 => ty σ H1 fun y H2 => ∃ a v, x = .ref a ∧ DGet H2 a y (some v) ∧ Q v H2) : tDGet td ty σ H Q := h
theorem u_dget {i : Int} {kvs : List (Key × V)} {R : V → Prop} (e : H a = some (.dK kvs)) (ev : valV kvs (Sum.inl i) = some v) (h : R v) : ∃ a' v', V.ref a = .ref a' ∧ DGet H a' (.int i) (some v') ∧ R v' := ⟨a, v, rfl, by rw [← ev]; exact DGet.k (k := Sum.inl i) e, h⟩
theorem rd_dput {ty td tv : TE} {n bk ct : St → Hp → Prop} {rt : VK} (h : tv σ H fun v H1 => td σ H1 fun x H2 => ty σ H2 fun y H3 => ∃ a H4, x = .ref a ∧ DPut H3 a y v H4 ∧ n σ H4) : sDPut td ty tv ⟨n, rt, bk, ct⟩ σ H := h
theorem u_dput {i : Int} {kvs : List (Key × V)} {R : Hp → Prop} (e : H a = some (.dK kvs)) (l : kvs.length < sizeLine) (h : R (upd H a (.dK (putK kvs (Sum.inl i) v)))) : ∃ a' H4, V.ref a = .ref a' ∧ DPut H a' (.int i) v H4 ∧ R H4 := ⟨a, _, rfl, DPut.k (k := Sum.inl i) e l, h⟩
theorem rd_disp1 {tk tv : TE} (h : ∀ p, H p = none → tk σ (upd H p (.dK [])) fun x H1 => tv σ H1 fun y H2 => H2 p = some (.dK []) ∧ ∃ kvs : List (Key × V), [(x, y)] = kvs.map (fun kv => (kV kv.1, kv.2)) ∧ kvs.length ≤ 15 ∧ Q (.ref p) (upd H2 p (.dK (mergeK [] kvs)))) : tDisp [(tk, tv)] σ H Q := h
theorem merge1 {k : Key} {y : V} : mergeK [] [(k, y)] = [(k, y)] := rfl
theorem u_disp1 {i : Int} {y : V} {R : List (Key × V) → Prop} (e : H p = some (.dK [])) (h : R [(Sum.inl i, y)]) : H p = some (.dK []) ∧ ∃ kvs : List (Key × V), [(V.int i, y)] = kvs.map (fun kv => (kV kv.1, kv.2)) ∧ kvs.length ≤ 15 ∧ R kvs := ⟨e, [(Sum.inl i, y)], rfl, by simp, h⟩
theorem rd_sl {r : V → Option Int → Option Int → Hp → VK → Prop} {te : TE} {tl th : TO} (h : te σ H fun x H1 => tl σ H1 fun l H2 => th σ H2 fun u H3 => r x l u H3 Q) : tSl r te tl th σ H Q := h
theorem rd_part {te : TE} {R : Option Int → Hp → Prop} (h : te σ H fun x H1 => ∃ i, x = .int i ∧ R (some i) H1) : tPart te σ H R := h
theorem rd_partI {i : Int} {R : Int → Prop} (h : R i) : ∃ i', V.int i = .int i' ∧ R i' := ⟨i, rfl, h⟩
theorem rd_nopart {R : Option Int → Hp → Prop} (h : R none H) : tNoPart σ H R := h
theorem u_slT {lo hi : Option Int} (ha : SqT K H a xs) (h0 : Q (.ref a) H) (h : ∀ p, H p = none → Q (.ref p) (upd H p (.tup (cutV xs lo hi)))) : rSlU K (.ref a) lo hi H Q := .inr ⟨a, xs, rfl, ha, fun _ => h0, fun _ => h⟩
theorem cut_mem {lo hi : Option Int} {x : V} (h : x ∈ cutV xs lo hi) : x ∈ xs := List.mem_of_mem_drop (List.mem_of_mem_take h)
theorem u_catT {b : Addr} (ha : SqT K H a xs) (hb : SqT K H b ys) (l : xs.length + ys.length ≤ sizeLine) (n1 : ys ≠ []) (h0 : xs = [] → Q (.ref b) H) (h : xs ≠ [] → ∀ p, H p = none → Q (.ref p) (upd H p (.tup (xs ++ ys)))) : rAddU K (.ref a) (.ref b) H Q :=
  .inr (.inr (.inr ⟨a, b, xs, ys, rfl, rfl, ha, hb, l, h0, fun _ z => absurd z n1, fun x _ => h x⟩))
theorem u_repT {i : Int} (ha : SqT K H a xs) (n0 : xs ≠ []) (h1 : 2 ≤ i) (h2 : i ≤ 1000) (l : xs.length ≤ 1000) (h : ∀ p, H p = none → Q (.ref p) (upd H p (.tup (List.replicate i.toNat xs).flatten))) : rMulU K (.ref a) (.int i) H Q :=
  .inr (.inr ⟨a, i, xs, rfl, rfl, ha, n0, h1, h2, l, h⟩)
theorem Lay.same {H0 : Hp} {L : List V} (h : Lay K a H0 n L H) (s : Same H H') : Lay K a H0 n L H' := h.sbx (SB.of_same s) (h.src.same s)
theorem Lay.le {H0 : Hp} {L : List V} (h : Lay K a H0 n L H) (e : n ≤ m) : Lay K a H0 m L H := ⟨h.sb, h.src, fun x hx => (h.dt x hx).le e⟩
theorem Lay.sub {H0 : Hp} {L M : List V} (h : Lay K a H0 n L H) (e : ∀ x ∈ M, x ∈ L) : Lay K a H0 n M H := ⟨h.sb, h.src, fun x hx => h.dt x (e x hx)⟩
theorem SB.fresh {b : Addr} (s : SB a H H') (n : b ≠ a) (h : H' b = none) : H b = none := by
  cases e : H b with
  | none => rfl
  | some o => rw [s b o n e] at h; cases h
theorem Lay.write {H0 : Hp} {L : List V} {D : Addr} {o u : HO} (h : Lay K a H0 n L H) (hD : H0 D = none) (nd : D ≠ a) (e : H D = some o) (hn : noTup o) : Lay K a H0 n L (upd H D u) := ⟨h.sb.upd_new hD, h.src.set nd, fun x hx => (h.dt x hx).mono (Ext.set e hn)⟩
theorem u_slD {lo hi : Option Int} (ha : SqT K H a xs) (hd : ∀ x ∈ xs, Dt K n H x) (hl : xs.length ≤ 1000) (h : ∀ q H', Same H H' → Dt K (n + 1) H' (.ref q) → Q (.ref q) H') : rSlU K (.ref a) lo hi H Q :=
  u_slT ha (h a H (Same.refl H) (Dt.tup hd hl ha)) fun p hp => h p _ (same_new hp _) (Dt.tup (xs := cutV xs lo hi) (fun x hx => (hd x (cut_mem hx)).mono (Ext.new hp)) (Nat.le_trans (cutV_length xs lo hi) hl) (SqT.of upd_same))
theorem u_catD {b : Addr} (ha : SqT K H a xs) (hb : SqT K H b ys) (hd : ∀ x ∈ xs, Dt K n H x) (he : ∀ x ∈ ys, Dt K n H x) (hl : xs.length + ys.length ≤ 1000) (n1 : ys ≠ []) (h : ∀ q H', Same H H' → Dt K (n + 1) H' (.ref q) → Q (.ref q) H') : rAddU K (.ref a) (.ref b) H Q :=
  u_catT ha hb (ll (by omega)) n1 (fun _ => h b H (Same.refl H) (Dt.tup he (by omega) hb)) fun _ p hp => h p _ (same_new hp _) (Dt.tup (xs := xs ++ ys) (fun x hx => (by
    rcases List.mem_append.mp hx with h1 | h1
    · exact (hd x h1).mono (Ext.new hp)
    · exact (he x h1).mono (Ext.new hp))) (by rw [List.length_append]; exact hl) (SqT.of upd_same))
end
/-! ## a joint read -/
theorem Rp.jn {K : PySem.W.Frag} {H : Hp} {v : V} {op : Str} {td : List PyData} {parts : List Jn} (h : Rp K H v (Jn.mk op td parts).py) :
    ∃ (p t q : Addr) (tv pv : List V), v = .ref p ∧ SqT K H p [.str op, .ref t, .ref q] ∧ SqT K H t tv ∧ Rps K H tv td ∧ SqT K H q pv ∧ Rps K H pv (Jn.pys parts) := by
  simp only [Jn.py] at h
  cases h with
  | tup s r =>
    cases r with
    | cons r1 r =>
      cases r with
      | cons r2 r =>
        cases r with
        | cons r3 r =>
          cases r
          cases r1
          cases r2 with
          | tup s2 q2 =>
            cases r3 with
            | tup s3 q3 => exact ⟨_, _, _, _, _, rfl, s, s2, q2, s3, q3⟩
theorem pys_get : ∀ (l : List Jn) (i : Nat), (Jn.pys l)[i]? = (l[i]?).map Jn.py
  | [], i => by simp [Jn.pys]
  | j :: r, 0 => by simp [Jn.pys]
  | j :: r, i + 1 => by simp only [Jn.pys, List.getElem?_cons_succ]; exact pys_get r i
theorem oks_mem : ∀ {l : List Jn} {j : Jn}, Jn.oks l → j ∈ l → j.ok
  | a :: r, j, h, m => by
    simp only [Jn.oks] at h
    rcases List.mem_cons.mp m with rfl | m
    · exact h.1
    · exact oks_mem h.2 m
theorem cnts_mem : ∀ {l : List Jn} {j : Jn}, j ∈ l → j.cnt ≤ Jn.cnts l
  | a :: r, j, m => by
    simp only [Jn.cnts]
    rcases List.mem_cons.mp m with rfl | m
    · omega
    · have := cnts_mem m; omega
theorem Rps.part {K : PySem.W.Frag} {H : Hp} {pv : List V} {parts : List Jn} {i : Nat} {x : V} (h : Rps K H pv (Jn.pys parts)) (e : pv[i]? = some x) : ∃ j, parts[i]? = some j ∧ Rp K H x j.py := by
  obtain ⟨d, e1, r⟩ := h.getV e
  rw [pys_get] at e1
  cases e2 : parts[i]? with
  | none => rw [e2] at e1; cases e1
  | some j => rw [e2] at e1; cases e1; exact ⟨j, rfl, r⟩
theorem alls_append : ∀ a b : List Jn, Jn.alls (a ++ b) = Jn.alls a ++ Jn.alls b
  | [], b => by simp [Jn.alls]
  | j :: r, b => by simp only [List.cons_append, Jn.alls, alls_append r b, List.append_assoc]
mutual
theorem all_cnt : ∀ j : Jn, j.all.length = j.cnt
  | .mk op td parts => by simp only [Jn.all, Jn.cnt, List.length_cons, alls_cnt parts]; omega
theorem alls_cnt : ∀ l : List Jn, (Jn.alls l).length = Jn.cnts l
  | [] => by simp [Jn.alls, Jn.cnts]
  | j :: r => by simp only [Jn.alls, Jn.cnts, List.length_append, all_cnt j, alls_cnt r]
end
mutual
theorem all_ok : ∀ (j : Jn), j.ok → ∀ x ∈ j.all, x.ok ∧ x.cnt ≤ j.cnt
  | .mk op td parts, h => fun x hx => by
    simp only [Jn.all] at hx
    rcases List.mem_cons.mp hx with rfl | hx
    · exact ⟨h, Nat.le_refl _⟩
    · have h' := h
      simp only [Jn.ok] at h'
      have := alls_ok parts h'.2.2.2.2 x hx
      simp only [Jn.cnt]
      exact ⟨this.1, by omega⟩
theorem alls_ok : ∀ (l : List Jn), Jn.oks l → ∀ x ∈ Jn.alls l, x.ok ∧ x.cnt ≤ Jn.cnts l
  | [], _ => fun x hx => by simp [Jn.alls] at hx
  | j :: r, h => fun x hx => by
    simp only [Jn.oks] at h
    simp only [Jn.alls] at hx
    simp only [Jn.cnts]
    rcases List.mem_append.mp hx with hx | hx
    · have := all_ok j h.1 x hx
      exact ⟨this.1, by omega⟩
    · have := alls_ok r h.2 x hx
      exact ⟨this.1, by omega⟩
end
theorem take_more {α : Type} {l : List α} {i : Nat} {x : α} (h : l[i]? = some x) : l.take (i + 1) = l.take i ++ [x] := by
  rw [List.take_add_one, h] <;> rfl
theorem alls_take {l : List Jn} {i : Nat} {x : Jn} (h : l[i]? = some x) : Jn.alls (l.take (i + 1)) = Jn.alls (l.take i) ++ x.all := by
  rw [take_more h, alls_append]
  simp [Jn.alls]
theorem cnts_take : ∀ (l : List Jn) (i : Nat), Jn.cnts (l.take i) ≤ Jn.cnts l
  | [], i => by simp [Jn.cnts]
  | j :: r, 0 => by simp [Jn.cnts]
  | j :: r, i + 1 => by simp only [List.take_succ_cons, Jn.cnts]; have := cnts_take r i; omega
end Mine

/-! ### G0 -/
namespace Mine
open PySem PySem.Spec L2
def abc : Nat → Str
  | 0 => "a"
  | 1 => "b"
  | 2 => "c"
  | _ => "x"
def opsSame : List Str := ["rev", "sort", "cat"]
def opsUnit : List Str := ["sum", "top"]
def opsPair : List Str := ["add", "sub", "mul"]
/-- a program that fits, and its size; the inputs' sizes by their letters -/
inductive Gd (ks : Nat → Int) : Jn → Int → Prop
  | inp (i : Nat) (hi : i < 4) (h1 : 1 ≤ ks i) (h2 : ks i ≤ 64) : Gd ks (.mk "in" [.str (abc i), .int (ks i)] []) (ks i)
  | row (ns : List Int) (h1 : 1 ≤ ns.length) (h2 : ns.length ≤ 64) (h : ∀ n ∈ ns, 0 ≤ n ∧ n ≤ 1000002) : Gd ks (.mk "row" (ns.map PyData.int) []) ns.length
  | same {j : Jn} {s : Int} (op : Str) (h : op ∈ opsSame) (g : Gd ks j s) : Gd ks (.mk op [] [j]) s
  | unit {j : Jn} {s : Int} (op : Str) (h : op ∈ opsUnit) (g : Gd ks j s) : Gd ks (.mk op [] [j]) 1
  | hold {j : Jn} {s : Int} (n : Int) (h1 : 0 ≤ n) (h2 : n ≤ 64) (g : Gd ks j s) : Gd ks (.mk "hold" [.int n] [j]) s
  | part {j : Jn} {s : Int} (i k : Int) (h1 : 0 ≤ i) (h2 : i < k) (h3 : k ≤ s) (g : Gd ks j s) : Gd ks (.mk "part" [.int i, .int k] [j]) (k - i)
  | rep {j : Jn} {s : Int} (t : Int) (h1 : 1 ≤ t) (h2 : t ≤ 16) (h3 : s * t ≤ 64) (g : Gd ks j s) : Gd ks (.mk "rep" [.int t] [j]) (s * t)
  | pair {j l : Jn} {s : Int} (op : Str) (h : op ∈ opsPair) (g : Gd ks j s) (g2 : Gd ks l s) : Gd ks (.mk op [] [j, l]) s
  | dot {j l : Jn} {s : Int} (g : Gd ks j s) (g2 : Gd ks l s) : Gd ks (.mk "dot" [] [j, l]) 1
  | outer {j l : Jn} {s t : Int} (h : s * t ≤ 64) (g : Gd ks j s) (g2 : Gd ks l t) : Gd ks (.mk "outer" [] [j, l]) (s * t)
  | blend {j l : Jn} {s t : Int} (h : s + t - 1 ≤ 64) (g : Gd ks j s) (g2 : Gd ks l t) : Gd ks (.mk "blend" [] [j, l]) (s + t - 1)
  | cat {j l : Jn} {s t : Int} (h : s + t ≤ 64) (g : Gd ks j s) (g2 : Gd ks l t) : Gd ks (.mk "cat" [] [j, l]) (s + t)
  | cat3 {j l m : Jn} {s t r : Int} (h : s + t + r ≤ 64) (g : Gd ks j s) (g2 : Gd ks l t) (g3 : Gd ks m r) : Gd ks (.mk "cat" [] [j, l, m]) (s + t + r)
  | cat4 {j l m o : Jn} {s t r q : Int} (h : s + t + r + q ≤ 64) (g : Gd ks j s) (g2 : Gd ks l t) (g3 : Gd ks m r) (g4 : Gd ks o q) : Gd ks (.mk "cat" [] [j, l, m, o]) (s + t + r + q)
theorem one_le_mul {s t : Int} (h1 : 1 ≤ s) (h2 : 1 ≤ t) : 1 ≤ s * t := by
  have := Int.mul_le_mul h1 h2 (by decide) (by omega)
  omega
theorem Gd.sz {ks : Nat → Int} {j : Jn} {s : Int} (g : Gd ks j s) : 1 ≤ s ∧ s ≤ 64 := by
  induction g with
  | inp i hi h1 h2 => exact ⟨h1, h2⟩
  | row ns h1 h2 h => omega
  | same op h g ih => exact ih
  | unit op h g ih => omega
  | hold n h1 h2 g ih => exact ih
  | part i k h1 h2 h3 g ih => omega
  | rep t h1 h2 h3 g ih => exact ⟨one_le_mul ih.1 h1, h3⟩
  | pair op h g g2 ih1 ih2 => exact ih1
  | dot g g2 ih1 ih2 => omega
  | outer h g g2 ih1 ih2 => exact ⟨one_le_mul ih1.1 ih2.1, h⟩
  | blend h g g2 ih1 ih2 => omega
  | cat h g g2 ih1 ih2 => omega
  | cat3 h g g2 g3 ih1 ih2 ih3 => omega
  | cat4 h g g2 g3 g4 ih1 ih2 ih3 ih4 => omega
theorem okS_abc (i : Nat) : okS (abc i) := by
  unfold abc
  split <;> exact okS_of (by decide +kernel) (by decide +kernel)
theorem okS_mem {l : List Str} (h : (l.all fun z => decide (z.length ≤ 1000) && PyData.strOk z) = true) {z : Str} (m : z ∈ l) : okS z := by
  have := Bool.and_eq_true_iff.mp (List.all_eq_true.mp h z m)
  exact okS_of (of_decide_eq_true this.1) this.2
theorem flat_ints (ns : List Int) : ∀ d ∈ ns.map PyData.int, flatD d := fun d hd => by
  obtain ⟨n, _, rfl⟩ := List.mem_map.mp hd
  exact trivial
theorem okL {z : Str} (h : (decide (z.length ≤ 1000) && PyData.strOk z) = true) : okS z := okS_mem (l := [z]) (by simpa using h) (by simp)
theorem Gd.ok {ks : Nat → Int} {j : Jn} {s : Int} (g : Gd ks j s) : j.ok := by
  induction g with
  | inp i hi h1 h2 => simp only [Jn.ok, Jn.oks]; exact ⟨okL (by decide +kernel), by simp, fun d hd => (by
      rcases (show d = .str (abc i) ∨ d = .int (ks i) by simpa using hd) with rfl | rfl
      · exact okS_abc i
      · exact trivial), by simp, trivial⟩
  | row ns h1 h2 h => simp only [Jn.ok, Jn.oks]; exact ⟨okL (by decide +kernel), by simpa using h2, flat_ints ns, by simp, trivial⟩
  | same op h g ih => simp only [Jn.ok, Jn.oks]; exact ⟨okS_mem (l := opsSame) (by decide +kernel) h, by simp, (fun _ z => nomatch z), by simp, ih, trivial⟩
  | unit op h g ih => simp only [Jn.ok, Jn.oks]; exact ⟨okS_mem (l := opsUnit) (by decide +kernel) h, by simp, (fun _ z => nomatch z), by simp, ih, trivial⟩
  | hold n h1 h2 g ih => simp only [Jn.ok, Jn.oks]; exact ⟨okL (by decide +kernel), by simp, flat_ints [n], by simp, ih, trivial⟩
  | part i k h1 h2 h3 g ih => simp only [Jn.ok, Jn.oks]; exact ⟨okL (by decide +kernel), by simp, flat_ints [i, k], by simp, ih, trivial⟩
  | rep t h1 h2 h3 g ih => simp only [Jn.ok, Jn.oks]; exact ⟨okL (by decide +kernel), by simp, flat_ints [t], by simp, ih, trivial⟩
  | pair op h g g2 ih1 ih2 => simp only [Jn.ok, Jn.oks]; exact ⟨okS_mem (l := opsPair) (by decide +kernel) h, by simp, (fun _ z => nomatch z), by simp, ih1, ih2, trivial⟩
  | dot g g2 ih1 ih2 => simp only [Jn.ok, Jn.oks]; exact ⟨okL (by decide +kernel), by simp, (fun _ z => nomatch z), by simp, ih1, ih2, trivial⟩
  | outer h g g2 ih1 ih2 => simp only [Jn.ok, Jn.oks]; exact ⟨okL (by decide +kernel), by simp, (fun _ z => nomatch z), by simp, ih1, ih2, trivial⟩
  | blend h g g2 ih1 ih2 => simp only [Jn.ok, Jn.oks]; exact ⟨okL (by decide +kernel), by simp, (fun _ z => nomatch z), by simp, ih1, ih2, trivial⟩
  | cat h g g2 ih1 ih2 => simp only [Jn.ok, Jn.oks]; exact ⟨okL (by decide +kernel), by simp, (fun _ z => nomatch z), by simp, ih1, ih2, trivial⟩
  | cat3 h g g2 g3 ih1 ih2 ih3 => simp only [Jn.ok, Jn.oks]; exact ⟨okL (by decide +kernel), by simp, (fun _ z => nomatch z), by simp, ih1, ih2, ih3, trivial⟩
  | cat4 h g g2 g3 g4 ih1 ih2 ih3 ih4 => simp only [Jn.ok, Jn.oks]; exact ⟨okL (by decide +kernel), by simp, (fun _ z => nomatch z), by simp, ih1, ih2, ih3, ih4, trivial⟩
/-- at v: a program that fits, of c joints, beside its size -/
def Tr (K : PySem.W.Frag) (ks : Nat → Int) (H : Hp) (v : V) (c : Nat) : Prop := ∃ (p : Addr) (u : V) (j : Jn) (s : Int), v = .ref p ∧ SqT K H p [u, .int s] ∧ Rp K H u j.py ∧ Gd ks j s ∧ j.cnt = c
theorem Tr.mono {K : PySem.W.Frag} {ks : Nat → Int} {H H' : Hp} {v : V} {c : Nat} (h : Tr K ks H v c) (e : Ext K H H') : Tr K ks H' v c := by
  obtain ⟨p, u, j, s, rfl, h1, h2, h3, h4⟩ := h
  exact ⟨p, u, j, s, rfl, e _ _ h1, h2.mono e _ _, h3, h4⟩
theorem cnt1 {op : Str} {td : List PyData} {j : Jn} : (Jn.mk op td [j]).cnt = 1 + j.cnt := by simp [Jn.cnt, Jn.cnts]
theorem cnt2 {op : Str} {td : List PyData} {j l : Jn} : (Jn.mk op td [j, l]).cnt = 1 + (j.cnt + l.cnt) := by simp [Jn.cnt, Jn.cnts]
theorem pys1 {j : Jn} : Jn.pys [j] = [j.py] := by simp [Jn.pys]
theorem pys2 {j l : Jn} : Jn.pys [j, l] = [j.py, l.py] := by simp [Jn.pys]
end Mine

/-! ### H0 -/
namespace Mine
open PySem PySem.Spec L2
/-! ## a program that fits is refused nowhere -/
theorem fits_op {z : Str} (h : z ∈ ops11) : toldFits z [] = true := by
  have k : ∀ y ∈ ops11, toldFits y [] = true := by decide +kernel
  exact k z h
theorem fit1 {z : Str} (h : z ∈ opsSame ∨ z ∈ opsUnit) : toldFits z [] = true ∧ partsFit z 1 = true := by
  have k : ∀ y ∈ opsSame ++ opsUnit, toldFits y [] = true ∧ partsFit y 1 = true := by decide +kernel
  exact k z (by rcases h with h | h <;> simp [h])
theorem fit2 {z : Str} (h : z ∈ opsPair ∨ z = "dot" ∨ z = "outer" ∨ z = "blend" ∨ z = "cat") : toldFits z [] = true ∧ partsFit z 2 = true := by
  have k : ∀ y ∈ opsPair ++ (["dot", "outer", "blend", "cat"] : List Str), toldFits y [] = true ∧ partsFit y 2 = true := by decide +kernel
  exact k z (by rcases h with h | h | h | h | h <;> simp [h])
theorem btw_ok {i lo hi : Int} (h1 : lo ≤ i) (h2 : i ≤ hi) : isBtw (.int i) lo hi = true := by
  show (decide (lo ≤ i) && decide (i ≤ hi)) = true
  rw [decide_eq_true h1, decide_eq_true h2] <;> rfl
/-- one joint fits, told and parts -/
def Fit : Jn → Prop
  | .mk op td parts => toldFits op td = true ∧ partsFit op parts.length = true
theorem Gd.fit {ks : Nat → Int} {j : Jn} {s : Int} (g : Gd ks j s) : ∀ x ∈ j.all, Fit x := by
  induction g with
  | inp i hi h1 h2 =>
    intro x hx
    simp only [Jn.all, Jn.alls, List.mem_singleton] at hx
    subst hx
    refine ⟨?_, by decide +kernel⟩
    rw [fits_in]
    show (isWord (.str (abc i)) && isBtw (.int (ks i)) 1 64) = true
    rw [btw_ok h1 h2, Bool.and_true]
    match i, hi with
    | 0, _ => decide +kernel
    | 1, _ => decide +kernel
    | 2, _ => decide +kernel
    | 3, _ => decide +kernel
  | row ns h1 h2 h =>
    intro x hx
    simp only [Jn.all, Jn.alls, List.mem_singleton] at hx
    subst hx
    refine ⟨?_, by decide +kernel⟩
    rw [fits_row]
    unfold tellsRow rowNums
    rw [List.length_map, decide_eq_true (show (1 : Int) ≤ ns.length by omega), decide_eq_true (show (ns.length : Int) ≤ 64 by omega), Bool.true_and, Bool.true_and, List.all_map, List.all_eq_true]
    exact fun n hn => btw_ok (h n hn).1 (h n hn).2
  | same op h g ih =>
    intro x hx
    simp only [Jn.all, Jn.alls, List.append_nil, List.mem_cons] at hx
    rcases hx with rfl | hx
    · exact fit1 (.inl h)
    · exact ih x hx
  | unit op h g ih =>
    intro x hx
    simp only [Jn.all, Jn.alls, List.append_nil, List.mem_cons] at hx
    rcases hx with rfl | hx
    · exact fit1 (.inr h)
    · exact ih x hx
  | hold n h1 h2 g ih =>
    intro x hx
    simp only [Jn.all, Jn.alls, List.append_nil, List.mem_cons] at hx
    rcases hx with rfl | hx
    · refine ⟨?_, (by decide +kernel : partsFit "hold" ((1 : Nat) : Int) = true)⟩
      rw [fits_hold]
      exact btw_ok h1 h2
    · exact ih x hx
  | part i k h1 h2 h3 g ih =>
    intro x hx
    simp only [Jn.all, Jn.alls, List.append_nil, List.mem_cons] at hx
    have sz := g.sz
    rcases hx with rfl | hx
    · refine ⟨?_, (by decide +kernel : partsFit "part" ((1 : Nat) : Int) = true)⟩
      rw [fits_part]
      show (isBtw (.int k) 0 64 && isBtw (.int i) 0 (k - 1)) = true
      rw [btw_ok (by omega) (by omega), btw_ok (by omega) (by omega)] <;> rfl
    · exact ih x hx
  | rep t h1 h2 h3 g ih =>
    intro x hx
    simp only [Jn.all, Jn.alls, List.append_nil, List.mem_cons] at hx
    rcases hx with rfl | hx
    · refine ⟨?_, (by decide +kernel : partsFit "rep" ((1 : Nat) : Int) = true)⟩
      rw [fits_rep]
      exact btw_ok h1 h2
    · exact ih x hx
  | pair op h g g2 ih1 ih2 =>
    intro x hx
    simp only [Jn.all, Jn.alls, List.append_nil, List.mem_cons, List.mem_append] at hx
    rcases hx with rfl | hx | hx
    · exact fit2 (.inl h)
    · exact ih1 x hx
    · exact ih2 x hx
  | dot g g2 ih1 ih2 =>
    intro x hx
    simp only [Jn.all, Jn.alls, List.append_nil, List.mem_cons, List.mem_append] at hx
    rcases hx with rfl | hx | hx
    · exact fit2 (by simp)
    · exact ih1 x hx
    · exact ih2 x hx
  | outer h g g2 ih1 ih2 =>
    intro x hx
    simp only [Jn.all, Jn.alls, List.append_nil, List.mem_cons, List.mem_append] at hx
    rcases hx with rfl | hx | hx
    · exact fit2 (by simp)
    · exact ih1 x hx
    · exact ih2 x hx
  | blend h g g2 ih1 ih2 =>
    intro x hx
    simp only [Jn.all, Jn.alls, List.append_nil, List.mem_cons, List.mem_append] at hx
    rcases hx with rfl | hx | hx
    · exact fit2 (by simp)
    · exact ih1 x hx
    · exact ih2 x hx
  | cat h g g2 ih1 ih2 =>
    intro x hx
    simp only [Jn.all, Jn.alls, List.append_nil, List.mem_cons, List.mem_append] at hx
    rcases hx with rfl | hx | hx
    · exact fit2 (by simp)
    · exact ih1 x hx
    · exact ih2 x hx
  | cat3 h g g2 g3 ih1 ih2 ih3 =>
    intro x hx
    simp only [Jn.all, Jn.alls, List.append_nil, List.mem_cons, List.mem_append] at hx
    rcases hx with rfl | hx | hx | hx
    · exact ⟨by decide +kernel, (show partsFit "cat" 3 = true by decide +kernel)⟩
    · exact ih1 x hx
    · exact ih2 x hx
    · exact ih3 x hx
  | cat4 h g g2 g3 g4 ih1 ih2 ih3 ih4 =>
    intro x hx
    simp only [Jn.all, Jn.alls, List.append_nil, List.mem_cons, List.mem_append] at hx
    rcases hx with rfl | hx | hx | hx | hx
    · exact ⟨by decide +kernel, (show partsFit "cat" 4 = true by decide +kernel)⟩
    · exact ih1 x hx
    · exact ih2 x hx
    · exact ih3 x hx
    · exact ih4 x hx
/-- the walk meets no fault -/
theorem jf_fit {x : Jn} {n : Int} (h : Fit x) (h1 : n < 40) : jf x.py n = none := by
  obtain ⟨op, td, parts⟩ := x
  unfold jf
  rw [if_neg (by omega)]
  simp only [Jn.py, h.1, pys_length, h.2, if_true]
theorem partsOf_py {op : Str} {td : List PyData} {parts : List Jn} : partsOf (Jn.mk op td parts).py = Jn.pys parts := by
  simp only [Jn.py, partsOf]
theorem walk_fit : ∀ (k : Nat) (st : List Jn) (n : Int), (∀ x ∈ Jn.alls st, Fit x) → n + Jn.cnts st ≤ 40 → walk k (Jn.pys st) n = none
  | 0, _, _, _, _ => rfl
  | k + 1, [], n, _, _ => by simp only [Jn.pys]; exact walk_none
  | k + 1, .mk op td parts :: r, n, h, hn => by
    simp only [Jn.cnts, Jn.cnt] at hn
    have hf : Fit (.mk op td parts) := h _ (by simp [Jn.alls, Jn.all])
    simp only [Jn.pys]
    rw [walk_step, jf_fit hf (by omega), partsOf_py, ← pys_append]
    refine walk_fit k (parts ++ r) (n + 1) (fun x hx => h x ?_) ?_
    · rw [alls_append] at hx
      simp only [Jn.alls, Jn.all, List.mem_append, List.mem_cons] at hx ⊢
      rcases hx with hx | hx
      · exact .inl (.inr hx)
      · exact .inr hx
    · rw [cnts_append]
      omega
theorem Gd.walk {ks : Nat → Int} {j : Jn} {s : Int} (g : Gd ks j s) (h : j.cnt ≤ 40) : Mine.walk 42 [j.py] 0 = none := by
  have := walk_fit 42 [j] 0 (fun x hx => g.fit x (by simpa [Jn.alls] using hx)) (by simp [Jn.cnts]; omega)
  simpa [Jn.pys] using this
end Mine

/-! ### J0 -/
set_option maxHeartbeats 400000
namespace Mine
open PySem PySem.Spec L2
/-! ## programs of the form, whatever their sizes -/
structure Fx (j : Jn) : Prop where
  ok : j.ok
  fit : ∀ x ∈ j.all, Fit x
theorem parts_many {z : Str} {n : Nat} (h : partsFit z n = true) (h1 : z ≠ "row") (h2 : z ≠ "in") : 1 ≤ n := by
  unfold partsFit arity at h
  by_cases c0 : z ∈ op0
  · exfalso
    have k : ∀ y ∈ op0, y = "row" ∨ y = "in" := by decide +kernel
    exact (k z c0).elim h1 h2
  rw [if_neg c0] at h
  by_cases c1 : z ∈ op1
  · rw [if_pos c1] at h
    simp only [Bool.and_eq_true, decide_eq_true_eq] at h
    omega
  rw [if_neg c1] at h
  by_cases c2 : z ∈ op2
  · rw [if_pos c2] at h
    simp only [Bool.and_eq_true, decide_eq_true_eq] at h
    omega
  rw [if_neg c2] at h
  by_cases c3 : z = "cat"
  · rw [if_pos c3] at h
    simp only [Bool.and_eq_true, decide_eq_true_eq] at h
    omega
  rw [if_neg c3] at h
  cases h
theorem parts_two {z : Str} {n : Nat} (h : partsFit z n = true) (hz : z ∈ op2) : n = 2 := by
  have e : arity z = some (2, 2) := by
    have k : ∀ y ∈ op2, arity y = some (2, 2) := by decide +kernel
    exact k z hz
  unfold partsFit at h
  rw [e] at h
  simp only [Bool.and_eq_true, decide_eq_true_eq] at h
  omega
theorem parts_one {z : Str} {n : Nat} (h : partsFit z n = true) (hz : z ∈ op1) : n = 1 := by
  have e : arity z = some (1, 1) := by
    have k : ∀ y ∈ op1, arity y = some (1, 1) := by decide +kernel
    exact k z hz
  unfold partsFit at h
  rw [e] at h
  simp only [Bool.and_eq_true, decide_eq_true_eq] at h
  omega
theorem btw_get {d : PyData} {lo hi : Int} (h : isBtw d lo hi = true) : ∃ i, d = .int i ∧ lo ≤ i ∧ i ≤ hi := by
  cases d with
  | int i =>
    simp only [isBtw, Bool.and_eq_true, decide_eq_true_eq] at h
    exact ⟨i, rfl, h.1, h.2⟩
  | _ => cases h
theorem told_in {td : List PyData} (h : toldFits "in" td = true) : ∃ z k, td = [.str z, .int k] ∧ 1 ≤ k ∧ k ≤ 64 := by
  rw [fits_in] at h
  unfold tellsInput at h
  split at h
  · rename_i a b
    rw [Bool.and_eq_true] at h
    obtain ⟨k, rfl, h1, h2⟩ := btw_get h.2
    cases a with
    | str z => exact ⟨z, k, rfl, h1, h2⟩
    | _ => exact absurd h.1 (by simp [isWord])
  · cases h
theorem told_part {td : List PyData} (h : toldFits "part" td = true) : ∃ i k, td = [.int i, .int k] ∧ 0 ≤ i ∧ i < k ∧ k ≤ 64 := by
  rw [fits_part] at h
  unfold tellsStretch at h
  split at h
  · rename_i a k
    rw [Bool.and_eq_true] at h
    obtain ⟨i, rfl, h1, h2⟩ := btw_get h.2
    obtain ⟨k', e, h3, h4⟩ := btw_get h.1
    cases e
    exact ⟨i, k, rfl, h1, by omega, h4⟩
  · cases h
theorem told_rep {td : List PyData} (h : toldFits "rep" td = true) : ∃ t, td = [.int t] ∧ 1 ≤ t ∧ t ≤ 16 := by
  rw [fits_rep] at h
  unfold tellsTimes at h
  split at h
  · obtain ⟨i, rfl, h1, h2⟩ := btw_get h
    exact ⟨i, rfl, h1, h2⟩
  · cases h
theorem all_self : ∀ j : Jn, j ∈ j.all
  | .mk op td parts => by simp only [Jn.all]; exact List.mem_cons_self
mutual
theorem ok_all : ∀ j : Jn, j.ok → ∀ x ∈ j.all, x.ok
  | .mk op td parts, h, x, hx => by
    simp only [Jn.all, List.mem_cons] at hx
    rcases hx with rfl | hx
    · exact h
    · simp only [Jn.ok] at h
      exact oks_all parts h.2.2.2.2 x hx
theorem oks_all : ∀ l : List Jn, Jn.oks l → ∀ x ∈ Jn.alls l, x.ok
  | [], _, x, hx => by simp [Jn.alls] at hx
  | j :: r, h, x, hx => by
    simp only [Jn.oks] at h
    simp only [Jn.alls, List.mem_append] at hx
    rcases hx with hx | hx
    · exact ok_all j h.1 x hx
    · exact oks_all r h.2 x hx
end
mutual
theorem all_sub : ∀ j : Jn, ∀ y ∈ j.all, ∀ x ∈ y.all, x ∈ j.all
  | .mk op td parts, y, hy, x, hx => by
    have hy' := hy
    simp only [Jn.all, List.mem_cons] at hy
    rcases hy with rfl | hy
    · exact hx
    · simp only [Jn.all]
      exact List.mem_cons_of_mem _ (alls_sub parts y hy x hx)
theorem alls_sub : ∀ l : List Jn, ∀ y ∈ Jn.alls l, ∀ x ∈ y.all, x ∈ Jn.alls l
  | [], y, hy, _, _ => by simp [Jn.alls] at hy
  | j :: r, y, hy, x, hx => by
    simp only [Jn.alls, List.mem_append] at hy ⊢
    rcases hy with hy | hy
    · exact .inl (all_sub j y hy x hx)
    · exact .inr (alls_sub r y hy x hx)
end
theorem Fx.sub {j y : Jn} (h : Fx j) (hy : y ∈ j.all) : Fx y := ⟨ok_all j h.ok y hy, fun x hx => h.fit x (all_sub j y hy x hx)⟩
theorem Fx.walk {j : Jn} (g : Fx j) (h : j.cnt ≤ 40) : Mine.walk 42 [j.py] 0 = none := by
  have := walk_fit 42 [j] 0 (fun x hx => g.fit x (by simpa [Jn.alls] using hx)) (by simp [Jn.cnts]; omega)
  simpa [Jn.pys] using this
end Mine

/-! ### TA -/
namespace Mine
open PySem PySem.Spec L2
/-! # a program with other things in the place of joints -/
mutual
def Jn.putF (f : Int → Option PyData) (n : Int) : Jn → PyData
  | .mk op td parts => (f n).getD (.tuple [.str op, .tuple td, .tuple (Jn.putsF f (n + 1) parts)])
def Jn.putsF (f : Int → Option PyData) (n : Int) : List Jn → List PyData
  | [] => []
  | j :: r => j.putF f n :: Jn.putsF f (n + j.cnt) r
end
theorem putsF_len (f : Int → Option PyData) : ∀ (l : List Jn) (n : Int), (Jn.putsF f n l).length = l.length
  | [], _ => by simp only [Jn.putsF, List.length_nil]
  | j :: r, n => by simp only [Jn.putsF, List.length_cons, putsF_len f r]
theorem putsF_app (f : Int → Option PyData) : ∀ (a b : List Jn) (n : Int), Jn.putsF f n (a ++ b) = Jn.putsF f n a ++ Jn.putsF f (n + Jn.cnts a) b
  | [], b, n => by simp [Jn.putsF, Jn.cnts]
  | j :: r, b, n => by
    simp only [List.cons_append, Jn.putsF, Jn.cnts, putsF_app f r b]
    rw [show n + (j.cnt : Int) + (Jn.cnts r : Int) = n + ((j.cnt + Jn.cnts r : Nat) : Int) by omega]
theorem putsF_get (f : Int → Option PyData) : ∀ (l : List Jn) (n : Int) (i : Nat) (jx : Jn), l[i]? = some jx → (Jn.putsF f n l)[i]? = some (jx.putF f (n + Jn.cnts (l.take i)))
  | [], _, _, _, h => by simp at h
  | j :: r, n, 0, jx, h => by
    obtain rfl := Option.some.inj h
    simp [Jn.putsF, Jn.cnts]
  | j :: r, n, i + 1, jx, h => by
    have h' : r[i]? = some jx := by simpa using h
    simp only [Jn.putsF, List.getElem?_cons_succ, List.take_succ_cons, Jn.cnts]
    rw [putsF_get f r _ i jx h', show n + (j.cnt : Int) + (Jn.cnts (r.take i) : Int) = n + ((j.cnt + Jn.cnts (r.take i) : Nat) : Int) by omega]
/-- leaves in the place of joints -/
def Leafs (f : Int → Option PyData) : Prop := ∀ i d, f i = some d → ∃ l : Jn, d = l.py ∧ Fx l ∧ l.cnt = 1
mutual
theorem putF_leafs {f : Int → Option PyData} (hf : Leafs f) : ∀ (j : Jn) (n : Int), Fx j → ∃ j' : Jn, j.putF f n = j'.py ∧ Fx j' ∧ j'.cnt ≤ j.cnt
  | .mk op td parts, n, hj => by
    simp only [Jn.putF]
    cases e : f n with
    | some d =>
      obtain ⟨l, rfl, h1, h2⟩ := hf _ _ e
      exact ⟨l, rfl, h1, by rw [h2]; exact cnt_pos _⟩
    | none =>
      have hok := hj.ok
      simp only [Jn.ok] at hok
      obtain ⟨h1, h2, h3, h4, h5⟩ := hok
      have hfit := hj.fit (.mk op td parts) (by simp [Jn.all])
      obtain ⟨l', e1, e2, e3, e4, e5⟩ := putsF_leafs hf parts (n + 1) h5 (fun x hx => hj.fit x (by simp only [Jn.all]; exact List.mem_cons_of_mem _ hx))
      refine ⟨.mk op td l', ?_, ⟨?_, ?_⟩, ?_⟩
      · simp only [Jn.py, Option.getD_none, e1]
      · simp only [Jn.ok]
        exact ⟨h1, h2, h3, by omega, e2⟩
      · intro x hx
        simp only [Jn.all] at hx
        rcases List.mem_cons.mp hx with rfl | hx
        · refine ⟨hfit.1, ?_⟩
          rw [e4]
          exact hfit.2
        · exact e3 x hx
      · simp only [Jn.cnt]
        omega
theorem putsF_leafs {f : Int → Option PyData} (hf : Leafs f) : ∀ (l : List Jn) (n : Int), Jn.oks l → (∀ x ∈ Jn.alls l, Fit x) → ∃ l' : List Jn, Jn.putsF f n l = Jn.pys l' ∧ Jn.oks l' ∧ (∀ x ∈ Jn.alls l', Fit x) ∧ l'.length = l.length ∧ Jn.cnts l' ≤ Jn.cnts l
  | [], n, _, _ => ⟨[], by simp [Jn.putsF, Jn.pys], trivial, fun x hx => by simp [Jn.alls] at hx, rfl, Nat.le_refl _⟩
  | j :: r, n, h1, h2 => by
    simp only [Jn.oks] at h1
    simp only [Jn.alls] at h2
    obtain ⟨j', a1, a2, a3⟩ := putF_leafs hf j n ⟨h1.1, fun x hx => h2 x (List.mem_append_left _ hx)⟩
    obtain ⟨l', b1, b2, b3, b4, b5⟩ := putsF_leafs hf r (n + j.cnt) h1.2 (fun x hx => h2 x (List.mem_append_right _ hx))
    refine ⟨j' :: l', ?_, ?_, ?_, ?_, ?_⟩
    · simp only [Jn.putsF, Jn.pys, a1, b1]
    · simp only [Jn.oks]
      exact ⟨a2.ok, b2⟩
    · intro x hx
      simp only [Jn.alls] at hx
      rcases List.mem_append.mp hx with hx | hx
      · exact a2.fit x hx
      · exact b3 x hx
    · simp only [List.length_cons, b4]
    · simp only [Jn.cnts]
      omega
end
/-- one thing that is no joint -/
def oneF (x : Int) (d : PyData) : Int → Option PyData := fun i => if i = x then some d else none
mutual
theorem putF_dat {f : Int → Option PyData} (hd : ∀ i d, f i = some d → dat d) : ∀ (j : Jn) (n : Int), j.ok → dat (j.putF f n)
  | .mk op told parts, n, h => by
    simp only [Jn.ok] at h
    obtain ⟨h1, h2, h3, h4, h5⟩ := h
    simp only [Jn.putF]
    cases e : f n with
    | some d => exact hd _ _ e
    | none =>
      simp only [Option.getD_none, Mine.dat, Mine.dats, List.length_cons, List.length_nil]
      refine ⟨by omega, h1, ⟨by omega, flat_dats h3⟩, ⟨?_, putsF_dat hd parts (n + 1) h5⟩, trivial⟩
      rw [putsF_len]; omega
theorem putsF_dat {f : Int → Option PyData} (hd : ∀ i d, f i = some d → dat d) : ∀ (l : List Jn) (n : Int), Jn.oks l → dats (Jn.putsF f n l)
  | [], n, _ => by simp only [Jn.putsF, Mine.dats]
  | j :: r, n, h => by
    simp only [Jn.oks] at h
    simp only [Jn.putsF, Mine.dats]
    exact ⟨putF_dat hd j n h.1, putsF_dat hd r _ h.2⟩
end
/-- the walk refuses it there -/
theorem puts_walk {d : PyData} (hd : ∀ n, n < 40 → jf d n = some .prog) {x : Int} : ∀ (k : Nat) (st : List Jn) (n : Int), (∀ y ∈ Jn.alls st, Fit y) → n ≤ x → x < n + Jn.cnts st → x < 40 → (x - n).toNat < k → walk k (Jn.putsF (oneF x d) n st) n = some (.prog, x)
  | 0, _, _, _, _, _, _, h => by omega
  | k + 1, [], n, _, h1, h2, _, _ => by simp only [Jn.cnts] at h2; omega
  | k + 1, .mk op td parts :: r, n, hf, h1, h2, h3, h4 => by
    simp only [Jn.putsF]
    rw [walk_step]
    simp only [Jn.putF]
    by_cases c : n = x
    · rw [show oneF x d n = some d by unfold oneF; rw [if_pos c], Option.getD_some, hd n (by omega), c] <;> rfl
    · rw [show oneF x d n = none by unfold oneF; rw [if_neg c], Option.getD_none]
      have hF : Fit (.mk op td parts) := hf _ (by simp [Jn.alls, Jn.all])
      have hj : jf (.tuple [.str op, .tuple td, .tuple (Jn.putsF (oneF x d) (n + 1) parts)]) n = none := by
        unfold jf
        rw [if_neg (by omega)]
        simp only [hF.1, putsF_len, hF.2, if_true]
      rw [hj]
      show walk k (Jn.putsF (oneF x d) (n + 1) parts ++ Jn.putsF (oneF x d) (n + ((Jn.mk op td parts).cnt : Int)) r) (n + 1) = _
      rw [show n + ((Jn.mk op td parts).cnt : Int) = n + 1 + (Jn.cnts parts : Int) by simp only [Jn.cnt]; omega, ← putsF_app]
      simp only [Jn.cnts, Jn.cnt] at h2
      refine puts_walk hd k (parts ++ r) (n + 1) (fun y hy => hf y ?_) (by omega) (by rw [cnts_append]; omega) h3 (by omega)
      rw [alls_append] at hy
      simp only [Jn.alls, Jn.all, List.mem_append, List.mem_cons] at hy ⊢
      rcases hy with hy | hy
      · exact .inl (.inr hy)
      · exact .inr hy
theorem put_walk {d : PyData} (hd : ∀ n, n < 40 → jf d n = some .prog) {x : Int} {j : Jn} (hj : Fx j) (h40 : j.cnt ≤ 40) (h0 : 0 ≤ x) (h1 : x < j.cnt) : walk 42 [j.putF (oneF x d) 0] 0 = some (.prog, x) := by
  have := puts_walk hd (x := x) 42 [j] 0 (fun y hy => hj.fit y (by simpa [Jn.alls] using hy)) h0 (by simp [Jn.cnts]; omega) (by omega) (by omega)
  simpa [Jn.putsF] using this
end Mine

/-! ### D1 -/
namespace Mine
open PySem PySem.Spec L2
local macro_rules | `(tactic| walk_at "st") => `(tactic| (with_reducible apply iteF))
local macro_rules | `(tactic| walk_at "st") => `(tactic| (with_reducible apply iteT))
local macro_rules | `(tactic| walk_at "st") => `(tactic| (with_reducible apply rd_ipI))
local macro_rules | `(tactic| walk_at "st") => `(tactic| ((with_reducible apply rd_aug); exact rfl))
local macro_rules | `(tactic| walk_at "st") => `(tactic| (with_reducible apply rd_par3_end))
local macro_rules | `(tactic| walk_at "st") => `(tactic| (with_reducible apply rd_par3))
local macro_rules | `(tactic| walk_at "st") => `(tactic| (with_reducible apply u_mul; focus exact Or.inr cm))
local macro_rules | `(tactic| walk_at "st") => `(tactic| ((with_reducible apply u_pow); (focus (exact ⟨by decide, by decide, by decide⟩))))
local macro_rules | `(tactic| walk_at "st") => `(tactic| (with_reducible apply rd_yes))
local macro_rules | `(tactic| walk_at "st") => `(tactic| (with_reducible apply rd_lc))
local macro_rules | `(tactic| walk_at "st") => `(tactic| ((with_reducible apply rd_itT); (focus first | assumption | exact SqT.of (by assumption) | exact SqT.of upd_same)))
local macro_rules | `(tactic| walk_at "st") => `(tactic| ((with_reducible apply rd_itL); (focus first | assumption | exact SqL.of (by assumption) | exact SqL.of upd_same)))
local macro_rules | `(tactic| walk_at "st") => `(tactic| ((with_reducible apply u_isi); (focus (first | exact Or.inl rfl | exact Or.inr (Or.inl rfl) | exact Or.inr (Or.inr (Or.inl rfl)) | exact Or.inr (Or.inr (Or.inr rfl)))); (focus first | assumption | exact Rp.int _ | exact Rp.str _)))
local macro_rules | `(tactic| walk_at "st") => `(tactic| (with_reducible apply rd_istrE))
local macro_rules | `(tactic| walk_at "st") => `(tactic| (with_reducible apply rd_istr))
local macro_rules | `(tactic| walk_at "st") => `(tactic| ((with_reducible apply rd_seqT); (focus first | assumption | exact SqT.of (by assumption) | exact SqT.of upd_same)))
local macro_rules | `(tactic| walk_at "st") => `(tactic| ((with_reducible apply rd_seqL); (focus first | assumption | exact SqL.of (by assumption) | exact SqL.of upd_same)))
local macro_rules | `(tactic| walk_at "st") => `(tactic| (with_reducible apply rd_iSeq))
local macro_rules | `(tactic| walk_at "st") => `(tactic| (with_reducible apply u_notInS))
local macro_rules | `(tactic| walk_at "st") => `(tactic| (with_reducible apply u_inS))
local macro_rules | `(tactic| walk_at "st") => `(tactic| (with_reducible apply u_notInD))
local macro_rules | `(tactic| walk_at "st") => `(tactic| (with_reducible apply u_inD))
local macro_rules | `(tactic| walk_at "st") => `(tactic| (with_reducible apply rd_callS))
local macro_rules | `(tactic| walk_at "st") => `(tactic| (with_reducible apply rd_raiseE))
local macro_rules | `(tactic| walk_at "st") => `(tactic| (with_reducible apply rd_xf))
local macro_rules | `(tactic| walk_at "st") => `(tactic| (with_reducible apply g_neB))
local macro_rules | `(tactic| walk_at "st") => `(tactic| (with_reducible apply g_neS))
local macro_rules | `(tactic| walk_at "st") => `(tactic| (with_reducible apply g_neI))
local macro_rules | `(tactic| walk_at "st") => `(tactic| (with_reducible apply g_eqS))
local macro_rules | `(tactic| walk_at "st") => `(tactic| (with_reducible apply g_eqI))
local macro_rules | `(tactic| walk_at "st") => `(tactic| (with_reducible apply rd_retN))
local macro_rules | `(tactic| walk_at "st") => `(tactic| (with_reducible apply rd_gnil))
local macro_rules | `(tactic| walk_at "st") => `(tactic| (with_reducible apply rd_gcons))
local macro_rules | `(tactic| walk_at "st") => `(tactic| ((with_reducible apply rd_rng2e); (focus omega)))
local macro_rules | `(tactic| walk_at "st") => `(tactic| ((with_reducible apply rd_rng1e); (focus omega); (focus omega)))
local macro_rules | `(tactic| walk_at "st") => `(tactic| (with_reducible apply rd_rng2))
local macro_rules | `(tactic| walk_at "st") => `(tactic| (with_reducible apply rd_rng1))
local macro_rules | `(tactic| walk_at "st") => `(tactic| (with_reducible apply rd_for))
local macro_rules | `(tactic| walk_at "st") => `(tactic| (with_reducible apply rd_iTup))
local macro_rules | `(tactic| walk_at "st") => `(tactic| (with_reducible apply rd_iList))
local macro_rules | `(tactic| walk_at "st") => `(tactic| (with_reducible apply rd_rev))
local macro_rules | `(tactic| walk_at "st") => `(tactic| (with_reducible apply u_min3))
local macro_rules | `(tactic| walk_at "st") => `(tactic| ((with_reducible apply rd_tyL); focus (first | exact SqL.of (by assumption) | exact SqL.of upd_same)))
local macro_rules | `(tactic| walk_at "st") => `(tactic| (with_reducible apply rd_bm0))
local macro_rules | `(tactic| walk_at "st") => `(tactic| (with_reducible apply rd_bm))
local macro_rules | `(tactic| walk_at "st") => `(tactic| ((with_reducible apply rd_truL); focus (first | assumption | exact SqL.of (by assumption) | exact SqL.of upd_same)))
local macro_rules | `(tactic| walk_at "st") => `(tactic| (with_reducible apply rd_truB))
local macro_rules | `(tactic| walk_at "st") => `(tactic| (with_reducible apply rd_tru))
local macro_rules | `(tactic| walk_at "st") => `(tactic| (with_reducible apply rd_chain3))
local macro_rules | `(tactic| walk_at "st") => `(tactic| ((with_reducible apply u_setL); (focus (first | assumption | exact upd_same)); exact rfl))
local macro_rules | `(tactic| walk_at "st") => `(tactic| ((with_reducible apply u_lenT); focus (first | assumption | exact SqT.of (by assumption) | exact SqT.of upd_same)))
local macro_rules | `(tactic| walk_at "st") => `(tactic| ((with_reducible apply u_lenL); focus (first | assumption | exact SqL.of (by assumption) | exact SqL.of upd_same)))
local macro_rules | `(tactic| walk_at "st") => `(tactic| ((with_reducible apply u_ixL); (focus (first | assumption | exact SqL.of (by assumption) | exact SqL.of upd_same)); exact rfl))
local macro_rules | `(tactic| walk_at "st") => `(tactic| ((with_reducible apply u_mul); focus first | exact Or.inl (by omega) | exact Or.inr (by omega) | exact Or.inl (by decide) | exact Or.inr (by decide)))
local macro_rules | `(tactic| walk_at "st") => `(tactic| ((with_reducible apply u_div); focus first | decide | omega | (constructor <;> first | assumption | omega)))
local macro_rules | `(tactic| walk_at "st") => `(tactic| ((with_reducible apply u_mod); focus first | assumption | decide | omega))
local macro_rules | `(tactic| walk_at "st") => `(tactic| (with_reducible apply u_neg))
local macro_rules | `(tactic| walk_at "st") => `(tactic| (with_reducible apply u_min))
local macro_rules | `(tactic| walk_at "st") => `(tactic| (with_reducible apply u_max))
local macro_rules | `(tactic| walk_at "st") => `(tactic| (with_reducible apply u_intB))
local macro_rules | `(tactic| walk_at "st") => `(tactic| (with_reducible apply u_int))
local macro_rules | `(tactic| walk_at "st") => `(tactic| (with_reducible apply u_neI))
local macro_rules | `(tactic| walk_at "st") => `(tactic| (with_reducible apply u_eqS))
local macro_rules | `(tactic| walk_at "st") => `(tactic| (with_reducible apply u_eqI))
local macro_rules | `(tactic| walk_at "st") => `(tactic| (with_reducible apply u_ge))
local macro_rules | `(tactic| walk_at "st") => `(tactic| (with_reducible apply u_gt))
local macro_rules | `(tactic| walk_at "st") => `(tactic| (with_reducible apply u_le))
local macro_rules | `(tactic| walk_at "st") => `(tactic| (with_reducible apply u_lt))
local macro_rules | `(tactic| walk_at "st") => `(tactic| (with_reducible apply u_sub))
local macro_rules | `(tactic| walk_at "st") => `(tactic| (with_reducible apply u_add))
local macro_rules | `(tactic| walk_at "st") => `(tactic| (with_reducible apply rd_ct))
local macro_rules | `(tactic| walk_at "st") => `(tactic| (with_reducible apply rd_brk))
local macro_rules | `(tactic| walk_at "st") => `(tactic| (with_reducible apply rd_tB))
local macro_rules | `(tactic| walk_at "st") => `(tactic| (with_reducible apply rd_chain))
local macro_rules | `(tactic| walk_at "st") => `(tactic| (with_reducible apply rd_notV))
local macro_rules | `(tactic| walk_at "st") => `(tactic| (with_reducible apply rd_orV))
local macro_rules | `(tactic| walk_at "st") => `(tactic| (with_reducible apply rd_andV))
local macro_rules | `(tactic| walk_at "st") => `(tactic| (with_reducible apply rd_not))
local macro_rules | `(tactic| walk_at "st") => `(tactic| (with_reducible apply rd_or))
local macro_rules | `(tactic| walk_at "st") => `(tactic| (with_reducible apply rd_and))
local macro_rules | `(tactic| walk_at "st") => `(tactic| (with_reducible apply rd_un))
local macro_rules | `(tactic| walk_at "st") => `(tactic| (with_reducible apply rd_par_end))
local macro_rules | `(tactic| walk_at "st") => `(tactic| (with_reducible apply rd_par))
local macro_rules | `(tactic| walk_at "st") => `(tactic| (with_reducible apply rd_gsub))
local macro_rules | `(tactic| walk_at "st") => `(tactic| (with_reducible apply rd_ife))
local macro_rules | `(tactic| walk_at "st") => `(tactic| (with_reducible apply rd_next))
local macro_rules | `(tactic| walk_at "st") => `(tactic| (with_reducible apply rd_drop))
local macro_rules | `(tactic| walk_at "st") => `(tactic| (with_reducible apply rd_lst))
local macro_rules | `(tactic| walk_at "st") => `(tactic| (with_reducible apply rd_tup))
local macro_rules | `(tactic| walk_at "st") => `(tactic| (with_reducible apply rd_call))
local macro_rules | `(tactic| walk_at "st") => `(tactic| (with_reducible apply rd_ret))
local macro_rules | `(tactic| walk_at "st") => `(tactic| (with_reducible apply rd_retE))
local macro_rules | `(tactic| walk_at "st") => `(tactic| (with_reducible apply rd_bl))
local macro_rules | `(tactic| walk_at "st") => `(tactic| (with_reducible apply rd_test))
local macro_rules | `(tactic| walk_at "st") => `(tactic| (with_reducible apply rd_if))
local macro_rules | `(tactic| walk_at "st") => `(tactic| (with_reducible apply rd_nil))
local macro_rules | `(tactic| walk_at "st") => `(tactic| (with_reducible apply rd_cons))
local macro_rules | `(tactic| walk_at "st") => `(tactic| (with_reducible apply rd_cb))
local macro_rules | `(tactic| walk_at "st") => `(tactic| (with_reducible apply rd_op))
local macro_rules | `(tactic| walk_at "st") => `(tactic| (with_reducible apply rd_gname))
local macro_rules | `(tactic| walk_at "st") => `(tactic| (with_reducible apply rd_asg))
local macro_rules | `(tactic| walk_at "st") => `(tactic| (with_reducible apply rd_seq))
local macro_rules | `(tactic| walk_at "st") => `(tactic| (with_reducible apply rd_c))
local macro_rules | `(tactic| walk_at "st") => `(tactic| ((with_reducible apply rd_var); exact rfl))
local macro_rules | `(tactic| walk_at "go") => `(tactic| repeat (walk_at "st"))
local macro_rules | `(tactic| walk_at "sp") => `(tactic| (first | refine rd_split (fun c => ?_) (fun c => ?_) | refine rd_splitN (fun c => ?_) (fun c => ?_) | refine rd_splitB (fun c => ?_) (fun c => ?_)))
local macro_rules | `(tactic| walk_at "nx") => `(tactic| repeat (first | (with_reducible apply iteF) | (with_reducible apply iteT) | (with_reducible apply rd_next)))

section
variable {P : Program} {w : World} {K : PySem.W.Frag} {mg : Str → Option Value} {base : Heap}
/-- // by a positive divisor of some size -/
def rDivW : R2 := fun x y H Q => ∃ i j, x = .int i ∧ y = .int j ∧ CDivW i j ∧ Q (.int (i / j)) H
theorem divW {X : Cx} : OpR X (binaryOp .FloorDiv) rDivW := op_fdivW
theorem u_divW {i j : Int} {H : Hp} {Q : VK} (h : 0 < j) (h2 : j < 18446744073709551616) (q : Q (.int (i / j)) H) : rDivW (.int i) (.int j) H Q := ⟨i, j, rfl, rfl, wide_div (b := 64) h (by omega) (by decide) (by decide), q⟩
/-- one draw, of any bound -/
def spTakB : Sp := fun vs H Q _ => ∃ (a : Addr) (t : Int), vs = [.ref a, .int t] ∧ Src H a ∧ 0 < t ∧ t < 18446744073709551616 ∧
  ∀ (H' : Hp) (r : Int), SB a H H' → Src H' a → 0 ≤ r → r < t → Q (.int r) H'
theorem use_takB {a : Addr} {t : Int} {H : Hp} {Q : VK} {E : XK} (h : Src H a) (h1 : 0 < t) (h2 : t < 18446744073709551616) (q : ∀ (H' : Hp) (r : Int), SB a H H' → Src H' a → 0 ≤ r → r < t → Q (.int r) H') :
    spTakB [.ref a, .int t] H Q E := ⟨a, t, rfl, h, h1, h2, q⟩
theorem spTakB.of {P : Program} {w : World} {K : PySem.W.Frag} {mg : Str → Option Value} {base : Heap} (F : HasF P w K mg base CX0 1 "_law_take" ["source", "top"] spTakB) : HasF P w K mg base CX0 1 "_law_take" ["source", "top"] spTake := by
  obtain ⟨f, fd, h1, h2⟩ := F
  exact ⟨f, fd, h1.imp fun vs H Q E ⟨a, t, e, s, ht, h2, q⟩ => ⟨a, t, e, s, ht, by omega, q⟩, h2⟩
abbrev s_law_take : Stmt := top 58
theorem sc_law_take : FnScope ["source", "top", "digit"] ["source", "top"] (defScope s_law_take) := ⟨rfl, rfl, rfl, by decide +kernel, rfl, by decide +kernel, by decide +kernel⟩
theorem has_takB (O : OwnF K mg "_law_take" s_law_take) (B : Bl mg) : HasF P w K mg base CX0 1 "_law_take" ["source", "top"] spTakB := by
  refine has0 O sc_law_take (fun _ _ _ _ _ _ us hl => match us, hl with | [_, _], _ => rfl) (fun vs H Q E h => ?_) (fun f cdv A outer s_ H vs Q E hr h => ?_)
  · obtain ⟨a, t, rfl, _⟩ := h
    rfl
  obtain ⟨a, t, rfl, ⟨b, s, hS, hb, hs, hs2⟩, ht, ht2, q⟩ := h
  refine ⟨_, (pss_cons (ps_if (pt_cmpR gtU (pe_ix (kIx K) (pv 0) pe_int (fun _ _ => rfl)) pe_int (nomark _)) (pss_cons (ps_set (i := 2) sc_law_take.nd rfl (by first | exact Or.inl rfl | exact Or.inr rfl) (pe_op modU (pe_callTy intU (by rfl) B.int (by decide +kernel) (pa_cons (pe_ix (kIx K) (pv 0) pe_int (fun _ _ => rfl)) pa_nil)) (pv 1))) (pss_cons (ps_asg (pe_op divW (pe_ix (kIx K) (pv 0) pe_int (fun _ _ => rfl)) (pv 1)) (pg_sub (pv 0) pe_int set_list)) (pss_one (ps_ret (pv 2))))) pss_nil) (pss_cons (ps_asg (pe_op modU (pe_callTy intU (by rfl) B.int (by decide +kernel) (pa_cons (pe_op (kAdd K) (pe_op (kMul K) (pe_ix (kIx K) (pv 0) pe_int (fun _ _ => rfl)) pe_int) pe_int) pa_nil)) pe_int) (pg_sub (pv 0) pe_int set_list)) (pss_one (ps_ret (pe_op modU (pe_callTy intU (by rfl) B.int (by decide +kernel) (pa_cons (pe_op divW (pe_op modU (pe_callTy intU (by rfl) B.int (by decide +kernel) (pa_cons (pe_op (kMul K) (pe_ix (kIx K) (pv 0) pe_int (fun _ _ => rfl)) (pe_ix (kIx K) (pv 0) pe_int (fun _ _ => rfl))) pa_nil)) pe_int) pe_int) pa_nil)) (pv 1)))))), ?_⟩
  refine st0 [some (.ref a), some (.int t), none] rfl ?_
  walk_at "go"
  refine rd_split (fun c => ?_) (fun c => ?_)
  · walk_at "go"
    refine u_divW ht ht2 ?_
    walk_at "go"
    refine q _ _ SB.upd ⟨b / t, s, upd_same, Int.ediv_nonneg hb (by omega), hs, hs2⟩ (Int.emod_nonneg _ (by omega)) (Int.emod_lt_of_pos _ ht)
  · walk_at "go"
    refine u_divW (by omega) (by omega) ?_
    walk_at "go"
    refine q _ _ SB.upd ⟨b, _, upd_same, hb, Int.emod_nonneg _ (by omega), Int.emod_lt_of_pos _ (by omega)⟩ (Int.emod_nonneg _ (by omega)) (Int.emod_lt_of_pos _ ht)
theorem has_take (O : OwnF K mg "_law_take" s_law_take) (B : Bl mg) : HasF P w K mg base CX0 1 "_law_take" ["source", "top"] spTake := spTakB.of (has_takB O B)
abbrev s_law_one : Stmt := top 59
theorem sc_law_one : FnScope ["source", "things"] ["source", "things"] (defScope s_law_one) := ⟨rfl, rfl, rfl, by decide +kernel, rfl, by decide +kernel, by decide +kernel⟩
theorem has_one (O : OwnF K mg "_law_one" s_law_one) (B : Bl mg) (h_law_take : HasF P w K mg base CX0 1 "_law_take" ["source", "top"] spTake) : HasF P w K mg base CX0 2 "_law_one" ["source", "things"] (spOne K) := by
  refine has0 O sc_law_one (fun _ _ _ _ _ _ us hl => match us, hl with | [_, _], _ => rfl) (fun vs H Q E h => ?_) (fun f cdv A outer s_ H vs Q E hr h => ?_)
  · obtain ⟨a, p, xs, rfl, _⟩ := h
    rfl
  obtain ⟨a, p, xs, rfl, hS, hX, hn, h0, h1, q⟩ := h
  refine ⟨_, (pss_one (ps_ret (pe_ix (kIx K) (pv 1) (pe_callH h_law_take (hr.mono (by first | decide | omega)) (by rfl) pass0 (pa_cons (pv 0) (pa_cons (pe_callB (kLen K) (by rfl) B.len (by decide +kernel) (pa_cons (pv 1) pa_nil)) pa_nil))) (fun _ _ => rfl)))), ?_⟩
  refine st0 [some (.ref a), some (.ref p)] rfl ?_
  walk_at "go"
  refine use_take hS (by omega) (by omega) fun H' r hs hS' hr0 hr1 => ?_
  obtain ⟨v, e, m⟩ := at_in hr0 hr1
  exact u_ixL (hs.seqL hn hX) e (q _ _ hs hS' m)
abbrev s_law_pool : Stmt := top 57
theorem sc_law_pool : FnScope ["script", "k", "cell", "big", "stirred"] ["script", "k"] (defScope s_law_pool) := ⟨rfl, rfl, rfl, by decide +kernel, rfl, by decide +kernel, by decide +kernel⟩
def spPool (K : PySem.W.Frag) : Sp := fun vs H Q _ => ∃ (a : Addr) (ns : List Int) (k : Int), vs = [.ref a, .int k] ∧ SqL K H a (ns.map V.int) ∧ 0 ≤ k ∧ k < 1000 ∧
  ∀ (H' : Hp) (p : Addr), Same H H' → H p = none → Src H' p → Q (.ref p) H'
theorem has_pool (O : OwnF K mg "_law_pool" s_law_pool) (B : Bl mg) : HasF P w K mg base CX0 1 "_law_pool" ["script", "k"] (spPool K) := by
  refine has0 O sc_law_pool (fun _ _ _ _ _ _ us hl => match us, hl with | [_, _], _ => rfl) (fun vs H Q E h => ?_) (fun f cdv A outer s_ H vs Q E hr h => ?_)
  · obtain ⟨a, ns, k, rfl, _⟩ := h
    rfl
  obtain ⟨a, ns, k, rfl, hL, hk0, hk1, q⟩ := h
  have hl : (ns.map V.int).length = ns.length := List.length_map _
  refine ⟨_, (pss_cons (ps_set (i := 2) sc_law_pool.nd rfl (by first | exact Or.inl rfl | exact Or.inr rfl) pe_int) (pss_cons (ps_if (pt_cmpR ltU (pv 1) (pe_callB (kLen K) (by rfl) B.len (by decide +kernel) (pa_cons (pv 0) pa_nil)) (nomark _)) (pss_one (ps_set (i := 2) sc_law_pool.nd rfl (by first | exact Or.inl rfl | exact Or.inr rfl) (pe_ix (kIx K) (pv 0) (pv 1) (fun _ _ => rfl)))) (pss_one (ps_if (pt_truthK K (pv 0) (by intro _; rfl)) (pss_one (ps_set (i := 2) sc_law_pool.nd rfl (by first | exact Or.inl rfl | exact Or.inr rfl) (pe_ix (kIx K) (pv 0) pe_int (fun _ _ => rfl)))) pss_nil))) (pss_cons (ps_set (i := 3) sc_law_pool.nd rfl (by first | exact Or.inl rfl | exact Or.inr rfl) (pe_callB (max2U rfl) (by rfl) B.max (by decide +kernel) (pa_cons (pe_callTy intU (by rfl) B.int (by decide +kernel) (pa_cons (pv 2) pa_nil)) (pa_cons (pe_callTy intU (by rfl) B.int (by decide +kernel) (pa_cons (pe_op subU (pe_un un_neg pe_int) (pv 2)) pa_nil)) pa_nil)))) (pss_cons (ps_set (i := 4) sc_law_pool.nd rfl (by first | exact Or.inl rfl | exact Or.inr rfl) (pe_op modU (pe_callTy intU (by rfl) B.int (by decide +kernel) (pa_cons (pe_op (kMul K) (pe_op (kAdd K) (pe_op (kAdd K) (pe_op (kAdd K) (pe_op modU (pe_callTy intU (by rfl) B.int (by decide +kernel) (pa_cons (pv 3) pa_nil)) pe_int) (pe_op (kMul K) (pe_op (kMul K) pe_int (pv 1)) (pv 1))) (pe_op (kMul K) pe_int (pv 1))) pe_int) pe_int) pa_nil)) pe_int)) (pss_one (ps_ret (pe_lst (pa_cons (pe_op (kMul K) (pv 3) (pe_callTy intU (by rfl) B.int (by decide +kernel) (pa_cons (pe_cmpR geU (pv 3) (pe_op powU pe_int pe_int) (nomark _)) pa_nil))) (pa_cons (pv 4) pa_nil))))))))), ?_⟩
  refine st0 [some (.ref a), some (.int k), none, none, none] rfl ?_
  walk_at "go"
  rw [hl]
  refine rd_split (fun c => ?_) (fun c => ?_)
  rotate_left
  walk_at "go"
  refine rd_splitB (fun c2 => ?_) (fun c2 => ?_)
  rotate_left 2
  · obtain ⟨n, e⟩ := at_ints (ns := ns) hk0 c
    walk_at "go"
    refine u_ixL hL e ?_
    walk_at "go"
    refine ⟨lk rfl, fun p hp => ?_⟩
    refine q _ p (same_new hp _) hp ⟨_, _, upd_same, ?_, Int.emod_nonneg _ (by omega), Int.emod_lt_of_pos _ (by omega)⟩
    exact Int.mul_nonneg (by split <;> omega) (by split <;> omega)
  · have c3 := isE c2
    obtain ⟨n, e⟩ := at_ints (ns := ns) (i := 0) (by omega) (by omega)
    walk_at "go"
    refine u_ixL hL e ?_
    walk_at "go"
    refine ⟨lk rfl, fun p hp => ?_⟩
    refine q _ p (same_new hp _) hp ⟨_, _, upd_same, ?_, Int.emod_nonneg _ (by omega), Int.emod_lt_of_pos _ (by omega)⟩
    exact Int.mul_nonneg (by split <;> omega) (by split <;> omega)
  · walk_at "go"
    refine ⟨lk rfl, fun p hp => ?_⟩
    refine q _ p (same_new hp _) hp ⟨_, _, upd_same, ?_, Int.emod_nonneg _ (by omega), Int.emod_lt_of_pos _ (by omega)⟩
    exact Int.mul_nonneg (by split <;> omega) (by split <;> omega)
end

/-! ### D2 -/
section
variable {P : Program} {w : World} {K : PySem.W.Frag} {mg : Str → Option Value} {base : Heap}
theorem at_letter {i : Int} (h0 : 0 ≤ i) (h1 : i < 26) : ∃ c : Nat, atI Letters.cps.toList i = some c ∧ (c : Int) = 97 + i := by
  have e : i = ((i.toNat : Nat) : Int) := by omega
  have h : i.toNat < 26 := by omega
  have hh : ∀ k : Nat, k < 26 → Letters.cps.toList[k]? = some (97 + k) := by decide +kernel
  refine ⟨97 + i.toNat, ?_, by omega⟩
  have q : atI Letters.cps.toList ((i.toNat : Nat) : Int) = some (97 + i.toNat) := atI_nat (hh _ h)
  rw [← e] at q
  exact q
def Low (l : List Nat) : Prop := ∀ c ∈ l, 97 ≤ c ∧ c ≤ 122
/-- the name for a size: two letters that tell it, up to six more -/
def NameOf (k : Int) (z : Str) : Prop := ∃ (c1 c2 : Nat) (rest : List Nat), z.cps.toList = c1 :: c2 :: rest ∧ (c1 : Int) = 97 + k / 26 ∧ (c2 : Int) = 97 + k % 26 ∧ rest.length ≤ 6 ∧ Low rest
def spName : Sp := fun vs H Q _ => ∃ (a : Addr) (k : Int), vs = [.ref a, .int k] ∧ Src H a ∧ 0 ≤ k ∧ k < 676 ∧
  ∀ (H' : Hp) (z : Str), SB a H H' → Src H' a → NameOf k z → Q (.str z) H'
theorem use_name {a : Addr} {k : Int} {H : Hp} {Q : VK} {E : XK} (h : Src H a) (h1 : 0 ≤ k) (h2 : k < 676) (q : ∀ (H' : Hp) (z : Str), SB a H H' → Src H' a → NameOf k z → Q (.str z) H') : spName [.ref a, .int k] H Q E := ⟨a, k, rfl, h, h1, h2, q⟩
abbrev s_law_name : Stmt := top 60
theorem sc_law_name : FnScope ["source", "k", "letters", "found", "turn"] ["source", "k"] (defScope s_law_name) := ⟨rfl, rfl, rfl, by decide +kernel, rfl, by decide +kernel, by decide +kernel⟩
theorem has_name (O : OwnF K mg "_law_name" s_law_name) (B : Bl mg) (h_law_take : HasF P w K mg base CX0 1 "_law_take" ["source", "top"] spTake) : HasF P w K mg base CX0 2 "_law_name" ["source", "k"] spName := by
  refine has0 O sc_law_name (fun _ _ _ _ _ _ us hl => match us, hl with | [_, _], _ => rfl) (fun vs H Q E h => ?_) (fun f cdv A outer s_ H vs Q E hr h => ?_)
  · obtain ⟨a, k, rfl, _⟩ := h
    rfl
  obtain ⟨a, k, rfl, hS, hk0, hk1, q⟩ := h
  refine ⟨_, (pss_cons (ps_asg (pe_tup (pa_cons pe_str (pa_cons pe_str pa_nil))) (pg_tupK (n := 2) K rfl (pgs_cons (pg_name (i := 2) sc_law_name.nd rfl (by first | exact Or.inl rfl | exact Or.inr rfl)) (pgs_cons (pg_name (i := 3) sc_law_name.nd rfl (by first | exact Or.inl rfl | exact Or.inr rfl)) pgs_nil)))) (pss_cons (ps_for PassesOwn.never rfl (pi_range1 (by rfl) B.range (pa_cons (pe_callH h_law_take (hr.mono (by first | decide | omega)) (by rfl) pass0 (pa_cons (pv 0) (pa_cons pe_int pa_nil))) pa_nil)) (pg_name (i := 4) sc_law_name.nd rfl (by first | exact Or.inl rfl | exact Or.inr rfl)) (pss_one (ps_set (i := 3) sc_law_name.nd rfl (by first | exact Or.inl rfl | exact Or.inr rfl) (pe_op (kAdd K) (pv 3) (pe_ix (kIx K) (pv 2) (pe_callH h_law_take (hr.mono (by first | decide | omega)) (by rfl) pass0 (pa_cons (pv 0) (pa_cons pe_int pa_nil))) (fun _ _ => rfl)))))) (pss_one (ps_ret (pe_op (kAdd K) (pe_op (kAdd K) (pe_ix (kIx K) (pv 2) (pe_op divU (pv 1) pe_int) (fun _ _ => rfl)) (pe_ix (kIx K) (pv 2) (pe_op modU (pe_callTy intU (by rfl) B.int (by decide +kernel) (pa_cons (pv 1) pa_nil)) pe_int) (fun _ _ => rfl))) (pv 3)))))), ?_⟩
  refine st0 [some (.ref a), some (.int k), none, none, none] rfl ?_
  walk_at "go"
  refine ⟨lk rfl, fun p0 hp0 => rd_gtup (SqT.of upd_same) rfl ?_⟩
  have s0 : SB a H (upd H p0 (.tup [.str Letters, .str ""])) := SB.refl.new hp0
  walk_at "go"
  refine use_take (hS.new hp0) (by omega) (by omega) fun H1 r s1 hS1 hr0 hr1 => ?_
  walk_at "go"
  refine forR (fun i σ H2 => ∃ (z : Str) (o : Option V), σ = [some (.ref a), some (.int k), some (.str Letters), some (.str z), o] ∧ SB a H H2 ∧ Src H2 a ∧ z.cps.toList.length = i ∧ Low z.cps.toList)
    ⟨Str.ofString "", none, rfl, s0.trans s1, hS1, by decide +kernel, fun c hc => by rw [show (Str.ofString "").cps.toList = [] from by decide +kernel] at hc; cases hc⟩ ?_ ?_
  · rintro i σ H2 hi ⟨z, o, rfl, s2, hS2, hl, hz⟩
    walk_at "go"
    refine use_take hS2 (by omega) (by omega) fun H3 r3 s3 hS3 h30 h31 => ?_
    obtain ⟨c, e, hc⟩ := at_letter h30 h31
    refine u_ixS (lk rfl) e ?_
    walk_at "go"
    refine u_addS ?_ ?_
    · rw [len_list, hl]
      exact ll (by show i + 1 ≤ 1000000; omega)
    walk_at "go"
    refine ⟨_, _, rfl, s2.trans s3, hS3, ?_, ?_⟩
    · rw [app_list, List.length_append, hl] <;> rfl
    · rw [app_list]
      intro d hd
      rcases List.mem_append.mp hd with h | h
      · exact hz d h
      · have e2 : d = c := by simpa using h
        subst e2
        omega
  · rintro σ H2 ⟨z, o, rfl, s2, hS2, hl, hz⟩
    walk_at "go"
    obtain ⟨c1, e1, h1⟩ := at_letter (i := k / 26) (by omega) (by omega)
    refine u_ixS (lk rfl) e1 ?_
    walk_at "go"
    obtain ⟨c2, e2, h2⟩ := at_letter (i := k % 26) (by omega) (by omega)
    refine u_ixS (lk rfl) e2 ?_
    refine u_addS (lk rfl) ?_
    walk_at "go"
    refine u_addS ?_ ?_
    · rw [len_list z, hl]
      exact ll (by show 2 + r.toNat ≤ 1000000; omega)
    refine q _ _ s2 hS2 ⟨c1, c2, z.cps.toList, ?_, h1, h2, by omega, hz⟩
    rw [app_list]
    rfl
abbrev s_law_digit : Stmt := top 61
theorem sc_law_digit : FnScope ["source", "far"] ["source"] (defScope s_law_digit) := ⟨rfl, rfl, rfl, by decide +kernel, rfl, by decide +kernel, by decide +kernel⟩
def spDigit : Sp := fun vs H Q _ => ∃ (a : Addr), vs = [.ref a] ∧ Src H a ∧ ∀ (H' : Hp) (r : Int), SB a H H' → Src H' a → 0 ≤ r → r < 1000003 → Q (.int r) H'
theorem use_digit {a : Addr} {H : Hp} {Q : VK} {E : XK} (h : Src H a) (q : ∀ (H' : Hp) (r : Int), SB a H H' → Src H' a → 0 ≤ r → r < 1000003 → Q (.int r) H') : spDigit [.ref a] H Q E := ⟨a, rfl, h, q⟩
theorem has_digit (O : OwnF K mg "_law_digit" s_law_digit) (B : Bl mg) (h_law_take : HasF P w K mg base CX0 1 "_law_take" ["source", "top"] spTake) (h_law_one : HasF P w K mg base CX0 2 "_law_one" ["source", "things"] (spOne K)) : HasF P w K mg base CX0 3 "_law_digit" ["source"] spDigit := by
  refine has0 O sc_law_digit (fun _ _ _ _ _ _ us hl => match us, hl with | [_], _ => rfl) (fun vs H Q E h => ?_) (fun f cdv A outer s_ H vs Q E hr h => ?_)
  · obtain ⟨a, rfl, _⟩ := h
    rfl
  obtain ⟨a, rfl, hS, q⟩ := h
  refine ⟨_, (pss_cons (ps_set (i := 1) sc_law_digit.nd rfl (by first | exact Or.inl rfl | exact Or.inr rfl) (pe_lst (pa_cons (pe_op subU pe_int (pe_callH h_law_take (hr.mono (by first | decide | omega)) (by rfl) pass0 (pa_cons (pv 0) (pa_cons pe_int pa_nil)))) (pa_cons (pe_callH h_law_take (hr.mono (by first | decide | omega)) (by rfl) pass0 (pa_cons (pv 0) (pa_cons pe_int pa_nil))) pa_nil)))) (pss_one (ps_ret (pe_callH h_law_one (hr.mono (by first | decide | omega)) (by rfl) pass0 (pa_cons (pv 0) (pa_cons (pe_op (kAdd K) (pe_lst (pa_cons (pe_callH h_law_take (hr.mono (by first | decide | omega)) (by rfl) pass0 (pa_cons (pv 0) (pa_cons pe_int pa_nil))) (pa_cons (pe_callH h_law_take (hr.mono (by first | decide | omega)) (by rfl) pass0 (pa_cons (pv 0) (pa_cons pe_int pa_nil))) pa_nil))) (pv 1)) pa_nil)))))), ?_⟩
  refine st0 [some (.ref a), none] rfl ?_
  walk_at "go"
  refine use_take hS (by omega) (by omega) fun H1 r1 s1 hS1 h10 h11 => ?_
  walk_at "go"
  refine use_take hS1 (by omega) (by omega) fun H2 r2 s2 hS2 h20 h21 => ?_
  walk_at "go"
  refine ⟨lk rfl, fun p hp => ?_⟩
  have nP := hS2.ne hp
  walk_at "go"
  refine use_take (hS2.new hp) (by omega) (by omega) fun H3 r3 s3 hS3 h30 h31 => ?_
  walk_at "go"
  refine use_take hS3 (by omega) (by omega) fun H4 r4 s4 hS4 h40 h41 => ?_
  walk_at "go"
  refine ⟨lk rfl, fun p2 hp2 => ?_⟩
  have nP2 := hS4.ne hp2
  have f1 : H4 p = some (.lst [.int (1000002 - r1), .int r2]) := s4 _ _ nP (s3 _ _ nP upd_same)
  have n12 : p ≠ p2 := ne_of_none f1 hp2
  walk_at "go"
  refine u_addL upd_same (by rw [upd_ne n12]; exact f1) (lk rfl) fun p3 hp3 => ?_
  walk_at "go"
  have hS5 : Src (upd H4 p2 (.lst [.int r3, .int r4])) a := hS4.new hp2
  refine use_one (xs := [.int r3, .int r4, .int (1000002 - r1), .int r2]) (hS5.new hp3) (SqL.of upd_same) (hS5.ne hp3) (by show 0 < 4; omega) (by show 4 < 1000; omega) fun H6 v s6 hS6 hv => ?_
  have sb : SB a H H6 := ((((s1.trans s2).trans ((SB.refl.new hp).trans s3)).trans s4).trans (((SB.refl.new hp2)).new hp3)).trans s6
  have hv' : v = .int r3 ∨ v = .int r4 ∨ v = .int (1000002 - r1) ∨ v = .int r2 := by simpa using hv
  rcases hv' with rfl | rfl | rfl | rfl
  · exact q _ _ sb hS6 (by omega) (by omega)
  · exact q _ _ sb hS6 (by omega) (by omega)
  · exact q _ _ sb hS6 (by omega) (by omega)
  · exact q _ _ sb hS6 (by omega) (by omega)
end

/-! ### L4 -/
section
variable {P : Program} {w : World} {K : PySem.W.Frag} {mg : Str → Option Value} {base : Heap}
def spLeaf (K : PySem.W.Frag) : Sp := fun vs H Q _ => ∃ (a : Addr) (k : Int), vs = [.ref a, .int k] ∧ Src H a ∧ 1 ≤ k ∧ k ≤ 64 ∧
  ∀ (H' : Hp) (v : V) (j : Jn), SB a H H' → Src H' a → Rp K H' v j.py → Fx j → j.cnt = 1 → Q v H'
theorem use_leaf {K : PySem.W.Frag} {a : Addr} {k : Int} {H : Hp} {Q : VK} {E : XK} (h : Src H a) (h1 : 1 ≤ k) (h2 : k ≤ 64) (q : ∀ (H' : Hp) (v : V) (j : Jn), SB a H H' → Src H' a → Rp K H' v j.py → Fx j → j.cnt = 1 → Q v H') : spLeaf K [.ref a, .int k] H Q E := ⟨a, k, rfl, h, h1, h2, q⟩
theorem okS_in : okS (Str.ofString "in") := okS_of (by decide +kernel) (by decide +kernel)
theorem okS_row : okS (Str.ofString "row") := okS_of (by decide +kernel) (by decide +kernel)
theorem nameOf_ok {k : Int} {z : Str} (h : NameOf k z) (h0 : 0 ≤ k) (h1 : k ≤ 64) : okS z := by
  obtain ⟨c1, c2, rest, e, e1, e2, l, lo⟩ := h
  have lz : z.length = rest.length + 2 := by rw [len_list, e]; rfl
  refine ⟨by omega, ?_⟩
  simp only [PyData.canLay0, PyData.strOk, Array.all_eq_true_iff_forall_mem, decide_eq_true_eq]
  intro c hc
  have hc' : c ∈ z.cps.toList := by simpa using hc
  rw [e] at hc'
  rcases List.mem_cons.mp hc' with rfl | hc'
  · omega
  rcases List.mem_cons.mp hc' with rfl | hc'
  · omega
  · have := lo c hc'
    omega
/-- a joint over parts that are of the form -/
theorem Fx.node {op : Str} {td : List PyData} {parts : List Jn} (hok : (Jn.mk op td parts).ok) (hf : Fit (.mk op td parts)) (hp : ∀ p ∈ parts, Fx p) : Fx (.mk op td parts) := ⟨hok, fun x hx => by
  simp only [Jn.all, List.mem_cons] at hx
  rcases hx with rfl | hx
  · exact hf
  · have k : ∀ l : List Jn, (∀ p ∈ l, Fx p) → x ∈ Jn.alls l → Fit x := by
      intro l
      induction l with
      | nil => intro _ h; simp [Jn.alls] at h
      | cons a r ih =>
        intro hl h
        simp only [Jn.alls, List.mem_append] at h
        rcases h with h | h
        · exact (hl a List.mem_cons_self).fit x h
        · exact ih (fun p hp => hl p (List.mem_cons_of_mem _ hp)) h
    exact k parts hp hx⟩
theorem letter_mem {c : Nat} (h1 : 97 ≤ c) (h2 : c ≤ 122) : c ∈ Letters.cps.toList := by
  have hh : ∀ k : Nat, k < 26 → (97 + k) ∈ Letters.cps.toList := by decide +kernel
  have := hh (c - 97) (by omega)
  rw [show 97 + (c - 97) = c by omega] at this
  exact this
theorem nameOf_word {k : Int} {z : Str} (h : NameOf k z) (h0 : 0 ≤ k) (h1 : k ≤ 64) : isWord (.str z) = true := by
  obtain ⟨c1, c2, rest, e, e1, e2, l, lo⟩ := h
  have lz : z.length = rest.length + 2 := by rw [len_list, e]; rfl
  show (decide ((1 : Int) ≤ z.length) && decide ((z.length : Int) ≤ 8) && lowAll z.cps.toList) = true
  rw [decide_eq_true (show (1 : Int) ≤ z.length by omega), decide_eq_true (show (z.length : Int) ≤ 8 by omega), Bool.true_and, Bool.true_and, e]
  unfold lowAll
  rw [List.all_eq_true]
  intro c hc
  refine decide_eq_true ?_
  rcases List.mem_cons.mp hc with rfl | hc
  · exact letter_mem (by omega) (by omega)
  rcases List.mem_cons.mp hc with rfl | hc
  · exact letter_mem (by omega) (by omega)
  · exact letter_mem (lo c hc).1 (lo c hc).2
abbrev s_law_leaf : Stmt := top 62
theorem sc_law_leaf : FnScope ["source", "k", "turn"] ["source", "k"] (defScope s_law_leaf) := ⟨rfl, rfl, rfl, by decide +kernel, rfl, by decide +kernel, by decide +kernel⟩
theorem has_leaf (O : OwnF K mg "_law_leaf" s_law_leaf) (B : Bl mg) (h_law_take : HasF P w K mg base CX0 1 "_law_take" ["source", "top"] spTake) (h_law_name : HasF P w K mg base CX0 2 "_law_name" ["source", "k"] spName) (h_law_digit : HasF P w K mg base CX0 3 "_law_digit" ["source"] spDigit) : HasF P w K mg base CX0 4 "_law_leaf" ["source", "k"] (spLeaf K) := by
  refine has0 O sc_law_leaf (fun _ _ _ _ _ _ us hl => match us, hl with | [_, _], _ => rfl) (fun vs H Q E h => ?_) (fun f cdv A outer s_ H vs Q E hr h => ?_)
  · obtain ⟨a, k, rfl, _⟩ := h
    rfl
  obtain ⟨a, k, rfl, hS, hk1, hk2, q⟩ := h
  refine ⟨_, (pss_cons (ps_if (pt_cmpR (kEqG K (hU hr)) (pe_callH h_law_take (hr.mono (by first | decide | omega)) (by rfl) pass0 (pa_cons (pv 0) (pa_cons pe_int pa_nil))) pe_int (nomark _)) (pss_one (ps_ret (pe_tup (pa_cons pe_str (pa_cons (pe_tup (pa_cons (pe_callH h_law_name (hr.mono (by first | decide | omega)) (by rfl) pass0 (pa_cons (pv 0) (pa_cons (pv 1) pa_nil))) (pa_cons (pv 1) pa_nil))) (pa_cons (pe_tup pa_nil) pa_nil)))))) pss_nil) (pss_one (ps_ret (pe_tup (pa_cons pe_str (pa_cons (pe_callTy (kTup K) (by rfl) B.tuple (by decide +kernel) (pa_cons (pe_lc (own := [("turn", 2)]) (g := gName 2) (tt := tYes) rfl sc_law_leaf.nd (pi_range1 (by rfl) B.range (pa_cons (pv 1) pa_nil)) (blkOk_by (own := [("turn", 2)]) (N := ["source", "k", "turn"]) (sc := defScope s_law_leaf) (by decide +kernel)) (fun _ _ _ _ _ => (pg_name (i := 2) sc_law_leaf.nd rfl (by first | exact Or.inl rfl | exact Or.inr rfl))) (fun _ _ _ _ _ => pts_nil) (fun _ _ _ _ _ => (pe_callH h_law_digit (hr.mono (by first | decide | omega)) (by rfl) pass0 (pa_cons (pv 0) pa_nil)))) pa_nil)) (pa_cons (pe_tup pa_nil) pa_nil))))))), ?_⟩
  refine st0 [some (.ref a), some (.int k), none] rfl ?_
  walk_at "go"
  refine use_take hS (by omega) (by omega) fun H1 r1 s1 hS1 h10 h11 => ?_
  walk_at "go"
  refine rd_split (fun c => ?_) (fun c => ?_)
  · walk_at "go"
    refine use_name hS1 (by omega) (by omega) fun H2 z s2 hS2 hz => ?_
    walk_at "go"
    refine ⟨lk rfl, fun p hp => ?_⟩
    walk_at "go"
    refine ⟨lk rfl, fun p2 hp2 => ?_⟩
    walk_at "go"
    refine ⟨lk rfl, fun p3 hp3 => ?_⟩
    have e1 : (upd (upd H2 p (.tup [.str z, .int k])) p2 (.tup [])) p = some (.tup [.str z, .int k]) := by rw [upd_ne (ne_of_none upd_same hp2)]; exact upd_same
    refine q _ _ (.mk (Str.ofString "in") [.str z, .int k] []) ((s1.trans s2).trans (((SB.refl.new hp).new hp2).new hp3)) (((hS2.new hp).new hp2).new hp3) (mkJ (SqT.of e1) (.cons (.str z) (.cons (.int k) .nil)) (SqT.of upd_same) .nil hp3) ?_ rfl
    refine Fx.node ?_ ⟨?_, by decide +kernel⟩ (fun _ h => nomatch h)
    rotate_left
    · rw [fits_in]
      show (isWord (.str z) && isBtw (.int k) 1 64) = true
      rw [nameOf_word hz (by omega) hk2, btw_ok hk1 hk2] <;> rfl
    simp only [Jn.ok, Jn.oks]
    refine ⟨okS_in, by simp, fun d hd => ?_, by simp, trivial⟩
    have hd' : d = .str z ∨ d = .int k := by simpa using hd
    rcases hd' with rfl | rfl
    · exact nameOf_ok hz (by omega) hk2
    · exact trivial
  · walk_at "go"
    intro D hD
    have nD := hS1.ne hD
    refine lc_range (lo := 0) (n := k.toNat) (fun i H' => ∃ ns : List Int, H' D = some (.lst (ns.map V.int)) ∧ ns.length = i ∧ (∀ n ∈ ns, 0 ≤ n ∧ n < 1000003) ∧ SB a H H' ∧ Src H' a) ⟨[], upd_same, rfl, (fun _ h => nomatch h), s1.new hD, hS1.new hD⟩ ?_ ?_
    · rintro i H' hi ⟨ns, g1, g2, gb, g3, g4⟩
      walk_at "go"
      refine ⟨rfl, ?_⟩
      walk_at "go"
      refine use_digit g4 fun H2 r s2 hS2 r0 r1 => ?_
      have g5 := s2 _ _ nD g1
      refine ⟨_, g5, ?_, ns ++ [r], ?_, ?_, fun n hn => ?_, ?_, hS2.set nD⟩
      · rw [List.length_map, g2]; exact ls (by omega)
      · rw [upd_same, List.map_append] <;> rfl
      · rw [List.length_append, g2] <;> rfl
      · rcases List.mem_append.mp hn with h | h
        · exact gb n h
        · rw [List.mem_singleton.mp h]
          exact ⟨r0, r1⟩
      · intro b o nb hb
        have hDH : H D = none := by
          cases hh : H D with
          | none => rfl
          | some o => rw [s1 _ _ nD hh] at hD; cases hD
        rw [upd_ne (ne_of_none hb hDH)]
        exact s2 _ _ nb (g3 _ _ nb hb)
    · rintro H2 ⟨ns, g1, g2, gb, g3, g4⟩
      walk_at "go"
      refine u_tupL (SqL.of g1) fun t ht => ?_
      walk_at "go"
      refine ⟨lk rfl, fun p2 hp2 => ?_⟩
      walk_at "go"
      refine ⟨lk rfl, fun p3 hp3 => ?_⟩
      have e1 : (upd (upd H2 t (.tup (ns.map V.int))) p2 (.tup [])) t = some (.tup (ns.map V.int)) := by rw [upd_ne (ne_of_none upd_same hp2)]; exact upd_same
      refine q _ _ (.mk (Str.ofString "row") (ns.map PyData.int) []) (((g3.new ht).new hp2).new hp3) (((g4.new ht).new hp2).new hp3) (mkJ (SqT.of e1) (Rps.ints ns) (SqT.of upd_same) .nil hp3) ?_ rfl
      refine Fx.node ?_ ⟨?_, by decide +kernel⟩ (fun _ h => nomatch h)
      rotate_left
      · rw [fits_row]
        unfold tellsRow rowNums
        rw [List.length_map, decide_eq_true (show (1 : Int) ≤ ns.length by omega), decide_eq_true (show (ns.length : Int) ≤ 64 by omega), Bool.true_and, Bool.true_and, List.all_map, List.all_eq_true]
        exact fun n hn => btw_ok (gb n hn).1 (by have := (gb n hn).2; omega)
      simp only [Jn.ok, Jn.oks]
      refine ⟨okS_row, by rw [List.length_map, g2]; omega, fun d hd => ?_, by simp, trivial⟩
      obtain ⟨n, _, rfl⟩ := List.mem_map.mp hd
      exact trivial
end

/-! ### L5 -/
section
variable {P : Program} {w : World} {K : PySem.W.Frag} {mg : Str → Option Value} {base : Heap}
/-- a joint of size k, of up to left joints; n calls may stand one in the other -/
def spJ (K : PySem.W.Frag) (n : Nat) : Sp := fun vs H Q _ => ∃ (a : Addr) (k left : Int), vs = [.ref a, .int k, .int left] ∧ Src H a ∧ 1 ≤ k ∧ k ≤ 64 ∧ 1 ≤ left ∧ left ≤ n ∧ left ≤ 40 ∧
  ∀ (H' : Hp) (v : V) (j : Jn), SB a H H' → Src H' a → Rp K H' v j.py → Fx j → (j.cnt : Int) ≤ left → Q v H'
theorem use_j {K : PySem.W.Frag} {n : Nat} {a : Addr} {k left : Int} {H : Hp} {Q : VK} {E : XK} (h : Src H a) (h1 : 1 ≤ k) (h2 : k ≤ 64) (h3 : 1 ≤ left) (h4 : left ≤ n) (h5 : left ≤ 40) (q : ∀ (H' : Hp) (v : V) (j : Jn), SB a H H' → Src H' a → Rp K H' v j.py → Fx j → (j.cnt : Int) ≤ left → Q v H') :
    spJ K n [.ref a, .int k, .int left] H Q E := ⟨a, k, left, rfl, h, h1, h2, h3, h4, h5, q⟩
def spCt (K : PySem.W.Frag) (n : Nat) : Sp := fun vs H Q _ => ∃ (a : Addr) (k left : Int), vs = [.ref a, .int k, .int left] ∧ Src H a ∧ 2 ≤ k ∧ k ≤ 64 ∧ 3 ≤ left ∧ left ≤ n ∧ left ≤ 40 ∧
  ∀ (H' : Hp) (v : V) (j : Jn), SB a H H' → Src H' a → Rp K H' v j.py → Fx j → (j.cnt : Int) ≤ left → Q v H'
def spFk (K : PySem.W.Frag) (n : Nat) : Sp := fun vs H Q _ => ∃ (a : Addr) (k left kind : Int), vs = [.ref a, .int k, .int left, .int kind] ∧ Src H a ∧ 1 ≤ k ∧ k ≤ 64 ∧ 3 ≤ left ∧ left ≤ n ∧ left ≤ 40 ∧
  ∀ (H' : Hp) (v : V) (j : Jn), SB a H H' → Src H' a → Rp K H' v j.py → Fx j → (j.cnt : Int) ≤ left → Q v H'
theorem fx_app {l : List Jn} {j : Jn} (h : ∀ p ∈ l, Fx p) (g : Fx j) : ∀ p ∈ l ++ [j], Fx p := fun p hp => by
  rcases List.mem_append.mp hp with m | m
  · exact h p m
  · rw [List.mem_singleton.mp m]
    exact g
theorem oks_of : ∀ {l : List Jn}, (∀ p ∈ l, Fx p) → Jn.oks l
  | [], _ => by simp only [Jn.oks]
  | a :: r, h => by
    simp only [Jn.oks]
    exact ⟨(h a List.mem_cons_self).ok, oks_of fun p hp => h p (List.mem_cons_of_mem _ hp)⟩
theorem fit_cat {n : Nat} (h1 : 1 ≤ n) (h2 : n ≤ 4) : partsFit "cat" (n : Int) = true := by
  show (decide ((1 : Int) ≤ (n : Int)) && decide ((n : Int) ≤ 4)) = true
  rw [decide_eq_true (show (1 : Int) ≤ (n : Int) by omega), decide_eq_true (show (n : Int) ≤ 4 by omega)] <;> rfl
theorem okS_cat : okS (Str.ofString "cat") := okS_of (by decide +kernel) (by decide +kernel)
abbrev s_law_catted : Stmt := top 65
theorem sc_law_catted : FnScope ["source", "k", "left", "many", "rest", "parts", "turn", "own"] ["source", "k", "left"] (defScope s_law_catted) := ⟨rfl, rfl, rfl, by decide +kernel, rfl, by decide +kernel, by decide +kernel⟩
theorem step_catted {n l : Nat} (hl : 1 ≤ l) (O : OwnF K mg "_law_catted" s_law_catted) (B : Bl mg) (h_law_take : HasF P w K mg base CX0 1 "_law_take" ["source", "top"] spTake) (h_law_joint : HasF P w K mg base CX0 l "_law_joint" ["source", "k", "left"] (spJ K n)) : HasF P w K mg base CX0 (l + 1) "_law_catted" ["source", "k", "left"] (spCt K (n + 1)) := by
  refine has0 O sc_law_catted (fun _ _ _ _ _ _ us hl => match us, hl with | [_, _, _], _ => rfl) (fun vs H Q E h => ?_) (fun f cdv A outer s_ H vs Q E hr h => ?_)
  · obtain ⟨a, k, left, rfl, _⟩ := h
    rfl
  obtain ⟨a, k, left, rfl, hS, hk1, hk2, hl1, hl2, hl3, q⟩ := h
  refine ⟨_, (pss_cons (ps_set (i := 3) sc_law_catted.nd rfl (by first | exact Or.inl rfl | exact Or.inr rfl) (pe_callB (min3U rfl) (by rfl) B.min (by decide +kernel) (pa_cons (pv 1) (pa_cons (pe_op subU (pv 2) pe_int) (pa_cons (pe_op (kAdd K) pe_int (pe_callH h_law_take (hr.mono (by first | decide | omega)) (by rfl) pass0 (pa_cons (pv 0) (pa_cons pe_int pa_nil)))) pa_nil))))) (pss_cons (ps_par (i := 4) (j := 5) (by rfl) sc_law_catted.nd rfl rfl (by decide) rfl rfl (pa_cons (pv 1) (pa_cons (pe_lst pa_nil) pa_nil)) (by rfl)) (pss_cons (ps_for PassesOwn.never rfl (pi_range1 (by rfl) B.range (pa_cons (pv 3) pa_nil)) (pg_name (i := 6) sc_law_catted.nd rfl (by first | exact Or.inl rfl | exact Or.inr rfl)) (pss_cons (ps_set (i := 7) sc_law_catted.nd rfl (by first | exact Or.inl rfl | exact Or.inr rfl) (pe_ifExp (pt_cmpR (kEqG K (hU hr)) (pv 6) (pe_op subU (pv 3) pe_int) (nomark _)) (pv 4) (pe_op (kAdd K) pe_int (pe_callH h_law_take (hr.mono (by first | decide | omega)) (by rfl) pass0 (pa_cons (pv 0) (pa_cons (pe_op subU (pv 4) (pe_op subU (pe_op subU (pv 3) pe_int) (pv 6))) pa_nil)))))) (pss_cons (ps_expr (pe_bmK K PySem.F.plainAttrs_list PySem.F.slot_list_append PySem.F.type_list_append mt_append (pv 5) (pa_cons (pe_callH h_law_joint (hr.mono (by first | decide | omega)) (by rfl) pass0 (pa_cons (pv 0) (pa_cons (pv 7) (pa_cons (pe_op divU (pe_op subU (pv 2) pe_int) (pv 3)) pa_nil)))) pa_nil))) (pss_one (ps_set (i := 4) sc_law_catted.nd rfl (by first | exact Or.inl rfl | exact Or.inr rfl) (pe_op subU (pv 4) (pv 7))))))) (pss_one (ps_ret (pe_tup (pa_cons pe_str (pa_cons (pe_tup pa_nil) (pa_cons (pe_callTy (kTup K) (by rfl) B.tuple (by decide +kernel) (pa_cons (pv 5) pa_nil)) pa_nil))))))))), ?_⟩
  refine st0 [some (.ref a), some (.int k), some (.int left), none, none, none, none, none] rfl ?_
  walk_at "go"
  refine use_take hS (by omega) (by omega) fun H1 r1 s1 hS1 h10 h11 => ?_
  walk_at "go"
  have hm : ∃ many : Int, (if left - 1 < k then (if 2 + r1 < left - 1 then 2 + r1 else left - 1) else (if 2 + r1 < k then 2 + r1 else k)) = many ∧ 2 ≤ many ∧ many ≤ 4 ∧ many ≤ k ∧ many ≤ left - 1 := by
    refine ⟨_, rfl, ?_⟩
    split <;> split <;> omega
  obtain ⟨many, em, m1, m2, m3, m4⟩ := hm
  rw [em]
  refine ⟨lk rfl, fun p hp => ?_⟩
  have nP := hS1.ne hp
  have hpH : H p = none := by
    cases hh : H p with
    | none => rfl
    | some o => rw [s1 _ _ nP hh] at hp; cases hp
  walk_at "go"
  have hq : 1 ≤ (left - 1) / many ∧ (left - 1) / many ≤ n ∧ (left - 1) / many ≤ 40 ∧ many * ((left - 1) / many) ≤ left - 1 := by
    have g1 : 1 ≤ (left - 1) / many := by
      rw [Int.le_ediv_iff_mul_le (by omega)]
      omega
    have g2 : (left - 1) / many ≤ left - 1 := Int.ediv_le_self _ (by omega)
    have g3 : many * ((left - 1) / many) ≤ left - 1 := Int.mul_ediv_self_le (by omega)
    omega
  refine forR (fun i σ H' => ∃ (rest : Int) (ws : List V) (js : List Jn) (o1 o2 : Option V), σ = [some (.ref a), some (.int k), some (.int left), some (.int many), some (.int rest), some (.ref p), o1, o2] ∧ SB a H H' ∧ Src H' a ∧ H' p = some (.lst ws) ∧ Rps K H' ws (Jn.pys js) ∧ (∀ p ∈ js, Fx p) ∧ js.length = i ∧ (Jn.cnts js : Int) ≤ i * ((left - 1) / many) ∧ ((i : Int) < many → many - i ≤ rest ∧ rest ≤ 64))
    ⟨k, [], [], none, none, rfl, s1.new hp, hS1.new hp, upd_same, .nil, (fun _ h => nomatch h), rfl, by simp [Jn.cnts], fun _ => by omega⟩ ?_ ?_
  · rintro i σ H' hi ⟨rest, ws, js, o1, o2, rfl, g1, g2, g3, g4, g5, g6, g7, g8⟩
    have hi' : (i : Int) < many := by omega
    obtain ⟨g81, g82⟩ := g8 hi'
    have fin : ∀ (own : Int) (H3 : Hp) (v : V) (j : Jn), SB a H' H3 → Src H3 a → Ext K H' H3 → Rp K H3 v j.py → Fx j → (j.cnt : Int) ≤ (left - 1) / many → ((i : Int) + 1 < many → many - (i + 1) ≤ rest - own) → 1 ≤ own →
        H3 p = some (.lst ws) ∧ ws.length < sizeLine ∧ SB a H (upd H3 p (.lst (ws ++ [v]))) ∧ Src (upd H3 p (.lst (ws ++ [v]))) a ∧ (upd H3 p (.lst (ws ++ [v]))) p = some (.lst (ws ++ [v])) ∧ Rps K (upd H3 p (.lst (ws ++ [v]))) (ws ++ [v]) (Jn.pys (js ++ [j])) ∧ (∀ p ∈ js ++ [j], Fx p) ∧ (js ++ [j]).length = i + 1 ∧ (Jn.cnts (js ++ [j]) : Int) ≤ ((i + 1 : Nat) : Int) * ((left - 1) / many) ∧ (((i + 1 : Nat) : Int) < many → many - ((i + 1 : Nat) : Int) ≤ rest - own ∧ rest - own ≤ 64) := by
      intro own H3 v j s3 hS3 x23 hr3 hok hc o3 o4
      have ep := s3 _ _ nP g3
      have lw := g4.length
      rw [pys_length, g6] at lw
      refine ⟨ep, ls (by omega), (g1.trans s3).upd_new hpH, hS3.set nP, upd_same, ?_, fx_app g5 hok, ?_, ?_, ?_⟩
      · rw [pys_append]
        exact ((g4.mono x23 _ _).append (.one hr3)).mono (Ext.set ep trivial) _ _
      · rw [List.length_append, g6] <;> rfl
      · rw [cnts_append]
        have e1 : Jn.cnts [j] = j.cnt := by simp [Jn.cnts]
        rw [e1]
        have e2 : ((i + 1 : Nat) : Int) * ((left - 1) / many) = (i : Int) * ((left - 1) / many) + (left - 1) / many := by
          rw [Int.natCast_add, Int.add_mul]
          simp
        omega
      · intro hlt
        have := o3 (by omega)
        omega
    walk_at "go"
    refine rd_split (fun c => ?_) (fun c => ?_)
    · walk_at "go"
      refine use_j g2 (by omega) g82 hq.1 hq.2.1 hq.2.2.1 fun H3 v j s3 hS3 hr3 hok hc => ?_
      obtain ⟨f1, f2, f3, f4, f5, f6, f7, f8, f9, f10⟩ := fin rest H3 v j s3 hS3 (g2.ext s3) hr3 hok hc (by omega) (by omega)
      walk_at "go"
      refine u_app f1 f2 ?_
      walk_at "go"
      exact ⟨_, _, _, _, _, rfl, f3, f4, f5, f6, f7, f8, f9, f10⟩
    · walk_at "go"
      refine use_take g2 (by omega) (by omega) fun H2 r s2 hS2 r0 r2 => ?_
      have ep2 := s2 _ _ nP g3
      walk_at "go"
      refine use_j hS2 (by omega) (by omega) hq.1 hq.2.1 hq.2.2.1 fun H3 v j s3 hS3 hr3 hok hc => ?_
      obtain ⟨f1, f2, f3, f4, f5, f6, f7, f8, f9, f10⟩ := fin (1 + r) H3 v j (s2.trans s3) hS3 ((g2.ext s2).trans (hS2.ext s3)) hr3 hok hc (by omega) (by omega)
      walk_at "go"
      refine u_app f1 f2 ?_
      walk_at "go"
      exact ⟨_, _, _, _, _, rfl, f3, f4, f5, f6, f7, f8, f9, f10⟩
  · rintro σ H2 ⟨rest, ws, js, o1, o2, rfl, g1, g2, g3, g4, g5, g6, g7, g8⟩
    walk_at "go"
    refine ⟨lk rfl, fun t ht => ?_⟩
    have nt : p ≠ t := ne_of_none g3 ht
    walk_at "go"
    refine u_tupL (SqL.of (show upd H2 t (.tup []) p = some (.lst ws) by rw [upd_ne nt]; exact g3)) fun t2 ht2 => ?_
    walk_at "go"
    refine ⟨lk rfl, fun t3 ht3 => ?_⟩
    have e1 : (upd (upd H2 t (.tup [])) t2 (.tup ws)) t = some (.tup []) := by rw [upd_ne (ne_of_none upd_same ht2)]; exact upd_same
    have lj : js.length ≤ 4 := by omega
    refine q _ _ (.mk (Str.ofString "cat") [] js) (((g1.new ht).new ht2).new ht3) (((g2.new ht).new ht2).new ht3) (mkJ (SqT.of e1) .nil (SqT.of upd_same) ((g4.mono (Ext.new ht) _ _).mono (Ext.new ht2) _ _) ht3) ?_ ?_
    · refine Fx.node ?_ ⟨by decide +kernel, fit_cat (by omega) lj⟩ g5
      simp only [Jn.ok]
      exact ⟨okS_cat, by simp, (fun d hd => nomatch hd), lj, oks_of g5⟩
    · simp only [Jn.cnt]
      have e3 : ((many.toNat : Nat) : Int) = many := by omega
      rw [e3] at g7
      omega
end

/-! ### L6 -/
section
variable {P : Program} {w : World} {K : PySem.W.Frag} {mg : Str → Option Value} {base : Heap}
abbrev s_law_forked : Stmt := top 64
theorem sc_law_forked : FnScope ["source", "k", "left", "kind", "first", "second", "op", "kinds", "many", "a", "n"] ["source", "k", "left", "kind"] (defScope s_law_forked) := ⟨rfl, rfl, rfl, by decide +kernel, rfl, by decide +kernel, by decide +kernel⟩
theorem step_forked {n l : Nat} (hl : 2 ≤ l) (O : OwnF K mg "_law_forked" s_law_forked) (B : Bl mg) (h_law_take : HasF P w K mg base CX0 1 "_law_take" ["source", "top"] spTake) (h_law_one : HasF P w K mg base CX0 2 "_law_one" ["source", "things"] (spOne K)) (h_law_joint : HasF P w K mg base CX0 l "_law_joint" ["source", "k", "left"] (spJ K n))
    (h_law_catted : HasF P w K mg base CX0 (l + 1) "_law_catted" ["source", "k", "left"] (spCt K (n + 1))) : HasF P w K mg base CX0 (l + 2) "_law_forked" ["source", "k", "left", "kind"] (spFk K (n + 1)) := by
  refine has0 O sc_law_forked (fun _ _ _ _ _ _ us hl => match us, hl with | [_, _, _, _], _ => rfl) (fun vs H Q E h => ?_) (fun f cdv A outer s_ H vs Q E hr h => ?_)
  · obtain ⟨a, k, left, kind, rfl, _⟩ := h
    rfl
  obtain ⟨a, k, left, kind, rfl, hS, hk1, hk2, hl1, hl2, hl3, q⟩ := h
  refine ⟨_, (pss_cons (ps_set (i := 4) sc_law_forked.nd rfl (by first | exact Or.inl rfl | exact Or.inr rfl) (pe_op (kAdd K) pe_int (pe_callH h_law_take (hr.mono (by first | decide | omega)) (by rfl) pass0 (pa_cons (pv 0) (pa_cons (pe_op subU (pv 2) pe_int) pa_nil))))) (pss_cons (ps_par3 (i := 5) (j := 6) (l := 7) (by rfl) sc_law_forked.nd rfl rfl rfl (by decide) (by decide) (by decide) rfl rfl rfl (pa_cons (pe_op subU (pe_op subU (pv 2) pe_int) (pv 4)) (pa_cons (pe_callH h_law_one (hr.mono (by first | decide | omega)) (by rfl) pass0 (pa_cons (pv 0) (pa_cons (pe_lst (pa_cons pe_str (pa_cons pe_str (pa_cons pe_str pa_nil)))) pa_nil))) (pa_cons (pe_tup (pa_cons (pv 1) (pa_cons (pv 1) pa_nil))) pa_nil))) (by rfl)) (pss_cons (ps_if (PW.pt (pw_and (pt_cmpR (kEqG K (hU hr)) (pv 1) pe_int (nomark _)) (pw_and1 (pt_cmpR (kEqG K (hU hr)) (pv 3) pe_int (nomark _))))) (pss_cons (ps_set (i := 8) sc_law_forked.nd rfl (by first | exact Or.inl rfl | exact Or.inr rfl) (pe_op (kAdd K) pe_int (pe_callH h_law_take (hr.mono (by first | decide | omega)) (by rfl) pass0 (pa_cons (pv 0) (pa_cons pe_int pa_nil))))) (pss_one (ps_par (i := 6) (j := 7) (by rfl) sc_law_forked.nd rfl rfl (by decide) rfl rfl (pa_cons pe_str (pa_cons (pe_tup (pa_cons (pv 8) (pa_cons (pv 8) pa_nil))) pa_nil)) (by rfl)))) pss_nil) (pss_cons (ps_if (pt_cmpR (kEqG K (hU hr)) (pv 3) pe_int (nomark _)) (pss_cons (ps_set (i := 9) sc_law_forked.nd rfl (by first | exact Or.inl rfl | exact Or.inr rfl) (pe_callH h_law_one (hr.mono (by first | decide | omega)) (by rfl) pass0 (pa_cons (pv 0) (pa_cons (pe_lc (own := [("n", 10)]) (g := gName 10) (tt := _) rfl sc_law_forked.nd (pi_range2 (by rfl) B.range (pa_cons pe_int (pa_cons (pe_op (kAdd K) (pv 1) pe_int) pa_nil))) (blkOk_by (own := [("n", 10)]) (N := ["source", "k", "left", "kind", "first", "second", "op", "kinds", "many", "a", "n"]) (sc := defScope s_law_forked) (by decide +kernel)) (fun _ _ _ _ _ => (pg_name (i := 10) sc_law_forked.nd rfl (by first | exact Or.inl rfl | exact Or.inr rfl))) (fun _ _ _ _ _ => (pts_one (pt_cmpR (kEqG K (hU hr)) (pe_op modU (pe_callTy intU (by rfl) B.int (by decide +kernel) (pa_cons (pv 1) pa_nil)) (pv 10)) pe_int (nomark _)))) (fun _ _ _ _ _ => (pv 10))) pa_nil)))) (pss_one (ps_par (i := 6) (j := 7) (by rfl) sc_law_forked.nd rfl rfl (by decide) rfl rfl (pa_cons pe_str (pa_cons (pe_tup (pa_cons (pv 9) (pa_cons (pe_op divU (pv 1) (pv 9)) pa_nil))) pa_nil)) (by rfl)))) pss_nil) (pss_cons (ps_if (pt_cmpR (kEqG K (hU hr)) (pv 3) pe_int (nomark _)) (pss_cons (ps_set (i := 9) sc_law_forked.nd rfl (by first | exact Or.inl rfl | exact Or.inr rfl) (pe_op (kAdd K) pe_int (pe_callH h_law_take (hr.mono (by first | decide | omega)) (by rfl) pass0 (pa_cons (pv 0) (pa_cons (pv 1) pa_nil))))) (pss_one (ps_par (i := 6) (j := 7) (by rfl) sc_law_forked.nd rfl rfl (by decide) rfl rfl (pa_cons pe_str (pa_cons (pe_tup (pa_cons (pv 9) (pa_cons (pe_op subU (pe_op (kAdd K) (pv 1) pe_int) (pv 9)) pa_nil))) pa_nil)) (by rfl)))) pss_nil) (pss_cons (ps_if (PW.pt (pw_and (pt_cmpR gtU (pv 3) pe_int (nomark _)) (pw_and1 (pt_cmpR gtU (pv 1) pe_int (nomark _))))) (pss_one (ps_ret (pe_callH h_law_catted (hr.mono (by first | decide | omega)) (by rfl) pass0 (pa_cons (pv 0) (pa_cons (pv 1) (pa_cons (pv 2) pa_nil)))))) pss_nil) (pss_one (ps_ret (pe_tup (pa_cons (pv 6) (pa_cons (pe_tup pa_nil) (pa_cons (pe_tup (pa_cons (pe_callH h_law_joint (hr.mono (by first | decide | omega)) (by rfl) pass0 (pa_cons (pv 0) (pa_cons (pe_ix (kIx K) (pv 7) pe_int (fun _ _ => rfl)) (pa_cons (pv 4) pa_nil)))) (pa_cons (pe_callH h_law_joint (hr.mono (by first | decide | omega)) (by rfl) pass0 (pa_cons (pv 0) (pa_cons (pe_ix (kIx K) (pv 7) pe_int (fun _ _ => rfl)) (pa_cons (pv 5) pa_nil)))) pa_nil))) pa_nil)))))))))))), ?_⟩
  refine st0 [some (.ref a), some (.int k), some (.int left), some (.int kind), none, none, none, none, none, none, none] rfl ?_
  walk_at "go"
  refine use_take hS (by omega) (by omega) fun H1 r1 s1 hS1 h10 h11 => ?_
  walk_at "go"
  refine ⟨lk rfl, fun p hp => ?_⟩
  walk_at "go"
  refine use_one (hS1.new hp) (SqL.of upd_same) (hS1.ne hp) (by show 0 < 3; omega) (by show 3 < 1000; omega) fun H2 v s2 hS2 hv => ?_
  obtain ⟨z, rfl, hz⟩ : ∃ z, v = .str z ∧ (okS z ∧ toldFits z [] = true ∧ partsFit z 2 = true) := by
    have hv' : v = .str "add" ∨ v = .str "sub" ∨ v = .str "mul" := by simpa using hv
    rcases hv' with rfl | rfl | rfl
    · exact ⟨_, rfl, okS_of (by decide +kernel) (by decide +kernel), by decide +kernel, by decide +kernel⟩
    · exact ⟨_, rfl, okS_of (by decide +kernel) (by decide +kernel), by decide +kernel, by decide +kernel⟩
    · exact ⟨_, rfl, okS_of (by decide +kernel) (by decide +kernel), by decide +kernel, by decide +kernel⟩
  walk_at "go"
  refine ⟨lk rfl, fun t ht => ?_⟩
  have sA : SB a H H2 := s1.trans ((SB.refl.new hp).trans s2)
  have hT : SqT K (upd H2 t (.tup [.int k, .int k])) t [.int k, .int k] := SqT.of upd_same
  have sB : SB a H (upd H2 t (.tup [.int k, .int k])) := sA.new ht
  have hSB := hS2.new (o := .tup [.int k, .int k]) ht
  generalize upd H2 t (.tup [.int k, .int k]) = H3 at *
  have final : ∀ (H4 : Hp) (z : Str) (t : Addr) (k1 k2 : Int) (o8 o9 o10 : Option V), SB a H H4 → Src H4 a → (okS z ∧ toldFits z [] = true ∧ partsFit z 2 = true) → SqT K H4 t [.int k1, .int k2] → 1 ≤ k1 → k1 ≤ 64 → 1 ≤ k2 → k2 ≤ 64 →
      tRet (tTup (tCons (tVar 6) (tCons (tTup tNil) (tCons (tTup (tCons (tCall (spJ K n) [] E0 (tCons (tVar 0) (tCons (tOp (rIx K) (tVar 7) (tC (V.int 0))) (tCons (tVar 4) tNil)))) (tCons (tCall (spJ K n) [] E0 (tCons (tVar 0) (tCons (tOp (rIx K) (tVar 7) (tC (V.int 1))) (tCons (tVar 5) tNil)))) tNil))) tNil))))
        { nx := fun _ H' => Q .non H', rt := Q } [some (.ref a), some (.int k), some (.int left), some (.int kind), some (.int (1 + r1)), some (.int (left - 1 - (1 + r1))), some (.str z), some (.ref t), o8, o9, o10] H4 := by
    intro H4 z t k1 k2 o8 o9 o10 s4 hS4 hz hT4 a1 a2 a3 a4
    walk_at "go"
    refine ⟨lk rfl, fun q1 hq1 => ?_⟩
    have hTq : SqT K (upd H4 q1 (.tup [])) q1 [] := SqT.of upd_same
    have hTt := Ext.new (o := .tup []) hq1 _ _ hT4
    have s5 := s4.new (o := .tup []) hq1
    have hS5 := hS4.new (o := .tup []) hq1
    generalize upd H4 q1 (.tup []) = H5 at *
    walk_at "go"
    refine u_ixT hTt rfl ?_
    walk_at "go"
    refine use_j hS5 a1 a2 (by omega) (by omega) (by omega) fun H6 v1 j1 s6 hS6 hr1 hok1 hc1 => ?_
    have x6 := hS5.ext (K := K) s6
    walk_at "go"
    refine u_ixT (x6 _ _ hTt) rfl ?_
    walk_at "go"
    refine use_j hS6 a3 a4 (by omega) (by omega) (by omega) fun H7 v2 j2 s7 hS7 hr2 hok2 hc2 => ?_
    have x7 := hS6.ext (K := K) s7
    walk_at "go"
    refine ⟨lk rfl, fun q2 hq2 => ?_⟩
    walk_at "go"
    refine ⟨lk rfl, fun q3 hq3 => ?_⟩
    have x8 := Ext.new (K := K) (o := .tup [v1, v2]) hq2
    refine q _ _ (.mk z [] [j1, j2]) ((((s5.trans s6).trans s7).new hq2).new hq3) ((hS7.new hq2).new hq3) (mkJ (x8 _ _ (x7 _ _ (x6 _ _ hTq))) .nil (SqT.of upd_same) (.cons ((hr1.mono x7 _ _).mono x8 _ _) (.cons (hr2.mono x8 _ _) .nil)) hq3) ?_ ?_
    · refine Fx.node ?_ hz.2 (fun p hp => by
        rcases List.mem_cons.mp hp with rfl | hp
        · exact hok1
        · rw [List.mem_singleton.mp hp]
          exact hok2)
      simp only [Jn.ok, Jn.oks]
      exact ⟨hz.1, by simp, (fun d hd => nomatch hd), by simp, hok1.ok, hok2.ok, trivial⟩
    · simp only [Jn.cnt, Jn.cnts]
      omega
  have okd : okS (Str.ofString "dot") ∧ toldFits (Str.ofString "dot") [] = true ∧ partsFit (Str.ofString "dot") 2 = true := ⟨okS_of (by decide +kernel) (by decide +kernel), by decide +kernel, by decide +kernel⟩
  have oko : okS (Str.ofString "outer") ∧ toldFits (Str.ofString "outer") [] = true ∧ partsFit (Str.ofString "outer") 2 = true := ⟨okS_of (by decide +kernel) (by decide +kernel), by decide +kernel, by decide +kernel⟩
  have okb : okS (Str.ofString "blend") ∧ toldFits (Str.ofString "blend") [] = true ∧ partsFit (Str.ofString "blend") 2 = true := ⟨okS_of (by decide +kernel) (by decide +kernel), by decide +kernel, by decide +kernel⟩
  walk_at "go"
  by_cases d8 : k = 1 ∧ kind = 8
  · obtain ⟨rfl, rfl⟩ := d8
    refine rd_split (fun _ => ?_) (fun c => absurd rfl c)
    walk_at "go"
    refine rd_split (fun _ => ?_) (fun c => absurd rfl c)
    walk_at "go"
    refine use_take hSB (by omega) (by omega) fun H4 r s4 hS4 r0 r2 => ?_
    walk_at "go"
    refine ⟨lk rfl, fun t2 ht2 => ?_⟩
    walk_at "go"
    refine rd_split (fun c => absurd c (by omega)) (fun _ => ?_)
    walk_at "go"
    refine rd_split (fun c => absurd c (by omega)) (fun _ => ?_)
    walk_at "go"
    refine rd_split (fun c => absurd c (by omega)) (fun _ => ?_)
    walk_at "nx"
    exact final _ _ _ _ _ _ _ _ ((sB.trans s4).new ht2) (hS4.new ht2) okd (SqT.of upd_same) (by omega) (by omega) (by omega) (by omega)
  · refine rd_split (fun c1 => ?_) (fun c1 => ?_)
    · walk_at "go"
      refine rd_split (fun c => absurd ⟨c1, c⟩ d8) (fun _ => ?_)
      walk_at "go"
      refine rd_split (fun c9 => ?_) (fun c9 => ?_)
      walk_at "go"
      intro D hD
      refine lc_range (lo := 1) (fun i H' => ∃ ns : List Int, H' D = some (.lst (ns.map V.int)) ∧ (∀ n ∈ ns, 1 ≤ n ∧ k % n = 0) ∧ (1 ≤ i → ns ≠ []) ∧ ns.length ≤ i ∧ Same H3 H') ⟨[], upd_same, (fun _ h => nomatch h), (fun h => absurd h (by omega)), Nat.le_refl _, Same.upd_new (Same.refl H3) hD⟩ ?_ ?_
      rintro i H' hi ⟨ns, g1, g2, g3, g4, g5⟩
      walk_at "go"
      refine ⟨rfl, ?_⟩
      walk_at "go"
      refine rd_split (fun c0 => ?_) (fun c0 => ?_)
      walk_at "go"
      refine ⟨_, g1, by rw [List.length_map]; exact ls (by omega), ns ++ [1 + (i : Int)], by rw [upd_same, List.map_append] <;> rfl, fun n hn => ?_, fun _ h => by simp at h, by rw [List.length_append]; exact Nat.succ_le_succ g4, Same.upd_new g5 hD⟩
      rcases List.mem_append.mp hn with h | h
      exact g2 n h
      rw [show n = 1 + (i : Int) by simpa using h]
      exact ⟨by omega, c0⟩
      refine ⟨ns, g1, g2, fun _ => ?_, by omega, g5⟩
      by_cases i0 : i = 0
      subst i0
      exact absurd (by simp) c0
      exact g3 (by omega)
      rintro H4 ⟨ns, g1, g2, g3, g4, g5⟩
      have sC : SB a H H4 := sB.trans (SB.of_same g5)
      have hS4 : Src H4 a := hSB.same g5
      walk_at "go"
      have ln : 0 < ns.length := List.length_pos_iff.mpr (g3 (by omega))
      refine use_one hS4 (SqL.of g1) (hSB.ne hD) (by rw [List.length_map]; exact ln) (by rw [List.length_map]; omega) fun H5 v s5 hS5 hv => ?_
      obtain ⟨n, hn, rfl⟩ := List.mem_map.mp hv
      obtain ⟨n1, n2⟩ := g2 n hn
      obtain ⟨n3, n4, n5⟩ := mod_le hk1 n1 n2
      walk_at "go"
      refine ⟨lk rfl, fun t2 ht2 => ?_⟩
      walk_at "go"
      refine rd_split (fun c => absurd c (by omega)) (fun _ => ?_)
      walk_at "go"
      refine rd_split (fun c => absurd c (by omega)) (fun _ => ?_)
      walk_at "nx"
      exact final _ _ _ _ _ _ _ _ ((sC.trans s5).new ht2) (hS5.new ht2) oko (SqT.of upd_same) (by omega) (by omega) (by omega) (by omega)
      walk_at "go"
      refine rd_split (fun c10 => ?_) (fun c10 => ?_)
      walk_at "go"
      refine use_take hSB (by omega) (by omega) fun H4 r s4 hS4 r0 r2 => ?_
      walk_at "go"
      refine ⟨lk rfl, fun t2 ht2 => ?_⟩
      walk_at "go"
      refine rd_split (fun c => absurd c (by omega)) (fun _ => ?_)
      walk_at "nx"
      exact final _ _ _ _ _ _ _ _ ((sB.trans s4).new ht2) (hS4.new ht2) okb (SqT.of upd_same) (by omega) (by omega) (by omega) (by omega)
      walk_at "go"
      refine rd_split (fun c => ?_) (fun c => ?_)
      walk_at "go"
      refine rd_split (fun c2 => ?_) (fun c2 => ?_)
      walk_at "go"
      exact ⟨a, k, left, rfl, hSB, by omega, hk2, hl1, by omega, hl3, fun H' v j s hS' hr' hok hc => q H' v j (sB.trans s) hS' hr' hok hc⟩
      walk_at "nx"
      exact final _ _ _ _ _ _ _ _ sB hSB hz hT hk1 hk2 hk1 hk2
      walk_at "nx"
      exact final _ _ _ _ _ _ _ _ sB hSB hz hT hk1 hk2 hk1 hk2
    · walk_at "go"
      refine rd_split (fun c9 => ?_) (fun c9 => ?_)
      walk_at "go"
      intro D hD
      refine lc_range (lo := 1) (fun i H' => ∃ ns : List Int, H' D = some (.lst (ns.map V.int)) ∧ (∀ n ∈ ns, 1 ≤ n ∧ k % n = 0) ∧ (1 ≤ i → ns ≠ []) ∧ ns.length ≤ i ∧ Same H3 H') ⟨[], upd_same, (fun _ h => nomatch h), (fun h => absurd h (by omega)), Nat.le_refl _, Same.upd_new (Same.refl H3) hD⟩ ?_ ?_
      rintro i H' hi ⟨ns, g1, g2, g3, g4, g5⟩
      walk_at "go"
      refine ⟨rfl, ?_⟩
      walk_at "go"
      refine rd_split (fun c0 => ?_) (fun c0 => ?_)
      walk_at "go"
      refine ⟨_, g1, by rw [List.length_map]; exact ls (by omega), ns ++ [1 + (i : Int)], by rw [upd_same, List.map_append] <;> rfl, fun n hn => ?_, fun _ h => by simp at h, by rw [List.length_append]; exact Nat.succ_le_succ g4, Same.upd_new g5 hD⟩
      rcases List.mem_append.mp hn with h | h
      exact g2 n h
      rw [show n = 1 + (i : Int) by simpa using h]
      exact ⟨by omega, c0⟩
      refine ⟨ns, g1, g2, fun _ => ?_, by omega, g5⟩
      by_cases i0 : i = 0
      subst i0
      exact absurd (by simp) c0
      exact g3 (by omega)
      rintro H4 ⟨ns, g1, g2, g3, g4, g5⟩
      have sC : SB a H H4 := sB.trans (SB.of_same g5)
      have hS4 : Src H4 a := hSB.same g5
      walk_at "go"
      have ln : 0 < ns.length := List.length_pos_iff.mpr (g3 (by omega))
      refine use_one hS4 (SqL.of g1) (hSB.ne hD) (by rw [List.length_map]; exact ln) (by rw [List.length_map]; omega) fun H5 v s5 hS5 hv => ?_
      obtain ⟨n, hn, rfl⟩ := List.mem_map.mp hv
      obtain ⟨n1, n2⟩ := g2 n hn
      obtain ⟨n3, n4, n5⟩ := mod_le hk1 n1 n2
      walk_at "go"
      refine ⟨lk rfl, fun t2 ht2 => ?_⟩
      walk_at "go"
      refine rd_split (fun c => absurd c (by omega)) (fun _ => ?_)
      walk_at "go"
      refine rd_split (fun c => absurd c (by omega)) (fun _ => ?_)
      walk_at "nx"
      exact final _ _ _ _ _ _ _ _ ((sC.trans s5).new ht2) (hS5.new ht2) oko (SqT.of upd_same) (by omega) (by omega) (by omega) (by omega)
      walk_at "go"
      refine rd_split (fun c10 => ?_) (fun c10 => ?_)
      walk_at "go"
      refine use_take hSB (by omega) (by omega) fun H4 r s4 hS4 r0 r2 => ?_
      walk_at "go"
      refine ⟨lk rfl, fun t2 ht2 => ?_⟩
      walk_at "go"
      refine rd_split (fun c => absurd c (by omega)) (fun _ => ?_)
      walk_at "nx"
      exact final _ _ _ _ _ _ _ _ ((sB.trans s4).new ht2) (hS4.new ht2) okb (SqT.of upd_same) (by omega) (by omega) (by omega) (by omega)
      walk_at "go"
      refine rd_split (fun c => ?_) (fun c => ?_)
      walk_at "go"
      refine rd_split (fun c2 => ?_) (fun c2 => ?_)
      walk_at "go"
      exact ⟨a, k, left, rfl, hSB, by omega, hk2, hl1, by omega, hl3, fun H' v j s hS' hr' hok hc => q H' v j (sB.trans s) hS' hr' hok hc⟩
      walk_at "nx"
      exact final _ _ _ _ _ _ _ _ sB hSB hz hT hk1 hk2 hk1 hk2
      walk_at "nx"
      exact final _ _ _ _ _ _ _ _ sB hSB hz hT hk1 hk2 hk1 hk2
end

/-! ### L7 -/
section
variable {P : Program} {w : World} {K : PySem.W.Frag} {mg : Str → Option Value} {base : Heap}
abbrev s_law_joint : Stmt := top 63
theorem sc_law_joint : FnScope ["source", "k", "left", "kind", "i", "more", "n"] ["source", "k", "left"] (defScope s_law_joint) := ⟨rfl, rfl, rfl, by decide +kernel, rfl, by decide +kernel, by decide +kernel⟩
theorem step_joint {n l : Nat} (hl : 4 ≤ l) (O : OwnF K mg "_law_joint" s_law_joint) (B : Bl mg) (h_law_take : HasF P w K mg base CX0 1 "_law_take" ["source", "top"] spTake) (h_law_one : HasF P w K mg base CX0 2 "_law_one" ["source", "things"] (spOne K)) (h_law_leaf : HasF P w K mg base CX0 4 "_law_leaf" ["source", "k"] (spLeaf K))
    (h_law_joint : HasF P w K mg base CX0 l "_law_joint" ["source", "k", "left"] (spJ K n)) (h_law_forked : HasF P w K mg base CX0 (l + 2) "_law_forked" ["source", "k", "left", "kind"] (spFk K (n + 1))) : HasF P w K mg base CX0 (l + 3) "_law_joint" ["source", "k", "left"] (spJ K (n + 1)) := by
  refine has0 O sc_law_joint (fun _ _ _ _ _ _ us hl => match us, hl with | [_, _, _], _ => rfl) (fun vs H Q E h => ?_) (fun f cdv A outer s_ H vs Q E hr h => ?_)
  · obtain ⟨a, k, left, rfl, _⟩ := h
    rfl
  obtain ⟨a, k, left, rfl, hS, hk1, hk2, hl1, hl2, hl3, q⟩ := h
  have fin : ∀ (H6 : Hp) (z : Str) (t q2 q3 : Addr) (tv : List V) (td : List PyData) (v1 : V) (j1 : Jn), SB a H H6 → Src H6 a → (okS z ∧ toldFits z td = true ∧ partsFit z 1 = true) → SqT K H6 t tv → Rps K H6 tv td → td.length ≤ 64 → (∀ d ∈ td, flatD d) → Rp K H6 v1 j1.py → Fx j1 → (j1.cnt : Int) ≤ left - 1 → H6 q2 = none →
      upd H6 q2 (.tup [v1]) q3 = none → Q (.ref q3) (upd (upd H6 q2 (.tup [v1])) q3 (.tup [.str z, .ref t, .ref q2])) := by
    intro H6 z t q2 q3 tv td v1 j1 s6 hS6 hz hT hTr htl htf hr1 hok hc hq2 hq3
    have x8 := Ext.new (K := K) (o := .tup [v1]) hq2
    refine q _ _ (.mk z td [j1]) ((s6.new hq2).new hq3) ((hS6.new hq2).new hq3) (mkJ (x8 _ _ hT) (hTr.mono x8 _ _) (SqT.of upd_same) (.cons (hr1.mono x8 _ _) .nil) hq3) ?_ ?_
    · refine Fx.node ?_ hz.2 (fun p hp => by
        rw [List.mem_singleton.mp hp]
        exact hok)
      simp only [Jn.ok, Jn.oks]
      exact ⟨hz.1, htl, htf, by simp, hok.ok, trivial⟩
    · simp only [Jn.cnt, Jn.cnts]
      omega
  have ok1 : okS (Str.ofString "rev") := okS_of (by decide +kernel) (by decide +kernel)
  have ok2 : okS (Str.ofString "sort") := okS_of (by decide +kernel) (by decide +kernel)
  have ok3 : okS (Str.ofString "hold") := okS_of (by decide +kernel) (by decide +kernel)
  have ok4 : okS (Str.ofString "part") := okS_of (by decide +kernel) (by decide +kernel)
  have ok5 : okS (Str.ofString "rep") := okS_of (by decide +kernel) (by decide +kernel)
  have ok6 : okS (Str.ofString "sum") := okS_of (by decide +kernel) (by decide +kernel)
  have ok7 : okS (Str.ofString "top") := okS_of (by decide +kernel) (by decide +kernel)
  have ok8 : okS (Str.ofString "cat") := okS_of (by decide +kernel) (by decide +kernel)
  have fl1 : ∀ i : Int, ∀ d ∈ [PyData.int i], flatD d := fun i d hd => by
    rw [show d = .int i by simpa using hd]
    exact trivial
  refine ⟨_, (pss_cons (ps_set (i := 3) sc_law_joint.nd rfl (by first | exact Or.inl rfl | exact Or.inr rfl) (pe_callH h_law_take (hr.mono (by first | decide | omega)) (by rfl) pass0 (pa_cons (pv 0) (pa_cons pe_int pa_nil)))) (pss_cons (ps_if (PW.pt (pw_or (pt_cmpR ltU (pv 2) pe_int (nomark _)) (pw_or1 (pt_cmpR (kEqG K (hU hr)) (pv 3) pe_int (nomark _))))) (pss_one (ps_ret (pe_callH h_law_leaf (hr.mono (by first | decide | omega)) (by rfl) pass0 (pa_cons (pv 0) (pa_cons (pv 1) pa_nil))))) pss_nil) (pss_cons (ps_if (pt_cmpR ltU (pv 3) pe_int (nomark _)) (pss_one (ps_ret (pe_tup (pa_cons (pe_callH h_law_one (hr.mono (by first | decide | omega)) (by rfl) pass0 (pa_cons (pv 0) (pa_cons (pe_lst (pa_cons pe_str (pa_cons pe_str pa_nil))) pa_nil))) (pa_cons (pe_tup pa_nil) (pa_cons (pe_tup (pa_cons (pe_callH h_law_joint (hr.mono (by first | decide | omega)) (by rfl) pass0 (pa_cons (pv 0) (pa_cons (pv 1) (pa_cons (pe_op subU (pv 2) pe_int) pa_nil)))) pa_nil)) pa_nil)))))) pss_nil) (pss_cons (ps_if (pt_cmpR (kEqG K (hU hr)) (pv 3) pe_int (nomark _)) (pss_one (ps_ret (pe_tup (pa_cons pe_str (pa_cons (pe_tup (pa_cons (pe_callH h_law_take (hr.mono (by first | decide | omega)) (by rfl) pass0 (pa_cons (pv 0) (pa_cons (pe_callH h_law_one (hr.mono (by first | decide | omega)) (by rfl) pass0 (pa_cons (pv 0) (pa_cons (pe_lst (pa_cons pe_int (pa_cons pe_int (pa_cons pe_int pa_nil)))) pa_nil))) pa_nil))) pa_nil)) (pa_cons (pe_tup (pa_cons (pe_callH h_law_joint (hr.mono (by first | decide | omega)) (by rfl) pass0 (pa_cons (pv 0) (pa_cons (pv 1) (pa_cons (pe_op subU (pv 2) pe_int) pa_nil)))) pa_nil)) pa_nil)))))) pss_nil) (pss_cons (ps_if (PW.pt (pw_and (pt_cmpR (kEqG K (hU hr)) (pv 3) pe_int (nomark _)) (pw_and1 (pt_cmpR ltU (pv 1) pe_int (nomark _))))) (pss_cons (ps_par (i := 4) (j := 5) (by rfl) sc_law_joint.nd rfl rfl (by decide) rfl rfl (pa_cons (pe_callH h_law_take (hr.mono (by first | decide | omega)) (by rfl) pass0 (pa_cons (pv 0) (pa_cons pe_int pa_nil))) (pa_cons (pe_callH h_law_take (hr.mono (by first | decide | omega)) (by rfl) pass0 (pa_cons (pv 0) (pa_cons pe_int pa_nil))) pa_nil)) (by rfl)) (pss_one (ps_ret (pe_tup (pa_cons pe_str (pa_cons (pe_tup (pa_cons (pv 4) (pa_cons (pe_op (kAdd K) (pv 4) (pv 1)) pa_nil))) (pa_cons (pe_tup (pa_cons (pe_callH h_law_joint (hr.mono (by first | decide | omega)) (by rfl) pass0 (pa_cons (pv 0) (pa_cons (pe_op (kAdd K) (pe_op (kAdd K) (pv 4) (pv 1)) (pv 5)) (pa_cons (pe_op subU (pv 2) pe_int) pa_nil)))) pa_nil)) pa_nil))))))) pss_nil) (pss_cons (ps_if (pt_cmpR (kEqG K (hU hr)) (pv 3) pe_int (nomark _)) (pss_cons (ps_set (i := 6) sc_law_joint.nd rfl (by first | exact Or.inl rfl | exact Or.inr rfl) (pe_callH h_law_one (hr.mono (by first | decide | omega)) (by rfl) pass0 (pa_cons (pv 0) (pa_cons (pe_lc (own := [("n", 6)]) (g := gName 6) (tt := _) rfl sc_law_joint.nd (pi_range2 (by rfl) B.range (pa_cons pe_int (pa_cons pe_int pa_nil))) (blkOk_by (own := [("n", 6)]) (N := ["source", "k", "left", "kind", "i", "more", "n"]) (sc := defScope s_law_joint) (by decide +kernel)) (fun _ _ _ _ _ => (pg_name (i := 6) sc_law_joint.nd rfl (by first | exact Or.inl rfl | exact Or.inr rfl))) (fun _ _ _ _ _ => (pts_one (pt_cmpR (kEqG K (hU hr)) (pe_op modU (pe_callTy intU (by rfl) B.int (by decide +kernel) (pa_cons (pv 1) pa_nil)) (pv 6)) pe_int (nomark _)))) (fun _ _ _ _ _ => (pv 6))) pa_nil)))) (pss_one (ps_ret (pe_tup (pa_cons pe_str (pa_cons (pe_tup (pa_cons (pv 6) pa_nil)) (pa_cons (pe_tup (pa_cons (pe_callH h_law_joint (hr.mono (by first | decide | omega)) (by rfl) pass0 (pa_cons (pv 0) (pa_cons (pe_op divU (pv 1) (pv 6)) (pa_cons (pe_op subU (pv 2) pe_int) pa_nil)))) pa_nil)) pa_nil))))))) pss_nil) (pss_cons (ps_if (PW.pt (pw_and (pt_cmpR (kEqG K (hU hr)) (pv 1) pe_int (nomark _)) (pw_and1 (pt_cmpR ltU (pv 3) pe_int (nomark _))))) (pss_one (ps_ret (pe_tup (pa_cons (pe_callH h_law_one (hr.mono (by first | decide | omega)) (by rfl) pass0 (pa_cons (pv 0) (pa_cons (pe_lst (pa_cons pe_str (pa_cons pe_str pa_nil))) pa_nil))) (pa_cons (pe_tup pa_nil) (pa_cons (pe_tup (pa_cons (pe_callH h_law_joint (hr.mono (by first | decide | omega)) (by rfl) pass0 (pa_cons (pv 0) (pa_cons (pe_op (kAdd K) pe_int (pe_callH h_law_take (hr.mono (by first | decide | omega)) (by rfl) pass0 (pa_cons (pv 0) (pa_cons pe_int pa_nil)))) (pa_cons (pe_op subU (pv 2) pe_int) pa_nil)))) pa_nil)) pa_nil)))))) pss_nil) (pss_cons (ps_if (pt_cmpR ltU (pv 2) pe_int (nomark _)) (pss_one (ps_ret (pe_tup (pa_cons pe_str (pa_cons (pe_tup pa_nil) (pa_cons (pe_tup (pa_cons (pe_callH h_law_joint (hr.mono (by first | decide | omega)) (by rfl) pass0 (pa_cons (pv 0) (pa_cons (pv 1) (pa_cons (pe_op subU (pv 2) pe_int) pa_nil)))) pa_nil)) pa_nil)))))) pss_nil) (pss_one (ps_ret (pe_callH h_law_forked (hr.mono (by first | decide | omega)) (by rfl) pass0 (pa_cons (pv 0) (pa_cons (pv 1) (pa_cons (pv 2) (pa_cons (pv 3) pa_nil))))))))))))))), ?_⟩
  refine st0 [some (.ref a), some (.int k), some (.int left), none, none, none, none] rfl ?_
  walk_at "go"
  refine use_take hS (by omega) (by omega) fun H1 kind s1 hS1 h10 h11 => ?_
  walk_at "go"
  refine rd_split (fun c => ?_) (fun c => ?_)
  · walk_at "go"
    exact use_leaf hS1 hk1 hk2 fun H' v j s hS' hr' hok hc => q H' v j (s1.trans s) hS' hr' hok (by omega)
  walk_at "go"
  refine rd_split (fun c0 => ?_) (fun c0 => ?_)
  · walk_at "go"
    exact use_leaf hS1 hk1 hk2 fun H' v j s hS' hr' hok hc => q H' v j (s1.trans s) hS' hr' hok (by omega)
  walk_at "go"
  refine rd_split (fun c3 => ?_) (fun c3 => ?_)
  · walk_at "go"
    refine ⟨lk rfl, fun p hp => ?_⟩
    walk_at "go"
    refine use_one (hS1.new hp) (SqL.of upd_same) (hS1.ne hp) (by show 0 < 2; omega) (by show 2 < 1000; omega) fun H2 v s2 hS2 hv => ?_
    obtain ⟨z, rfl, hz⟩ : ∃ z, v = .str z ∧ (okS z ∧ toldFits z [] = true ∧ partsFit z 1 = true) := by
      have hv' : v = .str "rev" ∨ v = .str "sort" := by simpa using hv
      rcases hv' with rfl | rfl
      · exact ⟨_, rfl, ok1, by decide +kernel, by decide +kernel⟩
      · exact ⟨_, rfl, ok2, by decide +kernel, by decide +kernel⟩
    have sA : SB a H H2 := s1.trans ((SB.refl.new hp).trans s2)
    walk_at "go"
    refine ⟨lk rfl, fun t ht => ?_⟩
    walk_at "go"
    refine use_j (hS2.new ht) hk1 hk2 (by omega) (by omega) (by omega) fun H6 v1 j1 s6 hS6 hr1 hok1 hc1 => ?_
    walk_at "go"
    refine ⟨lk rfl, fun q2 hq2 => ?_⟩
    walk_at "go"
    refine ⟨lk rfl, fun q3 hq3 => ?_⟩
    exact fin _ _ _ _ _ _ _ _ _ ((sA.new ht).trans s6) hS6 hz ((hS2.new ht).ext s6 _ _ (SqT.of upd_same)) .nil (by simp) (fun d hd => nomatch hd) hr1 hok1 hc1 hq2 hq3
  walk_at "go"
  refine rd_split (fun c4 => ?_) (fun c4 => ?_)
  · walk_at "go"
    refine ⟨lk rfl, fun p hp => ?_⟩
    walk_at "go"
    refine use_one (hS1.new hp) (SqL.of upd_same) (hS1.ne hp) (by show 0 < 3; omega) (by show 3 < 1000; omega) fun H2 v s2 hS2 hv => ?_
    obtain ⟨z, rfl, hz1, hz2⟩ : ∃ z, v = .int z ∧ 0 < z ∧ z < 66 := by
      have hv' : v = .int 2 ∨ v = .int 9 ∨ v = .int 65 := by simpa using hv
      rcases hv' with rfl | rfl | rfl
      · exact ⟨_, rfl, by omega, by omega⟩
      · exact ⟨_, rfl, by omega, by omega⟩
      · exact ⟨_, rfl, by omega, by omega⟩
    have sA : SB a H H2 := s1.trans ((SB.refl.new hp).trans s2)
    walk_at "go"
    refine use_take hS2 (by omega) (by omega) fun H3 r s3 hS3 r0 r1 => ?_
    walk_at "go"
    refine ⟨lk rfl, fun t ht => ?_⟩
    walk_at "go"
    refine use_j (hS3.new ht) hk1 hk2 (by omega) (by omega) (by omega) fun H6 v1 j1 s6 hS6 hr1 hok1 hc1 => ?_
    walk_at "go"
    refine ⟨lk rfl, fun q2 hq2 => ?_⟩
    walk_at "go"
    refine ⟨lk rfl, fun q3 hq3 => ?_⟩
    exact fin _ _ _ _ _ _ _ _ _ (((sA.trans s3).new ht).trans s6) hS6 ⟨ok3, by rw [fits_hold]; exact btw_ok (by omega) (by omega), by decide +kernel⟩ ((hS3.new ht).ext s6 _ _ (SqT.of upd_same)) (.one (.int r)) (by simp) (fl1 r) hr1 hok1 hc1 hq2 hq3
  walk_at "go"
  refine rd_split (fun k4 => ?_) (fun k4 => ?_)
  walk_at "go"
  refine rd_split (fun k60 => ?_) (fun k60 => ?_)
  walk_at "go"
  refine use_take hS1 (by omega) (by omega) fun H2 i s2 hS2 i0 i1 => ?_
  walk_at "go"
  refine use_take hS2 (by omega) (by omega) fun H3 m s3 hS3 m0 m1 => ?_
  walk_at "go"
  refine ⟨lk rfl, fun t ht => ?_⟩
  walk_at "go"
  refine use_j (hS3.new ht) (by omega) (by omega) (by omega) (by omega) (by omega) fun H6 v1 j1 s6 hS6 hr1 hok1 hc1 => ?_
  walk_at "go"
  refine ⟨lk rfl, fun q2 hq2 => ?_⟩
  walk_at "go"
  refine ⟨lk rfl, fun q3 hq3 => ?_⟩
  exact fin _ _ _ _ _ _ _ _ _ ((((s1.trans s2).trans s3).new ht).trans s6) hS6 ⟨ok4, by rw [fits_part]; show (isBtw (.int (i + k)) 0 64 && isBtw (.int i) 0 (i + k - 1)) = true; rw [btw_ok (by omega) (by omega), btw_ok (by omega) (by omega)] <;> rfl, by decide +kernel⟩ ((hS3.new ht).ext s6 _ _ (SqT.of upd_same)) (.cons (.int i) (.one (.int (i + k)))) (by simp) (fun d hd => by rcases (show d = .int i ∨ d = .int (i + k) by simpa using hd) with rfl | rfl <;> exact trivial) hr1 hok1 hc1 hq2 hq3
  walk_at "go"
  refine rd_split (fun c5 => ?_) (fun c5 => ?_)
  walk_at "go"
  intro D hD
  refine lc_range (lo := 1) (fun i H' => ∃ ns : List Int, H' D = some (.lst (ns.map V.int)) ∧ (∀ n ∈ ns, 1 ≤ n ∧ k % n = 0 ∧ n ≤ 16) ∧ (1 ≤ i → ns ≠ []) ∧ ns.length ≤ i ∧ Same H1 H') ⟨[], upd_same, (fun _ h => nomatch h), (fun h => absurd h (by omega)), Nat.le_refl _, Same.upd_new (Same.refl H1) hD⟩ ?_ ?_
  rintro i H' hi ⟨ns, g1, g2, g3, g4, g5⟩
  have hi2 : i < 16 := hi
  walk_at "go"
  refine ⟨rfl, ?_⟩
  walk_at "go"
  refine rd_split (fun c0 => ?_) (fun c0 => ?_)
  walk_at "go"
  refine ⟨_, g1, by rw [List.length_map]; exact ls (by omega), ns ++ [1 + (i : Int)], by rw [upd_same, List.map_append] <;> rfl, fun n hn => ?_, fun _ h => by simp at h, by rw [List.length_append]; exact Nat.succ_le_succ g4, Same.upd_new g5 hD⟩
  rcases List.mem_append.mp hn with h | h
  exact g2 n h
  rw [show n = 1 + (i : Int) by simpa using h]
  exact ⟨by omega, c0, by omega⟩
  refine ⟨ns, g1, g2, fun _ => ?_, by omega, g5⟩
  by_cases i0 : i = 0
  subst i0
  exact absurd (by simp) c0
  exact g3 (by omega)
  rintro H4 ⟨ns, g1, g2, g3, g4, g5⟩
  have g4' : ns.length ≤ 16 := g4
  have sC : SB a H H4 := s1.trans (SB.of_same g5)
  have hS4 : Src H4 a := hS1.same g5
  walk_at "go"
  have ln : 0 < ns.length := List.length_pos_iff.mpr (g3 (by decide))
  refine use_one hS4 (SqL.of g1) (hS1.ne hD) (by rw [List.length_map]; exact ln) (by rw [List.length_map]; omega) fun H5 v s5 hS5 hv => ?_
  obtain ⟨n, hn, rfl⟩ := List.mem_map.mp hv
  obtain ⟨n1, n2, n16⟩ := g2 n hn
  obtain ⟨n3, n4, n5⟩ := mod_le hk1 n1 n2
  walk_at "go"
  refine ⟨lk rfl, fun t ht => ?_⟩
  walk_at "go"
  refine use_j (hS5.new ht) n4 (by omega) (by omega) (by omega) (by omega) fun H6 v1 j1 s6 hS6 hr1 hok1 hc1 => ?_
  walk_at "go"
  refine ⟨lk rfl, fun q2 hq2 => ?_⟩
  walk_at "go"
  refine ⟨lk rfl, fun q3 hq3 => ?_⟩
  exact fin _ _ _ _ _ _ _ _ _ (((sC.trans s5).new ht).trans s6) hS6 ⟨ok5, by rw [fits_rep]; exact btw_ok n1 n16, by decide +kernel⟩ ((hS5.new ht).ext s6 _ _ (SqT.of upd_same)) (.one (.int n)) (by simp) (fl1 n) hr1 hok1 hc1 hq2 hq3
  walk_at "go"
  refine rd_split (fun ck => ?_) (fun ck => ?_)
  walk_at "go"
  refine rd_split (fun c8 => ?_) (fun c8 => ?_)
  walk_at "go"
  refine ⟨lk rfl, fun p hp => ?_⟩
  walk_at "go"
  refine use_one (hS1.new hp) (SqL.of upd_same) (hS1.ne hp) (by show 0 < 2; omega) (by show 2 < 1000; omega) fun H2 v s2 hS2 hv => ?_
  obtain ⟨z, rfl, hz⟩ : ∃ z, v = .str z ∧ (okS z ∧ toldFits z [] = true ∧ partsFit z 1 = true) := (by
    have hv' : v = .str "sum" ∨ v = .str "top" := by simpa using hv
    rcases hv' with rfl | rfl
    · exact ⟨_, rfl, ok6, by decide +kernel, by decide +kernel⟩
    · exact ⟨_, rfl, ok7, by decide +kernel, by decide +kernel⟩)
  have sA : SB a H H2 := s1.trans ((SB.refl.new hp).trans s2)
  walk_at "go"
  refine ⟨lk rfl, fun t ht => ?_⟩
  walk_at "go"
  refine use_take (hS2.new ht) (by omega) (by omega) fun H3 r s3 hS3 r0 r1 => ?_
  walk_at "go"
  refine use_j hS3 (by omega) (by omega) (by omega) (by omega) (by omega) fun H6 v1 j1 s6 hS6 hr1 hok1 hc1 => ?_
  walk_at "go"
  refine ⟨lk rfl, fun q2 hq2 => ?_⟩
  walk_at "go"
  refine ⟨lk rfl, fun q3 hq3 => ?_⟩
  exact fin _ _ _ _ _ _ _ _ _ (((sA.new ht).trans s3).trans s6) hS6 hz (hS3.ext s6 _ _ ((hS2.new ht).ext s3 _ _ (SqT.of upd_same))) .nil (by simp) (fun d hd => nomatch hd) hr1 hok1 hc1 hq2 hq3
  walk_at "go"
  refine rd_split (fun cl => ?_) (fun cl => ?_)
  walk_at "go"
  refine ⟨lk rfl, fun t ht => ?_⟩
  walk_at "go"
  refine use_j (hS1.new ht) hk1 hk2 (by omega) (by omega) (by omega) fun H6 v1 j1 s6 hS6 hr1 hok1 hc1 => ?_
  walk_at "go"
  refine ⟨lk rfl, fun q2 hq2 => ?_⟩
  walk_at "go"
  refine ⟨lk rfl, fun q3 hq3 => ?_⟩
  exact fin _ _ _ _ _ _ _ _ _ ((s1.new ht).trans s6) hS6 ⟨ok8, by decide +kernel, by decide +kernel⟩ ((hS1.new ht).ext s6 _ _ (SqT.of upd_same)) .nil (by simp) (fun d hd => nomatch hd) hr1 hok1 hc1 hq2 hq3
  walk_at "go"
  exact ⟨a, k, left, kind, rfl, hS1, hk1, hk2, by omega, hl2, hl3, fun H' v j s hS' hr' hok hc => q H' v j (s1.trans s) hS' hr' hok hc⟩
  walk_at "go"
  refine rd_split (fun cl => ?_) (fun cl => ?_)
  walk_at "go"
  refine ⟨lk rfl, fun t ht => ?_⟩
  walk_at "go"
  refine use_j (hS1.new ht) hk1 hk2 (by omega) (by omega) (by omega) fun H6 v1 j1 s6 hS6 hr1 hok1 hc1 => ?_
  walk_at "go"
  refine ⟨lk rfl, fun q2 hq2 => ?_⟩
  walk_at "go"
  refine ⟨lk rfl, fun q3 hq3 => ?_⟩
  exact fin _ _ _ _ _ _ _ _ _ ((s1.new ht).trans s6) hS6 ⟨ok8, by decide +kernel, by decide +kernel⟩ ((hS1.new ht).ext s6 _ _ (SqT.of upd_same)) .nil (by simp) (fun d hd => nomatch hd) hr1 hok1 hc1 hq2 hq3
  walk_at "go"
  exact ⟨a, k, left, kind, rfl, hS1, hk1, hk2, by omega, hl2, hl3, fun H' v j s hS' hr' hok hc => q H' v j (s1.trans s) hS' hr' hok hc⟩
  walk_at "go"
  refine rd_split (fun c5 => ?_) (fun c5 => ?_)
  walk_at "go"
  intro D hD
  refine lc_range (lo := 1) (fun i H' => ∃ ns : List Int, H' D = some (.lst (ns.map V.int)) ∧ (∀ n ∈ ns, 1 ≤ n ∧ k % n = 0 ∧ n ≤ 16) ∧ (1 ≤ i → ns ≠ []) ∧ ns.length ≤ i ∧ Same H1 H') ⟨[], upd_same, (fun _ h => nomatch h), (fun h => absurd h (by omega)), Nat.le_refl _, Same.upd_new (Same.refl H1) hD⟩ ?_ ?_
  rintro i H' hi ⟨ns, g1, g2, g3, g4, g5⟩
  have hi2 : i < 16 := hi
  walk_at "go"
  refine ⟨rfl, ?_⟩
  walk_at "go"
  refine rd_split (fun c0 => ?_) (fun c0 => ?_)
  walk_at "go"
  refine ⟨_, g1, by rw [List.length_map]; exact ls (by omega), ns ++ [1 + (i : Int)], by rw [upd_same, List.map_append] <;> rfl, fun n hn => ?_, fun _ h => by simp at h, by rw [List.length_append]; exact Nat.succ_le_succ g4, Same.upd_new g5 hD⟩
  rcases List.mem_append.mp hn with h | h
  exact g2 n h
  rw [show n = 1 + (i : Int) by simpa using h]
  exact ⟨by omega, c0, by omega⟩
  refine ⟨ns, g1, g2, fun _ => ?_, by omega, g5⟩
  by_cases i0 : i = 0
  subst i0
  exact absurd (by simp) c0
  exact g3 (by omega)
  rintro H4 ⟨ns, g1, g2, g3, g4, g5⟩
  have g4' : ns.length ≤ 16 := g4
  have sC : SB a H H4 := s1.trans (SB.of_same g5)
  have hS4 : Src H4 a := hS1.same g5
  walk_at "go"
  have ln : 0 < ns.length := List.length_pos_iff.mpr (g3 (by decide))
  refine use_one hS4 (SqL.of g1) (hS1.ne hD) (by rw [List.length_map]; exact ln) (by rw [List.length_map]; omega) fun H5 v s5 hS5 hv => ?_
  obtain ⟨n, hn, rfl⟩ := List.mem_map.mp hv
  obtain ⟨n1, n2, n16⟩ := g2 n hn
  obtain ⟨n3, n4, n5⟩ := mod_le hk1 n1 n2
  walk_at "go"
  refine ⟨lk rfl, fun t ht => ?_⟩
  walk_at "go"
  refine use_j (hS5.new ht) n4 (by omega) (by omega) (by omega) (by omega) fun H6 v1 j1 s6 hS6 hr1 hok1 hc1 => ?_
  walk_at "go"
  refine ⟨lk rfl, fun q2 hq2 => ?_⟩
  walk_at "go"
  refine ⟨lk rfl, fun q3 hq3 => ?_⟩
  exact fin _ _ _ _ _ _ _ _ _ (((sC.trans s5).new ht).trans s6) hS6 ⟨ok5, by rw [fits_rep]; exact btw_ok n1 n16, by decide +kernel⟩ ((hS5.new ht).ext s6 _ _ (SqT.of upd_same)) (.one (.int n)) (by simp) (fl1 n) hr1 hok1 hc1 hq2 hq3
  walk_at "go"
  refine rd_split (fun ck => ?_) (fun ck => ?_)
  walk_at "go"
  refine rd_split (fun c8 => ?_) (fun c8 => ?_)
  walk_at "go"
  refine ⟨lk rfl, fun p hp => ?_⟩
  walk_at "go"
  refine use_one (hS1.new hp) (SqL.of upd_same) (hS1.ne hp) (by show 0 < 2; omega) (by show 2 < 1000; omega) fun H2 v s2 hS2 hv => ?_
  obtain ⟨z, rfl, hz⟩ : ∃ z, v = .str z ∧ (okS z ∧ toldFits z [] = true ∧ partsFit z 1 = true) := (by
    have hv' : v = .str "sum" ∨ v = .str "top" := by simpa using hv
    rcases hv' with rfl | rfl
    · exact ⟨_, rfl, ok6, by decide +kernel, by decide +kernel⟩
    · exact ⟨_, rfl, ok7, by decide +kernel, by decide +kernel⟩)
  have sA : SB a H H2 := s1.trans ((SB.refl.new hp).trans s2)
  walk_at "go"
  refine ⟨lk rfl, fun t ht => ?_⟩
  walk_at "go"
  refine use_take (hS2.new ht) (by omega) (by omega) fun H3 r s3 hS3 r0 r1 => ?_
  walk_at "go"
  refine use_j hS3 (by omega) (by omega) (by omega) (by omega) (by omega) fun H6 v1 j1 s6 hS6 hr1 hok1 hc1 => ?_
  walk_at "go"
  refine ⟨lk rfl, fun q2 hq2 => ?_⟩
  walk_at "go"
  refine ⟨lk rfl, fun q3 hq3 => ?_⟩
  exact fin _ _ _ _ _ _ _ _ _ (((sA.new ht).trans s3).trans s6) hS6 hz (hS3.ext s6 _ _ ((hS2.new ht).ext s3 _ _ (SqT.of upd_same))) .nil (by simp) (fun d hd => nomatch hd) hr1 hok1 hc1 hq2 hq3
  walk_at "go"
  refine rd_split (fun cl => ?_) (fun cl => ?_)
  walk_at "go"
  refine ⟨lk rfl, fun t ht => ?_⟩
  walk_at "go"
  refine use_j (hS1.new ht) hk1 hk2 (by omega) (by omega) (by omega) fun H6 v1 j1 s6 hS6 hr1 hok1 hc1 => ?_
  walk_at "go"
  refine ⟨lk rfl, fun q2 hq2 => ?_⟩
  walk_at "go"
  refine ⟨lk rfl, fun q3 hq3 => ?_⟩
  exact fin _ _ _ _ _ _ _ _ _ ((s1.new ht).trans s6) hS6 ⟨ok8, by decide +kernel, by decide +kernel⟩ ((hS1.new ht).ext s6 _ _ (SqT.of upd_same)) .nil (by simp) (fun d hd => nomatch hd) hr1 hok1 hc1 hq2 hq3
  walk_at "go"
  exact ⟨a, k, left, kind, rfl, hS1, hk1, hk2, by omega, hl2, hl3, fun H' v j s hS' hr' hok hc => q H' v j (s1.trans s) hS' hr' hok hc⟩
  walk_at "go"
  refine rd_split (fun cl => ?_) (fun cl => ?_)
  walk_at "go"
  refine ⟨lk rfl, fun t ht => ?_⟩
  walk_at "go"
  refine use_j (hS1.new ht) hk1 hk2 (by omega) (by omega) (by omega) fun H6 v1 j1 s6 hS6 hr1 hok1 hc1 => ?_
  walk_at "go"
  refine ⟨lk rfl, fun q2 hq2 => ?_⟩
  walk_at "go"
  refine ⟨lk rfl, fun q3 hq3 => ?_⟩
  exact fin _ _ _ _ _ _ _ _ _ ((s1.new ht).trans s6) hS6 ⟨ok8, by decide +kernel, by decide +kernel⟩ ((hS1.new ht).ext s6 _ _ (SqT.of upd_same)) .nil (by simp) (fun d hd => nomatch hd) hr1 hok1 hc1 hq2 hq3
  walk_at "go"
  exact ⟨a, k, left, kind, rfl, hS1, hk1, hk2, by omega, hl2, hl3, fun H' v j s hS' hr' hok hc => q H' v j (s1.trans s) hS' hr' hok hc⟩
end

/-! ### P1 -/
section
variable {P : Program} {w : World} {K : PySem.W.Frag} {mg : Str → Option Value} {base : Heap}
/-- the module's constants -/
structure Cst (mg : Str → Option Value) : Prop where
  MODULUS : ∃ t, mg "MODULUS" = some (.int 1000003 t)
  LONGEST_ROW : ∃ t, mg "LONGEST_ROW" = some (.int 64 t)
  LONGEST_WORD : ∃ t, mg "LONGEST_WORD" = some (.int 8 t)
  MOST_TIMES : ∃ t, mg "MOST_TIMES" = some (.int 16 t)
  LETTERS : ∃ t, mg "LETTERS" = some (.str Letters t)
  MOST_JOINTS : ∃ t, mg "MOST_JOINTS" = some (.int 40 t)
/-- a question about data: f tells the answer -/
def spAsk (K : PySem.W.Frag) (f : PyData → Bool) : Sp := fun vs H Q _ => ∃ (v : V) (d : PyData), vs = [v] ∧ Rp K H v d ∧ dat d ∧ ∀ H', Same H H' → Q (.bl (f d)) H'
theorem use_ask {K : PySem.W.Frag} {f : PyData → Bool} {v : V} {d : PyData} {H : Hp} {Q : VK} {E : XK} (r : Rp K H v d) (hd : dat d) (q : ∀ H', Same H H' → Q (.bl (f d)) H') : spAsk K f [v] H Q E := ⟨v, d, rfl, r, hd, q⟩
/-- a list or a tuple -/
def SqE (K : PySem.W.Frag) (H : Hp) (a : Addr) (xs : List V) : Prop := SqL K H a xs ∨ SqT K H a xs
theorem SqE.same {K : PySem.W.Frag} {H H' : Hp} {a : Addr} {xs : List V} (h : SqE K H a xs) (s : Same H H') : SqE K H' a xs := h.elim (fun h => .inl (Same.seq s h)) fun h => .inr (Ext.of_same s _ _ h)
/-- .. about a row of data -/
def spAsks (K : PySem.W.Frag) (f : List PyData → Bool) : Sp := fun vs H Q _ => ∃ (a : Addr) (xs : List V) (ds : List PyData), vs = [.ref a] ∧ SqE K H a xs ∧ Rps K H xs ds ∧ ds.length ≤ 1000 ∧ dats ds ∧ ∀ H', Same H H' → Q (.bl (f ds)) H'
theorem use_asks {K : PySem.W.Frag} {f : List PyData → Bool} {a : Addr} {xs : List V} {ds : List PyData} {H : Hp} {Q : VK} {E : XK} (s : SqE K H a xs) (r : Rps K H xs ds) (l : ds.length ≤ 1000) (hd : dats ds) (q : ∀ H', Same H H' → Q (.bl (f ds)) H') : spAsks K f [.ref a] H Q E := ⟨a, xs, ds, rfl, s, r, l, hd, q⟩
def spBtw (K : PySem.W.Frag) : Sp := fun vs H Q _ => ∃ (v : V) (d : PyData) (lo hi : Int), vs = [v, .int lo, .int hi] ∧ Rp K H v d ∧ Q (.bl (isBtw d lo hi)) H
theorem use_btw {K : PySem.W.Frag} {v : V} {d : PyData} {lo hi : Int} {H : Hp} {Q : VK} {E : XK} (r : Rp K H v d) (q : Q (.bl (isBtw d lo hi)) H) : spBtw K [v, .int lo, .int hi] H Q E := ⟨v, d, lo, hi, rfl, r, q⟩
def spNum (K : PySem.W.Frag) : Sp := fun vs H Q _ => ∃ (v : V) (d : PyData), vs = [v] ∧ Rp K H v d ∧ Q (.bl (isNum d)) H
theorem use_num {K : PySem.W.Frag} {v : V} {d : PyData} {H : Hp} {Q : VK} {E : XK} (r : Rp K H v d) (q : Q (.bl (isNum d)) H) : spNum K [v] H Q E := ⟨v, d, rfl, r, q⟩
abbrev s_is_number : Stmt := top 14
theorem sc_is_number : FnScope ["thing"] ["thing"] (defScope s_is_number) := ⟨rfl, rfl, rfl, by decide +kernel, rfl, by decide +kernel, by decide +kernel⟩
theorem has_is_number (O : OwnF K mg "is_number" s_is_number) (B : Bl mg) : HasF P w K mg base CX0 1 "is_number" ["thing"] (spNum K) := by
  refine has0 O sc_is_number (fun _ _ _ _ _ _ us hl => match us, hl with | [_], _ => rfl) (fun vs H Q E h => ?_) (fun f cdv A outer s_ H vs Q E hr h => ?_)
  · obtain ⟨v, d, rfl, _⟩ := h
    rfl
  obtain ⟨v, d, rfl, r, q⟩ := h
  refine ⟨_, (pss_one (ps_ret (pe_and (pe_callB (kIsi K) (by rfl) B.isinstance (by decide +kernel) (pa_cons (pv 0) (pa_cons (pe_bltn (v := .ty "int") (by rfl) B.int (by decide +kernel) rfl) pa_nil))) (pe_one (pe_not (pe_callB (kIsi K) (by rfl) B.isinstance (by decide +kernel) (pa_cons (pv 0) (pa_cons (pe_bltn (v := .ty "bool") (by rfl) B.bool (by decide +kernel) rfl) pa_nil)))))))), ?_⟩
  refine st0 [some v] rfl ?_
  walk_at "go"
  refine rd_splitB (fun c => ?_) (fun c => ?_)
  · walk_at "go"
    have e : (!isT "bool" d) = isNum d := by cases d <;> simp_all [isT, isNum]
    rw [e]; exact q
  · have e : false = isNum d := by cases d <;> simp_all [isT, isNum]
    rw [e]; exact q
abbrev s_is_between : Stmt := top 15
theorem sc_is_between : FnScope ["thing", "least", "most"] ["thing", "least", "most"] (defScope s_is_between) := ⟨rfl, rfl, rfl, by decide +kernel, rfl, by decide +kernel, by decide +kernel⟩
theorem has_is_between (O : OwnF K mg "is_between" s_is_between) (h_is_number : HasF P w K mg base CX0 1 "is_number" ["thing"] (spNum K)) : HasF P w K mg base CX0 2 "is_between" ["thing", "least", "most"] (spBtw K) := by
  refine has0 O sc_is_between (fun _ _ _ _ _ _ us hl => match us, hl with | [_, _, _], _ => rfl) (fun vs H Q E h => ?_) (fun f cdv A outer s_ H vs Q E hr h => ?_)
  · obtain ⟨v, d, lo, hi, rfl, _⟩ := h
    rfl
  obtain ⟨v, d, lo, hi, rfl, r, q⟩ := h
  refine ⟨_, (pss_one (ps_ret (pe_and (pe_callH h_is_number (hr.mono (by first | decide | omega)) (by rfl) pass0 (pa_cons (pv 0) pa_nil)) (pe_one (pe_chain leU leU (pv 1) (pv 0) (pv 2)))))), ?_⟩
  refine st0 [some v, some (.int lo), some (.int hi)] rfl ?_
  walk_at "go"
  refine use_num r ?_
  walk_at "go"
  cases r with
  | int i =>
    refine iteT ?_
    walk_at "go"
    refine rd_split (fun c => ?_) (fun c => ?_)
    · walk_at "go"
      have e : decide (i ≤ hi) = isBtw (.int i) lo hi := by simp [isBtw, c]
      rw [e]; exact q
    · have e : false = isBtw (.int i) lo hi := by simp [isBtw, c]
      rw [e]; exact q
  | non => exact iteF q
  | bl b => exact iteF q
  | str z => exact iteF q
  | tup _ _ => exact iteF q
abbrev s_are_row_numbers : Stmt := top 16
theorem sc_are_row_numbers : FnScope ["things", "thing"] ["things"] (defScope s_are_row_numbers) := ⟨rfl, rfl, rfl, by decide +kernel, rfl, by decide +kernel, by decide +kernel⟩
theorem has_are_row_numbers (O : OwnF K mg "are_row_numbers" s_are_row_numbers) (B : Bl mg) (C : Cst mg) (h_is_between : HasF P w K mg base CX0 2 "is_between" ["thing", "least", "most"] (spBtw K)) : HasF P w K mg base CX0 3 "are_row_numbers" ["things"] (spAsks K rowNums) := by
  refine has0 O sc_are_row_numbers (fun _ _ _ _ _ _ us hl => match us, hl with | [_], _ => rfl) (fun vs H Q E h => ?_) (fun f cdv A outer s_ H vs Q E hr h => ?_)
  · obtain ⟨a, xs, ds, rfl, _⟩ := h
    rfl
  obtain ⟨a, xs, ds, rfl, hs, hR, hl, hd, q⟩ := h
  refine ⟨_, (pss_one (ps_ret (pe_callB (kAll K rfl) (by rfl) B.all (by decide +kernel) (pa_cons (pe_lc (own := [("thing", 1)]) (g := gName 1) (tt := tYes) rfl sc_are_row_numbers.nd (pi_seqK K (pv 0)) (blkOk_by (own := [("thing", 1)]) (N := ["things", "thing"]) (sc := defScope s_are_row_numbers) (by decide +kernel)) (fun _ _ _ _ _ => (pg_name (i := 1) sc_are_row_numbers.nd rfl (by first | exact Or.inl rfl | exact Or.inr rfl))) (fun _ _ _ _ _ => pts_nil) (fun _ _ _ _ _ => (pe_callH h_is_between (hr.mono (by first | decide | omega)) (by rfl) pass0 (pa_cons (pv 1) (pa_cons pe_int (pa_cons (pe_op subU (pe_globI C.MODULUS (by rfl)) pe_int) pa_nil)))))) pa_nil)))), ?_⟩
  refine st0 [some (.ref a), none] rfl ?_
  walk_at "go"
  rcases hs with hs | hs
  · refine ⟨a, rfl, .inl ⟨⟨xs, hs⟩, ?_⟩⟩
    intro D hD
    refine lc_list (a := a) (xs := xs) (fun i H' => ∃ bs : List Bool, H' D = some (.lst (bs.map V.bl)) ∧ bs = (ds.take i).map (fun d => isBtw d 0 1000002) ∧ Same H H') ⟨[], upd_same, rfl, Same.upd_new (Same.refl H) hD⟩ ?_ ?_ ?_
    · rintro i H' hi ⟨bs, h1, h2, h3⟩
      exact Same.seq h3 hs
    · rintro i x H' hx ⟨bs, h1, h2, h3⟩
      obtain ⟨d, e1, e2⟩ := hR.getV hx
      walk_at "go"
      refine ⟨rfl, ?_⟩
      walk_at "go"
      refine use_btw (e2.mono (Ext.of_same h3) d x) ?_
      refine ⟨bs.map V.bl, h1, ?_, bs ++ [isBtw d 0 (1000003 - 1)], ?_, ?_, Same.upd_new h3 hD⟩
      · rw [List.length_map, h2, List.length_map, List.length_take]
        exact ls (by omega)
      · rw [upd_same, List.map_append] <;> rfl
      · rw [List.take_add_one, e1, List.map_append, h2] <;> rfl
    · rintro H' ⟨bs, h1, h2, h3⟩
      walk_at "go"
      refine u_all (SqL.of h1) ?_
      have e : bs.all id = rowNums ds := by
        rw [h2, hR.length, List.take_length, all_map] <;> rfl
      rw [e]
      exact q _ h3
  · refine ⟨a, rfl, .inr ⟨⟨xs, hs⟩, ?_⟩⟩
    intro D hD
    refine lc_tup (K := K) (a := a) (xs := xs) (fun i H' => ∃ bs : List Bool, H' D = some (.lst (bs.map V.bl)) ∧ bs = (ds.take i).map (fun d => isBtw d 0 1000002) ∧ Same H H') ⟨[], upd_same, rfl, Same.upd_new (Same.refl H) hD⟩ ?_ ?_ ?_
    · rintro i H' hi ⟨bs, h1, h2, h3⟩
      exact Ext.of_same h3 a xs hs
    · rintro i x H' hx ⟨bs, h1, h2, h3⟩
      obtain ⟨d, e1, e2⟩ := hR.getV hx
      walk_at "go"
      refine ⟨rfl, ?_⟩
      walk_at "go"
      refine use_btw (e2.mono (Ext.of_same h3) d x) ?_
      refine ⟨bs.map V.bl, h1, ?_, bs ++ [isBtw d 0 (1000003 - 1)], ?_, ?_, Same.upd_new h3 hD⟩
      · rw [List.length_map, h2, List.length_map, List.length_take]
        exact ls (by omega)
      · rw [upd_same, List.map_append] <;> rfl
      · rw [List.take_add_one, e1, List.map_append, h2] <;> rfl
    · rintro H' ⟨bs, h1, h2, h3⟩
      walk_at "go"
      refine u_all (SqL.of h1) ?_
      have e : bs.all id = rowNums ds := by
        rw [h2, hR.length, List.take_length, all_map] <;> rfl
      rw [e]
      exact q _ h3
end

/-! ### P2 -/
section
variable {P : Program} {w : World} {K : PySem.W.Frag} {mg : Str → Option Value} {base : Heap}
theorem z_len {z : Str} (h : z.length ≤ 1000) : z.length ≤ sizeLine := ll (by omega)
abbrev s_is_word : Stmt := top 17
theorem sc_is_word : FnScope ["thing", "sign"] ["thing"] (defScope s_is_word) := ⟨rfl, rfl, rfl, by decide +kernel, rfl, by decide +kernel, by decide +kernel⟩
theorem has_is_word (O : OwnF K mg "is_word" s_is_word) (B : Bl mg) (C : Cst mg) : HasF P w K mg base CX0 1 "is_word" ["thing"] (spAsk K isWord) := by
  refine has0 O sc_is_word (fun _ _ _ _ _ _ us hl => match us, hl with | [_], _ => rfl) (fun vs H Q E h => ?_) (fun f cdv A outer s_ H vs Q E hr h => ?_)
  · obtain ⟨v, d, rfl, _⟩ := h
    rfl
  obtain ⟨v, d, rfl, r, hd, q⟩ := h
  refine ⟨_, (pss_cons (ps_if (PW.pt (pw_or (pt_not (pt_val (pe_callB (kIsi K) (by rfl) B.isinstance (by decide +kernel) (pa_cons (pv 0) (pa_cons (pe_bltn (v := .ty "str") (by rfl) B.str (by decide +kernel) rfl) pa_nil))))) (pw_or1 (pt_not (pt_chain leU leU pe_int (pe_callB (kLen K) (by rfl) B.len (by decide +kernel) (pa_cons (pv 0) pa_nil)) (pe_globI C.LONGEST_WORD (by rfl))))))) (pss_one (ps_ret pe_bl)) pss_nil) (pss_one (ps_ret (pe_callB (kAll K rfl) (by rfl) B.all (by decide +kernel) (pa_cons (pe_lc (own := [("sign", 1)]) (g := gName 1) (tt := tYes) rfl sc_is_word.nd (pi_str (pv 0)) (blkOk_by (own := [("sign", 1)]) (N := ["thing", "sign"]) (sc := defScope s_is_word) (by decide +kernel)) (fun _ _ _ _ _ => (pg_name (i := 1) sc_is_word.nd rfl (by first | exact Or.inl rfl | exact Or.inr rfl))) (fun _ _ _ _ _ => pts_nil) (fun _ _ _ _ _ => (pe_cmpR (kIn K) (pv 1) (pe_globS C.LETTERS (by rfl)) (by rfl)))) pa_nil))))), ?_⟩
  refine st0 [some v, none] rfl ?_
  walk_at "go"
  cases r with
  | str z =>
    refine iteF ?_
    have hz : z.length ≤ 1000 := hd.1
    walk_at "go"
    refine u_lenS (z_len hz) ?_
    walk_at "go"
    refine rd_split (fun c1 => ?_) (fun c1 => ?_)
    rotate_left
    · walk_at "go"
      refine iteT ?_
      walk_at "go"
      have e : false = isWord (.str z) := by simp only [isWord, decide_eq_false c1, Bool.false_and]
      rw [e]; exact q _ (Same.refl _)
    walk_at "go"
    refine rd_splitN (fun c2 => ?_) (fun c2 => ?_)
    · walk_at "go"
      have e : false = isWord (.str z) := by simp only [isWord, decide_eq_false c2, Bool.and_false, Bool.false_and]
      rw [e]; exact q _ (Same.refl _)
    walk_at "go"
    intro D hD
    refine lcS (fun i H' => H' D = some (.lst (((z.cps.toList.take i).map fun c => decide (c ∈ Letters.cps.toList)).map V.bl)) ∧ Same H H') ⟨upd_same, Same.upd_new (Same.refl H) hD⟩ ?_ ?_
    · rintro i c H' hc ⟨h1, h3⟩
      walk_at "go"
      refine ⟨rfl, ?_⟩
      walk_at "go"
      refine ⟨_, h1, ?_, ?_, Same.upd_new h3 hD⟩
      · rw [List.length_map, List.length_map, List.length_take]
        have : z.cps.toList.length = z.length := (len_list z).symm
        exact ls (by omega)
      · have e1 : z.cps.toList[i]? = some c := by rw [Array.getElem?_toList]; exact hc
        rw [upd_same, List.take_add_one, e1, List.map_append, List.map_append] <;> rfl
    · rintro H' ⟨h1, h3⟩
      walk_at "go"
      refine u_all (SqL.of h1) ?_
      have e : ((z.cps.toList.take z.cps.size).map fun c => decide (c ∈ Letters.cps.toList)).all id = isWord (.str z) := by
        have e2 : z.cps.toList.take z.cps.size = z.cps.toList := by
          rw [List.take_of_length_le (by simp)]
        rw [e2, all_map]
        simp only [isWord, lowAll, decide_eq_true c1, decide_eq_true c2, Bool.true_and]
      rw [e]
      exact q _ h3
  | non => refine iteT ?_; walk_at "go"; exact q _ (Same.refl _)
  | bl b => refine iteT ?_; walk_at "go"; exact q _ (Same.refl _)
  | int i => refine iteT ?_; walk_at "go"; exact q _ (Same.refl _)
  | tup _ _ => refine iteT ?_; walk_at "go"; exact q _ (Same.refl _)
abbrev s_tells_row : Stmt := top 18
theorem sc_tells_row : FnScope ["told"] ["told"] (defScope s_tells_row) := ⟨rfl, rfl, rfl, by decide +kernel, rfl, by decide +kernel, by decide +kernel⟩
theorem has_tells_row (O : OwnF K mg "tells_row" s_tells_row) (B : Bl mg) (C : Cst mg) (h_are_row_numbers : HasF P w K mg base CX0 3 "are_row_numbers" ["things"] (spAsks K rowNums)) : HasF P w K mg base CX0 4 "tells_row" ["told"] (spAsks K tellsRow) := by
  refine has0 O sc_tells_row (fun _ _ _ _ _ _ us hl => match us, hl with | [_], _ => rfl) (fun vs H Q E h => ?_) (fun f cdv A outer s_ H vs Q E hr h => ?_)
  · obtain ⟨a, xs, ds, rfl, _⟩ := h
    rfl
  obtain ⟨a, xs, ds, rfl, hs, hR, hl, hd, q⟩ := h
  have el := hR.length
  refine ⟨_, (pss_one (ps_ret (pe_and (pe_chain leU leU pe_int (pe_callB (kLen K) (by rfl) B.len (by decide +kernel) (pa_cons (pv 0) pa_nil)) (pe_globI C.LONGEST_ROW (by rfl))) (pe_one (pe_callH h_are_row_numbers (hr.mono (by first | decide | omega)) (by rfl) pass0 (pa_cons (pv 0) pa_nil)))))), ?_⟩
  refine st0 [some (.ref a)] rfl ?_
  rcases hs with hs | hs
  all_goals
    walk_at "go"
    refine rd_split (fun c1 => ?_) (fun c1 => ?_)
    · walk_at "go"
      refine rd_split (fun c2 => ?_) (fun c2 => ?_)
      · walk_at "go"
        refine use_asks (by first | exact .inl hs | exact .inr hs) hR hl hd fun H' s' => ?_
        have e : rowNums ds = tellsRow ds := by
          rw [el] at c1 c2
          simp only [tellsRow, decide_eq_true c1, decide_eq_true c2, Bool.true_and]
        rw [e]
        exact q _ s'
      · rw [el] at c2
        have e : false = tellsRow ds := by simp only [tellsRow, decide_eq_false c2, Bool.and_false, Bool.false_and]
        rw [e]; exact q _ (Same.refl _)
    · rw [el] at c1
      walk_at "go"
      have e : false = tellsRow ds := by simp only [tellsRow, decide_eq_false c1, Bool.false_and]
      rw [e]; exact q _ (Same.refl _)
abbrev s_tells_input : Stmt := top 19
theorem sc_tells_input : FnScope ["told"] ["told"] (defScope s_tells_input) := ⟨rfl, rfl, rfl, by decide +kernel, rfl, by decide +kernel, by decide +kernel⟩
theorem has_tells_input (O : OwnF K mg "tells_input" s_tells_input) (B : Bl mg) (C : Cst mg) (h_is_word : HasF P w K mg base CX0 1 "is_word" ["thing"] (spAsk K isWord)) (h_is_between : HasF P w K mg base CX0 2 "is_between" ["thing", "least", "most"] (spBtw K)) : HasF P w K mg base CX0 4 "tells_input" ["told"] (spAsks K tellsInput) := by
  refine has0 O sc_tells_input (fun _ _ _ _ _ _ us hl => match us, hl with | [_], _ => rfl) (fun vs H Q E h => ?_) (fun f cdv A outer s_ H vs Q E hr h => ?_)
  · obtain ⟨a, xs, ds, rfl, _⟩ := h
    rfl
  obtain ⟨a, xs, ds, rfl, hs, hR, hl, hd, q⟩ := h
  refine ⟨_, (pss_one (ps_ret (pe_and (pe_cmpR (kEqG K (hU hr)) (pe_callB (kLen K) (by rfl) B.len (by decide +kernel) (pa_cons (pv 0) pa_nil)) pe_int (nomark _)) (pe_and (pe_callH h_is_word (hr.mono (by first | decide | omega)) (by rfl) pass0 (pa_cons (pe_ix (kIx K) (pv 0) pe_int (fun _ _ => rfl)) pa_nil)) (pe_one (pe_callH h_is_between (hr.mono (by first | decide | omega)) (by rfl) pass0 (pa_cons (pe_ix (kIx K) (pv 0) pe_int (fun _ _ => rfl)) (pa_cons pe_int (pa_cons (pe_globI C.LONGEST_ROW (by rfl)) pa_nil))))))))), ?_⟩
  refine st0 [some (.ref a)] rfl ?_
  rcases hs with hs | hs
  all_goals
    walk_at "go"
    refine rd_split (fun c => ?_) (fun c => ?_)
    · obtain ⟨x, y, d, e, rfl, rfl, r1, r2⟩ := hR.pair c
      walk_at "go"
      try refine u_ixT hs rfl ?_
      walk_at "go"
      refine use_ask r1 hd.1 fun H' s' => ?_
      walk_at "go"
      refine rd_splitB (fun c1 => ?_) (fun c1 => ?_)
      · walk_at "go"
        first | refine u_ixT (Ext.of_same s' _ _ hs) rfl ?_ | refine u_ixL (Same.seq s' hs) (atI_nat (j := 1) rfl) ?_ | refine u_ixL (Same.seq s' hs) (atI_nat (j := 0) rfl) ?_
        walk_at "go"
        refine use_btw (r2.mono (Ext.of_same s') _ _) ?_
        have ee : isBtw e 1 64 = tellsInput [d, e] := by simp only [tellsInput, c1, Bool.true_and]
        rw [ee]; exact q _ s'
      · have ee : false = tellsInput [d, e] := by simp only [tellsInput, c1, Bool.false_and]
        rw [ee]; exact q _ s'
    · have ee : false = tellsInput ds := by
        rw [hR.length] at c
        match ds, c with
        | [], _ => rfl
        | [_], _ => rfl
        | [_, _], c => exact absurd rfl c
        | _ :: _ :: _ :: _, _ => rfl
      rw [ee]; exact q _ (Same.refl _)
abbrev s_tells_stretch : Stmt := top 20
theorem sc_tells_stretch : FnScope ["told"] ["told"] (defScope s_tells_stretch) := ⟨rfl, rfl, rfl, by decide +kernel, rfl, by decide +kernel, by decide +kernel⟩
theorem has_tells_stretch (O : OwnF K mg "tells_stretch" s_tells_stretch) (B : Bl mg) (C : Cst mg) (h_is_between : HasF P w K mg base CX0 2 "is_between" ["thing", "least", "most"] (spBtw K)) : HasF P w K mg base CX0 4 "tells_stretch" ["told"] (spAsks K tellsStretch) := by
  refine has0 O sc_tells_stretch (fun _ _ _ _ _ _ us hl => match us, hl with | [_], _ => rfl) (fun vs H Q E h => ?_) (fun f cdv A outer s_ H vs Q E hr h => ?_)
  · obtain ⟨a, xs, ds, rfl, _⟩ := h
    rfl
  obtain ⟨a, xs, ds, rfl, hs, hR, hl, hd, q⟩ := h
  refine ⟨_, (pss_cons (ps_if (PW.pt (pw_or (pt_cmpR (kNeG K (hU hr)) (pe_callB (kLen K) (by rfl) B.len (by decide +kernel) (pa_cons (pv 0) pa_nil)) pe_int (nomark _)) (pw_or1 (pt_not (pt_truthK K (pe_callH h_is_between (hr.mono (by first | decide | omega)) (by rfl) pass0 (pa_cons (pe_ix (kIx K) (pv 0) pe_int (fun _ _ => rfl)) (pa_cons pe_int (pa_cons (pe_globI C.LONGEST_ROW (by rfl)) pa_nil)))) (by intro _; rfl)))))) (pss_one (ps_ret pe_bl)) pss_nil) (pss_one (ps_ret (pe_callH h_is_between (hr.mono (by first | decide | omega)) (by rfl) pass0 (pa_cons (pe_ix (kIx K) (pv 0) pe_int (fun _ _ => rfl)) (pa_cons pe_int (pa_cons (pe_op subU (pe_ix (kIx K) (pv 0) pe_int (fun _ _ => rfl)) pe_int) pa_nil))))))), ?_⟩
  refine st0 [some (.ref a)] rfl ?_
  rcases hs with hs | hs
  all_goals
    walk_at "go"
    refine rd_splitN (fun c => ?_) (fun c => ?_)
    · walk_at "go"
      have ee : false = tellsStretch ds := by
        rw [hR.length] at c
        match ds, c with
        | [], _ => rfl
        | [_], _ => rfl
        | [_, _], c => exact absurd rfl c
        | _ :: y :: _ :: _, _ => cases y <;> rfl
      rw [ee]; exact q _ (Same.refl _)
    · obtain ⟨x, y, d, e, rfl, rfl, r1, r2⟩ := hR.pair c
      walk_at "go"
      try refine u_ixT hs rfl ?_
      walk_at "go"
      refine use_btw r2 ?_
      walk_at "go"
      cases r2 with
      | int j =>
        have nb : ∀ b : Bool, (b = true → Q (.bl (isBtw d 0 (j - 1))) H) → (b = false → Q (.bl false) H) → True := fun _ _ _ => trivial
        cases hb : isBtw (.int j) 0 64 with
        | true =>
          refine iteF ?_
          walk_at "go"
          try refine u_ixT hs rfl ?_
          walk_at "go"
          try refine u_ixT hs rfl ?_
          walk_at "go"
          refine use_btw r1 ?_
          have ee : isBtw d 0 (j - 1) = tellsStretch [d, .int j] := by simp only [tellsStretch, hb, Bool.true_and]
          rw [ee]; exact q _ (Same.refl _)
        | false =>
          refine iteT ?_
          walk_at "go"
          have ee : false = tellsStretch [d, .int j] := by simp only [tellsStretch, hb, Bool.false_and]
          rw [ee]; exact q _ (Same.refl _)
      | non => refine iteT ?_; walk_at "go"; exact q _ (Same.refl _)
      | bl b => refine iteT ?_; walk_at "go"; exact q _ (Same.refl _)
      | str i => refine iteT ?_; walk_at "go"; exact q _ (Same.refl _)
      | tup _ _ => refine iteT ?_; walk_at "go"; exact q _ (Same.refl _)
abbrev s_tells_times : Stmt := top 21
theorem sc_tells_times : FnScope ["told"] ["told"] (defScope s_tells_times) := ⟨rfl, rfl, rfl, by decide +kernel, rfl, by decide +kernel, by decide +kernel⟩
theorem has_tells_times (O : OwnF K mg "tells_times" s_tells_times) (B : Bl mg) (C : Cst mg) (h_is_between : HasF P w K mg base CX0 2 "is_between" ["thing", "least", "most"] (spBtw K)) : HasF P w K mg base CX0 4 "tells_times" ["told"] (spAsks K tellsTimes) := by
  refine has0 O sc_tells_times (fun _ _ _ _ _ _ us hl => match us, hl with | [_], _ => rfl) (fun vs H Q E h => ?_) (fun f cdv A outer s_ H vs Q E hr h => ?_)
  · obtain ⟨a, xs, ds, rfl, _⟩ := h
    rfl
  obtain ⟨a, xs, ds, rfl, hs, hR, hl, hd, q⟩ := h
  refine ⟨_, (pss_one (ps_ret (pe_and (pe_cmpR (kEqG K (hU hr)) (pe_callB (kLen K) (by rfl) B.len (by decide +kernel) (pa_cons (pv 0) pa_nil)) pe_int (nomark _)) (pe_one (pe_callH h_is_between (hr.mono (by first | decide | omega)) (by rfl) pass0 (pa_cons (pe_ix (kIx K) (pv 0) pe_int (fun _ _ => rfl)) (pa_cons pe_int (pa_cons (pe_globI C.MOST_TIMES (by rfl)) pa_nil)))))))), ?_⟩
  refine st0 [some (.ref a)] rfl ?_
  rcases hs with hs | hs
  all_goals
    walk_at "go"
    refine rd_split (fun c => ?_) (fun c => ?_)
    · obtain ⟨x, d, rfl, rfl, r1⟩ := hR.only c
      walk_at "go"
      try refine u_ixT hs rfl ?_
      walk_at "go"
      exact use_btw r1 (q _ (Same.refl _))
    · have ee : false = tellsTimes ds := by
        rw [hR.length] at c
        match ds, c with
        | [], _ => rfl
        | [_], c => exact absurd rfl c
        | _ :: _ :: _, _ => rfl
      rw [ee]; exact q _ (Same.refl _)
abbrev s_tells_room : Stmt := top 22
theorem sc_tells_room : FnScope ["told"] ["told"] (defScope s_tells_room) := ⟨rfl, rfl, rfl, by decide +kernel, rfl, by decide +kernel, by decide +kernel⟩
theorem has_tells_room (O : OwnF K mg "tells_room" s_tells_room) (B : Bl mg) (C : Cst mg) (h_is_between : HasF P w K mg base CX0 2 "is_between" ["thing", "least", "most"] (spBtw K)) : HasF P w K mg base CX0 4 "tells_room" ["told"] (spAsks K tellsRoom) := by
  refine has0 O sc_tells_room (fun _ _ _ _ _ _ us hl => match us, hl with | [_], _ => rfl) (fun vs H Q E h => ?_) (fun f cdv A outer s_ H vs Q E hr h => ?_)
  · obtain ⟨a, xs, ds, rfl, _⟩ := h
    rfl
  obtain ⟨a, xs, ds, rfl, hs, hR, hl, hd, q⟩ := h
  refine ⟨_, (pss_one (ps_ret (pe_and (pe_cmpR (kEqG K (hU hr)) (pe_callB (kLen K) (by rfl) B.len (by decide +kernel) (pa_cons (pv 0) pa_nil)) pe_int (nomark _)) (pe_one (pe_callH h_is_between (hr.mono (by first | decide | omega)) (by rfl) pass0 (pa_cons (pe_ix (kIx K) (pv 0) pe_int (fun _ _ => rfl)) (pa_cons pe_int (pa_cons (pe_globI C.LONGEST_ROW (by rfl)) pa_nil)))))))), ?_⟩
  refine st0 [some (.ref a)] rfl ?_
  rcases hs with hs | hs
  all_goals
    walk_at "go"
    refine rd_split (fun c => ?_) (fun c => ?_)
    · obtain ⟨x, d, rfl, rfl, r1⟩ := hR.only c
      walk_at "go"
      try refine u_ixT hs rfl ?_
      walk_at "go"
      exact use_btw r1 (q _ (Same.refl _))
    · have ee : false = tellsRoom ds := by
        rw [hR.length] at c
        match ds, c with
        | [], _ => rfl
        | [_], c => exact absurd rfl c
        | _ :: _ :: _, _ => rfl
      rw [ee]; exact q _ (Same.refl _)
end

/-! ### P3 -/
section
variable {P : Program} {w : World} {K : PySem.W.Frag} {mg : Str → Option Value} {base : Heap}
def spFits (K : PySem.W.Frag) : Sp := fun vs H Q _ => ∃ (z : Str) (a : Addr) (xs : List V) (ds : List PyData), vs = [.str z, .ref a] ∧ SqE K H a xs ∧ Rps K H xs ds ∧ ds.length ≤ 1000 ∧ dats ds ∧ ∀ H', Same H H' → Q (.bl (toldFits z ds)) H'
theorem use_fits {K : PySem.W.Frag} {z : Str} {a : Addr} {xs : List V} {ds : List PyData} {H : Hp} {Q : VK} {E : XK} (s : SqE K H a xs) (r : Rps K H xs ds) (l : ds.length ≤ 1000) (hd : dats ds) (q : ∀ H', Same H H' → Q (.bl (toldFits z ds)) H') : spFits K [.str z, .ref a] H Q E := ⟨z, a, xs, ds, rfl, s, r, l, hd, q⟩
def spPFit : Sp := fun vs H Q _ => ∃ (z : Str) (n lo hi : Int), vs = [.str z, .int n] ∧ arity z = some (lo, hi) ∧ Q (.bl (partsFit z n)) H
/-- the module's two tables -/
structure PartsTab (w : World) (K : PySem.W.Frag) (mg : Str → Option Value) (a : Addr) (g : Str → Option Value) : Prop where
  tab : Tab w K mg "PARTS" a g
  no : ∀ z, arity z = none → g z = none
  yes : ∀ z lo hi, arity z = some (lo, hi) → ∃ b, g z = some (.ref b) ∧ ∀ H, SqT K H b [.int lo, .int hi]
structure TellsTab (P : Program) (w : World) (K : PySem.W.Frag) (mg : Str → Option Value) (base : Heap) (a : Addr) (g : Str → Option Value) : Prop where
  tab : Tab w K mg "TELLS" a g
  no : ∀ z, asks z = none → g z = none
  yes : ∀ z f, asks z = some f → ∃ b, g z = some (.ref b) ∧ Held P w K mg base 4 b (spAsks K f)
abbrev s_told_fits : Stmt := top 24
theorem sc_told_fits : FnScope ["op", "told", "fits"] ["op", "told"] (defScope s_told_fits) := ⟨rfl, rfl, rfl, by decide +kernel, rfl, by decide +kernel, by decide +kernel⟩
theorem has_told_fits {aP aT : Addr} {gP gT : Str → Option Value} (O : OwnF K mg "told_fits" s_told_fits) (B : Bl mg) (TP : PartsTab w K mg aP gP) (TT : TellsTab P w K mg base aT gT) : HasF P w K mg base CX0 5 "told_fits" ["op", "told"] (spFits K) := by
  refine has0 O sc_told_fits (fun _ _ _ _ _ _ us hl => match us, hl with | [_, _], _ => rfl) (fun vs H Q E h => ?_) (fun f cdv A outer s_ H vs Q E hr h => ?_)
  · obtain ⟨z, a, xs, ds, rfl, _⟩ := h
    rfl
  obtain ⟨z, a, xs, ds, rfl, hs, hR, hl, hd, q⟩ := h
  have T_PARTS := TP.tab
  have T_TELLS := TT.tab
  refine ⟨_, (pss_cons (ps_if (pt_cmpR (op_notInD T_PARTS) (pv 0) (pe_globR T_PARTS.m (by rfl)) (by rfl)) (pss_one (ps_ret pe_bl)) pss_nil) (pss_cons (ps_if (pt_cmpR (op_notInD T_TELLS) (pv 0) (pe_globR T_TELLS.m (by rfl)) (by rfl)) (pss_one (ps_ret (pe_cmpR (kEqG K (hU hr)) (pe_callB (kLen K) (by rfl) B.len (by decide +kernel) (pa_cons (pv 1) pa_nil)) pe_int (nomark _)))) pss_nil) (pss_cons (ps_set (i := 2) sc_told_fits.nd rfl (by first | exact Or.inl rfl | exact Or.inr rfl) (pe_ix (ix_tab T_TELLS) (pe_globR T_TELLS.m (by rfl)) (pv 0) (fun _ _ => rfl))) (pss_one (ps_ret (pe_callV (P := P) (w := w) (K := K) (mg := mg) (base := base) (k := 4) (i := 2) rfl rfl rfl rfl rfl (hr.mono (by decide)) rfl (Or.inl rfl) (pa_cons (pv 1) pa_nil))))))), ?_⟩
  refine st0 [some (.str z), some (.ref a), none] rfl ?_
  walk_at "go"
  cases ea : arity z with
  | none =>
    rw [TP.no z ea]
    refine iteT ?_
    walk_at "go"
    have e : false = toldFits z ds := by simp only [toldFits, ea]
    rw [e]; exact q _ (Same.refl _)
  | some p =>
    obtain ⟨b, eb, _⟩ := TP.yes z p.1 p.2 ea
    rw [eb]
    refine iteF ?_
    walk_at "go"
    cases ef : asks z with
    | none =>
      rw [TT.no z ef]
      refine iteT ?_
      walk_at "go"
      have e : decide ((xs.length : Int) = 0) = toldFits z ds := by simp only [toldFits, ea, ef, hR.length]
      rcases hs with hs | hs
      all_goals
        walk_at "go"
        rw [e]; exact q _ (Same.refl _)
    | some f =>
      obtain ⟨c, ec, hH⟩ := TT.yes z f ef
      rw [ec]
      refine iteF ?_
      walk_at "go"
      refine u_ixTab ec (show RelV (.ref c) (.ref c) from rfl) ?_
      walk_at "go"
      refine rd_callV rfl hH ?_
      walk_at "go"
      refine use_asks hs hR hl hd fun H' s' => ?_
      have e : f ds = toldFits z ds := by simp only [toldFits, ea, ef]
      rw [e]; exact q _ s'
abbrev s_parts_fit : Stmt := top 25
theorem sc_parts_fit : FnScope ["op", "many", "least", "most"] ["op", "many"] (defScope s_parts_fit) := ⟨rfl, rfl, rfl, by decide +kernel, rfl, by decide +kernel, by decide +kernel⟩
theorem has_parts_fit {aP : Addr} {gP : Str → Option Value} (O : OwnF K mg "parts_fit" s_parts_fit) (TP : PartsTab w K mg aP gP) : HasF P w K mg base CX0 1 "parts_fit" ["op", "many"] spPFit := by
  refine has0 O sc_parts_fit (fun _ _ _ _ _ _ us hl => match us, hl with | [_, _], _ => rfl) (fun vs H Q E h => ?_) (fun f cdv A outer s_ H vs Q E hr h => ?_)
  · obtain ⟨z, n, lo, hi, rfl, _⟩ := h
    rfl
  obtain ⟨z, n, lo, hi, rfl, ea, q⟩ := h
  have T_PARTS := TP.tab
  refine ⟨_, (pss_cons (ps_asg (pe_ix (ix_tab T_PARTS) (pe_globR T_PARTS.m (by rfl)) (pv 0) (fun _ _ => rfl)) (pg_tupK (n := 2) K rfl (pgs_cons (pg_name (i := 2) sc_parts_fit.nd rfl (by first | exact Or.inl rfl | exact Or.inr rfl)) (pgs_cons (pg_name (i := 3) sc_parts_fit.nd rfl (by first | exact Or.inl rfl | exact Or.inr rfl)) pgs_nil)))) (pss_one (ps_ret (pe_chain leU leU (pv 2) (pv 1) (pv 3))))), ?_⟩
  refine st0 [some (.str z), some (.int n), none, none] rfl ?_
  obtain ⟨b, eb, hb⟩ := TP.yes z lo hi ea
  walk_at "go"
  refine u_ixTab eb (show RelV (.ref b) (.ref b) from rfl) ?_
  refine rd_gtup (hb H) rfl ?_
  walk_at "go"
  have e : partsFit z n = (decide (lo ≤ n) && decide (n ≤ hi)) := by simp only [partsFit, ea]
  refine rd_split (fun c => ?_) (fun c => ?_)
  · walk_at "go"
    rw [e, decide_eq_true c, Bool.true_and] at q
    exact q
  · rw [e, decide_eq_false c, Bool.false_and] at q
    exact q
/-- an error of the class at C with a number leaves; what stood stands -/
def Raised (E : XK) (H : Hp) (C : Addr) (n : Int) : Prop := ∀ (H' : Hp) (d : Addr), Same H H' → H' d = some (.xd [("what", .int n)]) → E (.ref C) (some d) H'
theorem Raised.mono {E : XK} {H H1 : Hp} {C : Addr} {n : Int} (h : Raised E H C n) (s : Same H H1) : Raised E H1 C n := fun H' d s' e => h H' d (s.trans s') e
def spCount (cM : Addr) : Sp := fun vs H Q E => ∃ (n : Int), vs = [.int n] ∧ (40 ≤ n → Raised E H cM 41) ∧ (n < 40 → Q .non H)
abbrev s_check_count : Stmt := top 28
theorem sc_check_count : FnScope ["number"] ["number"] (defScope s_check_count) := ⟨rfl, rfl, rfl, by decide +kernel, rfl, by decide +kernel, by decide +kernel⟩
theorem has_check_count {fI cM : Addr} (O : OwnF K mg "check_count" s_check_count) (C : Cst mg) (hI : InitF P w K mg base fI) (M_TooMany : ErrC K mg fI "TooMany" cM) : HasF P w K mg base (L2.CX P w) 3 "check_count" ["number"] (spCount cM) := by
  refine hasX O sc_check_count (fun _ _ _ _ _ _ us hl => match us, hl with | [_], _ => rfl) (fun vs H Q E h => ?_) (fun f cdv A outer s_ H vs Q E hr h => ?_)
  · obtain ⟨n, rfl, _⟩ := h
    rfl
  obtain ⟨n, rfl, h1, h2⟩ := h
  refine ⟨_, (pss_one (ps_if (pt_cmpR geU (pv 0) (pe_globI C.MOST_JOINTS (by rfl)) (nomark _)) (pss_one (ps_raiseE K hI M_TooMany rfl (hr.mono (by decide)) tkX (pe_op (kAdd K) (pe_globI C.MOST_JOINTS (by rfl)) pe_int) (by rfl))) pss_nil)), ?_⟩
  refine st0 [some (.int n)] rfl ?_
  walk_at "go"
  refine rd_split (fun c => ?_) (fun c => ?_)
  · walk_at "go"
    exact u_raise M_TooMany.c M_TooMany.n fun d hd => h1 c _ d (same_new hd _) upd_same
  · walk_at "go"
    exact h2 (by omega)
def spForm (K : PySem.W.Frag) (cO cP : Addr) : Sp := fun vs H Q E => ∃ (z : Str) (a : Addr) (xs : List V) (ds : List PyData) (m n : Int), vs = [.str z, .ref a, .int m, .int n] ∧ SqE K H a xs ∧ Rps K H xs ds ∧ ds.length ≤ 1000 ∧ dats ds ∧
  (toldFits z ds = false → Raised E H cO n) ∧ (toldFits z ds = true → partsFit z m = false → Raised E H cP n) ∧ (toldFits z ds = true → partsFit z m = true → ∀ H', Same H H' → Q .non H')
abbrev s_check_form : Stmt := top 29
theorem sc_check_form : FnScope ["op", "told", "many", "place"] ["op", "told", "many", "place"] (defScope s_check_form) := ⟨rfl, rfl, rfl, by decide +kernel, rfl, by decide +kernel, by decide +kernel⟩
theorem has_check_form {fI cO cP : Addr} (O : OwnF K mg "check_form" s_check_form) (hI : InitF P w K mg base fI) (M_BadOp : ErrC K mg fI "BadOp" cO) (M_BadParts : ErrC K mg fI "BadParts" cP) (h_told_fits : HasF P w K mg base CX0 5 "told_fits" ["op", "told"] (spFits K)) (h_parts_fit : HasF P w K mg base CX0 1 "parts_fit" ["op", "many"] spPFit) : HasF P w K mg base (L2.CX P w) 6 "check_form" ["op", "told", "many", "place"] (spForm K cO cP) := by
  refine hasX O sc_check_form (fun _ _ _ _ _ _ us hl => match us, hl with | [_, _, _, _], _ => rfl) (fun vs H Q E h => ?_) (fun f cdv A outer s_ H vs Q E hr h => ?_)
  · obtain ⟨z, a, xs, ds, m, n, rfl, _⟩ := h
    rfl
  obtain ⟨z, a, xs, ds, m, n, rfl, hs, hR, hl, hd, h1, h2, h3⟩ := h
  refine ⟨_, (pss_cons (ps_if (pt_not (pt_val (pe_callH h_told_fits (hr.mono (by first | decide | omega)) (by rfl) pass0 (pa_cons (pv 0) (pa_cons (pv 1) pa_nil))))) (pss_one (ps_raiseE K hI M_BadOp rfl (hr.mono (by decide)) tkX (pv 3) (by rfl))) pss_nil) (pss_one (ps_if (pt_not (pt_val (pe_callH h_parts_fit (hr.mono (by first | decide | omega)) (by rfl) pass0 (pa_cons (pv 0) (pa_cons (pv 2) pa_nil))))) (pss_one (ps_raiseE K hI M_BadParts rfl (hr.mono (by decide)) tkX (pv 3) (by rfl))) pss_nil))), ?_⟩
  refine st0 [some (.str z), some (.ref a), some (.int m), some (.int n)] rfl ?_
  walk_at "go"
  refine use_fits hs hR hl hd fun H' s' => ?_
  walk_at "go"
  cases e1 : toldFits z ds with
  | false =>
    refine iteT ?_
    walk_at "go"
    exact u_raise M_BadOp.c M_BadOp.n fun d hd => h1 e1 _ d (Same.new s' hd) upd_same
  | true =>
    refine iteF ?_
    obtain ⟨lo, hi, ea⟩ := fits_arity e1
    walk_at "go"
    refine ⟨z, m, lo, hi, rfl, ea, ?_⟩
    walk_at "go"
    cases e2 : partsFit z m with
    | false =>
      refine iteT ?_
      walk_at "go"
      exact u_raise M_BadParts.c M_BadParts.n fun d hd => h2 e1 e2 _ d (Same.new s' hd) upd_same
    | true =>
      refine iteF ?_
      walk_at "go"
      exact h3 e1 e2 _ s'
end

/-! ### P4 -/
section
variable {P : Program} {w : World} {K : PySem.W.Frag} {mg : Str → Option Value} {base : Heap}
abbrev s_is_triple : Stmt := top 30
theorem sc_is_triple : FnScope ["thing", "op", "told", "parts"] ["thing"] (defScope s_is_triple) := ⟨rfl, rfl, rfl, by decide +kernel, rfl, by decide +kernel, by decide +kernel⟩
theorem has_is_triple (O : OwnF K mg "is_triple" s_is_triple) (B : Bl mg) : HasF P w K mg base CX0 1 "is_triple" ["thing"] (spAsk K isTri) := by
  refine has0 O sc_is_triple (fun _ _ _ _ _ _ us hl => match us, hl with | [_], _ => rfl) (fun vs H Q E h => ?_) (fun f cdv A outer s_ H vs Q E hr h => ?_)
  · obtain ⟨v, d, rfl, _⟩ := h
    rfl
  obtain ⟨v, d, rfl, r, hd, q⟩ := h
  refine ⟨_, (pss_cons (ps_if (PW.pt (pw_or (pt_not (pt_val (pe_callB (kIsi K) (by rfl) B.isinstance (by decide +kernel) (pa_cons (pv 0) (pa_cons (pe_bltn (v := .ty "tuple") (by rfl) B.tuple (by decide +kernel) rfl) pa_nil))))) (pw_or1 (pt_cmpR (kNeG K (hU hr)) (pe_callB (kLen K) (by rfl) B.len (by decide +kernel) (pa_cons (pv 0) pa_nil)) pe_int (nomark _))))) (pss_one (ps_ret pe_bl)) pss_nil) (pss_cons (ps_asg (pv 0) (pg_tupK (n := 3) K rfl (pgs_cons (pg_name (i := 1) sc_is_triple.nd rfl (by first | exact Or.inl rfl | exact Or.inr rfl)) (pgs_cons (pg_name (i := 2) sc_is_triple.nd rfl (by first | exact Or.inl rfl | exact Or.inr rfl)) (pgs_cons (pg_name (i := 3) sc_is_triple.nd rfl (by first | exact Or.inl rfl | exact Or.inr rfl)) pgs_nil))))) (pss_one (ps_ret (pe_and (pe_callB (kIsi K) (by rfl) B.isinstance (by decide +kernel) (pa_cons (pv 1) (pa_cons (pe_bltn (v := .ty "str") (by rfl) B.str (by decide +kernel) rfl) pa_nil))) (pe_and (pe_callB (kIsi K) (by rfl) B.isinstance (by decide +kernel) (pa_cons (pv 2) (pa_cons (pe_bltn (v := .ty "tuple") (by rfl) B.tuple (by decide +kernel) rfl) pa_nil))) (pe_one (pe_callB (kIsi K) (by rfl) B.isinstance (by decide +kernel) (pa_cons (pv 3) (pa_cons (pe_bltn (v := .ty "tuple") (by rfl) B.tuple (by decide +kernel) rfl) pa_nil)))))))))), ?_⟩
  refine st0 [some v, none, none, none] rfl ?_
  walk_at "go"
  cases r with
  | @tup a xs ds hs hR =>
    refine iteF ?_
    walk_at "go"
    refine rd_splitN (fun c => ?_) (fun c => ?_)
    · walk_at "go"
      have e : false = isTri (.tuple ds) := by
        rw [hR.length] at c
        match ds, c with
        | [], _ => rfl
        | [x], _ => cases x <;> rfl
        | [x, y], _ => cases x <;> cases y <;> rfl
        | [_, _, _], c => exact absurd rfl c
        | x :: y :: z :: _ :: _, _ => cases x <;> cases y <;> cases z <;> rfl
      rw [e]; exact q _ (Same.refl _)
    · obtain ⟨x, y, z, d, e, f, rfl, rfl, r1, r2, r3⟩ := hR.three c
      walk_at "go"
      refine rd_gtup hs rfl ?_
      walk_at "go"
      have ee : (isT "str" d && isT "tuple" e && isT "tuple" f) = isTri (.tuple [d, e, f]) := by
        cases d <;> simp [isT, isTri] <;> cases e <;> simp [isT, isTri] <;> cases f <;> simp [isT, isTri]
      have q' := q H (Same.refl _)
      rw [← ee] at q'
      refine rd_splitB (fun c1 => ?_) (fun c1 => ?_)
      · walk_at "go"
        refine rd_splitB (fun c2 => ?_) (fun c2 => ?_)
        · walk_at "go"
          rw [c1, c2, Bool.true_and] at q'
          exact q'
        · rw [c1, c2, Bool.true_and] at q'
          exact q'
      · rw [c1] at q'
        exact q'
  | non => refine iteT ?_; walk_at "go"; exact q _ (Same.refl _)
  | bl b => refine iteT ?_; walk_at "go"; exact q _ (Same.refl _)
  | int i => refine iteT ?_; walk_at "go"; exact q _ (Same.refl _)
  | str z => refine iteT ?_; walk_at "go"; exact q _ (Same.refl _)
/-- the classes of the faults -/
structure Ecl where
  many : Addr
  prog : Addr
  op : Addr
  parts : Addr
def Ecl.of (c : Ecl) : Flt → Addr
  | .many => c.many
  | .prog => c.prog
  | .op => c.op
  | .parts => c.parts
def spJoint (K : PySem.W.Frag) (c : Ecl) : Sp := fun vs H Q E => ∃ (v : V) (d : PyData) (n : Int), vs = [v, .int n] ∧ Rp K H v d ∧ dat d ∧ (∀ f, jf d n = some f → Raised E H (c.of f) (fval f n)) ∧ (jf d n = none → ∀ H', Same H H' → Q .non H')
theorem use_joint {K : PySem.W.Frag} {c : Ecl} {v : V} {d : PyData} {n : Int} {H : Hp} {Q : VK} {E : XK} (r : Rp K H v d) (hd : dat d) (h1 : ∀ f, jf d n = some f → Raised E H (c.of f) (fval f n)) (h2 : jf d n = none → ∀ H', Same H H' → Q .non H') : spJoint K c [v, .int n] H Q E := ⟨v, d, n, rfl, r, hd, h1, h2⟩
abbrev s_check_joint : Stmt := top 31
theorem sc_check_joint : FnScope ["thing", "number", "op", "told", "parts"] ["thing", "number"] (defScope s_check_joint) := ⟨rfl, rfl, rfl, by decide +kernel, rfl, by decide +kernel, by decide +kernel⟩
theorem has_check_joint {fI : Addr} {c : Ecl} (O : OwnF K mg "check_joint" s_check_joint) (B : Bl mg) (hI : InitF P w K mg base fI) (M_BadProgram : ErrC K mg fI "BadProgram" c.prog) (h_check_count : HasF P w K mg base (L2.CX P w) 3 "check_count" ["number"] (spCount c.many)) (h_is_triple : HasF P w K mg base CX0 1 "is_triple" ["thing"] (spAsk K isTri)) (h_check_form : HasF P w K mg base (L2.CX P w) 6 "check_form" ["op", "told", "many", "place"] (spForm K c.op c.parts)) : HasF P w K mg base (L2.CX P w) 7 "check_joint" ["thing", "number"] (spJoint K c) := by
  refine hasX O sc_check_joint (fun _ _ _ _ _ _ us hl => match us, hl with | [_, _], _ => rfl) (fun vs H Q E h => ?_) (fun f cdv A outer s_ H vs Q E hr h => ?_)
  · obtain ⟨v, d, n, rfl, _⟩ := h
    rfl
  obtain ⟨v, d, n, rfl, r, hd, h1, h2⟩ := h
  refine ⟨_, (pss_cons (ps_expr (pe_callHS h_check_count (hr.mono (by first | decide | omega)) (by rfl) (fun σ => passAt tkX σ) (pa_cons (pv 1) pa_nil))) (pss_cons (ps_if (pt_not (pt_val (pe_callH h_is_triple (hr.mono (by first | decide | omega)) (by rfl) pass0 (pa_cons (pv 0) pa_nil)))) (pss_one (ps_raiseE K hI M_BadProgram rfl (hr.mono (by decide)) tkX (pv 1) (by rfl))) pss_nil) (pss_cons (ps_asg (pv 0) (pg_tupK (n := 3) K rfl (pgs_cons (pg_name (i := 2) sc_check_joint.nd rfl (by first | exact Or.inl rfl | exact Or.inr rfl)) (pgs_cons (pg_name (i := 3) sc_check_joint.nd rfl (by first | exact Or.inl rfl | exact Or.inr rfl)) (pgs_cons (pg_name (i := 4) sc_check_joint.nd rfl (by first | exact Or.inl rfl | exact Or.inr rfl)) pgs_nil))))) (pss_one (ps_expr (pe_callHS h_check_form (hr.mono (by first | decide | omega)) (by rfl) (fun σ => passAt tkX σ) (pa_cons (pv 2) (pa_cons (pv 3) (pa_cons (pe_callB (kLen K) (by rfl) B.len (by decide +kernel) (pa_cons (pv 4) pa_nil)) (pa_cons (pv 1) pa_nil)))))))))), ?_⟩
  refine st0 [some v, some (.int n), none, none, none] rfl ?_
  walk_at "go"
  refine ⟨n, rfl, fun c40 => ?_, fun c40 => ?_⟩
  · exact h1 .many (by unfold jf; rw [if_pos c40])
  have n40 : ¬ (40 : Int) ≤ n := by omega
  walk_at "go"
  refine use_ask r hd fun H1 s1 => ?_
  walk_at "go"
  by_cases ct : ∃ op told parts, d = .tuple [.str op, .tuple told, .tuple parts]
  · obtain ⟨op, told, parts, rfl⟩ := ct
    refine iteF ?_
    walk_at "go"
    have r1 := r.mono (Ext.of_same s1) _ _
    cases r1 with
    | @tup a xs ds hs hR =>
    obtain ⟨x, y, z, d, e, f, rfl, ed, ra, rb, rc⟩ := hR.three (by rw [hR.length] <;> rfl)
    cases ed
    cases ra
    cases rb with
    | @tup a2 xs2 ds2 hs2 hR2 =>
    cases rc with
    | @tup a3 xs3 ds3 hs3 hR3 =>
    refine rd_gtup hs rfl ?_
    walk_at "go"
    have hd2 : told.length ≤ 1000 ∧ dats told := hd.2.2.1
    have el := hR3.length
    refine ⟨op, a2, xs2, told, _, n, rfl, .inr hs2, hR2, hd2.1, hd2.2, fun e1 => ?_, fun e1 e2 => ?_, fun e1 e2 H2 s2 => ?_⟩
    · exact (h1 .op (by unfold jf; rw [if_neg n40]; simp only [e1]; rfl)).mono s1
    · rw [el] at e2
      exact (h1 .parts (by unfold jf; rw [if_neg n40]; simp only [e1, e2]; rfl)).mono s1
    · rw [el] at e2
      walk_at "go"
      exact h2 (by unfold jf; rw [if_neg n40]; simp only [e1, e2]; rfl) _ (s1.trans s2)
  · have e1 : isTri d = false := by
      cases hh : isTri d with
      | false => rfl
      | true =>
        unfold isTri at hh
        split at hh
        · exact absurd ⟨_, _, _, rfl⟩ ct
        · cases hh
    have e2 : jf d n = some .prog := by
      unfold jf
      rw [if_neg n40]
      split
      · exact absurd ⟨_, _, _, rfl⟩ ct
      · rfl
    rw [e1]
    refine iteT ?_
    walk_at "go"
    exact u_raise M_BadProgram.c M_BadProgram.n fun d' hd' => h1 .prog e2 _ d' (Same.new s1 hd') upd_same
def spMade (K : PySem.W.Frag) (c : Ecl) : Sp := fun vs H Q E => ∃ (v : V) (d : PyData), vs = [v] ∧ Rp K H v d ∧ dat d ∧ (∀ f n, walk 42 [d] 0 = some (f, n) → Raised E H (c.of f) n) ∧ (walk 42 [d] 0 = none → ∀ H', Same H H' → Q v H')
theorem use_made {K : PySem.W.Frag} {c : Ecl} {v : V} {d : PyData} {H : Hp} {Q : VK} {E : XK} (r : Rp K H v d) (hd : dat d) (h1 : ∀ f n, walk 42 [d] 0 = some (f, n) → Raised E H (c.of f) n) (h2 : walk 42 [d] 0 = none → ∀ H', Same H H' → Q v H') : spMade K c [v] H Q E := ⟨v, d, rfl, r, hd, h1, h2⟩
abbrev s_made_program : Stmt := top 32
theorem sc_made_program : FnScope ["thing", "number", "waiting", "joint"] ["thing"] (defScope s_made_program) := ⟨rfl, rfl, rfl, by decide +kernel, rfl, by decide +kernel, by decide +kernel⟩
theorem has_made_program {c : Ecl} (O : OwnF K mg "made_program" s_made_program) (h_check_joint : HasF P w K mg base (L2.CX P w) 7 "check_joint" ["thing", "number"] (spJoint K c)) : HasF P w K mg base (L2.CX P w) 8 "made_program" ["thing"] (spMade K c) := by
  refine hasX O sc_made_program (fun _ _ _ _ _ _ us hl => match us, hl with | [_], _ => rfl) (fun vs H Q E h => ?_) (fun f cdv A outer s_ H vs Q E hr h => ?_)
  · obtain ⟨v, d, rfl, _⟩ := h
    rfl
  obtain ⟨v, d, rfl, r, hd, h1, h2⟩ := h
  refine ⟨_, (pss_cons (ps_set (i := 1) sc_made_program.nd rfl (by first | exact Or.inl rfl | exact Or.inr rfl) pe_int) (pss_cons (ps_set (i := 2) sc_made_program.nd rfl (by first | exact Or.inl rfl | exact Or.inr rfl) (pe_lst (pa_cons (pv 0) pa_nil))) (pss_cons (ps_while poX (pt_truthK K (pv 2) (by intro _; rfl)) (pss_cons (ps_set (i := 3) sc_made_program.nd rfl (by first | exact Or.inl rfl | exact Or.inr rfl) (pe_bm0K K PySem.F.plainAttrs_list PySem.F.slot_list_pop PySem.F.type_list_pop mt_pop (pv 2))) (pss_cons (ps_expr (pe_callHS h_check_joint (hr.mono (by first | decide | omega)) (by rfl) (fun σ => passAt tkX σ) (pa_cons (pv 3) (pa_cons (pv 1) pa_nil)))) (pss_cons (ps_aug (i := 1) sc_made_program.nd rfl (by first | exact Or.inl rfl | exact Or.inr rfl) pe_int ip_add) (pss_one (ps_expr (pe_bmK K PySem.F.plainAttrs_list PySem.F.slot_list_extend PySem.F.type_list_extend (kExt K) (pv 2) (pa_cons (pe_revK K (pe_ix (kIx K) (pv 3) pe_int (fun _ _ => rfl))) pa_nil)))))))) (pss_one (ps_ret (pv 0)))))), ?_⟩
  refine st0 [some v, none, none, none] rfl ?_
  walk_at "go"
  refine ⟨lk rfl, fun a ha => ?_⟩
  walk_at "go"
  refine rd_while (fun m σ H' => ∃ (n : Int) (st : List PyData) (xs : List V) (o : Option V), σ = [some v, some (.int n), some (.ref a), o] ∧ Same H H' ∧ H' a = some (.lst xs) ∧ Rps K H' xs st.reverse ∧ dats st ∧ 0 ≤ n ∧ n ≤ 40 ∧ n + m = 42 ∧ walk m st n = walk 42 [d] 0 ∧ (xs.length : Int) ≤ 1 + 1000 * n) 42
    ⟨0, [d], [v], none, rfl, same_new ha _, upd_same, .one (r.mono (Ext.new ha) _ _), ⟨hd, trivial⟩, by omega, by omega, by omega, rfl, by simp⟩ ?_
  rintro m σ H' ⟨n, st, xs, o, rfl, s', ea, hR, hd', n0, n1, nm, ew, hl⟩
  walk_at "go"
  match st, hR, hd', ew with
  | [], hR, hd', ew =>
    cases hR
    refine iteF ?_
    walk_at "go"
    rw [walk_none] at ew
    exact h2 ew.symm _ s'
  | j :: r0, hR, hd', ew =>
    have hR' := hR
    rw [List.reverse_cons] at hR'
    have hlen := hR.length
    have hpos : 0 < xs.length := by rw [hlen, List.length_reverse]; exact Nat.succ_pos _
    have hne : (!xs.isEmpty) = true := by cases xs with
      | nil => cases hpos
      | cons _ _ => rfl
    rw [hne]
    refine iteT ⟨fun σ' H' => ∃ m', m' < m ∧ _, fun _ _ h => h, ?_⟩
    walk_at "go"
    have e2 : (r0.reverse ++ [j])[xs.length - 1]? = some j := by
      rw [hlen, List.reverse_cons, List.length_append]
      simp
    obtain ⟨u, eu, ru⟩ := hR'.get e2
    refine u_pop ea eu ?_
    walk_at "go"
    have dj : dat j := hd'.1
    have xD : Ext K H' (upd H' a (.lst xs.dropLast)) := Ext.set ea trivial
    obtain ⟨m', rfl⟩ : ∃ m', m = m' + 1 := ⟨m - 1, by omega⟩
    refine use_joint (ru.mono xD _ _) dj (fun f ef => ?_) (fun ef H2 s2 => ?_)
    · have ew' : walk 42 [d] 0 = some (f, fval f n) := by
        rw [← ew]
        show (match jf j n with | some f => some (f, fval f n) | none => walk m' (partsOf j ++ r0) (n + 1)) = _
        rw [ef]
      exact (h1 _ _ ew').mono (Same.upd_new s' ha)
    · obtain ⟨op, told, parts, rfl⟩ := jf_tri ef
      have r2 := (ru.mono xD _ _).mono (Ext.of_same s2) _ _
      walk_at "go"
      cases r2 with
      | @tup aj xj dj2 hsj hRj =>
      obtain ⟨x, y, z, p, q, t, rfl, ed, ra, rb, rc⟩ := hRj.three (by rw [hRj.length] <;> rfl)
      cases ed
      cases rc with
      | @tup a3 xs3 ds3 hs3 hR3 =>
      have ea2 : H2 a = some (.lst xs.dropLast) := s2 _ _ upd_same
      have dp : parts.length ≤ 1000 ∧ dats parts := dj.2.2.2.1
      have lp := hR3.length
      refine rd_tyL (SqL.of ea2) ?_
      walk_at "go"
      refine u_ixT hsj rfl ?_
      refine rd_revT hs3 ?_
      intro b hb
      walk_at "go"
      have nab : a ≠ b := ne_of_none ea2 hb
      have n40 := jf_many ef
      refine u_extT (xs := xs.dropLast) (by rw [upd_ne nab]; exact ea2) (SqT.of upd_same) ?_ ?_
      · rw [List.length_dropLast, List.length_reverse, lp]
        exact ll (by omega)
      walk_at "go"
      refine ⟨m', Nat.lt_succ_self _, n + 1, parts ++ r0, xs.dropLast ++ xs3.reverse, _, rfl, ?_, upd_same, ?_, dats_append dp.2 hd'.2, by omega, by omega, by omega, ?_, ?_⟩
      · exact Same.upd_new (Same.new ((Same.upd_new s' ha).trans s2) hb) ha
      · rw [List.reverse_append]
        refine Rps.append ?_ ?_
        · have h3 := hR'.dropLast
          rw [List.dropLast_concat] at h3
          exact ((h3.mono xD _ _).mono (Ext.of_same s2) _ _).mono ((Ext.new hb).trans (Ext.set (o := .lst xs.dropLast) (by rw [upd_ne nab]; exact ea2) trivial)) _ _
        · exact (hR3.reverse).mono ((Ext.new hb).trans (Ext.set (o := .lst xs.dropLast) (by rw [upd_ne nab]; exact ea2) trivial)) _ _
      · rw [← ew]
        show _ = (match jf _ n with | some f => some (f, fval f n) | none => walk m' (partsOf _ ++ r0) (n + 1))
        rw [ef]
        rfl
      · rw [List.length_append, List.length_dropLast, List.length_reverse, lp]
        omega
end
end Mine

/-! ### T4 -/
namespace Mine
open PySem PySem.Spec L2
/-! # texts of programs, and their tokens -/
inductive Tk where
  | wd (z : Str)
  | num (n : Nat)
  | sg (c : Nat)
def Tk.cs : Tk → List Nat
  | .wd z => z.cps.toList
  | .num n => TL.numL n
  | .sg c => [c]
def Tk.run : Tk → Bool
  | .sg _ => false
  | _ => true
def letC (c : Nat) : Prop := 97 ≤ c ∧ c ≤ 122
def digC (c : Nat) : Prop := 48 ≤ c ∧ c ≤ 57
def Blank (g : List Nat) : Prop := ∀ c ∈ g, c = 32 ∨ c = 10
def signs5 : List Nat := [91, 93, 40, 44, 41]
def WordS (z : Str) : Prop := 1 ≤ z.length ∧ z.length ≤ 8 ∧ ∀ c ∈ z.cps.toList, letC c
def Tk.ok : Tk → Prop
  | .wd z => WordS z
  | .num n => n < 10 ^ 7
  | .sg c => c ∈ signs5
/-- a told thing that stands in a text -/
def TdO (d : PyData) : Prop := (∃ n : Nat, d = .int n ∧ n < 10 ^ 7) ∨ ∃ z, d = .str z ∧ WordS z
def tdS : PyData → Str
  | .int i => toString i
  | .str z => z
  | _ => Str.ofString ""
def tdT : PyData → Tk
  | .int i => .num i.toNat
  | .str z => .wd z
  | _ => .sg 0
theorem let_mem {c : Nat} : c ∈ Letters.cps.toList ↔ letC c := by
  have h1 : ∀ y ∈ Letters.cps.toList, 97 ≤ y ∧ y ≤ 122 := by decide +kernel
  have h2 : ∀ k : Nat, k < 26 → (97 + k) ∈ Letters.cps.toList := by decide +kernel
  refine ⟨fun h => h1 c h, fun h => ?_⟩
  have := h2 (c - 97) (by have := h.2; have := h.1; omega)
  rw [show 97 + (c - 97) = c by have := h.1; omega] at this
  exact this
theorem word_of {z : Str} (h : isWord (.str z) = true) : WordS z := by
  simp only [isWord, lowAll, Bool.and_eq_true, decide_eq_true_eq, List.all_eq_true] at h
  refine ⟨by have := h.1.1; omega, by have := h.1.2; omega, fun c hc => let_mem.mp ?_⟩
  exact h.2 c hc
theorem int_tdO {d : PyData} {lo hi : Int} (h : isBtw d lo hi = true) (h0 : 0 ≤ lo) (h1 : hi < 10 ^ 7) : TdO d := by
  obtain ⟨i, rfl, a, b⟩ := btw_get h
  exact .inl ⟨i.toNat, by rw [show ((i.toNat : Nat) : Int) = i by omega], by omega⟩
theorem told_ok {z : Str} {ds : List PyData} (h : toldFits z ds = true) : (∀ d ∈ ds, TdO d) ∧ ds.length ≤ 64 ∧ (z ≠ "row" → ds.length ≤ 2) ∧ (z = "row" → 1 ≤ ds.length ∧ ∀ d ∈ ds, ∃ n : Nat, d = .int n ∧ n < 10 ^ 7) := by
  by_cases c1 : z = "row"
  · subst c1
    rw [fits_row] at h
    unfold tellsRow rowNums at h
    simp only [Bool.and_eq_true, decide_eq_true_eq, List.all_eq_true] at h
    have hd : ∀ d ∈ ds, ∃ n : Nat, d = .int n ∧ n < 10 ^ 7 := fun d hd => by
      obtain ⟨i, rfl, a, b⟩ := btw_get (h.2 d hd)
      exact ⟨i.toNat, by rw [show ((i.toNat : Nat) : Int) = i by omega], by omega⟩
    exact ⟨fun d m => .inl (hd d m), by have := h.1.2; omega, fun e => absurd rfl e, fun _ => ⟨by have := h.1.1; omega, hd⟩⟩
  have nr : z = "row" → 1 ≤ ds.length ∧ ∀ d ∈ ds, ∃ n : Nat, d = .int n ∧ n < 10 ^ 7 := fun e => absurd e c1
  by_cases c2 : z = "in"
  · subst c2
    rw [fits_in] at h
    unfold tellsInput at h
    split at h
    · rename_i a b
      rw [Bool.and_eq_true] at h
      refine ⟨fun d hd => ?_, by simp, by simp, nr⟩
      simp only [List.mem_cons, List.not_mem_nil, or_false] at hd
      rcases hd with rfl | rfl
      · cases d with
        | str y => exact .inr ⟨y, rfl, word_of h.1⟩
        | _ => exact absurd h.1 (by simp [isWord])
      · exact int_tdO h.2 (by decide) (by decide)
    · cases h
  by_cases c3 : z = "part"
  · subst c3
    obtain ⟨i, k, rfl, a, b, e⟩ := told_part h
    refine ⟨fun d hd => ?_, by simp, by simp, nr⟩
    simp only [List.mem_cons, List.not_mem_nil, or_false] at hd
    rcases hd with rfl | rfl
    · exact .inl ⟨i.toNat, by rw [show ((i.toNat : Nat) : Int) = i by omega], by omega⟩
    · exact .inl ⟨k.toNat, by rw [show ((k.toNat : Nat) : Int) = k by omega], by omega⟩
  by_cases c4 : z = "rep"
  · subst c4
    obtain ⟨t, rfl, a, b⟩ := told_rep h
    refine ⟨fun d hd => ?_, by simp, by simp, nr⟩
    rw [List.mem_singleton.mp hd]
    exact .inl ⟨t.toNat, by rw [show ((t.toNat : Nat) : Int) = t by omega], by omega⟩
  by_cases c5 : z = "hold"
  · subst c5
    rw [fits_hold] at h
    unfold tellsRoom at h
    split at h
    · refine ⟨fun d hd => ?_, by simp, by simp, nr⟩
      rw [List.mem_singleton.mp hd]
      exact int_tdO h (by decide) (by decide)
    · cases h
  rw [fits_other c1 c2 c3 c4 c5] at h
  have h' := (Bool.and_eq_true_iff.mp h).2
  cases ds with
  | nil => exact ⟨(fun _ m => nomatch m), by simp, by simp, nr⟩
  | cons a r => cases h'
theorem tdO_int {n : Nat} (h : n < 10 ^ 7) : (tdS (.int n)).cps.toList = TL.numL n := TL.tl_num n
theorem num_len {n : Nat} (h : n < 10 ^ 7) : (TL.numL n).length ≤ 7 := TL.numL_len (by decide) h
theorem tdO_cs {d : PyData} (h : TdO d) : (tdS d).cps.toList = (tdT d).cs ∧ (tdT d).ok ∧ (tdT d).run = true := by
  rcases h with ⟨n, rfl, hn⟩ | ⟨z, rfl, hz⟩
  · exact ⟨tdO_int hn, by show ((n : Int)).toNat < _; rw [Int.toNat_natCast]; exact hn, rfl⟩
  · exact ⟨rfl, hz, rfl⟩
theorem tdO_len {d : PyData} (h : TdO d) : (tdS d).length ≤ 8 := by
  rcases h with ⟨n, rfl, hn⟩ | ⟨z, rfl, hz⟩
  · rw [TL.len_tl]
    show (tdS (.int n)).cps.toList.length ≤ 8
    rw [tdO_int hn]
    have := num_len hn
    omega
  · exact hz.2.1
mutual
def Jn.tx : Jn → Str
  | .mk op td parts => if op = "row" then Str.ofString "[" ++ Txt.join (Str.ofString " ") (td.map tdS) ++ Str.ofString "]" else if parts.isEmpty = true then Txt.join (Str.ofString " ") (op :: td.map tdS) else Txt.join (Str.ofString " ") (op :: td.map tdS) ++ Str.ofString "(" ++ Txt.join (Str.ofString ", ") (Jn.txs parts) ++ Str.ofString ")"
def Jn.txs : List Jn → List Str
  | [] => []
  | j :: r => j.tx :: Jn.txs r
end
mutual
def Jn.tks : Jn → List Tk
  | .mk op td parts => if op = "row" then .sg 91 :: td.map tdT ++ [.sg 93] else .wd op :: td.map tdT ++ (if parts.isEmpty = true then [] else .sg 40 :: Jn.tksl parts ++ [.sg 41])
def Jn.tksl : List Jn → List Tk
  | [] => []
  | j :: r => j.tks ++ (if r.isEmpty = true then [] else .sg 44 :: Jn.tksl r)
end
theorem join_len (sep : Str) (l : List Str) : (Txt.join sep l).length ≤ (l.map (·.length)).sum + l.length * sep.length := by
  rw [TL.join_eq]
  exact StrLaws.join_length_le sep l
theorem sum_le8 : ∀ {l : List PyData}, (∀ d ∈ l, TdO d) → ((l.map tdS).map (·.length)).sum ≤ 8 * l.length
  | [], _ => by simp
  | d :: r, h => by
    have h1 := tdO_len (h d List.mem_cons_self)
    have h2 := sum_le8 (l := r) fun x hx => h x (List.mem_cons_of_mem _ hx)
    simp only [List.map_cons, List.sum_cons, List.length_cons] at h2 ⊢
    omega
theorem op_word {z : Str} {ds : List PyData} (h : toldFits z ds = true) : WordS z := by
  obtain ⟨lo, hi, e⟩ := fits_arity h
  have k : ∀ y ∈ op0 ++ op1 ++ op2 ++ ([Str.ofString "cat"] : List Str), isWord (.str y) = true := by decide +kernel
  refine word_of (k z ?_)
  unfold arity at e
  by_cases c0 : z ∈ op0
  · simp [c0]
  rw [if_neg c0] at e
  by_cases c1 : z ∈ op1
  · simp [c1]
  rw [if_neg c1] at e
  by_cases c2 : z ∈ op2
  · simp [c2]
  rw [if_neg c2] at e
  by_cases c3 : z = "cat"
  · subst c3
    simp
  rw [if_neg c3] at e
  cases e
mutual
theorem tx_len : ∀ (j : Jn), (∀ x ∈ j.all, Fit x) → j.tx.length + 6 ≤ 590 * j.cnt
  | .mk op td parts, h => by
    have hf : Fit (.mk op td parts) := h _ (all_self _)
    obtain ⟨h1, h2, h3, h4⟩ := told_ok hf.1
    have hs := sum_le8 h1
    have hw := op_word hf.1
    have ih := txs_len parts fun x hx => h x (by simp only [Jn.all]; exact List.mem_cons_of_mem _ hx)
    simp only [Jn.tx, Jn.cnt]
    by_cases c : op = "row"
    · rw [if_pos c]
      have hj := join_len (Str.ofString " ") (td.map tdS)
      rw [List.length_map] at hj
      rw [TL.len_tl, TL.tl_append, TL.tl_append, List.length_append, List.length_append, ← TL.len_tl, ← TL.len_tl, ← TL.len_tl]
      have e1 : (Str.ofString "[").length = 1 := by decide +kernel
      have e2 : (Str.ofString "]").length = 1 := by decide +kernel
      have e3 : (Str.ofString " ").length = 1 := by decide +kernel
      rw [e3] at hj
      omega
    · rw [if_neg c]
      have h3 := h3 c
      have hj := join_len (Str.ofString " ") (op :: td.map tdS)
      simp only [List.length_cons, List.length_map, List.map_cons, List.sum_cons] at hj
      have e3 : (Str.ofString " ").length = 1 := by decide +kernel
      have hw2 := hw.2.1
      have hs' : ((td.map tdS).map (·.length)).sum ≤ 16 := by omega
      rw [e3] at hj
      by_cases cp : parts.isEmpty = true
      · rw [if_pos cp]
        omega
      · rw [if_neg cp]
        rw [TL.len_tl, TL.tl_append, TL.tl_append, TL.tl_append, List.length_append, List.length_append, List.length_append, ← TL.len_tl, ← TL.len_tl, ← TL.len_tl, ← TL.len_tl]
        have e1 : (Str.ofString "(").length = 1 := by decide +kernel
        have e2 : (Str.ofString ")").length = 1 := by decide +kernel
        have e4 : (Str.ofString ", ").length = 2 := by decide +kernel
        have hk := join_len (Str.ofString ", ") (Jn.txs parts)
        rw [e4] at hk
        have hl : (Jn.txs parts).length = parts.length := ih.2
        have hc : parts.length ≤ Jn.cnts parts := ih.1.2
        have := ih.1.1
        omega
theorem txs_len : ∀ (l : List Jn), (∀ x ∈ Jn.alls l, Fit x) → (((Jn.txs l).map (·.length)).sum + 6 * l.length ≤ 590 * Jn.cnts l ∧ l.length ≤ Jn.cnts l) ∧ (Jn.txs l).length = l.length
  | [], _ => by simp [Jn.txs, Jn.cnts]
  | j :: r, h => by
    have h1 := tx_len j fun x hx => h x (by simp only [Jn.alls]; exact List.mem_append_left _ hx)
    have h2 := txs_len r fun x hx => h x (by simp only [Jn.alls]; exact List.mem_append_right _ hx)
    have hc := cnt_pos j
    simp only [Jn.txs, Jn.cnts, List.map_cons, List.sum_cons, List.length_cons]
    refine ⟨⟨?_, by omega⟩, by omega⟩
    omega
end
end Mine

/-! ### T5 -/
namespace Mine
open PySem PySem.Spec L2
/-! # the scanner's walk -/
def kW : Str := Str.ofString "word"
def kN : Str := Str.ofString "number"
def kO : Str := Str.ofString "("
def kC : Str := Str.ofString ")"
def kK : Str := Str.ofString ","
def kB : Str := Str.ofString "["
def kE : Str := Str.ofString "]"
def sBegin : Str := Str.ofString "begin"
def sHead : Str := Str.ofString "head"
def sFresh : Str := Str.ofString "fresh"
def sRow : Str := Str.ofString "row"
def sClosed : Str := Str.ofString "closed"
def nextT : List (Str × List Str) := [(sBegin, [kW, kB]), (sHead, [kW, kN, kO, kK, kC]), (sFresh, [kN]), (sRow, [kN, kE]), (sClosed, [kK, kC])]
def behT : List (Str × Str) := [(kB, sFresh), (kE, sClosed), (kO, sBegin), (kK, sBegin), (kC, sClosed)]
def look {α : Type} (l : List (Str × α)) (z : Str) : Option α := (l.find? fun p => decide (p.1 = z)).map Prod.snd
def nextS (st : Str) : List Str := (look nextT st).getD []
def behS (k : Str) : Str := (look behT k).getD (Str.ofString "")
def mayS (k st : Str) (d : Nat) : Bool := if (k = kK ∨ k = kC) ∧ d = 0 then false else decide (k ∈ nextS st)
def stB (k st : Str) : Str := if k = kW then sHead else if k = kN then (if st = sHead then sHead else sRow) else behS k
def dpB (k : Str) (d : Nat) : Nat := if k = kC then d - 1 else if k = kO then d + 1 else d
def Tk.kind : Tk → Str
  | .wd _ => kW
  | .num _ => kN
  | .sg c => ⟨#[c]⟩
def scn : Str → List Tk → List (Tk × Bool)
  | _, [] => []
  | st, t :: ts => (t, decide (st = sBegin)) :: scn (stB t.kind st) ts
def okR : Str → Nat → List Tk → Prop
  | _, _, [] => True
  | st, d, t :: ts => mayS t.kind st d = true ∧ (t.kind = kO → d < 40) ∧ okR (stB t.kind st) (dpB t.kind d) ts
def endR : Str → Nat → List Tk → Str × Nat
  | st, d, [] => (st, d)
  | st, d, t :: ts => endR (stB t.kind st) (dpB t.kind d) ts
theorem okR_app : ∀ (a b : List Tk) (st : Str) (d : Nat), okR st d a → okR (endR st d a).1 (endR st d a).2 b → okR st d (a ++ b)
  | [], b, st, d, _, h => h
  | t :: r, b, st, d, h, g => by
    simp only [okR] at h
    simp only [List.cons_append, okR]
    exact ⟨h.1, h.2.1, okR_app r b _ _ h.2.2 g⟩
theorem endR_app : ∀ (a b : List Tk) (st : Str) (d : Nat), endR st d (a ++ b) = endR (endR st d a).1 (endR st d a).2 b
  | [], b, st, d => rfl
  | t :: r, b, st, d => by
    simp only [List.cons_append, endR]
    exact endR_app r b _ _
theorem scn_app : ∀ (a b : List Tk) (st : Str) (d : Nat), scn st (a ++ b) = scn st a ++ scn (endR st d a).1 b
  | [], b, st, d => rfl
  | t :: r, b, st, d => by
    simp only [List.cons_append, scn, endR]
    rw [scn_app r b _ (dpB t.kind d)]
theorem may_head {k : Str} {d : Nat} (h : k = kW ∨ k = kN ∨ k = kO) : mayS k sHead d = true := by
  rcases h with rfl | rfl | rfl
  · unfold mayS
    rw [if_neg (fun y => absurd y.1 (by decide +kernel))]
    decide +kernel
  · unfold mayS
    rw [if_neg (fun y => absurd y.1 (by decide +kernel))]
    decide +kernel
  · unfold mayS
    rw [if_neg (fun y => absurd y.1 (by decide +kernel))]
    decide +kernel
theorem may_deep {k st : Str} {d : Nat} (h : k = kK ∨ k = kC) (hs : st = sHead ∨ st = sClosed) (hd : d ≠ 0) : mayS k st d = true := by
  unfold mayS
  rw [if_neg (fun y => hd y.2)]
  rcases h with rfl | rfl <;> rcases hs with rfl | rfl <;> decide +kernel
theorem may_free {k st : Str} {d : Nat} (h1 : k ≠ kK) (h2 : k ≠ kC) : mayS k st d = decide (k ∈ nextS st) := by
  unfold mayS
  rw [if_neg (fun y => y.1.elim h1 h2)]
theorem dp_same {k : Str} {d : Nat} (h1 : k ≠ kC) (h2 : k ≠ kO) : dpB k d = d := by
  unfold dpB
  rw [if_neg h1, if_neg h2]
/-- told things behind an op -/
theorem told_run : ∀ (td : List PyData) (d : Nat), (∀ x ∈ td, TdO x) → okR sHead d (td.map tdT) ∧ endR sHead d (td.map tdT) = (sHead, d)
  | [], d, _ => ⟨trivial, rfl⟩
  | x :: r, d, h => by
    have ih := told_run r d fun y hy => h y (List.mem_cons_of_mem _ hy)
    have hk : (tdT x).kind = kW ∨ (tdT x).kind = kN := by
      rcases h x List.mem_cons_self with ⟨n, rfl, _⟩ | ⟨z, rfl, _⟩
      · exact .inr rfl
      · exact .inl rfl
    have e1 : stB (tdT x).kind sHead = sHead := by
      rcases hk with e | e <;> rw [e] <;> decide +kernel
    have e2 : dpB (tdT x).kind d = d := by
      rcases hk with e | e <;> rw [e]
      · exact dp_same (by decide +kernel) (by decide +kernel)
      · exact dp_same (by decide +kernel) (by decide +kernel)
    simp only [List.map_cons, okR, endR, e1, e2]
    refine ⟨⟨may_head (hk.elim .inl fun h => .inr (.inl h)), fun e => ?_, ih.1⟩, ih.2⟩
    rcases hk with e' | e' <;> rw [e'] at e <;> exact absurd e (by decide +kernel)
/-- the numbers of a row -/
theorem row_run : ∀ (td : List PyData) (d : Nat) (st : Str), (st = sFresh ∨ st = sRow) → (∀ x ∈ td, ∃ n : Nat, x = .int n ∧ n < 10 ^ 7) → okR st d (td.map tdT) ∧ endR st d (td.map tdT) = (if td.isEmpty = true then st else sRow, d)
  | [], d, st, _, _ => ⟨trivial, rfl⟩
  | x :: r, d, st, hs, h => by
    have ih := row_run r d sRow (.inr rfl) fun y hy => h y (List.mem_cons_of_mem _ hy)
    obtain ⟨n, rfl, _⟩ := h x List.mem_cons_self
    have hk : (tdT (.int (n : Int))).kind = kN := rfl
    have e1 : stB kN st = sRow := by
      rcases hs with rfl | rfl <;> decide +kernel
    have e2 : dpB kN d = d := dp_same (by decide +kernel) (by decide +kernel)
    simp only [List.map_cons, okR, endR, hk, e1, e2]
    refine ⟨⟨?_, fun e => absurd e (by decide +kernel), ih.1⟩, ?_⟩
    · rw [may_free (by decide +kernel) (by decide +kernel)]
      rcases hs with rfl | rfl <;> decide +kernel
    · rw [ih.2]
      cases r <;> rfl
mutual
theorem tks_run : ∀ (j : Jn) (d : Nat), (∀ x ∈ j.all, Fit x) → d + j.cnt ≤ 40 → okR sBegin d j.tks ∧ ((endR sBegin d j.tks).1 = sHead ∨ (endR sBegin d j.tks).1 = sClosed) ∧ (endR sBegin d j.tks).2 = d
  | .mk op td parts, d, h, hd => by
    have hf : Fit (.mk op td parts) := h _ (all_self _)
    obtain ⟨h1, h2, h3, h4⟩ := told_ok hf.1
    simp only [Jn.tks]
    by_cases c : op = "row"
    · obtain ⟨n1, hn⟩ := h4 c
      rw [if_pos c]
      have eb : (Tk.sg 91).kind = kB := by decide +kernel
      have ee : (Tk.sg 93).kind = kE := by decide +kernel
      have e1 : stB kB sBegin = sFresh := by decide +kernel
      have e2 : ∀ d, dpB kB d = d := fun d => dp_same (by decide +kernel) (by decide +kernel)
      obtain ⟨r1, r2⟩ := row_run td d sFresh (.inl rfl) hn
      have hne : td.isEmpty = false := by
        cases td with
        | nil => simp at n1
        | cons _ _ => rfl
      rw [hne] at r2
      have r2 : endR sFresh d (td.map tdT) = (sRow, d) := r2
      have ok2 : okR sRow d [.sg 93] := by
        simp only [okR, ee]
        refine ⟨?_, fun e => absurd e (by decide +kernel), trivial⟩
        rw [may_free (by decide +kernel) (by decide +kernel)]
        decide +kernel
      have en2 : endR sRow d [.sg 93] = (sClosed, d) := by
        simp only [endR, ee]
        rw [dp_same (by decide +kernel) (by decide +kernel), show stB kE sRow = sClosed by decide +kernel]
      have okA : okR sFresh d (td.map tdT ++ [.sg 93]) := okR_app _ _ _ _ r1 (by rw [r2]; exact ok2)
      have enA : endR sFresh d (td.map tdT ++ [.sg 93]) = (sClosed, d) := by rw [endR_app, r2, en2]
      simp only [List.cons_append, okR, endR, eb, e1, e2, enA]
      refine ⟨⟨?_, fun e => absurd e (by decide +kernel), okA⟩, by simp, by simp⟩
      rw [may_free (by decide +kernel) (by decide +kernel)]
      decide +kernel
    · rw [if_neg c]
      have e1 : stB kW sBegin = sHead := by decide +kernel
      have e2 : dpB kW d = d := dp_same (by decide +kernel) (by decide +kernel)
      have ew : ∀ z, (Tk.wd z).kind = kW := fun _ => rfl
      have m0 : mayS kW sBegin d = true := by
        rw [may_free (by decide +kernel) (by decide +kernel)]
        decide +kernel
      obtain ⟨r1, r2⟩ := told_run td d h1
      simp only [List.cons_append, okR, endR, ew, e1, e2]
      rw [endR_app, r2]
      by_cases cp : parts.isEmpty = true
      · rw [if_pos cp, List.append_nil]
        exact ⟨⟨m0, fun e => absurd e (by decide +kernel), r1⟩, .inl rfl, rfl⟩
      · rw [if_neg cp]
        have hc : 1 + Jn.cnts parts + d ≤ 40 := by simp only [Jn.cnt] at hd; omega
        have hne : parts ≠ [] := fun e => cp (by rw [e] <;> rfl)
        have ih := tksl_run parts (d + 1) hne (fun x hx => h x (by simp only [Jn.all]; exact List.mem_cons_of_mem _ hx)) ⟨by omega, trivial⟩ (by omega)
        have eo : (Tk.sg 40).kind = kO := by decide +kernel
        have ec : (Tk.sg 41).kind = kC := by decide +kernel
        have o1 : stB kO sHead = sBegin := by decide +kernel
        have o2 : dpB kO d = d + 1 := by
          unfold dpB
          rw [if_neg (by decide +kernel), if_pos rfl]
        have pc : 1 ≤ Jn.cnts parts := by
          cases parts with
          | nil => exact absurd rfl hne
          | cons a b => simp only [Jn.cnts]; have := cnt_pos a; omega
        have okc : okR (endR sBegin (d + 1) (Jn.tksl parts)).1 (endR sBegin (d + 1) (Jn.tksl parts)).2 [.sg 41] := by
          simp only [okR, ec]
          rw [ih.2.2]
          exact ⟨may_deep (.inr rfl) ih.2.1 (by omega), fun e => absurd e (by decide +kernel), trivial⟩
        have okA := okR_app _ _ _ _ ih.1 okc
        have enA : endR sBegin (d + 1) (Jn.tksl parts ++ [.sg 41]) = (sClosed, d) := by
          rw [endR_app]
          simp only [endR, ec]
          rw [ih.2.2]
          have x1 : ∀ st, stB kC st = sClosed := fun st => by
            unfold stB
            rw [if_neg (by decide +kernel), if_neg (by decide +kernel)]
            decide +kernel
          have x2 : dpB kC (d + 1) = d := by
            unfold dpB
            rw [if_pos rfl]
            omega
          rw [x1, x2]
        have okB : okR sHead d (.sg 40 :: Jn.tksl parts ++ [.sg 41]) := by
          simp only [List.cons_append, okR, eo, o1, o2]
          exact ⟨may_head (.inr (.inr rfl)), fun _ => by omega, okA⟩
        have enB : endR sHead d (.sg 40 :: Jn.tksl parts ++ [.sg 41]) = (sClosed, d) := by
          simp only [List.cons_append, endR, eo, o1, o2, enA]
        refine ⟨⟨m0, fun e => absurd e (by decide +kernel), okR_app _ _ _ _ r1 (by rw [r2]; exact okB)⟩, ?_, ?_⟩
        · rw [show endR (sHead, d).fst (sHead, d).snd (Tk.sg 40 :: (Jn.tksl parts ++ [Tk.sg 41])) = (sClosed, d) from enB]
          exact .inr rfl
        · rw [show endR (sHead, d).fst (sHead, d).snd (Tk.sg 40 :: (Jn.tksl parts ++ [Tk.sg 41])) = (sClosed, d) from enB]
theorem tksl_run : ∀ (l : List Jn) (d : Nat), l ≠ [] → (∀ x ∈ Jn.alls l, Fit x) → (d + Jn.cnts l ≤ 40 ∧ True) → d ≠ 0 → okR sBegin d (Jn.tksl l) ∧ ((endR sBegin d (Jn.tksl l)).1 = sHead ∨ (endR sBegin d (Jn.tksl l)).1 = sClosed) ∧ (endR sBegin d (Jn.tksl l)).2 = d
  | [], _, h, _, _, _ => absurd rfl h
  | j :: r, d, _, h, hd, hz => by
    simp only [Jn.cnts] at hd
    have hj := tks_run j d (fun x hx => h x (by simp only [Jn.alls]; exact List.mem_append_left _ hx)) (by omega)
    simp only [Jn.tksl]
    by_cases cr : r.isEmpty = true
    · rw [if_pos cr, List.append_nil]
      exact hj
    · rw [if_neg cr]
      have hne : r ≠ [] := fun e => cr (by rw [e] <;> rfl)
      have ih := tksl_run r d hne (fun x hx => h x (by simp only [Jn.alls]; exact List.mem_append_right _ hx)) ⟨by omega, trivial⟩ hz
      have ek : (Tk.sg 44).kind = kK := by decide +kernel
      have x1 : ∀ st, stB kK st = sBegin := fun st => by
        unfold stB
        rw [if_neg (by decide +kernel), if_neg (by decide +kernel)]
        decide +kernel
      have x2 : dpB kK d = d := dp_same (by decide +kernel) (by decide +kernel)
      have okB : okR (endR sBegin d j.tks).1 (endR sBegin d j.tks).2 (.sg 44 :: Jn.tksl r) := by
        simp only [okR, ek, x1]
        rw [hj.2.2, x2]
        exact ⟨may_deep (.inl rfl) hj.2.1 hz, fun e => absurd e (by decide +kernel), ih.1⟩
      have enB : endR sBegin d (j.tks ++ .sg 44 :: Jn.tksl r) = endR sBegin d (Jn.tksl r) := by
        rw [endR_app]
        simp only [endR, ek, x1]
        rw [hj.2.2, x2]
      refine ⟨okR_app _ _ _ _ hj.1 okB, ?_, ?_⟩
      · rw [enB]
        exact ih.2.1
      · rw [enB]
        exact ih.2.2
end
end Mine

/-! ### T6 -/
namespace Mine
open PySem PySem.Spec L2
/-! # how tokens lie in a text -/
def Free (l : List Nat) : Prop := ∀ c, l.head? = some c → ¬ letC c ∧ ¬ digC c
inductive LayT : List Tk → List Nat → Prop
  | nil {g : List Nat} (hg : Blank g) : LayT [] g
  | cons {g : List Nat} {t : Tk} {ts : List Tk} {l : List Nat} (hg : Blank g) (ho : t.ok) (hf : t.run = true → Free l) (h : LayT ts l) : LayT (t :: ts) (g ++ (t.cs ++ l))
theorem Blank.app {a b : List Nat} (h : Blank a) (g : Blank b) : Blank (a ++ b) := fun c hc => (List.mem_append.mp hc).elim (h c) (g c)
theorem Blank.free {g l : List Nat} (h : Blank g) (hn : g ≠ []) : Free (g ++ l) := fun c hc => by
  cases g with
  | nil => exact absurd rfl hn
  | cons a r =>
    have e : a = c := by simpa using hc
    have := h a List.mem_cons_self
    unfold letC digC
    omega
theorem LayT.gap {g l : List Nat} {ts : List Tk} (hg : Blank g) (h : LayT ts l) : LayT ts (g ++ l) := by
  cases h with
  | nil h => exact .nil (hg.app h)
  | cons h ho hf hl =>
    rw [← List.append_assoc]
    exact .cons (hg.app h) ho hf hl
theorem num_digits {n : Nat} : ∀ c ∈ TL.numL n, digC c := fun c hc => TL.numL_digits n c hc
theorem Tk.ne {t : Tk} (h : t.ok) : t.cs ≠ [] := by
  cases t with
  | wd z =>
    intro e
    have h1 := h.1
    rw [TL.len_tl] at h1
    rw [show TL.tl z = [] from e] at h1
    exact absurd h1 (by decide)
  | num n => exact TL.numL_ne n
  | sg c => simp [Tk.cs]
theorem LayT.nonempty {ts : List Tk} {l : List Nat} (h : LayT ts l) (hl : l = []) : ts = [] := by
  cases h with
  | nil _ => rfl
  | cons hg ho hf h =>
    exfalso
    have := List.append_eq_nil_iff.mp hl
    have := List.append_eq_nil_iff.mp this.2
    exact (Tk.ne ho) this.1
theorem Free.app {l m : List Nat} (h : Free l) (g : l = [] → Free m) : Free (l ++ m) := fun c hc => by
  cases l with
  | nil => exact g rfl c hc
  | cons a r => exact h c hc
theorem LayT.app {a b : List Tk} {la lb : List Nat} (h : LayT a la) (g : LayT b lb) (hc : ∀ t, a.getLast? = some t → t.run = true → Free lb) : LayT (a ++ b) (la ++ lb) := by
  induction h with
  | nil hg => exact g.gap hg
  | @cons w t ts l hg ho hf h ih =>
    have ih' := ih fun t' ht hr => hc t' (by
      cases ts with
      | nil => simp at ht
      | cons x y => rw [List.getLast?_cons_cons]; exact ht) hr
    rw [List.append_assoc, List.append_assoc]
    refine .cons hg ho (fun hr => (hf hr).app fun e => hc t ?_ hr) ih'
    rw [h.nonempty e]
    rfl
theorem free_sign {c : Nat} {l : List Nat} (h : ¬ letC c ∧ ¬ digC c) : Free (c :: l) := fun d hd => by
  have e : c = d := by simpa using hd
  rw [← e]
  exact h
theorem free_nil : Free [] := fun _ h => by simp at h
theorem LayT.one {t : Tk} (h : t.ok) : LayT [t] t.cs := by
  have := LayT.cons (g := []) (t := t) (ts := []) (l := []) (fun _ h => nomatch h) h (fun _ => free_nil) (.nil fun _ h => nomatch h)
  simpa using this
theorem LayT.sign {c : Nat} (h : c ∈ signs5) : LayT [.sg c] [c] := LayT.one (t := .sg c) h
theorem LayT.end {ts : List Tk} {l g : List Nat} (h : LayT ts l) (hg : Blank g) : LayT ts (l ++ g) := by
  have := h.app (.nil hg) (lb := g) fun t _ _ => by
    cases g with
    | nil => exact free_nil
    | cons a r =>
      have := hg.free (l := []) (by simp)
      rw [List.append_nil] at this
      exact this
  simpa using this
/-- told things joined by blanks -/
theorem lay_join : ∀ (ds : List Str) (ts : List Tk), ds.length = ts.length → (∀ (i : Nat) z t, ds[i]? = some z → ts[i]? = some t → z.cps.toList = t.cs ∧ t.ok) → LayT ts (Txt.join (Str.ofString " ") ds).cps.toList
  | [], ts, hl, _ => by
    rw [List.eq_nil_of_length_eq_zero hl.symm]
    exact .nil fun c hc => by
      rw [show (Txt.join (Str.ofString " ") []).cps.toList = [] by decide +kernel] at hc
      cases hc
  | [z], ts, hl, h => by
    match ts, hl with
    | [t], _ =>
      obtain ⟨e, ho⟩ := h 0 z t rfl rfl
      rw [TL.join_eq]
      show LayT [t] z.cps.toList
      rw [e]
      exact .one ho
  | z :: y :: r, ts, hl, h => by
    match ts, hl with
    | t :: u :: v, hl =>
      obtain ⟨e, ho⟩ := h 0 z t rfl rfl
      have ih := lay_join (y :: r) (u :: v) (by simpa using hl) fun i z' t' h1 h2 => h (i + 1) z' t' (by simpa using h1) (by simpa using h2)
      have es : (Txt.join (Str.ofString " ") (z :: y :: r)).cps.toList = t.cs ++ ([32] ++ (Txt.join (Str.ofString " ") (y :: r)).cps.toList) := by
        have k := TL.tl_join (Str.ofString " ") (z :: y :: r)
        have k2 := TL.tl_join (Str.ofString " ") (y :: r)
        rw [TL.join_eq, TL.join_eq]
        show TL.tl _ = _ ++ (_ ++ TL.tl _)
        rw [k, k2, ← e]
        have b : TL.tl (Str.ofString " ") = [32] := by decide +kernel
        rw [b]
        rfl
      rw [es]
      refine (LayT.one ho).app (a := [t]) (ih.gap (g := [32]) fun c hc => .inl (List.mem_singleton.mp hc)) fun t' _ _ => ?_
      exact free_sign (by unfold letC digC; omega)
theorem lay_told {td : List PyData} (h : ∀ d ∈ td, TdO d) : LayT (td.map tdT) (Txt.join (Str.ofString " ") (td.map tdS)).cps.toList :=
  lay_join _ _ (by rw [List.length_map, List.length_map]) fun i z t h1 h2 => by
    rw [List.getElem?_map, Option.map_eq_some_iff] at h1 h2
    obtain ⟨d, e1, rfl⟩ := h1
    obtain ⟨d', e2, rfl⟩ := h2
    rw [e1] at e2
    cases e2
    have := tdO_cs (h d (List.mem_of_getElem? e1))
    exact ⟨this.1, this.2.1⟩
theorem lay_head {op : Str} {td : List PyData} (hw : WordS op) (h : ∀ d ∈ td, TdO d) : LayT (.wd op :: td.map tdT) (Txt.join (Str.ofString " ") (op :: td.map tdS)).cps.toList :=
  lay_join _ _ (by simp) fun i z t h1 h2 => by
    cases i with
    | zero =>
      obtain rfl := Option.some.inj h1
      obtain rfl := Option.some.inj h2
      exact ⟨rfl, hw⟩
    | succ i =>
      rw [List.getElem?_cons_succ, List.getElem?_map, Option.map_eq_some_iff] at h1 h2
      obtain ⟨d, e1, rfl⟩ := h1
      obtain ⟨d', e2, rfl⟩ := h2
      rw [e1] at e2
      cases e2
      have := tdO_cs (h d (List.mem_of_getElem? e1))
      exact ⟨this.1, this.2.1⟩
theorem s91 : (Str.ofString "[").cps.toList = [91] := by decide +kernel
theorem s93 : (Str.ofString "]").cps.toList = [93] := by decide +kernel
theorem s40 : (Str.ofString "(").cps.toList = [40] := by decide +kernel
theorem s41 : (Str.ofString ")").cps.toList = [41] := by decide +kernel
theorem free91 (l : List Nat) : Free (91 :: l) := free_sign (by unfold letC digC; omega)
theorem free93 (l : List Nat) : Free (93 :: l) := free_sign (by unfold letC digC; omega)
theorem free40 (l : List Nat) : Free (40 :: l) := free_sign (by unfold letC digC; omega)
theorem free41 (l : List Nat) : Free (41 :: l) := free_sign (by unfold letC digC; omega)
theorem free44 (l : List Nat) : Free (44 :: l) := free_sign (by unfold letC digC; omega)
theorem in5 {c : Nat} (h : c = 91 ∨ c = 93 ∨ c = 40 ∨ c = 44 ∨ c = 41) : c ∈ signs5 := by
  unfold signs5
  simp only [List.mem_cons, List.not_mem_nil, or_false]
  exact h
mutual
/-- the text of a program holds its tokens -/
theorem lay_tx : ∀ (j : Jn), (∀ x ∈ j.all, Fit x) → LayT j.tks j.tx.cps.toList
  | .mk op td parts, h => by
    have hf : Fit (.mk op td parts) := h _ (all_self _)
    obtain ⟨h1, h2, h3, h4⟩ := told_ok hf.1
    have hw := op_word hf.1
    have ih := lay_txs parts fun x hx => h x (by simp only [Jn.all]; exact List.mem_cons_of_mem _ hx)
    simp only [Jn.tks, Jn.tx]
    by_cases c : op = "row"
    · rw [if_pos c, if_pos c]
      show LayT _ (TL.tl _)
      rw [TL.tl_append, TL.tl_append]
      show LayT _ ((Str.ofString "[").cps.toList ++ TL.tl _ ++ (Str.ofString "]").cps.toList)
      rw [s91, s93]
      exact (LayT.app (a := [.sg 91]) (.sign (in5 (.inl rfl))) (lay_told h1) fun t ht hr => by
        have : Tk.sg 91 = t := by simpa using ht
        rw [← this] at hr
        cases hr).app (.sign (in5 (.inr (.inl rfl)))) fun _ _ _ => free93 []
    · rw [if_neg c, if_neg c]
      by_cases cp : parts.isEmpty = true
      · rw [if_pos cp, if_pos cp, List.append_nil]
        exact lay_head hw h1
      · rw [if_neg cp, if_neg cp]
        show LayT _ (TL.tl _)
        rw [TL.tl_append, TL.tl_append, TL.tl_append]
        show LayT _ (TL.tl _ ++ (Str.ofString "(").cps.toList ++ TL.tl _ ++ (Str.ofString ")").cps.toList)
        rw [s40, s41, List.append_assoc, List.append_assoc]
        refine (lay_head hw h1).app ?_ fun _ _ _ => free40 _
        refine LayT.app (a := [.sg 40]) (.sign (in5 (.inr (.inr (.inl rfl))))) ?_ fun t ht hr => by
          have : Tk.sg 40 = t := by simpa using ht
          rw [← this] at hr
          cases hr
        exact ih.app (.sign (in5 (.inr (.inr (.inr (.inr rfl)))))) fun _ _ _ => free41 []
theorem lay_txs : ∀ (l : List Jn), (∀ x ∈ Jn.alls l, Fit x) → LayT (Jn.tksl l) (Txt.join (Str.ofString ", ") (Jn.txs l)).cps.toList
  | [], _ => by
    simp only [Jn.tksl, Jn.txs]
    exact .nil fun c hc => by
      rw [show (Txt.join (Str.ofString ", ") []).cps.toList = [] by decide +kernel] at hc
      cases hc
  | [j], h => by
    have h1 := lay_tx j fun x hx => h x (by simp only [Jn.alls]; exact List.mem_append_left _ hx)
    simp only [Jn.tksl, Jn.txs]
    rw [if_pos (by rfl), List.append_nil, TL.join_eq]
    exact h1
  | j :: k :: r, h => by
    have h1 := lay_tx j fun x hx => h x (by simp only [Jn.alls]; exact List.mem_append_left _ hx)
    have h2 := lay_txs (k :: r) fun x hx => h x (by simp only [Jn.alls] at hx ⊢; exact List.mem_append_right _ hx)
    have es : (Txt.join (Str.ofString ", ") (Jn.txs (j :: k :: r))).cps.toList = j.tx.cps.toList ++ ([44] ++ ([32] ++ (Txt.join (Str.ofString ", ") (Jn.txs (k :: r))).cps.toList)) := by
      have k1 := TL.tl_join (Str.ofString ", ") (Jn.txs (j :: k :: r))
      have k2 := TL.tl_join (Str.ofString ", ") (Jn.txs (k :: r))
      rw [TL.join_eq, TL.join_eq]
      show TL.tl _ = _ ++ (_ ++ (_ ++ TL.tl _))
      rw [k1, k2]
      have b : TL.tl (Str.ofString ", ") = [44, 32] := by decide +kernel
      rw [b]
      simp only [Jn.txs]
      rfl
    rw [es]
    have et : Jn.tksl (j :: k :: r) = j.tks ++ (.sg 44 :: Jn.tksl (k :: r)) := by
      conv => lhs; unfold Jn.tksl
      rw [if_neg (by simp)]
    rw [et]
    refine h1.app ?_ fun _ _ _ => free44 _
    refine LayT.app (a := [.sg 44]) (.sign (in5 (.inr (.inr (.inr (.inl rfl)))))) (h2.gap (g := [32]) fun c hc => .inl (List.mem_singleton.mp hc)) fun t ht hr => by
      have : Tk.sg 44 = t := by simpa using ht
      rw [← this] at hr
      cases hr
end
end Mine

/-! ### T7 -/
namespace Mine
open PySem PySem.Spec L2
/-! # drafts of a program's tokens -/
structure Dr where
  op : Str
  td : List PyData
  ps : List Nat
def rdOp (t : Tk) : Str := if t.kind = kB then Str.ofString "row" else if (⟨t.cs.toArray⟩ : Str) = Str.ofString "row" then Str.ofString "" else ⟨t.cs.toArray⟩
def updN (l : List Dr) (i : Nat) (f : Dr → Dr) : List Dr := match l[i]? with
  | some d => l.set i (f d)
  | none => l
def linkD (ds : List Dr) (op : List Nat) : List Dr := match op.getLast? with
  | some i => updN ds i fun d => { d with ps := d.ps ++ [ds.length] }
  | none => ds
def tellD (ds : List Dr) (x : PyData) : List Dr := updN ds (ds.length - 1) fun d => { d with td := d.td ++ [x] }
def dstep (s : List Dr × List Nat) (p : Tk × Bool) : List Dr × List Nat :=
  if p.2 = true then (linkD s.1 s.2 ++ [⟨rdOp p.1, [], []⟩], s.2) else match p.1 with
    | .wd z => (tellD s.1 (.str z), s.2)
    | .num n => (tellD s.1 (.int n), s.2)
    | .sg c => if c = 40 then (s.1, s.2 ++ [s.1.length - 1]) else if c = 41 then (s.1, s.2.dropLast) else s
def kids : List Jn → Nat → List Nat
  | [], _ => []
  | j :: r, n => n :: kids r (n + j.cnt)
mutual
def Jn.drs : Jn → Nat → List Dr
  | .mk op td parts, n => ⟨op, td, kids parts (n + 1)⟩ :: Jn.drsl parts (n + 1)
def Jn.drsl : List Jn → Nat → List Dr
  | [], _ => []
  | j :: r, n => j.drs n ++ Jn.drsl r (n + j.cnt)
end
theorem updN_len (l : List Dr) (i : Nat) (f : Dr → Dr) : (updN l i f).length = l.length := by
  unfold updN
  split
  · rw [List.length_set]
  · rfl
theorem updN_at (A : List Dr) (d : Dr) (B : List Dr) (f : Dr → Dr) : updN (A ++ d :: B) A.length f = A ++ f d :: B := by
  unfold updN
  rw [List.getElem?_append_right (Nat.le_refl _), Nat.sub_self]
  show (A ++ d :: B).set A.length (f d) = _
  rw [List.set_append_right _ _ (Nat.le_refl _), Nat.sub_self] <;> rfl
theorem linkD_len (ds : List Dr) (op : List Nat) : (linkD ds op).length = ds.length := by
  unfold linkD
  split
  · rw [updN_len]
  · rfl
mutual
theorem drs_len : ∀ (j : Jn) (n : Nat), (j.drs n).length = j.cnt
  | .mk op td parts, n => by simp only [Jn.drs, Jn.cnt, List.length_cons, drsl_len parts]; omega
theorem drsl_len : ∀ (l : List Jn) (n : Nat), (Jn.drsl l n).length = Jn.cnts l
  | [], n => by simp [Jn.drsl, Jn.cnts]
  | j :: r, n => by simp only [Jn.drsl, Jn.cnts, List.length_append, drs_len j, drsl_len r]
end
theorem tell_last (ds : List Dr) (d : Dr) (x : PyData) : tellD (ds ++ [d]) x = ds ++ [{ d with td := d.td ++ [x] }] := by
  unfold tellD
  rw [List.length_append, show ds.length + [d].length - 1 = ds.length from rfl]
  exact updN_at ds d [] _
theorem dstep_told {x : PyData} (h : TdO x) (ds : List Dr) (d : Dr) (op : List Nat) : dstep (ds ++ [d], op) (tdT x, false) = (ds ++ [{ d with td := d.td ++ [x] }], op) := by
  rcases h with ⟨n, rfl, _⟩ | ⟨z, rfl, _⟩
  · show (tellD (ds ++ [d]) (.int (((n : Int).toNat : Nat) : Int)), op) = _
    rw [Int.toNat_natCast, tell_last]
  · show (tellD (ds ++ [d]) (.str z), op) = _
    rw [tell_last]
theorem fold_told : ∀ (td : List PyData) (ds : List Dr) (o : Str) (t0 : List PyData) (ps op : List Nat), (∀ x ∈ td, TdO x) → (td.map fun x => (tdT x, false)).foldl dstep (ds ++ [⟨o, t0, ps⟩], op) = (ds ++ [⟨o, t0 ++ td, ps⟩], op)
  | [], ds, o, t0, ps, op, _ => by simp
  | x :: r, ds, o, t0, ps, op, h => by
    rw [List.map_cons, List.foldl_cons, dstep_told (h x List.mem_cons_self)]
    show List.foldl dstep (ds ++ [⟨o, t0 ++ [x], ps⟩], op) _ = _
    rw [fold_told r ds o (t0 ++ [x]) ps op fun y hy => h y (List.mem_cons_of_mem _ hy), List.append_assoc] <;> rfl
theorem head_ne : decide (sHead = sBegin) = false := by decide +kernel
theorem fresh_ne : decide (sFresh = sBegin) = false := by decide +kernel
theorem row_ne : decide (sRow = sBegin) = false := by decide +kernel
theorem closed_ne : decide (sClosed = sBegin) = false := by decide +kernel
theorem scn_told : ∀ (td : List PyData), (∀ x ∈ td, TdO x) → scn sHead (td.map tdT) = td.map fun x => (tdT x, false)
  | [], _ => rfl
  | x :: r, h => by
    have hk : (tdT x).kind = kW ∨ (tdT x).kind = kN := by
      rcases h x List.mem_cons_self with ⟨n, rfl, _⟩ | ⟨z, rfl, _⟩
      · exact .inr rfl
      · exact .inl rfl
    have e1 : stB (tdT x).kind sHead = sHead := by
      rcases hk with e | e <;> rw [e] <;> decide +kernel
    simp only [List.map_cons, scn, e1, head_ne]
    rw [scn_told r fun y hy => h y (List.mem_cons_of_mem _ hy)]
theorem scn_row : ∀ (td : List PyData) (st : Str), (st = sFresh ∨ st = sRow) → (∀ x ∈ td, ∃ n : Nat, x = .int n ∧ n < 10 ^ 7) → scn st (td.map tdT) = td.map fun x => (tdT x, false)
  | [], _, _, _ => rfl
  | x :: r, st, hs, h => by
    obtain ⟨n, rfl, _⟩ := h x List.mem_cons_self
    have hk : (tdT (.int (n : Int))).kind = kN := rfl
    have e1 : stB kN st = sRow := by
      rcases hs with rfl | rfl <;> decide +kernel
    have e2 : decide (st = sBegin) = false := by
      rcases hs with rfl | rfl <;> decide +kernel
    simp only [List.map_cons, scn, hk, e1, e2]
    rw [scn_row r sRow (.inr rfl) fun y hy => h y (List.mem_cons_of_mem _ hy)]
theorem rdOp_row : rdOp (.sg 91) = Str.ofString "row" := by
  unfold rdOp
  rw [if_pos (by decide +kernel)]
theorem rdOp_word {z : Str} (h : z ≠ "row") : rdOp (.wd z) = z := by
  have e : (⟨z.cps.toList.toArray⟩ : Str) = z := TL.mk_tl z
  unfold rdOp
  rw [if_neg (show ¬ (Tk.wd z).kind = kB from (by decide +kernel : ¬ kW = kB))]
  show (if (⟨z.cps.toList.toArray⟩ : Str) = Str.ofString "row" then Str.ofString "" else (⟨z.cps.toList.toArray⟩ : Str)) = z
  rw [e, if_neg h]
theorem step_begin (ds : List Dr) (op : List Nat) (t : Tk) : dstep (ds, op) (t, true) = (linkD ds op ++ [⟨rdOp t, [], []⟩], op) := by
  unfold dstep
  rw [if_pos rfl]
theorem step_sign (ds : List Dr) (op : List Nat) (c : Nat) : dstep (ds, op) (.sg c, false) = if c = 40 then (ds, op ++ [ds.length - 1]) else if c = 41 then (ds, op.dropLast) else (ds, op) := by
  unfold dstep
  rw [if_neg (show ¬ (false = true) by decide)]
theorem link_top (A : List Dr) (d : Dr) (B : List Dr) (op : List Nat) : linkD (A ++ d :: B) (op ++ [A.length]) = A ++ { d with ps := d.ps ++ [(A ++ d :: B).length] } :: B := by
  unfold linkD
  rw [List.getLast?_concat]
  exact updN_at A d B _
mutual
/-- the drafts of a program -/
theorem fold_tks : ∀ (j : Jn) (ds : List Dr) (op : List Nat) (d : Nat), (∀ x ∈ j.all, Fit x) → d + j.cnt ≤ 40 → (scn sBegin j.tks).foldl dstep (ds, op) = (linkD ds op ++ j.drs ds.length, op)
  | .mk o td parts, ds, op, d, h, hd => by
    have hf : Fit (.mk o td parts) := h _ (all_self _)
    obtain ⟨h1, h2, h3, h4⟩ := told_ok hf.1
    have hb : decide (sBegin = sBegin) = true := by decide +kernel
    simp only [Jn.tks, Jn.drs]
    by_cases c : o = "row"
    · obtain ⟨n1, hn⟩ := h4 c
      rw [if_pos c]
      have eb : (Tk.sg 91).kind = kB := by decide +kernel
      have e1 : stB kB sBegin = sFresh := by decide +kernel
      have hp : parts = [] := by
        have h5 := hf.2
        rw [c] at h5
        have h6 : (decide ((0 : Int) ≤ (parts.length : Int)) && decide ((parts.length : Int) ≤ 0)) = true := h5
        rw [Bool.and_eq_true, decide_eq_true_eq, decide_eq_true_eq] at h6
        exact List.eq_nil_of_length_eq_zero (by omega)
      have esc : scn sBegin (.sg 91 :: td.map tdT ++ [.sg 93]) = (.sg 91, true) :: ((td.map fun x => (tdT x, false)) ++ [(.sg 93, false)]) := by
        rw [List.cons_append]
        simp only [scn, eb, e1, hb]
        rw [scn_app _ _ _ 0, scn_row td sFresh (.inl rfl) hn]
        obtain ⟨_, r2⟩ := row_run td 0 sFresh (.inl rfl) hn
        rw [r2]
        congr 2
        simp only [scn]
        congr 2
        show decide ((if td.isEmpty = true then sFresh else sRow) = sBegin) = false
        split
        · exact fresh_ne
        · exact row_ne
      rw [esc, List.foldl_cons, step_begin, rdOp_row, List.foldl_append, fold_told td _ _ _ _ _ h1, List.foldl_cons, List.foldl_nil, step_sign, if_neg (by decide), if_neg (by decide), hp, c]
      simp [kids, Jn.drsl]
    · rw [if_neg c]
      have ew : ∀ z, (Tk.wd z).kind = kW := fun _ => rfl
      have e1 : stB kW sBegin = sHead := by decide +kernel
      obtain ⟨_, r2⟩ := told_run td 0 h1
      have e0 : ∀ rest, scn sBegin (.wd o :: td.map tdT ++ rest) = (.wd o, true) :: ((td.map fun x => (tdT x, false)) ++ scn sHead rest) := fun rest => by
        rw [List.cons_append]
        simp only [scn, ew, e1, hb]
        rw [scn_app _ _ _ 0, scn_told td h1, r2]
        simp
      rw [e0, List.foldl_cons, step_begin, rdOp_word c, List.foldl_append, fold_told td _ _ _ _ _ h1, List.nil_append]
      by_cases cp : parts.isEmpty = true
      · have hp : parts = [] := List.isEmpty_iff.mp cp
        rw [if_pos cp, hp]
        simp [scn, kids, Jn.drsl]
      · rw [if_neg cp]
        have hne : parts ≠ [] := fun e => cp (by rw [e] <;> rfl)
        have hc : 1 + Jn.cnts parts + d ≤ 40 := by simp only [Jn.cnt] at hd; omega
        have hfp : ∀ x ∈ Jn.alls parts, Fit x := fun x hx => h x (by simp only [Jn.all]; exact List.mem_cons_of_mem _ hx)
        have eo : (Tk.sg 40).kind = kO := by decide +kernel
        have o1 : stB kO sHead = sBegin := by decide +kernel
        have rn := tksl_run parts (d + 1) hne hfp ⟨by omega, trivial⟩ (by omega)
        have ech : scn sHead (.sg 40 :: Jn.tksl parts ++ [.sg 41]) = (.sg 40, false) :: (scn sBegin (Jn.tksl parts) ++ [(.sg 41, false)]) := by
          rw [List.cons_append]
          simp only [scn, eo, o1, head_ne]
          rw [scn_app _ _ _ (d + 1)]
          congr 2
          simp only [scn]
          congr 2
          rcases rn.2.1 with e | e <;> rw [e]
          · exact head_ne
          · exact closed_ne
        have lA : (linkD ds op).length = ds.length := linkD_len ds op
        rw [ech, List.foldl_cons, step_sign, if_pos rfl, List.foldl_append]
        rw [show (linkD ds op ++ [(⟨o, td, []⟩ : Dr)]).length - 1 = (linkD ds op).length by rw [List.length_append] <;> rfl]
        have ih := fold_tksl parts (linkD ds op) o td [] [] op (d + 1) hne hfp (by omega)
        rw [ih, List.foldl_cons, List.foldl_nil, step_sign, if_neg (by decide), if_pos rfl, List.dropLast_concat]
        simp [lA]
theorem fold_tksl : ∀ (l : List Jn) (A : List Dr) (o : Str) (td : List PyData) (ks : List Nat) (B : List Dr) (op : List Nat) (d : Nat), l ≠ [] → (∀ x ∈ Jn.alls l, Fit x) → d + Jn.cnts l ≤ 40 →
    (scn sBegin (Jn.tksl l)).foldl dstep (A ++ ⟨o, td, ks⟩ :: B, op ++ [A.length]) = (A ++ ⟨o, td, ks ++ kids l (A.length + 1 + B.length)⟩ :: (B ++ Jn.drsl l (A.length + 1 + B.length)), op ++ [A.length])
  | [], _, _, _, _, _, _, _, h, _, _ => absurd rfl h
  | j :: r, A, o, td, ks, B, op, d, _, h, hd => by
    simp only [Jn.cnts] at hd
    have hfj : ∀ x ∈ j.all, Fit x := fun x hx => h x (by simp only [Jn.alls]; exact List.mem_append_left _ hx)
    have hfr : ∀ x ∈ Jn.alls r, Fit x := fun x hx => h x (by simp only [Jn.alls]; exact List.mem_append_right _ hx)
    have ij := fold_tks j (A ++ ⟨o, td, ks⟩ :: B) (op ++ [A.length]) d hfj (by omega)
    have eL : (A ++ (⟨o, td, ks⟩ : Dr) :: B).length = A.length + 1 + B.length := by
      rw [List.length_append, List.length_cons]
      omega
    rw [link_top, eL] at ij
    simp only [Jn.tksl, kids, Jn.drsl]
    by_cases cr : r.isEmpty = true
    · have hr : r = [] := List.isEmpty_iff.mp cr
      rw [if_pos cr, List.append_nil, ij, hr]
      simp [kids, Jn.drsl]
    · rw [if_neg cr]
      have hne : r ≠ [] := fun e => cr (by rw [e] <;> rfl)
      have rn := tks_run j d hfj (by omega)
      have ek : (Tk.sg 44).kind = kK := by decide +kernel
      have x1 : ∀ st, stB kK st = sBegin := fun st => by
        unfold stB
        rw [if_neg (by decide +kernel), if_neg (by decide +kernel)]
        decide +kernel
      have esc : scn sBegin (j.tks ++ .sg 44 :: Jn.tksl r) = scn sBegin j.tks ++ (.sg 44, false) :: scn sBegin (Jn.tksl r) := by
        rw [scn_app _ _ _ d]
        congr 1
        simp only [scn, ek, x1]
        congr 2
        rcases rn.2.1 with e | e <;> rw [e]
        · exact head_ne
        · exact closed_ne
      rw [esc, List.foldl_append, ij, List.foldl_cons, step_sign, if_neg (by decide), if_neg (by decide)]
      have ih := fold_tksl r A o td (ks ++ [A.length + 1 + B.length]) (B ++ j.drs (A.length + 1 + B.length)) op d hne hfr (by omega)
      rw [List.append_assoc, List.cons_append, ih, List.length_append, drs_len, List.append_assoc, List.append_assoc]
      rw [show A.length + 1 + (B.length + j.cnt) = A.length + 1 + B.length + j.cnt by omega] <;> rfl
end
end Mine

/-! ### T8 -/
namespace Mine
open PySem PySem.Spec L2
/-! # no step of the drafting goes astray -/
def okD1 (s : List Dr × List Nat) (p : Tk × Bool) : Prop := (p.2 = false → match p.1 with
    | .wd _ => s.1 ≠ []
    | .num _ => s.1 ≠ []
    | .sg c => (c = 40 → s.1 ≠ []) ∧ (c = 41 → s.2 ≠ [])) ∧ p.1.ok
def okDs : List Dr × List Nat → List (Tk × Bool) → Prop
  | _, [] => True
  | s, p :: r => okD1 s p ∧ okDs (dstep s p) r
theorem okDs_app : ∀ (a b : List (Tk × Bool)) (s : List Dr × List Nat), okDs s a → okDs (a.foldl dstep s) b → okDs s (a ++ b)
  | [], b, s, _, h => h
  | p :: r, b, s, h, g => by
    simp only [okDs] at h
    simp only [List.cons_append, okDs]
    exact ⟨h.1, okDs_app r b _ h.2 g⟩
theorem okDs_told : ∀ (td : List PyData) (ds : List Dr) (o : Str) (t0 : List PyData) (ps op : List Nat), (∀ x ∈ td, TdO x) → okDs (ds ++ [⟨o, t0, ps⟩], op) (td.map fun x => (tdT x, false))
  | [], ds, o, t0, ps, op, _ => trivial
  | x :: r, ds, o, t0, ps, op, h => by
    have hx := h x List.mem_cons_self
    simp only [List.map_cons, okDs]
    rw [dstep_told hx]
    refine ⟨⟨fun _ => ?_, (tdO_cs hx).2.1⟩, okDs_told r ds o (t0 ++ [x]) ps op fun y hy => h y (List.mem_cons_of_mem _ hy)⟩
    rcases hx with ⟨n, rfl, _⟩ | ⟨z, rfl, _⟩
    · show ds ++ [_] ≠ []
      simp
    · show ds ++ [_] ≠ []
      simp
theorem ok_sign {c : Nat} (h : c ∈ signs5) {s : List Dr × List Nat} (h1 : s.1 ≠ []) (h2 : c = 41 → s.2 ≠ []) : okD1 s (.sg c, false) := ⟨fun _ => ⟨fun _ => h1, h2⟩, h⟩
theorem ok_begin {t : Tk} (h : t.ok) {s : List Dr × List Nat} : okD1 s (t, true) := ⟨(fun e => by cases e), h⟩
mutual
theorem okDs_tks : ∀ (j : Jn) (ds : List Dr) (op : List Nat) (d : Nat), (∀ x ∈ j.all, Fit x) → d + j.cnt ≤ 40 → okDs (ds, op) (scn sBegin j.tks)
  | .mk o td parts, ds, op, d, h, hd => by
    have hf : Fit (.mk o td parts) := h _ (all_self _)
    obtain ⟨h1, h2, h3, h4⟩ := told_ok hf.1
    have hw := op_word hf.1
    have hb : decide (sBegin = sBegin) = true := by decide +kernel
    simp only [Jn.tks]
    by_cases c : o = "row"
    · obtain ⟨n1, hn⟩ := h4 c
      rw [if_pos c]
      have esc : scn sBegin (.sg 91 :: td.map tdT ++ [.sg 93]) = (.sg 91, true) :: ((td.map fun x => (tdT x, false)) ++ [(.sg 93, false)]) := by
        have eb : (Tk.sg 91).kind = kB := by decide +kernel
        have e1 : stB kB sBegin = sFresh := by decide +kernel
        rw [List.cons_append]
        simp only [scn, eb, e1, hb]
        rw [scn_app _ _ _ 0, scn_row td sFresh (.inl rfl) hn]
        obtain ⟨_, r2⟩ := row_run td 0 sFresh (.inl rfl) hn
        rw [r2]
        congr 2
        simp only [scn]
        congr 2
        show decide ((if td.isEmpty = true then sFresh else sRow) = sBegin) = false
        split
        · exact fresh_ne
        · exact row_ne
      rw [esc]
      refine ⟨ok_begin (t := .sg 91) (show (91 : Nat) ∈ signs5 by decide), ?_⟩
      rw [step_begin]
      refine okDs_app _ _ _ (okDs_told td _ _ _ _ _ h1) ?_
      rw [fold_told td _ _ _ _ _ h1]
      exact ⟨ok_sign (by decide) (by simp) (fun e => absurd e (by decide)), trivial⟩
    · rw [if_neg c]
      have e0 : ∀ rest, scn sBegin (.wd o :: td.map tdT ++ rest) = (.wd o, true) :: ((td.map fun x => (tdT x, false)) ++ scn sHead rest) := fun rest => by
        have ew : ∀ z, (Tk.wd z).kind = kW := fun _ => rfl
        have e1 : stB kW sBegin = sHead := by decide +kernel
        obtain ⟨_, r2⟩ := told_run td 0 h1
        rw [List.cons_append]
        simp only [scn, ew, e1]
        rw [scn_app _ _ _ 0, scn_told td h1, r2]
        simp
      rw [e0]
      refine ⟨ok_begin (t := .wd o) hw, ?_⟩
      rw [step_begin]
      refine okDs_app _ _ _ (okDs_told td _ _ _ _ _ h1) ?_
      rw [fold_told td _ _ _ _ _ h1]
      by_cases cp : parts.isEmpty = true
      · rw [if_pos cp]
        exact trivial
      · rw [if_neg cp]
        have hne : parts ≠ [] := fun e => cp (by rw [e] <;> rfl)
        have hc : 1 + Jn.cnts parts + d ≤ 40 := by simp only [Jn.cnt] at hd; omega
        have hfp : ∀ x ∈ Jn.alls parts, Fit x := fun x hx => h x (by simp only [Jn.all]; exact List.mem_cons_of_mem _ hx)
        have eo : (Tk.sg 40).kind = kO := by decide +kernel
        have o1 : stB kO sHead = sBegin := by decide +kernel
        have rn := tksl_run parts (d + 1) hne hfp ⟨by omega, trivial⟩ (by omega)
        have ech : scn sHead (.sg 40 :: Jn.tksl parts ++ [.sg 41]) = (.sg 40, false) :: (scn sBegin (Jn.tksl parts) ++ [(.sg 41, false)]) := by
          rw [List.cons_append]
          simp only [scn, eo, o1, head_ne]
          rw [scn_app _ _ _ (d + 1)]
          congr 2
          simp only [scn]
          congr 2
          rcases rn.2.1 with e | e <;> rw [e]
          · exact head_ne
          · exact closed_ne
        rw [ech]
        refine ⟨ok_sign (by decide) (by simp) (fun e => absurd e (by decide)), ?_⟩
        rw [step_sign, if_pos rfl]
        rw [show (linkD ds op ++ [(⟨rdOp (.wd o), [] ++ td, []⟩ : Dr)]).length - 1 = (linkD ds op).length by rw [List.length_append] <;> rfl]
        refine okDs_app _ _ _ (okDs_tksl parts _ _ (linkD ds op) () [] [] op (d + 1) hne hfp (by omega)) ?_
        rw [fold_tksl parts (linkD ds op) _ _ [] [] op (d + 1) hne hfp (by omega)]
        exact ⟨ok_sign (by decide) (by simp) (fun _ => by simp), trivial⟩
theorem okDs_tksl : ∀ (l : List Jn) (o : Str) (td : List PyData) (A : List Dr) (x : Unit) (ks : List Nat) (B : List Dr) (op : List Nat) (d : Nat), l ≠ [] → (∀ x ∈ Jn.alls l, Fit x) → d + Jn.cnts l ≤ 40 →
    okDs (A ++ ⟨o, td, ks⟩ :: B, op ++ [A.length]) (scn sBegin (Jn.tksl l))
  | [], _, _, _, _, _, _, _, _, h, _, _ => absurd rfl h
  | j :: r, o, td, A, x, ks, B, op, d, _, h, hd => by
    simp only [Jn.cnts] at hd
    have hfj : ∀ x ∈ j.all, Fit x := fun x hx => h x (by simp only [Jn.alls]; exact List.mem_append_left _ hx)
    have hfr : ∀ x ∈ Jn.alls r, Fit x := fun x hx => h x (by simp only [Jn.alls]; exact List.mem_append_right _ hx)
    have ij := fold_tks j (A ++ ⟨o, td, ks⟩ :: B) (op ++ [A.length]) d hfj (by omega)
    have oj := okDs_tks j (A ++ ⟨o, td, ks⟩ :: B) (op ++ [A.length]) d hfj (by omega)
    have eL : (A ++ (⟨o, td, ks⟩ : Dr) :: B).length = A.length + 1 + B.length := by
      rw [List.length_append, List.length_cons]
      omega
    rw [link_top, eL] at ij
    simp only [Jn.tksl]
    by_cases cr : r.isEmpty = true
    · rw [if_pos cr, List.append_nil]
      exact oj
    · rw [if_neg cr]
      have hne : r ≠ [] := fun e => cr (by rw [e] <;> rfl)
      have rn := tks_run j d hfj (by omega)
      have ek : (Tk.sg 44).kind = kK := by decide +kernel
      have x1 : ∀ st, stB kK st = sBegin := fun st => by
        unfold stB
        rw [if_neg (by decide +kernel), if_neg (by decide +kernel)]
        decide +kernel
      have esc : scn sBegin (j.tks ++ .sg 44 :: Jn.tksl r) = scn sBegin j.tks ++ (.sg 44, false) :: scn sBegin (Jn.tksl r) := by
        rw [scn_app _ _ _ d]
        congr 1
        simp only [scn, ek, x1]
        congr 2
        rcases rn.2.1 with e | e <;> rw [e]
        · exact head_ne
        · exact closed_ne
      rw [esc]
      refine okDs_app _ _ _ oj ?_
      rw [ij]
      refine ⟨ok_sign (by decide) (by simp) (fun e => absurd e (by decide)), ?_⟩
      rw [step_sign, if_neg (by decide), if_neg (by decide)]
      have ih := okDs_tksl r o td A () (ks ++ [A.length + 1 + B.length]) (B ++ j.drs (A.length + 1 + B.length)) op d hne hfr (by omega)
      rw [List.append_assoc, List.cons_append]
      exact ih
end
end Mine

/-! ### Q1 -/
namespace Mine
open PySem PySem.Spec L2
local macro_rules | `(tactic| walk_at "st") => `(tactic| (with_reducible apply iteF))
local macro_rules | `(tactic| walk_at "st") => `(tactic| (with_reducible apply iteT))
local macro_rules | `(tactic| walk_at "st") => `(tactic| (with_reducible apply rd_nopart))
local macro_rules | `(tactic| walk_at "st") => `(tactic| (with_reducible apply rd_partI))
local macro_rules | `(tactic| walk_at "st") => `(tactic| (with_reducible apply rd_part))
local macro_rules | `(tactic| walk_at "st") => `(tactic| (with_reducible apply rd_sl))
local macro_rules | `(tactic| walk_at "st") => `(tactic| (with_reducible apply rd_disp1))
local macro_rules | `(tactic| walk_at "st") => `(tactic| (with_reducible apply rd_dput))
local macro_rules | `(tactic| walk_at "st") => `(tactic| (with_reducible apply rd_dget))
local macro_rules | `(tactic| walk_at "st") => `(tactic| (with_reducible apply rd_din))
local macro_rules | `(tactic| walk_at "st") => `(tactic| (with_reducible apply rd_dnew))
local macro_rules | `(tactic| walk_at "st") => `(tactic| (with_reducible apply rd_ipI))
local macro_rules | `(tactic| walk_at "st") => `(tactic| ((with_reducible apply rd_aug); exact rfl))
local macro_rules | `(tactic| walk_at "st") => `(tactic| (with_reducible apply rd_par3_end))
local macro_rules | `(tactic| walk_at "st") => `(tactic| (with_reducible apply rd_par3))
local macro_rules | `(tactic| walk_at "st") => `(tactic| (with_reducible apply u_mul; focus exact Or.inr cm))
local macro_rules | `(tactic| walk_at "st") => `(tactic| ((with_reducible apply u_pow); (focus (exact ⟨by decide, by decide, by decide⟩))))
local macro_rules | `(tactic| walk_at "st") => `(tactic| (with_reducible apply rd_yes))
local macro_rules | `(tactic| walk_at "st") => `(tactic| (with_reducible apply rd_lc))
local macro_rules | `(tactic| walk_at "st") => `(tactic| ((with_reducible apply rd_itT); (focus first | assumption | exact SqT.of (by assumption) | exact SqT.of upd_same)))
local macro_rules | `(tactic| walk_at "st") => `(tactic| ((with_reducible apply rd_itL); (focus first | assumption | exact SqL.of (by assumption) | exact SqL.of upd_same)))
local macro_rules | `(tactic| walk_at "st") => `(tactic| ((with_reducible apply u_isi); (focus (first | exact Or.inl rfl | exact Or.inr (Or.inl rfl) | exact Or.inr (Or.inr (Or.inl rfl)) | exact Or.inr (Or.inr (Or.inr rfl)))); (focus first | assumption | exact Rp.int _ | exact Rp.str _)))
local macro_rules | `(tactic| walk_at "st") => `(tactic| (with_reducible apply rd_istrE))
local macro_rules | `(tactic| walk_at "st") => `(tactic| (with_reducible apply rd_istr))
local macro_rules | `(tactic| walk_at "st") => `(tactic| ((with_reducible apply rd_seqT); (focus first | assumption | exact SqT.of (by assumption) | exact SqT.of upd_same)))
local macro_rules | `(tactic| walk_at "st") => `(tactic| ((with_reducible apply rd_seqL); (focus first | assumption | exact SqL.of (by assumption) | exact SqL.of upd_same)))
local macro_rules | `(tactic| walk_at "st") => `(tactic| (with_reducible apply rd_iSeq))
local macro_rules | `(tactic| walk_at "st") => `(tactic| (with_reducible apply u_notInS))
local macro_rules | `(tactic| walk_at "st") => `(tactic| (with_reducible apply u_inS))
local macro_rules | `(tactic| walk_at "st") => `(tactic| (with_reducible apply u_notInD))
local macro_rules | `(tactic| walk_at "st") => `(tactic| (with_reducible apply u_inD))
local macro_rules | `(tactic| walk_at "st") => `(tactic| (with_reducible apply rd_callS))
local macro_rules | `(tactic| walk_at "st") => `(tactic| (with_reducible apply rd_raiseE))
local macro_rules | `(tactic| walk_at "st") => `(tactic| (with_reducible apply rd_xf))
local macro_rules | `(tactic| walk_at "st") => `(tactic| (with_reducible apply g_neB))
local macro_rules | `(tactic| walk_at "st") => `(tactic| (with_reducible apply g_neS))
local macro_rules | `(tactic| walk_at "st") => `(tactic| (with_reducible apply g_neI))
local macro_rules | `(tactic| walk_at "st") => `(tactic| (with_reducible apply g_eqS))
local macro_rules | `(tactic| walk_at "st") => `(tactic| (with_reducible apply g_eqI))
local macro_rules | `(tactic| walk_at "st") => `(tactic| (with_reducible apply rd_retN))
local macro_rules | `(tactic| walk_at "st") => `(tactic| (with_reducible apply rd_gnil))
local macro_rules | `(tactic| walk_at "st") => `(tactic| (with_reducible apply rd_gcons))
local macro_rules | `(tactic| walk_at "st") => `(tactic| ((with_reducible apply rd_rng2e); (focus omega)))
local macro_rules | `(tactic| walk_at "st") => `(tactic| ((with_reducible apply rd_rng1e); (focus omega); (focus omega)))
local macro_rules | `(tactic| walk_at "st") => `(tactic| (with_reducible apply rd_rng2))
local macro_rules | `(tactic| walk_at "st") => `(tactic| (with_reducible apply rd_rng1))
local macro_rules | `(tactic| walk_at "st") => `(tactic| (with_reducible apply rd_for))
local macro_rules | `(tactic| walk_at "st") => `(tactic| (with_reducible apply rd_iTup))
local macro_rules | `(tactic| walk_at "st") => `(tactic| (with_reducible apply rd_iList))
local macro_rules | `(tactic| walk_at "st") => `(tactic| (with_reducible apply rd_rev))
local macro_rules | `(tactic| walk_at "st") => `(tactic| (with_reducible apply u_min3))
local macro_rules | `(tactic| walk_at "st") => `(tactic| ((with_reducible apply rd_tyL); focus (first | exact SqL.of (by assumption) | exact SqL.of upd_same)))
local macro_rules | `(tactic| walk_at "st") => `(tactic| (with_reducible apply rd_bm0))
local macro_rules | `(tactic| walk_at "st") => `(tactic| (with_reducible apply rd_bm))
local macro_rules | `(tactic| walk_at "st") => `(tactic| ((with_reducible apply rd_truL); focus (first | assumption | exact SqL.of (by assumption) | exact SqL.of upd_same)))
local macro_rules | `(tactic| walk_at "st") => `(tactic| (with_reducible apply rd_truB))
local macro_rules | `(tactic| walk_at "st") => `(tactic| (with_reducible apply rd_tru))
local macro_rules | `(tactic| walk_at "st") => `(tactic| (with_reducible apply rd_chain3))
local macro_rules | `(tactic| walk_at "st") => `(tactic| ((with_reducible apply u_setL); (focus (first | assumption | exact upd_same)); exact rfl))
local macro_rules | `(tactic| walk_at "st") => `(tactic| ((with_reducible apply u_lenT); focus (first | assumption | exact SqT.of (by assumption) | exact SqT.of upd_same)))
local macro_rules | `(tactic| walk_at "st") => `(tactic| ((with_reducible apply u_lenL); focus (first | assumption | exact SqL.of (by assumption) | exact SqL.of upd_same)))
local macro_rules | `(tactic| walk_at "st") => `(tactic| ((with_reducible apply u_ixL); (focus (first | assumption | exact SqL.of (by assumption) | exact SqL.of upd_same)); exact rfl))
local macro_rules | `(tactic| walk_at "st") => `(tactic| ((with_reducible apply u_mul); focus first | exact Or.inl (by omega) | exact Or.inr (by omega) | exact Or.inl (by decide) | exact Or.inr (by decide)))
local macro_rules | `(tactic| walk_at "st") => `(tactic| ((with_reducible apply u_div); focus first | decide | omega | (constructor <;> first | assumption | omega)))
local macro_rules | `(tactic| walk_at "st") => `(tactic| ((with_reducible apply u_mod); focus first | assumption | decide | omega))
local macro_rules | `(tactic| walk_at "st") => `(tactic| (with_reducible apply u_neg))
local macro_rules | `(tactic| walk_at "st") => `(tactic| (with_reducible apply u_min))
local macro_rules | `(tactic| walk_at "st") => `(tactic| (with_reducible apply u_max))
local macro_rules | `(tactic| walk_at "st") => `(tactic| (with_reducible apply u_intB))
local macro_rules | `(tactic| walk_at "st") => `(tactic| (with_reducible apply u_int))
local macro_rules | `(tactic| walk_at "st") => `(tactic| (with_reducible apply u_neI))
local macro_rules | `(tactic| walk_at "st") => `(tactic| (with_reducible apply u_eqS))
local macro_rules | `(tactic| walk_at "st") => `(tactic| (with_reducible apply u_eqI))
local macro_rules | `(tactic| walk_at "st") => `(tactic| (with_reducible apply u_ge))
local macro_rules | `(tactic| walk_at "st") => `(tactic| (with_reducible apply u_gt))
local macro_rules | `(tactic| walk_at "st") => `(tactic| (with_reducible apply u_le))
local macro_rules | `(tactic| walk_at "st") => `(tactic| (with_reducible apply u_lt))
local macro_rules | `(tactic| walk_at "st") => `(tactic| (with_reducible apply u_sub))
local macro_rules | `(tactic| walk_at "st") => `(tactic| (with_reducible apply u_add))
local macro_rules | `(tactic| walk_at "st") => `(tactic| (with_reducible apply rd_ct))
local macro_rules | `(tactic| walk_at "st") => `(tactic| (with_reducible apply rd_brk))
local macro_rules | `(tactic| walk_at "st") => `(tactic| (with_reducible apply rd_tB))
local macro_rules | `(tactic| walk_at "st") => `(tactic| (with_reducible apply rd_chain))
local macro_rules | `(tactic| walk_at "st") => `(tactic| (with_reducible apply rd_notV))
local macro_rules | `(tactic| walk_at "st") => `(tactic| (with_reducible apply rd_orV))
local macro_rules | `(tactic| walk_at "st") => `(tactic| (with_reducible apply rd_andV))
local macro_rules | `(tactic| walk_at "st") => `(tactic| (with_reducible apply rd_not))
local macro_rules | `(tactic| walk_at "st") => `(tactic| (with_reducible apply rd_or))
local macro_rules | `(tactic| walk_at "st") => `(tactic| (with_reducible apply rd_and))
local macro_rules | `(tactic| walk_at "st") => `(tactic| (with_reducible apply rd_un))
local macro_rules | `(tactic| walk_at "st") => `(tactic| (with_reducible apply rd_par_end))
local macro_rules | `(tactic| walk_at "st") => `(tactic| (with_reducible apply rd_par))
local macro_rules | `(tactic| walk_at "st") => `(tactic| (with_reducible apply rd_gsub))
local macro_rules | `(tactic| walk_at "st") => `(tactic| (with_reducible apply rd_ife))
local macro_rules | `(tactic| walk_at "st") => `(tactic| (with_reducible apply rd_next))
local macro_rules | `(tactic| walk_at "st") => `(tactic| (with_reducible apply rd_drop))
local macro_rules | `(tactic| walk_at "st") => `(tactic| (with_reducible apply rd_lst))
local macro_rules | `(tactic| walk_at "st") => `(tactic| (with_reducible apply rd_tup))
local macro_rules | `(tactic| walk_at "st") => `(tactic| (with_reducible apply rd_call))
local macro_rules | `(tactic| walk_at "st") => `(tactic| (with_reducible apply rd_ret))
local macro_rules | `(tactic| walk_at "st") => `(tactic| (with_reducible apply rd_retE))
local macro_rules | `(tactic| walk_at "st") => `(tactic| (with_reducible apply rd_bl))
local macro_rules | `(tactic| walk_at "st") => `(tactic| (with_reducible apply rd_test))
local macro_rules | `(tactic| walk_at "st") => `(tactic| (with_reducible apply rd_if))
local macro_rules | `(tactic| walk_at "st") => `(tactic| (with_reducible apply rd_nil))
local macro_rules | `(tactic| walk_at "st") => `(tactic| (with_reducible apply rd_cons))
local macro_rules | `(tactic| walk_at "st") => `(tactic| (with_reducible apply rd_cb))
local macro_rules | `(tactic| walk_at "st") => `(tactic| (with_reducible apply rd_op))
local macro_rules | `(tactic| walk_at "st") => `(tactic| (with_reducible apply rd_gname))
local macro_rules | `(tactic| walk_at "st") => `(tactic| (with_reducible apply rd_asg))
local macro_rules | `(tactic| walk_at "st") => `(tactic| (with_reducible apply rd_seq))
local macro_rules | `(tactic| walk_at "st") => `(tactic| (with_reducible apply rd_c))
local macro_rules | `(tactic| walk_at "st") => `(tactic| ((with_reducible apply rd_var); exact rfl))
local macro_rules | `(tactic| walk_at "go") => `(tactic| repeat (walk_at "st"))
local macro_rules | `(tactic| walk_at "sp") => `(tactic| (first | refine rd_split (fun c => ?_) (fun c => ?_) | refine rd_splitN (fun c => ?_) (fun c => ?_) | refine rd_splitB (fun c => ?_) (fun c => ?_)))
local macro_rules | `(tactic| walk_at "nx") => `(tactic| repeat (first | (with_reducible apply iteF) | (with_reducible apply iteT) | (with_reducible apply rd_next)))

section
variable {P : Program} {w : World} {K : PySem.W.Frag} {mg : Str → Option Value} {base : Heap}
theorem base_joint {l : Nat} (O : OwnF K mg "_law_joint" s_law_joint) : HasF P w K mg base CX0 (l + 1) "_law_joint" ["source", "k", "left"] (spJ K 0) := by
  refine has0 O sc_law_joint (fun _ _ _ _ _ _ us hl => match us, hl with | [_, _, _], _ => rfl) (fun vs H Q E h => ?_) (fun f cdv A outer s_ H vs Q E hr h => ?_)
  · obtain ⟨a, k, left, rfl, _⟩ := h
    rfl
  obtain ⟨a, k, left, _, _, _, _, h1, h2, _⟩ := h
  omega
theorem has_joint (O1 : OwnF K mg "_law_joint" s_law_joint) (O2 : OwnF K mg "_law_forked" s_law_forked) (O3 : OwnF K mg "_law_catted" s_law_catted) (B : Bl mg) (h_law_take : HasF P w K mg base CX0 1 "_law_take" ["source", "top"] spTake) (h_law_one : HasF P w K mg base CX0 2 "_law_one" ["source", "things"] (spOne K)) (h_law_leaf : HasF P w K mg base CX0 4 "_law_leaf" ["source", "k"] (spLeaf K)) :
    ∀ n : Nat, HasF P w K mg base CX0 (4 + 3 * n) "_law_joint" ["source", "k", "left"] (spJ K n)
  | 0 => base_joint (l := 3) O1
  | n + 1 => by
    have ih := has_joint O1 O2 O3 B h_law_take h_law_one h_law_leaf n
    have hc := step_catted (show 1 ≤ 4 + 3 * n by omega) O3 B h_law_take ih
    have hf := step_forked (show 2 ≤ 4 + 3 * n by omega) O2 B h_law_take h_law_one ih hc
    exact step_joint (show 4 ≤ 4 + 3 * n by omega) O1 B h_law_take h_law_one h_law_leaf ih hf
abbrev s_law_program : Stmt := top 66
theorem sc_law_program : FnScope ["source", "most", "k"] ["source", "most"] (defScope s_law_program) := ⟨rfl, rfl, rfl, by decide +kernel, rfl, by decide +kernel, by decide +kernel⟩
def spProg (K : PySem.W.Frag) : Sp := fun vs H Q _ => ∃ (a : Addr) (most : Int), vs = [.ref a, .int most] ∧ Src H a ∧ 1 ≤ most ∧ most ≤ 40 ∧
  ∀ (H' : Hp) (v : V) (j : Jn), SB a H H' → Src H' a → Rp K H' v j.py → Fx j → (j.cnt : Int) ≤ most → Q v H'
theorem use_prog {K : PySem.W.Frag} {a : Addr} {most : Int} {H : Hp} {Q : VK} {E : XK} (h : Src H a) (h1 : 1 ≤ most) (h2 : most ≤ 40) (q : ∀ (H' : Hp) (v : V) (j : Jn), SB a H H' → Src H' a → Rp K H' v j.py → Fx j → (j.cnt : Int) ≤ most → Q v H') :
    spProg K [.ref a, .int most] H Q E := ⟨a, most, rfl, h, h1, h2, q⟩
theorem has_program (O : OwnF K mg "_law_program" s_law_program) (h_law_take : HasF P w K mg base CX0 1 "_law_take" ["source", "top"] spTake) (h_law_one : HasF P w K mg base CX0 2 "_law_one" ["source", "things"] (spOne K)) (h_law_joint : HasF P w K mg base CX0 124 "_law_joint" ["source", "k", "left"] (spJ K 40)) : HasF P w K mg base CX0 125 "_law_program" ["source", "most"] (spProg K) := by
  refine has0 O sc_law_program (fun _ _ _ _ _ _ us hl => match us, hl with | [_, _], _ => rfl) (fun vs H Q E h => ?_) (fun f cdv A outer s_ H vs Q E hr h => ?_)
  · obtain ⟨a, most, rfl, _⟩ := h
    rfl
  obtain ⟨a, most, rfl, hS, h1, h2, q⟩ := h
  refine ⟨_, (pss_cons (ps_set (i := 2) sc_law_program.nd rfl (by first | exact Or.inl rfl | exact Or.inr rfl) (pe_callH h_law_one (hr.mono (by first | decide | omega)) (by rfl) pass0 (pa_cons (pv 0) (pa_cons (pe_lst (pa_cons pe_int (pa_cons pe_int (pa_cons pe_int (pa_cons pe_int (pa_cons pe_int (pa_cons pe_int (pa_cons pe_int (pa_cons pe_int (pa_cons (pe_op (kAdd K) pe_int (pe_callH h_law_take (hr.mono (by first | decide | omega)) (by rfl) pass0 (pa_cons (pv 0) (pa_cons pe_int pa_nil)))) pa_nil)))))))))) pa_nil)))) (pss_one (ps_ret (pe_callH h_law_joint (hr.mono (by first | decide | omega)) (by rfl) pass0 (pa_cons (pv 0) (pa_cons (pv 2) (pa_cons (pv 1) pa_nil))))))), ?_⟩
  refine st0 [some (.ref a), some (.int most), none] rfl ?_
  walk_at "go"
  refine use_take hS (by omega) (by omega) fun H1 r s1 hS1 r0 r1 => ?_
  walk_at "go"
  refine ⟨lk rfl, fun p hp => ?_⟩
  walk_at "go"
  refine use_one (hS1.new hp) (SqL.of upd_same) (hS1.ne hp) (by show 0 < 9; omega) (by show 9 < 1000; omega) fun H2 v s2 hS2 hv => ?_
  obtain ⟨k, rfl, k1, k2⟩ : ∃ k, v = .int k ∧ 1 ≤ k ∧ k ≤ 64 := by
    have hv' : v ∈ ([1, 1, 2, 3, 4, 5, 6, 12, 1 + r] : List Int).map V.int := hv
    obtain ⟨k, hk, rfl⟩ := List.mem_map.mp hv'
    refine ⟨k, rfl, ?_⟩
    simp only [List.mem_cons, List.not_mem_nil, or_false] at hk
    omega
  walk_at "go"
  refine use_j hS2 k1 k2 h1 (by omega) h2 fun H3 v j s3 hS3 hr3 hok hc => ?_
  exact q H3 v j (s1.trans ((SB.refl.new hp).trans (s2.trans s3))) hS3 hr3 hok hc
abbrev s_law_listed : Stmt := top 67
theorem sc_law_listed : FnScope ["joint", "found", "part"] ["joint"] (defScope s_law_listed) := ⟨rfl, rfl, rfl, by decide +kernel, rfl, by decide +kernel, by decide +kernel⟩
/-- all joints, in a new list -/
def spLs (K : PySem.W.Frag) (n : Nat) : Sp := fun vs H Q _ => ∃ (v : V) (j : Jn), vs = [v] ∧ Rp K H v j.py ∧ j.ok ∧ j.cnt ≤ n ∧ j.cnt ≤ 40 ∧
  ∀ (H' : Hp) (b : Addr) (ws : List V), Same H H' → H b = none → H' b = some (.lst ws) → Rps K H' ws (Jn.pys j.all) → Q (.ref b) H'
theorem use_ls {K : PySem.W.Frag} {n : Nat} {v : V} {j : Jn} {H : Hp} {Q : VK} {E : XK} (h : Rp K H v j.py) (h1 : j.ok) (h2 : j.cnt ≤ n) (h3 : j.cnt ≤ 40) (q : ∀ (H' : Hp) (b : Addr) (ws : List V), Same H H' → H b = none → H' b = some (.lst ws) → Rps K H' ws (Jn.pys j.all) → Q (.ref b) H') :
    spLs K n [v] H Q E := ⟨v, j, rfl, h, h1, h2, h3, q⟩
theorem base_listed {l : Nat} (O : OwnF K mg "_law_listed" s_law_listed) : HasF P w K mg base CX0 (l + 1) "_law_listed" ["joint"] (spLs K 0) := by
  refine has0 O sc_law_listed (fun _ _ _ _ _ _ us hl => match us, hl with | [_], _ => rfl) (fun vs H Q E h => ?_) (fun f cdv A outer s_ H vs Q E hr h => ?_)
  · obtain ⟨v, j, rfl, _⟩ := h
    rfl
  obtain ⟨v, j, _, _, _, h1, _⟩ := h
  have := cnt_pos j
  omega
theorem step_listed {n l : Nat} (O : OwnF K mg "_law_listed" s_law_listed) (h_law_listed : HasF P w K mg base CX0 l "_law_listed" ["joint"] (spLs K n)) : HasF P w K mg base CX0 (l + 1) "_law_listed" ["joint"] (spLs K (n + 1)) := by
  refine has0 O sc_law_listed (fun _ _ _ _ _ _ us hl => match us, hl with | [_], _ => rfl) (fun vs H Q E h => ?_) (fun f cdv A outer s_ H vs Q E hr h => ?_)
  · obtain ⟨v, j, rfl, _⟩ := h
    rfl
  obtain ⟨v, j, rfl, r, hok, hn, h40, q⟩ := h
  refine ⟨_, (pss_cons (ps_set (i := 1) sc_law_listed.nd rfl (by first | exact Or.inl rfl | exact Or.inr rfl) (pe_lst (pa_cons (pv 0) pa_nil))) (pss_cons (ps_for PassesOwn.never rfl (pi_tupK K (pe_ix (kIx K) (pv 0) pe_int (fun _ _ => rfl))) (pg_name (i := 2) sc_law_listed.nd rfl (by first | exact Or.inl rfl | exact Or.inr rfl)) (pss_one (ps_set (i := 1) sc_law_listed.nd rfl (by first | exact Or.inl rfl | exact Or.inr rfl) (pe_op (kAdd K) (pv 1) (pe_callH h_law_listed (hr.mono (by first | decide | omega)) (by rfl) pass0 (pa_cons (pv 2) pa_nil)))))) (pss_one (ps_ret (pv 1))))), ?_⟩
  refine st0 [some v, none, none] rfl ?_
  walk_at "go"
  refine ⟨lk rfl, fun p hp => ?_⟩
  obtain ⟨op, td, parts⟩ := j
  obtain ⟨pj, t, qa, tv, pv, rfl, hsj, _, _, hsq, hRq⟩ := r.jn
  have h' := hok
  simp only [Jn.ok] at h'
  have hoks := h'.2.2.2.2
  have hcn : 1 + Jn.cnts parts ≤ n + 1 := by simpa only [Jn.cnt] using hn
  have hc40 : 1 + Jn.cnts parts ≤ 40 := by simpa only [Jn.cnt] using h40
  have lp : pv.length = parts.length := by rw [hRq.length, pys_length]
  have sP := same_new hp (.lst [V.ref pj])
  walk_at "go"
  refine u_ixT (Ext.of_same sP _ _ hsj) rfl ?_
  walk_at "go"
  refine rd_itT (Ext.of_same sP _ _ hsq) ?_
  refine forT (xs := pv) (fun i σ H' => ∃ (b : Addr) (ws : List V) (o1 : Option V), σ = [some (.ref pj), some (.ref b), o1] ∧ Same H H' ∧ H b = none ∧ H' b = some (.lst ws) ∧ Rps K H' ws (Jn.pys (Jn.mk op td parts :: Jn.alls (parts.take i))))
    ⟨p, [.ref pj], none, rfl, sP, hp, upd_same, ?_⟩ ?_ ?_ ?_
  · simp only [List.take_zero, Jn.alls, Jn.pys]
    exact .one (r.mono (Ext.of_same sP) _ _)
  · rintro i σ H' hi ⟨b, ws, o1, rfl, g1, g2, g3, g4⟩
    exact Ext.of_same g1 _ _ hsq
  · rintro i x σ H' hx ⟨b, ws, o1, rfl, g1, g2, g3, g4⟩
    obtain ⟨jx, ex, rx⟩ := hRq.part hx
    have jm : jx ∈ parts := List.mem_of_getElem? ex
    have jc := cnts_mem jm
    walk_at "go"
    refine use_ls (rx.mono (Ext.of_same g1) _ _) (oks_mem hoks jm) (by omega) (by omega) fun H2 b2 ws2 s2 n2 e2 r2 => ?_
    have l1 := g4.length
    have l2 := r2.length
    rw [pys_length] at l1 l2
    rw [all_cnt] at l2
    rw [List.length_cons, alls_cnt] at l1
    have l3 := cnts_take parts i
    walk_at "go"
    refine u_addL (s2 _ _ g3) e2 (ll (by omega)) fun p3 hp3 => ?_
    walk_at "go"
    refine ⟨p3, ws ++ ws2, _, rfl, Same.new (g1.trans s2) hp3, ?_, upd_same, ?_⟩
    · cases hh : H p3 with
      | none => rfl
      | some o => rw [(g1.trans s2) _ _ hh] at hp3; cases hp3
    · rw [alls_take ex]
      have e3 : Jn.pys (Jn.mk op td parts :: (Jn.alls (parts.take i) ++ jx.all)) = Jn.pys (Jn.mk op td parts :: Jn.alls (parts.take i)) ++ Jn.pys jx.all := by
        rw [← pys_append] <;> rfl
      rw [e3]
      exact ((g4.mono (Ext.of_same s2) _ _).append r2).mono (Ext.new hp3) _ _
  · rintro σ H' ⟨b, ws, o1, rfl, g1, g2, g3, g4⟩
    walk_at "go"
    refine q H' b ws g1 g2 g3 ?_
    rw [lp, List.take_length] at g4
    simp only [Jn.all]
    exact g4
theorem has_listed (O : OwnF K mg "_law_listed" s_law_listed) : ∀ n : Nat, HasF P w K mg base CX0 (1 + n) "_law_listed" ["joint"] (spLs K n)
  | 0 => base_listed O
  | n + 1 => step_listed O (has_listed O n)
end

/-! ### Q2 -/
section
variable {P : Program} {w : World} {K : PySem.W.Frag} {mg : Str → Option Value} {base : Heap}
/-- what a dict puts in the place of joints -/
def NewsAt (K : PySem.W.Frag) (H : Hp) (d : Addr) (f : Int → Option PyData) : Prop := ∃ kvs, H d = some (.dK kvs) ∧ ∀ i : Int, (∃ nv dd, valV kvs (Sum.inl i) = some nv ∧ f i = some dd ∧ Rp K H nv dd) ∨ (valV kvs (Sum.inl i) = none ∧ f i = none)
theorem NewsAt.mono {K : PySem.W.Frag} {H H' : Hp} {d : Addr} {f : Int → Option PyData} (h : NewsAt K H d f) (s : Same H H') : NewsAt K H' d f := by
  obtain ⟨kvs, h1, h2⟩ := h
  refine ⟨kvs, s _ _ h1, fun i => ?_⟩
  rcases h2 i with ⟨nv, dd, a, b, c⟩ | h
  · exact .inl ⟨nv, dd, a, b, c.mono (Ext.of_same s) _ _⟩
  · exact .inr h
def spPut (K : PySem.W.Frag) (n : Nat) : Sp := fun vs H Q _ => ∃ (v : V) (j : Jn) (i : Int) (d : Addr) (f : Int → Option PyData), vs = [v, .int i, .ref d] ∧ Rp K H v j.py ∧ j.ok ∧ j.cnt ≤ n ∧ j.cnt ≤ 40 ∧ NewsAt K H d f ∧
  ∀ (H' : Hp) (u : V), Same H H' → Rp K H' u (j.putF f i) → Q u H'
theorem use_put {K : PySem.W.Frag} {n : Nat} {v : V} {j : Jn} {i : Int} {d : Addr} {f : Int → Option PyData} {H : Hp} {Q : VK} {E : XK} (h : Rp K H v j.py) (h1 : j.ok) (h2 : j.cnt ≤ n) (h3 : j.cnt ≤ 40) (h4 : NewsAt K H d f)
    (q : ∀ (H' : Hp) (u : V), Same H H' → Rp K H' u (j.putF f i) → Q u H') : spPut K n [v, .int i, .ref d] H Q E := ⟨v, j, i, d, f, rfl, h, h1, h2, h3, h4, q⟩
abbrev s_law_put : Stmt := top 68
theorem sc_law_put : FnScope ["joint", "number", "news", "at", "parts", "part"] ["joint", "number", "news"] (defScope s_law_put) := ⟨rfl, rfl, rfl, by decide +kernel, rfl, by decide +kernel, by decide +kernel⟩
theorem base_put {l : Nat} (O : OwnF K mg "_law_put" s_law_put) : HasF P w K mg base CX0 (l + 1) "_law_put" ["joint", "number", "news"] (spPut K 0) := by
  refine has0 O sc_law_put (fun _ _ _ _ _ _ us hl => match us, hl with | [_, _, _], _ => rfl) (fun vs H Q E h => ?_) (fun f cdv A outer s_ H vs Q E hr h => ?_)
  · obtain ⟨v, j, i, d, f0, rfl, _⟩ := h
    rfl
  obtain ⟨v, j, i, d, f0, _, _, _, h1, _⟩ := h
  have := cnt_pos j
  omega
theorem step_put {n l : Nat} (hl : 41 ≤ l) (O : OwnF K mg "_law_put" s_law_put) (B : Bl mg) (h_law_listed : HasF P w K mg base CX0 41 "_law_listed" ["joint"] (spLs K 40)) (h_law_put : HasF P w K mg base CX0 l "_law_put" ["joint", "number", "news"] (spPut K n)) :
    HasF P w K mg base CX0 (l + 1) "_law_put" ["joint", "number", "news"] (spPut K (n + 1)) := by
  refine has0 O sc_law_put (fun _ _ _ _ _ _ us hl => match us, hl with | [_, _, _], _ => rfl) (fun vs H Q E h => ?_) (fun f cdv A outer s_ H vs Q E hr h => ?_)
  · obtain ⟨v, j, i, d, f0, rfl, _⟩ := h
    rfl
  obtain ⟨v, j, i, d, f0, rfl, r, hok, hn, h40, hNe, q⟩ := h
  obtain ⟨kvs, hd, hN⟩ := hNe
  refine ⟨_, (pss_cons (ps_if (pt_cmp (pc_din (hu_of hr) (pv 1) (pv 2))) (pss_one (ps_ret (pe_dget (hu_of hr) (pv 2) (pv 1) (fun _ _ => rfl)))) pss_nil) (pss_cons (ps_par (i := 3) (j := 4) (by rfl) sc_law_put.nd rfl rfl (by decide) rfl rfl (pa_cons (pe_op (kAdd K) (pv 1) pe_int) (pa_cons (pe_lst pa_nil) pa_nil)) (by rfl)) (pss_cons (ps_for PassesOwn.never rfl (pi_tupK K (pe_ix (kIx K) (pv 0) pe_int (fun _ _ => rfl))) (pg_name (i := 5) sc_law_put.nd rfl (by first | exact Or.inl rfl | exact Or.inr rfl)) (pss_cons (ps_expr (pe_bmK K PySem.F.plainAttrs_list PySem.F.slot_list_append PySem.F.type_list_append mt_append (pv 4) (pa_cons (pe_callH h_law_put (hr.mono (by first | decide | omega)) (by rfl) pass0 (pa_cons (pv 5) (pa_cons (pv 3) (pa_cons (pv 2) pa_nil)))) pa_nil))) (pss_one (ps_set (i := 3) sc_law_put.nd rfl (by first | exact Or.inl rfl | exact Or.inr rfl) (pe_op (kAdd K) (pv 3) (pe_callB (kLen K) (by rfl) B.len (by decide +kernel) (pa_cons (pe_callH h_law_listed (hr.mono (by first | decide | omega)) (by rfl) pass0 (pa_cons (pv 5) pa_nil)) pa_nil))))))) (pss_one (ps_ret (pe_tup (pa_cons (pe_ix (kIx K) (pv 0) pe_int (fun _ _ => rfl)) (pa_cons (pe_ix (kIx K) (pv 0) pe_int (fun _ _ => rfl)) (pa_cons (pe_callTy (kTup K) (by rfl) B.tuple (by decide +kernel) (pa_cons (pv 4) pa_nil)) pa_nil))))))))), ?_⟩
  refine st0 [some v, some (.int i), some (.ref d), none, none, none] rfl ?_
  walk_at "go"
  refine u_din hd ?_
  walk_at "go"
  obtain ⟨op, td, parts⟩ := j
  rcases hN i with ⟨nv, dd, ev, ef, rn⟩ | ⟨ev, ef⟩
  · rw [ev]
    refine iteT ?_
    walk_at "go"
    refine u_dget hd ev ?_
    refine q H nv (Same.refl H) ?_
    simp only [Jn.putF]
    rw [ef]
    exact rn
  have hNe : NewsAt K H d f0 := ⟨kvs, hd, hN⟩
  rw [ev]
  refine iteF ?_
  simp only [Jn.putF, ef, Option.getD_none] at q
  obtain ⟨pj, t, qa, tv, pv, rfl, hsj, hst, hRt, hsq, hRq⟩ := r.jn
  have h' := hok
  simp only [Jn.ok] at h'
  obtain ⟨hop, htl, htf, hpl, hoks⟩ := h'
  have hcn : 1 + Jn.cnts parts ≤ n + 1 := by simpa only [Jn.cnt] using hn
  have hc40 : 1 + Jn.cnts parts ≤ 40 := by simpa only [Jn.cnt] using h40
  have lp : pv.length = parts.length := by rw [hRq.length, pys_length]
  walk_at "go"
  refine ⟨lk rfl, fun p hp => ?_⟩
  have sP := same_new hp (.lst [])
  walk_at "go"
  refine u_ixT (Ext.of_same sP _ _ hsj) rfl ?_
  walk_at "go"
  refine rd_itT (Ext.of_same sP _ _ hsq) ?_
  refine forT (xs := pv) (fun k σ H' => ∃ (ws : List V) (o1 : Option V), σ = [some (.ref pj), some (.int i), some (.ref d), some (.int (i + 1 + (Jn.cnts (parts.take k) : Int))), some (.ref p), o1] ∧ Same H H' ∧ H' p = some (.lst ws) ∧ Rps K H' ws ((Jn.putsF f0 (i + 1) parts).take k))
    ⟨[], none, by rw [show ((Jn.cnts (parts.take 0) : Nat) : Int) = 0 by rw [List.take_zero]; simp [Jn.cnts], Int.add_zero] <;> rfl, sP, upd_same, by rw [List.take_zero]; exact .nil⟩ ?_ ?_ ?_
  · rintro k σ H' hi ⟨ws, o1, rfl, g1, g2, g4⟩
    exact Ext.of_same g1 _ _ hsq
  · rintro k xx σ H' hx ⟨ws, o1, rfl, g1, g2, g4⟩
    obtain ⟨jx, ex, rx⟩ := hRq.part hx
    have jm : jx ∈ parts := List.mem_of_getElem? ex
    have jc := cnts_mem jm
    have kl : k < pv.length := (List.getElem?_eq_some_iff.mp hx).1
    have lws : ws.length = k := by
      rw [g4.length, List.length_take, putsF_len]
      omega
    have eg := putsF_get f0 parts (i + 1) k jx ex
    have ect : Jn.cnts (parts.take (k + 1)) = Jn.cnts (parts.take k) + jx.cnt := by
      rw [List.take_add_one, ex, cnts_append]
      simp [Jn.cnts]
    walk_at "go"
    refine use_put (rx.mono (Ext.of_same g1) _ _) (oks_mem hoks jm) (by omega) (by omega) (hNe.mono g1) fun H2 u s2 hu => ?_
    have e2 := s2 _ _ g2
    walk_at "go"
    refine u_app e2 (ls (by omega)) ?_
    have s3 : Same H (upd H2 p (.lst (ws ++ [u]))) := Same.upd_new (g1.trans s2) hp
    have x3 : Ext K H2 (upd H2 p (.lst (ws ++ [u]))) := Ext.set e2 trivial
    have e3 : (upd H2 p (.lst (ws ++ [u]))) p = some (.lst (ws ++ [u])) := upd_same
    have d3 : Rps K (upd H2 p (.lst (ws ++ [u]))) (ws ++ [u]) ((Jn.putsF f0 (i + 1) parts).take (k + 1)) := by
      rw [List.take_add_one, eg]
      exact ((g4.mono (Ext.of_same s2) _ _).mono x3 _ _).append (.one (hu.mono x3 _ _))
    generalize upd H2 p (.lst (ws ++ [u])) = H3 at *
    walk_at "go"
    refine use_ls (rx.mono (Ext.of_same s3) _ _) (oks_mem hoks jm) (by omega) (by omega) fun H4 b2 ws2 s4 n4 e4 r4 => ?_
    have l2 : ws2.length = jx.cnt := by rw [r4.length, pys_length, all_cnt]
    walk_at "go"
    refine ⟨_, some xx, ?_, s3.trans s4, s4 _ _ e3, d3.mono (Ext.of_same s4) _ _⟩
    rw [l2, ect, show i + 1 + (Jn.cnts (parts.take k) : Int) + (jx.cnt : Int) = i + 1 + ((Jn.cnts (parts.take k) + jx.cnt : Nat) : Int) by omega] <;> rfl
  · rintro σ H' ⟨ws, o1, rfl, g1, g2, g4⟩
    have hsj' := Ext.of_same g1 _ _ hsj
    have lt : (Jn.putsF f0 (i + 1) parts).take pv.length = Jn.putsF f0 (i + 1) parts := by
      rw [List.take_of_length_le]
      rw [putsF_len]
      omega
    rw [lt] at g4
    walk_at "go"
    refine u_ixT hsj' rfl ?_
    walk_at "go"
    refine u_ixT hsj' rfl ?_
    walk_at "go"
    refine u_tupL (SqL.of g2) fun p2 hp2 => ?_
    walk_at "go"
    refine ⟨lk rfl, fun p3 hp3 => ?_⟩
    have x2 : Ext K H' (upd H' p2 (.tup ws)) := Ext.new hp2
    have x3 := Ext.new (K := K) (o := .tup [.str op, .ref t, .ref p2]) hp3
    refine q _ _ (Same.new (Same.new g1 hp2) hp3) ?_
    refine .tup (SqT.of upd_same) (.cons (.str op) (.cons (.tup (x3 _ _ (x2 _ _ (Ext.of_same g1 _ _ hst))) (((hRt.mono (Ext.of_same g1) _ _).mono x2 _ _).mono x3 _ _)) (.cons (.tup (x3 _ _ (SqT.of upd_same)) ((g4.mono x2 _ _).mono x3 _ _)) .nil)))
theorem has_put (O : OwnF K mg "_law_put" s_law_put) (B : Bl mg) (h_law_listed : HasF P w K mg base CX0 41 "_law_listed" ["joint"] (spLs K 40)) : ∀ n : Nat, HasF P w K mg base CX0 (41 + n) "_law_put" ["joint", "number", "news"] (spPut K n)
  | 0 => base_put (l := 40) O
  | n + 1 => step_put (Nat.le_add_right 41 n) O B h_law_listed (has_put O B h_law_listed n)
end

/-! ### Q3 -/
section
variable {P : Program} {w : World} {K : PySem.W.Frag} {mg : Str → Option Value} {base : Heap}
theorem str_nil : (Str.ofString "").cps.toList = [] := by decide +kernel
def spGap : Sp := fun vs H Q _ => ∃ (a : Addr) (n : Int), vs = [.ref a, .int n] ∧ Src H a ∧ 0 ≤ n ∧ n ≤ 1 ∧
  ∀ (H' : Hp) (z : Str), SB a H H' → Src H' a → Blank z.cps.toList → n ≤ (z.cps.toList.length : Int) → z.cps.toList.length ≤ 3 → Q (.str z) H'
theorem use_gap {a : Addr} {n : Int} {H : Hp} {Q : VK} {E : XK} (h : Src H a) (h1 : 0 ≤ n) (h2 : n ≤ 1) (q : ∀ (H' : Hp) (z : Str), SB a H H' → Src H' a → Blank z.cps.toList → n ≤ (z.cps.toList.length : Int) → z.cps.toList.length ≤ 3 → Q (.str z) H') : spGap [.ref a, .int n] H Q E := ⟨a, n, rfl, h, h1, h2, q⟩
abbrev s_law_gap : Stmt := top 69
theorem sc_law_gap : FnScope ["source", "least", "found", "turn"] ["source", "least"] (defScope s_law_gap) := ⟨rfl, rfl, rfl, by decide +kernel, rfl, by decide +kernel, by decide +kernel⟩
theorem has_gap (O : OwnF K mg "_law_gap" s_law_gap) (B : Bl mg) (h_law_one : HasF P w K mg base CX0 2 "_law_one" ["source", "things"] (spOne K)) : HasF P w K mg base CX0 3 "_law_gap" ["source", "least"] spGap := by
  refine has0 O sc_law_gap (fun _ _ _ _ _ _ us hl => match us, hl with | [_, _], _ => rfl) (fun vs H Q E h => ?_) (fun f cdv A outer s_ H vs Q E hr h => ?_)
  · obtain ⟨a, n, rfl, _⟩ := h
    rfl
  obtain ⟨a, n, rfl, hS, h1, h2, q⟩ := h
  refine ⟨_, (pss_cons (ps_set (i := 2) sc_law_gap.nd rfl (by first | exact Or.inl rfl | exact Or.inr rfl) pe_str) (pss_cons (ps_for PassesOwn.never rfl (pi_range1 (by rfl) B.range (pa_cons (pe_op (kAdd K) (pv 1) (pe_callH h_law_one (hr.mono (by first | decide | omega)) (by rfl) pass0 (pa_cons (pv 0) (pa_cons (pe_lst (pa_cons pe_int (pa_cons pe_int (pa_cons pe_int (pa_cons pe_int (pa_cons pe_int (pa_cons pe_int pa_nil))))))) pa_nil)))) pa_nil)) (pg_name (i := 3) sc_law_gap.nd rfl (by first | exact Or.inl rfl | exact Or.inr rfl)) (pss_one (ps_set (i := 2) sc_law_gap.nd rfl (by first | exact Or.inl rfl | exact Or.inr rfl) (pe_op (kAdd K) (pv 2) (pe_callH h_law_one (hr.mono (by first | decide | omega)) (by rfl) pass0 (pa_cons (pv 0) (pa_cons (pe_lst (pa_cons pe_str (pa_cons pe_str (pa_cons pe_str pa_nil)))) pa_nil))))))) (pss_one (ps_ret (pv 2))))), ?_⟩
  refine st0 [some (.ref a), some (.int n), none, none] rfl ?_
  walk_at "go"
  refine ⟨lk rfl, fun p hp => ?_⟩
  walk_at "go"
  refine use_one (hS.new hp) (SqL.of upd_same) (hS.ne hp) (by show 0 < 6; omega) (by show 6 < 1000; omega) fun H2 v s2 hS2 hv => ?_
  obtain ⟨k, rfl, k1, k2⟩ : ∃ k, v = .int k ∧ 0 ≤ k ∧ k ≤ 2 := by
    have hv' : v ∈ ([0, 0, 0, 0, 1, 2] : List Int).map V.int := hv
    obtain ⟨k, hk, rfl⟩ := List.mem_map.mp hv'
    refine ⟨k, rfl, ?_⟩
    simp only [List.mem_cons, List.not_mem_nil, or_false] at hk
    omega
  have s02 : SB a H H2 := (SB.refl.new hp).trans s2
  walk_at "go"
  refine forR (fun i σ H' => ∃ (z : Str) (o : Option V), σ = [some (.ref a), some (.int n), some (.str z), o] ∧ SB a H H' ∧ Src H' a ∧ z.cps.toList.length = i ∧ Blank z.cps.toList)
    ⟨Str.ofString "", none, rfl, s02, hS2, by rw [str_nil] <;> rfl, fun c hc => by rw [str_nil] at hc; cases hc⟩ ?_ ?_
  · rintro i σ H3 hi ⟨z, o, rfl, g1, g2, hl, hz⟩
    walk_at "go"
    refine ⟨lk rfl, fun p2 hp2 => ?_⟩
    walk_at "go"
    refine use_one (g2.new hp2) (SqL.of upd_same) (g2.ne hp2) (by show 0 < 3; omega) (by show 3 < 1000; omega) fun H4 v s4 hS4 hv => ?_
    obtain ⟨y, rfl, ey, by_⟩ : ∃ y : Str, v = .str y ∧ y.cps.toList.length = 1 ∧ Blank y.cps.toList := by
      have hv' : v ∈ ([" ", " ", "\n"] : List String).map fun s => V.str (Str.ofString s) := hv
      obtain ⟨k, hk, rfl⟩ := List.mem_map.mp hv'
      refine ⟨_, rfl, ?_⟩
      simp only [List.mem_cons, List.not_mem_nil, or_false] at hk
      rcases hk with rfl | rfl | rfl
      · exact ⟨by decide +kernel, by unfold Blank; decide +kernel⟩
      · exact ⟨by decide +kernel, by unfold Blank; decide +kernel⟩
      · exact ⟨by decide +kernel, by unfold Blank; decide +kernel⟩
    walk_at "go"
    refine u_addS ?_ ?_
    · rw [len_list z, len_list y, hl, ey]
      exact ll (by omega)
    walk_at "go"
    refine ⟨_, _, rfl, g1.trans ((SB.refl.new hp2).trans s4), hS4, ?_, ?_⟩
    · rw [app_list, List.length_append, hl, ey]
    · rw [app_list]
      exact hz.app by_
  · rintro σ H3 ⟨z, o, rfl, g1, g2, hl, hz⟩
    walk_at "go"
    exact q _ _ g1 g2 hz (by omega) (by omega)
end
end Mine

/-! ### S0 -/
namespace Mine
open PySem PySem.Spec L2
local macro_rules | `(tactic| walk_at "st") => `(tactic| (with_reducible apply iteF))
local macro_rules | `(tactic| walk_at "st") => `(tactic| (with_reducible apply iteT))
local macro_rules | `(tactic| walk_at "st") => `(tactic| ((with_reducible apply rd_tyF); (focus assumption)))
local macro_rules | `(tactic| walk_at "st") => `(tactic| (with_reducible apply rd_tupF))
local macro_rules | `(tactic| walk_at "st") => `(tactic| (with_reducible apply rd_bmT))
local macro_rules | `(tactic| walk_at "st") => `(tactic| (with_reducible apply rd_dc))
local macro_rules | `(tactic| walk_at "st") => `(tactic| (with_reducible apply u_notB))
local macro_rules | `(tactic| walk_at "st") => `(tactic| (with_reducible apply u_repB))
local macro_rules | `(tactic| walk_at "st") => `(tactic| (with_reducible apply u_isB))
local macro_rules | `(tactic| walk_at "st") => `(tactic| (with_reducible apply rd_nopart))
local macro_rules | `(tactic| walk_at "st") => `(tactic| (with_reducible apply rd_partI))
local macro_rules | `(tactic| walk_at "st") => `(tactic| (with_reducible apply rd_part))
local macro_rules | `(tactic| walk_at "st") => `(tactic| (with_reducible apply rd_sl))
local macro_rules | `(tactic| walk_at "st") => `(tactic| (with_reducible apply rd_disp1))
local macro_rules | `(tactic| walk_at "st") => `(tactic| (with_reducible apply rd_dput))
local macro_rules | `(tactic| walk_at "st") => `(tactic| (with_reducible apply rd_dget))
local macro_rules | `(tactic| walk_at "st") => `(tactic| (with_reducible apply rd_din))
local macro_rules | `(tactic| walk_at "st") => `(tactic| (with_reducible apply rd_dnew))
local macro_rules | `(tactic| walk_at "st") => `(tactic| ((with_reducible apply rd_gtup); (focus first | assumption | exact SqT.of (by assumption) | exact SqT.of upd_same); (focus rfl)))
local macro_rules | `(tactic| walk_at "st") => `(tactic| (with_reducible apply rd_lc2))
local macro_rules | `(tactic| walk_at "st") => `(tactic| (with_reducible apply rd_zip))
local macro_rules | `(tactic| walk_at "st") => `(tactic| ((with_reducible apply u_enL); (focus first | assumption | exact SqL.of (by assumption) | exact SqL.of upd_same)))
local macro_rules | `(tactic| walk_at "st") => `(tactic| ((with_reducible apply u_enT); (focus first | assumption | exact SqT.of (by assumption) | exact SqT.of upd_same)))
local macro_rules | `(tactic| walk_at "st") => `(tactic| (with_reducible apply rd_rng3))
local macro_rules | `(tactic| walk_at "st") => `(tactic| (with_reducible apply rd_rg1))
local macro_rules | `(tactic| walk_at "st") => `(tactic| (with_reducible apply rd_revR))
local macro_rules | `(tactic| walk_at "st") => `(tactic| (with_reducible apply rd_enA))
local macro_rules | `(tactic| walk_at "st") => `(tactic| (with_reducible apply rd_ipI))
local macro_rules | `(tactic| walk_at "st") => `(tactic| ((with_reducible apply rd_aug); exact rfl))
local macro_rules | `(tactic| walk_at "st") => `(tactic| (with_reducible apply rd_par3_end))
local macro_rules | `(tactic| walk_at "st") => `(tactic| (with_reducible apply rd_par3))
local macro_rules | `(tactic| walk_at "st") => `(tactic| (with_reducible apply u_mul; focus exact Or.inr cm))
local macro_rules | `(tactic| walk_at "st") => `(tactic| ((with_reducible apply u_pow); (focus (exact ⟨by decide, by decide, by decide⟩))))
local macro_rules | `(tactic| walk_at "st") => `(tactic| (with_reducible apply rd_yes))
local macro_rules | `(tactic| walk_at "st") => `(tactic| (with_reducible apply rd_lc))
local macro_rules | `(tactic| walk_at "st") => `(tactic| ((with_reducible apply rd_itT); (focus first | assumption | exact SqT.of (by assumption) | exact SqT.of upd_same)))
local macro_rules | `(tactic| walk_at "st") => `(tactic| ((with_reducible apply rd_itL); (focus first | assumption | exact SqL.of (by assumption) | exact SqL.of upd_same)))
local macro_rules | `(tactic| walk_at "st") => `(tactic| ((with_reducible apply u_isi); (focus (first | exact Or.inl rfl | exact Or.inr (Or.inl rfl) | exact Or.inr (Or.inr (Or.inl rfl)) | exact Or.inr (Or.inr (Or.inr rfl)))); (focus first | assumption | exact Rp.int _ | exact Rp.str _)))
local macro_rules | `(tactic| walk_at "st") => `(tactic| (with_reducible apply rd_istrE))
local macro_rules | `(tactic| walk_at "st") => `(tactic| (with_reducible apply rd_istr))
local macro_rules | `(tactic| walk_at "st") => `(tactic| ((with_reducible apply rd_seqT); (focus first | assumption | exact SqT.of (by assumption) | exact SqT.of upd_same)))
local macro_rules | `(tactic| walk_at "st") => `(tactic| ((with_reducible apply rd_seqL); (focus first | assumption | exact SqL.of (by assumption) | exact SqL.of upd_same)))
local macro_rules | `(tactic| walk_at "st") => `(tactic| (with_reducible apply rd_iSeq))
local macro_rules | `(tactic| walk_at "st") => `(tactic| (with_reducible apply u_notInS))
local macro_rules | `(tactic| walk_at "st") => `(tactic| (with_reducible apply u_inS))
local macro_rules | `(tactic| walk_at "st") => `(tactic| (with_reducible apply u_notInD))
local macro_rules | `(tactic| walk_at "st") => `(tactic| (with_reducible apply u_inD))
local macro_rules | `(tactic| walk_at "st") => `(tactic| (with_reducible apply rd_callS))
local macro_rules | `(tactic| walk_at "st") => `(tactic| (with_reducible apply rd_raiseE))
local macro_rules | `(tactic| walk_at "st") => `(tactic| (with_reducible apply rd_xf))
local macro_rules | `(tactic| walk_at "st") => `(tactic| (with_reducible apply g_neB))
local macro_rules | `(tactic| walk_at "st") => `(tactic| (with_reducible apply g_neS))
local macro_rules | `(tactic| walk_at "st") => `(tactic| (with_reducible apply g_neI))
local macro_rules | `(tactic| walk_at "st") => `(tactic| (with_reducible apply g_eqS))
local macro_rules | `(tactic| walk_at "st") => `(tactic| (with_reducible apply g_eqI))
local macro_rules | `(tactic| walk_at "st") => `(tactic| (with_reducible apply rd_retN))
local macro_rules | `(tactic| walk_at "st") => `(tactic| (with_reducible apply rd_gnil))
local macro_rules | `(tactic| walk_at "st") => `(tactic| (with_reducible apply rd_gcons))
local macro_rules | `(tactic| walk_at "st") => `(tactic| ((with_reducible apply rd_rng2e); (focus omega)))
local macro_rules | `(tactic| walk_at "st") => `(tactic| ((with_reducible apply rd_rng1e); (focus omega); (focus omega)))
local macro_rules | `(tactic| walk_at "st") => `(tactic| (with_reducible apply rd_rng2))
local macro_rules | `(tactic| walk_at "st") => `(tactic| (with_reducible apply rd_rng1))
local macro_rules | `(tactic| walk_at "st") => `(tactic| (with_reducible apply rd_for))
local macro_rules | `(tactic| walk_at "st") => `(tactic| (with_reducible apply rd_iTup))
local macro_rules | `(tactic| walk_at "st") => `(tactic| (with_reducible apply rd_iList))
local macro_rules | `(tactic| walk_at "st") => `(tactic| (with_reducible apply rd_rev))
local macro_rules | `(tactic| walk_at "st") => `(tactic| (with_reducible apply u_min3))
local macro_rules | `(tactic| walk_at "st") => `(tactic| ((with_reducible apply rd_tyL); focus (first | exact SqL.of (by assumption) | exact SqL.of upd_same)))
local macro_rules | `(tactic| walk_at "st") => `(tactic| (with_reducible apply rd_bm0))
local macro_rules | `(tactic| walk_at "st") => `(tactic| (with_reducible apply rd_bm))
local macro_rules | `(tactic| walk_at "st") => `(tactic| ((with_reducible apply rd_truL); focus (first | assumption | exact SqL.of (by assumption) | exact SqL.of upd_same)))
local macro_rules | `(tactic| walk_at "st") => `(tactic| (with_reducible apply rd_truB))
local macro_rules | `(tactic| walk_at "st") => `(tactic| (with_reducible apply rd_tru))
local macro_rules | `(tactic| walk_at "st") => `(tactic| (with_reducible apply rd_chain3))
local macro_rules | `(tactic| walk_at "st") => `(tactic| ((with_reducible apply u_setL); (focus (first | assumption | exact upd_same)); exact rfl))
local macro_rules | `(tactic| walk_at "st") => `(tactic| ((with_reducible apply u_lenT); focus (first | assumption | exact SqT.of (by assumption) | exact SqT.of upd_same)))
local macro_rules | `(tactic| walk_at "st") => `(tactic| ((with_reducible apply u_lenL); focus (first | assumption | exact SqL.of (by assumption) | exact SqL.of upd_same)))
local macro_rules | `(tactic| walk_at "st") => `(tactic| ((with_reducible apply u_ixL); (focus (first | assumption | exact SqL.of (by assumption) | exact SqL.of upd_same)); exact rfl))
local macro_rules | `(tactic| walk_at "st") => `(tactic| ((with_reducible apply u_mul); focus first | exact Or.inl (by omega) | exact Or.inr (by omega) | exact Or.inl (by decide) | exact Or.inr (by decide)))
local macro_rules | `(tactic| walk_at "st") => `(tactic| ((with_reducible apply u_div); focus first | decide | omega | (constructor <;> first | assumption | omega)))
local macro_rules | `(tactic| walk_at "st") => `(tactic| ((with_reducible apply u_mod); focus first | assumption | decide | omega))
local macro_rules | `(tactic| walk_at "st") => `(tactic| (with_reducible apply u_neg))
local macro_rules | `(tactic| walk_at "st") => `(tactic| (with_reducible apply u_min))
local macro_rules | `(tactic| walk_at "st") => `(tactic| (with_reducible apply u_max))
local macro_rules | `(tactic| walk_at "st") => `(tactic| (with_reducible apply u_intB))
local macro_rules | `(tactic| walk_at "st") => `(tactic| (with_reducible apply u_int))
local macro_rules | `(tactic| walk_at "st") => `(tactic| (with_reducible apply u_neI))
local macro_rules | `(tactic| walk_at "st") => `(tactic| (with_reducible apply u_eqS))
local macro_rules | `(tactic| walk_at "st") => `(tactic| (with_reducible apply u_eqI))
local macro_rules | `(tactic| walk_at "st") => `(tactic| (with_reducible apply u_ge))
local macro_rules | `(tactic| walk_at "st") => `(tactic| (with_reducible apply u_gt))
local macro_rules | `(tactic| walk_at "st") => `(tactic| (with_reducible apply u_le))
local macro_rules | `(tactic| walk_at "st") => `(tactic| (with_reducible apply u_lt))
local macro_rules | `(tactic| walk_at "st") => `(tactic| (with_reducible apply u_sub))
local macro_rules | `(tactic| walk_at "st") => `(tactic| (with_reducible apply u_add))
local macro_rules | `(tactic| walk_at "st") => `(tactic| (with_reducible apply rd_ct))
local macro_rules | `(tactic| walk_at "st") => `(tactic| (with_reducible apply rd_brk))
local macro_rules | `(tactic| walk_at "st") => `(tactic| (with_reducible apply rd_tB))
local macro_rules | `(tactic| walk_at "st") => `(tactic| (with_reducible apply rd_chain))
local macro_rules | `(tactic| walk_at "st") => `(tactic| (with_reducible apply rd_notV))
local macro_rules | `(tactic| walk_at "st") => `(tactic| (with_reducible apply rd_orV))
local macro_rules | `(tactic| walk_at "st") => `(tactic| (with_reducible apply rd_andV))
local macro_rules | `(tactic| walk_at "st") => `(tactic| (with_reducible apply rd_not))
local macro_rules | `(tactic| walk_at "st") => `(tactic| (with_reducible apply rd_or))
local macro_rules | `(tactic| walk_at "st") => `(tactic| (with_reducible apply rd_and))
local macro_rules | `(tactic| walk_at "st") => `(tactic| (with_reducible apply rd_un))
local macro_rules | `(tactic| walk_at "st") => `(tactic| (with_reducible apply rd_par_end))
local macro_rules | `(tactic| walk_at "st") => `(tactic| (with_reducible apply rd_par))
local macro_rules | `(tactic| walk_at "st") => `(tactic| (with_reducible apply rd_gsub))
local macro_rules | `(tactic| walk_at "st") => `(tactic| (with_reducible apply rd_ife))
local macro_rules | `(tactic| walk_at "st") => `(tactic| (with_reducible apply rd_next))
local macro_rules | `(tactic| walk_at "st") => `(tactic| (with_reducible apply rd_drop))
local macro_rules | `(tactic| walk_at "st") => `(tactic| (with_reducible apply rd_lst))
local macro_rules | `(tactic| walk_at "st") => `(tactic| (with_reducible apply rd_tup))
local macro_rules | `(tactic| walk_at "st") => `(tactic| (with_reducible apply rd_call))
local macro_rules | `(tactic| walk_at "st") => `(tactic| (with_reducible apply rd_ret))
local macro_rules | `(tactic| walk_at "st") => `(tactic| (with_reducible apply rd_retE))
local macro_rules | `(tactic| walk_at "st") => `(tactic| (with_reducible apply rd_bl))
local macro_rules | `(tactic| walk_at "st") => `(tactic| (with_reducible apply rd_test))
local macro_rules | `(tactic| walk_at "st") => `(tactic| (with_reducible apply rd_if))
local macro_rules | `(tactic| walk_at "st") => `(tactic| (with_reducible apply rd_nil))
local macro_rules | `(tactic| walk_at "st") => `(tactic| (with_reducible apply rd_cons))
local macro_rules | `(tactic| walk_at "st") => `(tactic| (with_reducible apply rd_cb))
local macro_rules | `(tactic| walk_at "st") => `(tactic| (with_reducible apply rd_op))
local macro_rules | `(tactic| walk_at "st") => `(tactic| (with_reducible apply rd_gname))
local macro_rules | `(tactic| walk_at "st") => `(tactic| (with_reducible apply rd_asg))
local macro_rules | `(tactic| walk_at "st") => `(tactic| (with_reducible apply rd_seq))
local macro_rules | `(tactic| walk_at "st") => `(tactic| (with_reducible apply rd_c))
local macro_rules | `(tactic| walk_at "st") => `(tactic| ((with_reducible apply rd_var); exact rfl))
local macro_rules | `(tactic| walk_at "go") => `(tactic| repeat (walk_at "st"))
local macro_rules | `(tactic| walk_at "sp") => `(tactic| (first | refine rd_split (fun c => ?_) (fun c => ?_) | refine rd_splitN (fun c => ?_) (fun c => ?_) | refine rd_splitB (fun c => ?_) (fun c => ?_)))
local macro_rules | `(tactic| walk_at "nx") => `(tactic| repeat (first | (with_reducible apply iteF) | (with_reducible apply iteT) | (with_reducible apply rd_next)))

section
variable {P : Program} {w : World} {K : PySem.W.Frag} {mg : Str → Option Value} {base : Heap}
theorem lt_of_get {α : Type} {l : List α} {i : Nat} {x : α} (h : l[i]? = some x) : i < l.length := (List.getElem?_eq_some_iff.mp h).1
theorem log_ok {n : Nat} (h : n < 10 ^ 7) : ((n : Int)).natAbs.log2 < 1920 := by
  rw [Int.natAbs_natCast]
  by_cases c : n = 0
  · subst c
    decide +kernel
  · exact (Nat.log2_lt c).mpr (Nat.lt_trans h (by decide +kernel))
theorem tl_len' (a b : Str) : (a ++ b).length = a.length + b.length := by
  rw [TL.len_tl, TL.tl_append, List.length_append, ← TL.len_tl, ← TL.len_tl]
theorem part_alls {l : List Jn} {j : Jn} (h : j ∈ l) : j ∈ Jn.alls l := by
  induction l with
  | nil => cases h
  | cons a r ih =>
    simp only [Jn.alls, List.mem_append]
    rcases List.mem_cons.mp h with rfl | h
    · exact .inl (all_self _)
    · exact .inr (ih h)
theorem len_cnts : ∀ l : List Jn, l.length ≤ Jn.cnts l
  | [] => Nat.le_refl _
  | j :: r => by
    have := cnt_pos j
    have := len_cnts r
    simp only [Jn.cnts, List.length_cons]
    omega
theorem txs_map : ∀ l : List Jn, l.map Jn.tx = Jn.txs l
  | [] => rfl
  | j :: r => by simp only [List.map_cons, Jn.txs, txs_map r]
def spJx (K : PySem.W.Frag) (n : Nat) : Sp := fun vs H Q _ => ∃ (v : V) (j : Jn), vs = [v] ∧ Rp K H v j.py ∧ Fx j ∧ j.cnt ≤ n ∧ j.cnt ≤ 40 ∧ ∀ (H' : Hp), Same H H' → Q (.str j.tx) H'
abbrev s_joint_text : Stmt := top 34
theorem sc_joint_text : FnScope ["joint", "op", "told", "parts", "words", "word", "head", "part"] ["joint"] (defScope s_joint_text) := ⟨rfl, rfl, rfl, by decide +kernel, rfl, by decide +kernel, by decide +kernel⟩
theorem base_jx {l : Nat} (O : OwnF K mg "joint_text" s_joint_text) : HasF P w K mg base CX0 (l + 1) "joint_text" ["joint"] (spJx K 0) := by
  refine has0 O sc_joint_text (fun _ _ _ _ _ _ us hl => match us, hl with | [_], _ => rfl) (fun vs H Q E h => ?_) (fun f cdv A outer s_ H vs Q E hr h => ?_)
  · obtain ⟨v, j, rfl, _⟩ := h
    rfl
  obtain ⟨v, j, _, _, _, h1, _⟩ := h
  have := cnt_pos j
  omega
theorem step_jx {n l : Nat} (O : OwnF K mg "joint_text" s_joint_text) (B : Bl mg) (h_joint_text : HasF P w K mg base CX0 l "joint_text" ["joint"] (spJx K n)) : HasF P w K mg base CX0 (l + 1) "joint_text" ["joint"] (spJx K (n + 1)) := by
  refine has0 O sc_joint_text (fun _ _ _ _ _ _ us hl => match us, hl with | [_], _ => rfl) (fun vs H Q E h => ?_) (fun f cdv A outer s_ H vs Q E hr h => ?_)
  · obtain ⟨v, j, rfl, _⟩ := h
    rfl
  obtain ⟨v, j, rfl, r, gx, hn, h40, q⟩ := h
  obtain ⟨op, td, parts⟩ := j
  have hf : Fit (.mk op td parts) := gx.fit _ (all_self _)
  obtain ⟨h1, h2, h3, h4⟩ := told_ok hf.1
  have hw := op_word hf.1
  have hs8 := sum_le8 h1
  obtain ⟨pj, t, qa, tv, pws, rfl, hsj, hst, hRt, hsq, hRq⟩ := r.jn
  refine ⟨_, (pss_cons (ps_asg (pv 0) (pg_tupK (n := 3) K rfl (pgs_cons (pg_name (i := 1) sc_joint_text.nd rfl (by first | exact Or.inl rfl | exact Or.inr rfl)) (pgs_cons (pg_name (i := 2) sc_joint_text.nd rfl (by first | exact Or.inl rfl | exact Or.inr rfl)) (pgs_cons (pg_name (i := 3) sc_joint_text.nd rfl (by first | exact Or.inl rfl | exact Or.inr rfl)) pgs_nil))))) (pss_cons (ps_setLc (i := 4) (own := [("word", 5)]) (g := gName 5) (tt := tYes) rfl sc_joint_text.nd rfl rfl (sw_true rfl rfl rfl (by decide +kernel)) (pi_tupK K (pv 2)) (blkOk_by (own := [("word", 5)]) (N := ["joint", "op", "told", "parts", "words", "word", "head", "part"]) (sc := defScope s_joint_text) (by decide +kernel)) (fun _ _ _ _ _ => (pg_name (i := 5) sc_joint_text.nd rfl (by first | exact Or.inl rfl | exact Or.inr rfl))) (fun _ _ _ _ _ => pts_nil) (fun _ _ _ _ _ => (pe_callTy kStrU (by rfl) B.str (by decide +kernel) (pa_cons (pv 5) pa_nil)))) (pss_cons (ps_if (pt_cmpR (kEqG K (hU hr)) (pv 1) pe_str (nomark _)) (pss_one (ps_ret (pe_op (kAdd K) (pe_op (kAdd K) pe_str (pe_joinK K pe_str (pv 4))) pe_str))) pss_nil) (pss_cons (ps_set (i := 6) sc_joint_text.nd rfl (by first | exact Or.inl rfl | exact Or.inr rfl) (pe_joinK K pe_str (pe_op (kAdd K) (pe_lst (pa_cons (pv 1) pa_nil)) (pv 4)))) (pss_cons (ps_if (pt_not (pt_truthK K (pv 3) (by intro _; rfl))) (pss_one (ps_ret (pv 6))) pss_nil) (pss_one (ps_ret (pe_op (kAdd K) (pe_op (kAdd K) (pe_op (kAdd K) (pv 6) pe_str) (pe_joinK K pe_str (pe_lc (own := [("part", 7)]) (g := gName 7) (tt := tYes) rfl sc_joint_text.nd (pi_tupK K (pv 3)) (blkOk_by (own := [("part", 7)]) (N := ["joint", "op", "told", "parts", "words", "word", "head", "part"]) (sc := defScope s_joint_text) (by decide +kernel)) (fun _ _ _ _ _ => (pg_name (i := 7) sc_joint_text.nd rfl (by first | exact Or.inl rfl | exact Or.inr rfl))) (fun _ _ _ _ _ => pts_nil) (fun _ _ _ _ _ => (pe_callH h_joint_text (hr.mono (by first | decide | omega)) (by rfl) pass0 (pa_cons (pv 7) pa_nil)))))) pe_str)))))))), ?_⟩
  refine st0 [some (.ref pj), none, none, none, none, none, none, none] rfl ?_
  walk_at "go"
  intro D hD
  refine lc_tup (xs := tv) (fun i H' => H' D = some (.lst (((td.take i).map tdS).map V.str)) ∧ Same H H') ⟨upd_same, same_new hD _⟩ ?_ ?_ ?_
  · rintro i H' hi ⟨y1, y2⟩
    exact Ext.of_same y2 _ _ hst
  · rintro i x H' hx ⟨y1, y2⟩
    obtain ⟨d, e1, e2⟩ := hRt.getV hx
    have il := lt_of_get e1
    have hd := h1 d (List.mem_of_getElem? e1)
    walk_at "go"
    refine ⟨rfl, ?_⟩
    walk_at "go"
    have fin : ∀ z : Str, z = tdS d → ∃ acc, H' D = some (.lst acc) ∧ acc.length < sizeLine ∧ (upd H' D (.lst (acc ++ [.str z])) D = some (.lst (((td.take (i + 1)).map tdS).map V.str)) ∧ Same H (upd H' D (.lst (acc ++ [.str z])))) := fun z ez => by
      refine ⟨_, y1, ls (by rw [List.length_map, List.length_map, List.length_take]; omega), ?_, Same.upd_new y2 hD⟩
      rw [upd_same, List.take_add_one, e1, List.map_append, List.map_append, ez] <;> rfl
    rcases hd with ⟨n, rfl, hn⟩ | ⟨z, rfl, hz⟩
    · cases e2
      refine u_strI (log_ok hn) ?_
      exact fin _ rfl
    · cases e2
      refine u_strS ?_
      exact fin _ rfl
  rintro H1 ⟨y1, y2⟩
  have lt' : tv.length = td.length := hRt.length
  rw [lt', List.take_length] at y1
  have e3 : (Str.ofString " ").length = 1 := by decide +kernel
  have hjl := join_len (Str.ofString " ") (td.map tdS)
  rw [List.length_map, e3] at hjl
  walk_at "go"
  refine rd_split (fun c => ?_) (fun c => ?_)
  · walk_at "go"
    refine rd_m1 ?_
    walk_at "go"
    refine ⟨⟨_, rfl⟩, ?_⟩
    walk_at "go"
    refine u_joinL (SqL.of y1) (by rw [List.length_map, e3]; omega) ?_
    have a1 : (Str.ofString "[" ++ Txt.join (Str.ofString " ") (td.map tdS)).length ≤ 700 := by
      rw [tl_len', show (Str.ofString "[").length = 1 by decide +kernel]
      omega
    refine u_addS (ll (by rw [← tl_len']; omega)) ?_
    walk_at "go"
    refine u_addS (ll (by rw [show (Str.ofString "]").length = 1 by decide +kernel]; omega)) ?_
    have et : (Jn.mk op td parts).tx = Str.ofString "[" ++ Txt.join (Str.ofString " ") (td.map tdS) ++ Str.ofString "]" := by
      simp only [Jn.tx]
      rw [if_pos c]
    rw [et] at q
    exact q _ y2
  have h3 := h3 c
  walk_at "go"
  refine rd_m1 ?_
  walk_at "go"
  refine ⟨⟨_, rfl⟩, ?_⟩
  walk_at "go"
  refine ⟨lk rfl, fun L hL => ?_⟩
  walk_at "go"
  refine u_addL (xs := [V.str op]) (ys := (td.map tdS).map V.str) upd_same (same_new hL _ _ _ y1) ?_ fun L2 hL2 => ?_
  · rw [List.length_map, List.length_map]
    exact ll (by show 1 + td.length ≤ _; omega)
  have sD2 := Same.new (Same.new y2 (o := .lst [V.str op]) hL) (o := .lst ([V.str op] ++ (td.map tdS).map V.str)) hL2
  have eL2 : upd (upd H1 L (.lst [V.str op])) L2 (.lst ([V.str op] ++ (td.map tdS).map V.str)) L2 = some (.lst ((op :: td.map tdS).map V.str)) := by
    rw [upd_same] <;> rfl
  generalize upd (upd H1 L (.lst [V.str op])) L2 (.lst ([V.str op] ++ (td.map tdS).map V.str)) = H2 at *
  have hj2 := join_len (Str.ofString " ") (op :: td.map tdS)
  simp only [List.length_cons, List.length_map, List.map_cons, List.sum_cons] at hj2
  have hw2 := hw.2.1
  rw [e3] at hj2
  walk_at "go"
  refine u_joinL (ys := op :: td.map tdS) (SqL.of eL2) (by simp only [List.length_cons, List.length_map, List.map_cons, List.sum_cons]; rw [e3]; omega) ?_
  obtain ⟨hd, ehd⟩ : ∃ hd, hd = Txt.join (Str.ofString " ") (op :: td.map tdS) := ⟨_, rfl⟩
  rw [← ehd] at hj2 ⊢
  have hdl : hd.length ≤ 40 := by omega
  have lp : pws.length = parts.length := by rw [hRq.length, pys_length]
  have hsq2 := Ext.of_same (K := K) sD2 _ _ hsq
  walk_at "go"
  refine ⟨!pws.isEmpty, .inr (.inl ⟨pws, hsq2, rfl⟩), ?_⟩
  by_cases cp : parts.isEmpty = true
  · have ep : pws = [] := by
      cases parts with
      | nil => exact List.eq_nil_of_length_eq_zero lp
      | cons _ _ => cases cp
    have et : (Jn.mk op td parts).tx = hd := by
      simp only [Jn.tx]
      rw [if_neg c, if_pos cp, ehd]
    rw [ep]
    refine iteT ?_
    walk_at "go"
    rw [et] at q
    exact q _ sD2
  have ep : (!pws.isEmpty) = true := by
    cases pws with
    | nil =>
      cases parts with
      | nil => exact absurd rfl cp
      | cons _ _ => cases lp
    | cons _ _ => rfl
  rw [ep]
  refine iteF ?_
  walk_at "go"
  refine u_addS (ll (by rw [show (Str.ofString "(").length = 1 by decide +kernel]; omega)) ?_
  refine rd_m1 ?_
  walk_at "go"
  refine ⟨⟨_, rfl⟩, ?_⟩
  walk_at "go"
  intro D2 hD2
  have hcn : 1 + Jn.cnts parts ≤ n + 1 := by simpa only [Jn.cnt] using hn
  have hc40 : 1 + Jn.cnts parts ≤ 40 := by simpa only [Jn.cnt] using h40
  refine lc_tup (xs := pws) (fun i H' => H' D2 = some (.lst (((parts.take i).map Jn.tx).map V.str)) ∧ Same H2 H') ⟨upd_same, same_new hD2 _⟩ ?_ ?_ ?_
  · rintro i H' hi ⟨z1, z2⟩
    exact Ext.of_same z2 _ _ hsq2
  · rintro i x H' hx ⟨z1, z2⟩
    obtain ⟨jx, ex, rx⟩ := hRq.part hx
    have jm : jx ∈ parts := List.mem_of_getElem? ex
    have jc := cnts_mem jm
    have il := lt_of_get ex
    have gj : Fx jx := gx.sub (by simp only [Jn.all]; exact List.mem_cons_of_mem _ (part_alls jm))
    have pl : parts.length ≤ 40 := by rw [← lp]; have := len_cnts parts; omega
    walk_at "go"
    refine ⟨rfl, ?_⟩
    walk_at "go"
    refine ⟨x, jx, rfl, rx.mono (Ext.of_same (sD2.trans z2)) _ _, gj, by omega, by omega, fun H3 s3 => ?_⟩
    refine ⟨_, s3 _ _ z1, ls (by rw [List.length_map, List.length_map, List.length_take]; omega), ?_, Same.upd_new (z2.trans s3) hD2⟩
    rw [upd_same, List.take_add_one, ex, List.map_append, List.map_append] <;> rfl
  rintro H3 ⟨z1, z2⟩
  have etx : (parts.take pws.length).map Jn.tx = Jn.txs parts := by rw [lp, List.take_length, txs_map]
  rw [etx] at z1
  have hk := txs_len parts fun x hx => gx.fit x (by simp only [Jn.all]; exact List.mem_cons_of_mem _ hx)
  have e4 : (Str.ofString ", ").length = 2 := by decide +kernel
  have hjp := join_len (Str.ofString ", ") (Jn.txs parts)
  rw [e4, hk.2] at hjp
  walk_at "go"
  refine u_joinL (SqL.of z1) (by rw [e4, hk.2]; omega) ?_
  refine u_addS (ll (by rw [tl_len', show (Str.ofString "(").length = 1 by decide +kernel]; omega)) ?_
  walk_at "go"
  refine u_addS (ll (by rw [tl_len', tl_len', show (Str.ofString "(").length = 1 by decide +kernel, show (Str.ofString ")").length = 1 by decide +kernel]; omega)) ?_
  have et : (Jn.mk op td parts).tx = hd ++ Str.ofString "(" ++ Txt.join (Str.ofString ", ") (Jn.txs parts) ++ Str.ofString ")" := by
    simp only [Jn.tx]
    rw [if_neg c, if_neg cp, ehd]
  rw [et] at q
  exact q _ (sD2.trans z2)
theorem has_jx (O : OwnF K mg "joint_text" s_joint_text) (B : Bl mg) : ∀ n : Nat, HasF P w K mg base CX0 (1 + n) "joint_text" ["joint"] (spJx K n)
  | 0 => base_jx (l := 0) O
  | n + 1 => step_jx O B (has_jx O B n)
end

/-! ### S1 -/
section
variable {P : Program} {w : World} {K : PySem.W.Frag} {mg : Str → Option Value} {base : Heap}
/-- a thing that is refused by its form -/
def JBad (K : PySem.W.Frag) (e : Ecl) (v : V) (H : Hp) (E : XK) : Prop := ∃ (d : PyData) (f : Flt) (n : Int), Rp K H v d ∧ dat d ∧ walk 42 [d] 0 = some (f, n) ∧ Raised E H (e.of f) n
theorem JBad.mono {K : PySem.W.Frag} {e : Ecl} {v : V} {H H' : Hp} {E : XK} (h : JBad K e v H E) (s : Same H H') : JBad K e v H' E := by
  obtain ⟨d, f, n, h1, h2, h3, h4⟩ := h
  exact ⟨d, f, n, h1.mono (Ext.of_same s) _ _, h2, h3, h4.mono s⟩
def spTt (K : PySem.W.Frag) (e : Ecl) : Sp := fun vs H Q E => ∃ (v : V), vs = [v] ∧ ((∃ j : Jn, Rp K H v j.py ∧ Fx j ∧ j.cnt ≤ 40 ∧ ∀ (H' : Hp), Same H H' → Q (.str j.tx) H') ∨ JBad K e v H E)
abbrev s_told_text : Stmt := top 35
theorem sc_told_text : FnScope ["program"] ["program"] (defScope s_told_text) := ⟨rfl, rfl, rfl, by decide +kernel, rfl, by decide +kernel, by decide +kernel⟩
theorem has_told_text {c : Ecl} (O : OwnF K mg "told_text" s_told_text) (h_made_program : HasF P w K mg base (L2.CX P w) 8 "made_program" ["thing"] (spMade K c)) (h_joint_text : HasF P w K mg base CX0 41 "joint_text" ["joint"] (spJx K 40)) : HasK P w K mg base (L2.CX P w) 42 "told_text" "program" (spTt K c) := by
  refine hasXK O sc_told_text (fun _ _ _ _ _ _ us hl => match us, hl with | [_], _ => rfl) (fun _ _ _ _ _ _ _ => rfl) (fun vs H Q E h => ?_) (fun f cdv A outer s_ H vs Q E hr h => ?_)
  · obtain ⟨v, rfl, _⟩ := h
    rfl
  obtain ⟨v, rfl, h⟩ := h
  refine ⟨_, (pss_one (ps_ret (pe_callH h_joint_text (hr.mono (by first | decide | omega)) (by rfl) pass0 (pa_cons (pe_callHS h_made_program (hr.mono (by first | decide | omega)) (by rfl) (fun σ => passAt tkX σ) (pa_cons (pv 0) pa_nil)) pa_nil)))), ?_⟩
  refine st0 [some v] rfl ?_
  walk_at "go"
  rcases h with ⟨j, r, gx, h40, q⟩ | ⟨d, f0, n0, r, hd, hw, hE⟩
  rotate_left
  · refine use_made r hd (fun f' n ef => ?_) (fun ef => ?_)
    · rw [hw] at ef
      cases ef
      exact hE
    · rw [hw] at ef
      cases ef
  refine use_made r (Jn.dat j gx.ok) (fun f' n ef => ?_) (fun _ H1 s1 => ?_)
  · rw [gx.walk h40] at ef; cases ef
  walk_at "go"
  exact ⟨v, j, rfl, r.mono (Ext.of_same s1) _ _, gx, h40, h40, fun H2 s2 => q _ (s1.trans s2)⟩
end

/-! ### S2 -/
section
variable {P : Program} {w : World} {K : PySem.W.Frag} {mg : Str → Option Value} {base : Heap}
def Digits : Str := Str.ofString "0123456789"
structure Cst2 (mg : Str → Option Value) : Prop where
  DIGITS : ∃ t, mg "DIGITS" = some (.str Digits t)
  LONGEST_NUMBER : ∃ t, mg "LONGEST_NUMBER" = some (.int 7 t)
  LONGEST_TEXT : ∃ t, mg "LONGEST_TEXT" = some (.int 24000 t)
theorem dig_mem {c : Nat} : c ∈ Digits.cps.toList ↔ digC c := by
  have h1 : ∀ y ∈ Digits.cps.toList, 48 ≤ y ∧ y ≤ 57 := by decide +kernel
  have h2 : ∀ k : Nat, k < 10 → (48 + k) ∈ Digits.cps.toList := by decide +kernel
  refine ⟨fun h => h1 c h, fun h => ?_⟩
  have := h2 (c - 48) (by have := h.2; have := h.1; omega)
  rw [show 48 + (c - 48) = c by have := h.1; omega] at this
  exact this
instance : DecidablePred letC := fun c => by unfold letC; infer_instance
instance : DecidablePred digC := fun c => by unfold digC; infer_instance
/-- the kind of a sign -/
def kdC (c : Nat) : Str := if letC c then kW else if digC c then kN else ⟨#[c]⟩
def spKo : Sp := fun vs H Q _ => ∃ (c : Nat), vs = [.str ⟨#[c]⟩] ∧ Q (.str (kdC c)) H
abbrev s_kind_of : Stmt := top 41
theorem sc_kind_of : FnScope ["sign"] ["sign"] (defScope s_kind_of) := ⟨rfl, rfl, rfl, by decide +kernel, rfl, by decide +kernel, by decide +kernel⟩
theorem has_kind_of (O : OwnF K mg "kind_of" s_kind_of) (C : Cst mg) (C2 : Cst2 mg) : HasF P w K mg base CX0 1 "kind_of" ["sign"] spKo := by
  refine has0 O sc_kind_of (fun _ _ _ _ _ _ us hl => match us, hl with | [_], _ => rfl) (fun vs H Q E h => ?_) (fun f cdv A outer s_ H vs Q E hr h => ?_)
  · obtain ⟨c, rfl, _⟩ := h
    rfl
  obtain ⟨c, rfl, q⟩ := h
  refine ⟨_, (pss_cons (ps_if (pt_cmpR (kIn K) (pv 0) (pe_globS C.LETTERS (by rfl)) (by rfl)) (pss_one (ps_ret pe_str)) pss_nil) (pss_cons (ps_if (pt_cmpR (kIn K) (pv 0) (pe_globS C2.DIGITS (by rfl)) (by rfl)) (pss_one (ps_ret pe_str)) pss_nil) (pss_one (ps_ret (pv 0))))), ?_⟩
  refine st0 [some (.str ⟨#[c]⟩)] rfl ?_
  walk_at "go"
  refine rd_split (fun c1 => ?_) (fun c1 => ?_)
  · walk_at "go"
    have e : kdC c = Str.ofString "word" := by
      unfold kdC
      rw [if_pos (let_mem.mp c1)] <;> rfl
    rw [e] at q
    exact q
  walk_at "go"
  refine rd_split (fun c2 => ?_) (fun c2 => ?_)
  · walk_at "go"
    have e : kdC c = Str.ofString "number" := by
      unfold kdC
      rw [if_neg (fun h => c1 (let_mem.mpr h)), if_pos (dig_mem.mp c2)] <;> rfl
    rw [e] at q
    exact q
  walk_at "go"
  have e : kdC c = ⟨#[c]⟩ := by
    unfold kdC
    rw [if_neg (fun h => c1 (let_mem.mpr h)), if_neg (fun h => c2 (dig_mem.mpr h))]
  rw [e] at q
  exact q
theorem blank_mem {c : Nat} : c ∈ (Str.ofString " \n").cps.toList ↔ (c = 32 ∨ c = 10) := by
  have e : (Str.ofString " \n").cps.toList = [32, 10] := by decide +kernel
  rw [e]
  simp
theorem drop_at {l : List Nat} {a c : Nat} {r : List Nat} (h : l.drop a = c :: r) : l[a]? = some c ∧ a < l.length ∧ l.drop (a + 1) = r := by
  have h1 : a < l.length := by
    refine Nat.lt_of_not_le fun h1 => ?_
    rw [List.drop_eq_nil_of_le h1] at h
    cases h
  rw [List.drop_eq_getElem_cons h1] at h
  have e1 : l[a] = c := (List.cons.inj h).1
  exact ⟨by rw [List.getElem?_eq_getElem h1, e1], h1, (List.cons.inj h).2⟩
theorem drop_end {l : List Nat} {a : Nat} (h : l.drop a = []) : l.length ≤ a := by
  have := congrArg List.length h
  rw [List.length_drop] at this
  have h0 : ([] : List Nat).length = 0 := rfl
  omega
def spGe : Sp := fun vs H Q _ => ∃ (z : Str) (a : Nat) (g r : List Nat), vs = [.str z, .int a] ∧ z.length ≤ 100000 ∧ a ≤ z.length ∧ z.cps.toList.drop a = g ++ r ∧ Blank g ∧ (∀ c, r.head? = some c → ¬ (c = 32 ∨ c = 10)) ∧ Q (.int ((a + g.length : Nat) : Int)) H
abbrev s_gap_end : Stmt := top 42
theorem sc_gap_end : FnScope ["text", "at"] ["text", "at"] (defScope s_gap_end) := ⟨rfl, rfl, rfl, by decide +kernel, rfl, by decide +kernel, by decide +kernel⟩
theorem has_gap_end (O : OwnF K mg "gap_end" s_gap_end) (B : Bl mg) : HasF P w K mg base CX0 1 "gap_end" ["text", "at"] spGe := by
  refine has0 O sc_gap_end (fun _ _ _ _ _ _ us hl => match us, hl with | [_, _], _ => rfl) (fun vs H Q E h => ?_) (fun f cdv A outer s_ H vs Q E hr h => ?_)
  · obtain ⟨z, a, g, r, rfl, _⟩ := h
    rfl
  obtain ⟨z, a, g, r, rfl, hz, ha, hd, hg, hr, q⟩ := h
  have hl : z.length = z.cps.toList.length := TL.len_tl z
  refine ⟨_, (pss_cons (ps_while PassesOwn.never (PW.pt (pw_and (pt_cmpR ltU (pv 1) (pe_callB (kLen K) (by rfl) B.len (by decide +kernel) (pa_cons (pv 0) pa_nil)) (nomark _)) (pw_and1 (pt_cmpR (kIn K) (pe_ix (kIx K) (pv 0) (pv 1) (fun _ _ => rfl)) pe_str (by rfl))))) (pss_one (ps_aug (i := 1) sc_gap_end.nd rfl (by first | exact Or.inl rfl | exact Or.inr rfl) pe_int ip_add))) (pss_one (ps_ret (pv 1)))), ?_⟩
  refine st0 [some (.str z), some (.int a)] rfl ?_
  walk_at "go"
  refine rd_while (fun m σ H' => ∃ (g' : List Nat) (a' : Nat), σ = [some (.str z), some (.int (a' : Int))] ∧ H' = H ∧ m = g'.length ∧ z.cps.toList.drop a' = g' ++ r ∧ Blank g' ∧ a' + g'.length = a + g.length) g.length ⟨g, a, rfl, rfl, rfl, hd, hg, rfl⟩ ?_
  rintro m σ H' ⟨g', a', rfl, rfl, rfl, hd', hg', ea⟩
  walk_at "go"
  refine u_lenS (ll (by omega)) ?_
  rw [hl]
  walk_at "go"
  cases g' with
  | nil =>
    have ea : a' = a + g.length := ea
    have fin : Q (.int (a' : Int)) H' := by
      rw [ea]
      exact q
    cases r with
    | nil =>
      have := drop_end hd'
      rw [decide_eq_false (by omega)]
      refine iteF ?_
      walk_at "go"
      exact fin
    | cons c r' =>
      obtain ⟨e1, e2, e3⟩ := drop_at hd'
      rw [decide_eq_true (by omega)]
      refine iteT ?_
      walk_at "go"
      refine u_ixS (ll (by omega)) (atI_nat e1) ?_
      walk_at "go"
      rw [decide_eq_false (fun h => hr c rfl (blank_mem.mp h))]
      refine iteF ?_
      walk_at "go"
      exact fin
  | cons c g'' =>
    obtain ⟨e1, e2, e3⟩ := drop_at hd'
    rw [decide_eq_true (by omega)]
    refine iteT ?_
    walk_at "go"
    refine u_ixS (ll (by omega)) (atI_nat e1) ?_
    walk_at "go"
    rw [decide_eq_true (blank_mem.mpr (hg' c List.mem_cons_self))]
    refine iteT ⟨fun σ' H2 => ∃ m', m' < (c :: g'').length ∧ _, fun _ _ h => h, ?_⟩
    walk_at "go"
    rw [List.length_cons] at ea
    exact ⟨g''.length, by simp, g'', a' + 1, rfl, rfl, rfl, e3, fun x hx => hg' x (List.mem_cons_of_mem _ hx), by omega⟩
def spRe : Sp := fun vs H Q _ => ∃ (z s : Str) (a : Nat) (most : Nat) (g r : List Nat), vs = [.str z, .int a, .str s, .int most] ∧ z.length ≤ 100000 ∧ a ≤ z.length ∧ z.cps.toList.drop a = g ++ r ∧ (∀ c ∈ g, c ∈ s.cps.toList) ∧ g.length ≤ most ∧ (g.length < most → ∀ c, r.head? = some c → c ∉ s.cps.toList) ∧ Q (.int ((a + g.length : Nat) : Int)) H
abbrev s_run_end : Stmt := top 43
theorem sc_run_end : FnScope ["text", "at", "signs", "most", "end"] ["text", "at", "signs", "most"] (defScope s_run_end) := ⟨rfl, rfl, rfl, by decide +kernel, rfl, by decide +kernel, by decide +kernel⟩
theorem has_run_end (O : OwnF K mg "run_end" s_run_end) (B : Bl mg) : HasF P w K mg base CX0 1 "run_end" ["text", "at", "signs", "most"] spRe := by
  refine has0 O sc_run_end (fun _ _ _ _ _ _ us hl => match us, hl with | [_, _, _, _], _ => rfl) (fun vs H Q E h => ?_) (fun f cdv A outer s_ H vs Q E hr h => ?_)
  · obtain ⟨z, s, a, most, g, r, rfl, _⟩ := h
    rfl
  obtain ⟨z, s, a, most, g, r, rfl, hz, ha, hd, hg, hm, hr, q⟩ := h
  have hl : z.length = z.cps.toList.length := TL.len_tl z
  refine ⟨_, (pss_cons (ps_set (i := 4) sc_run_end.nd rfl (by first | exact Or.inl rfl | exact Or.inr rfl) (pv 1)) (pss_cons (ps_while PassesOwn.never (PW.pt (pw_and (pt_cmpR ltU (pv 4) (pe_callB (kLen K) (by rfl) B.len (by decide +kernel) (pa_cons (pv 0) pa_nil)) (nomark _)) (pw_and (pt_cmpR ltU (pe_op subU (pv 4) (pv 1)) (pv 3) (nomark _)) (pw_and1 (pt_cmpR (kIn K) (pe_ix (kIx K) (pv 0) (pv 4) (fun _ _ => rfl)) (pv 2) (by rfl)))))) (pss_one (ps_aug (i := 4) sc_run_end.nd rfl (by first | exact Or.inl rfl | exact Or.inr rfl) pe_int ip_add))) (pss_one (ps_ret (pv 4))))), ?_⟩
  refine st0 [some (.str z), some (.int a), some (.str s), some (.int most), none] rfl ?_
  walk_at "go"
  refine rd_while (fun m σ H' => ∃ (g' : List Nat) (a' : Nat), σ = [some (.str z), some (.int a), some (.str s), some (.int most), some (.int (a' : Int))] ∧ H' = H ∧ m = g'.length ∧ z.cps.toList.drop a' = g' ++ r ∧ (∀ c ∈ g', c ∈ s.cps.toList) ∧ a' + g'.length = a + g.length ∧ a ≤ a') g.length ⟨g, a, rfl, rfl, rfl, hd, hg, rfl, Nat.le_refl _⟩ ?_
  rintro m σ H' ⟨g', a', rfl, rfl, rfl, hd', hg', ea, la⟩
  walk_at "go"
  refine u_lenS (ll (by omega)) ?_
  rw [hl]
  walk_at "go"
  cases g' with
  | nil =>
    have ea : a' = a + g.length := ea
    have fin : Q (.int (a' : Int)) H' := by
      rw [ea]
      exact q
    cases r with
    | nil =>
      have := drop_end hd'
      rw [decide_eq_false (by omega)]
      refine iteF ?_
      walk_at "go"
      exact fin
    | cons c r' =>
      obtain ⟨e1, e2, e3⟩ := drop_at hd'
      rw [decide_eq_true (by omega)]
      refine iteT ?_
      walk_at "go"
      by_cases cm : g.length < most
      · rw [decide_eq_true (by omega)]
        refine iteT ?_
        walk_at "go"
        refine u_ixS (ll (by omega)) (atI_nat e1) ?_
        walk_at "go"
        rw [decide_eq_false (hr cm c rfl)]
        refine iteF ?_
        walk_at "go"
        exact fin
      · rw [decide_eq_false (by omega)]
        refine iteF ?_
        walk_at "go"
        exact fin
  | cons c g'' =>
    obtain ⟨e1, e2, e3⟩ := drop_at hd'
    rw [List.length_cons] at ea
    rw [decide_eq_true (by omega)]
    refine iteT ?_
    walk_at "go"
    rw [decide_eq_true (by omega)]
    refine iteT ?_
    walk_at "go"
    refine u_ixS (ll (by omega)) (atI_nat e1) ?_
    walk_at "go"
    rw [decide_eq_true (hg' c List.mem_cons_self)]
    refine iteT ⟨fun σ' H2 => ∃ m', m' < (c :: g'').length ∧ _, fun _ _ h => h, ?_⟩
    walk_at "go"
    exact ⟨g''.length, by simp, g'', a' + 1, rfl, rfl, rfl, e3, fun x hx => hg' x (List.mem_cons_of_mem _ hx), by omega, by omega⟩
end

/-! ### S3 -/
section
variable {P : Program} {w : World} {K : PySem.W.Frag} {mg : Str → Option Value} {base : Heap}
theorem one_ne {c : Nat} {z : Str} (h : z.length ≠ 1) : ¬ (⟨#[c]⟩ : Str) = z := fun e => h (by rw [← e] <;> rfl)
theorem kW_len : kW.length ≠ 1 := by decide +kernel
theorem kN_len : kN.length ≠ 1 := by decide +kernel
theorem numL_head : ∀ (n : Nat), 0 < n → ∃ c r, TL.numL n = c :: r ∧ c ≠ 48 := by
  intro n
  induction n using Nat.strongRecOn with
  | _ n ih =>
    intro h
    by_cases c : n < 10
    · exact ⟨48 + n, [], TL.numL_lt c, by omega⟩
    · obtain ⟨d, r, e, hd⟩ := ih (n / 10) (by omega) (by omega)
      exact ⟨d, r ++ [48 + n % 10], by rw [TL.numL_step (by omega), e] <;> rfl, hd⟩
theorem tk_kinds {t : Tk} (ho : t.ok) : (t.kind = kW ∧ t.run = true ∧ (∀ c ∈ t.cs, letC c) ∧ t.cs.length ≤ 8) ∨ (t.kind ≠ kW ∧ t.kind = kN ∧ t.run = true ∧ ∃ n, t.cs = TL.numL n ∧ n < 10 ^ 7) ∨ (t.kind ≠ kW ∧ t.kind ≠ kN ∧ t.cs.length = 1) := by
  cases t with
  | wd y => exact .inl ⟨rfl, rfl, ho.2.2, by have := ho.2.1; rw [TL.len_tl] at this; exact this⟩
  | num n => exact .inr (.inl ⟨(by decide +kernel : ¬ kN = kW), rfl, rfl, n, rfl, ho⟩)
  | sg c => exact .inr (.inr ⟨one_ne kW_len, one_ne kN_len, rfl⟩)
def spTe : Sp := fun vs H Q _ => ∃ (z : Str) (a : Nat) (t : Tk) (r : List Nat), vs = [.str z, .int a, .str t.kind] ∧ z.length ≤ 100000 ∧ t.ok ∧ z.cps.toList.drop a = t.cs ++ r ∧ (t.run = true → Free r) ∧ ∀ H', Same H H' → Q (.int ((a + t.cs.length : Nat) : Int)) H'
theorem shareJ {P : Int → Prop} {G : Int → Prop} {T : Prop} (main : ∀ z, P z → G z) (h : (∀ z, P z → G z) → T) : T := h main
abbrev s_token_end : Stmt := top 44
theorem sc_token_end : FnScope ["text", "at", "kind", "end"] ["text", "at", "kind"] (defScope s_token_end) := ⟨rfl, rfl, rfl, by decide +kernel, rfl, by decide +kernel, by decide +kernel⟩
theorem has_token_end {fI cT : Addr} (O : OwnF K mg "token_end" s_token_end) (B : Bl mg) (C : Cst mg) (C2 : Cst2 mg) (hI : InitF P w K mg base fI) (M_BadText : ErrC K mg fI "BadText" cT) (h_kind_of : HasF P w K mg base CX0 1 "kind_of" ["sign"] spKo) (h_run_end : HasF P w K mg base CX0 1 "run_end" ["text", "at", "signs", "most"] spRe) : HasF P w K mg base (L2.CX P w) 3 "token_end" ["text", "at", "kind"] spTe := by
  refine hasX O sc_token_end (fun _ _ _ _ _ _ us hl => match us, hl with | [_, _, _], _ => rfl) (fun vs H Q E h => ?_) (fun f cdv A outer s_ H vs Q E hr h => ?_)
  · obtain ⟨z, a, t, r, rfl, _⟩ := h
    rfl
  obtain ⟨z, a, t, r, rfl, hz, ho, hd, hf, q⟩ := h
  have hl : z.length = z.cps.toList.length := TL.len_tl z
  refine ⟨_, (pss_cons (ps_if (pt_cmpR (kEqG K (hU hr)) (pv 2) pe_str (nomark _)) (pss_one (ps_set (i := 3) sc_token_end.nd rfl (by first | exact Or.inl rfl | exact Or.inr rfl) (pe_callH h_run_end (hr.mono (by first | decide | omega)) (by rfl) pass0 (pa_cons (pv 0) (pa_cons (pv 1) (pa_cons (pe_globS C.LETTERS (by rfl)) (pa_cons (pe_globI C.LONGEST_WORD (by rfl)) pa_nil))))))) (pss_one (ps_if (pt_cmpR (kEqG K (hU hr)) (pv 2) pe_str (nomark _)) (pss_one (ps_set (i := 3) sc_token_end.nd rfl (by first | exact Or.inl rfl | exact Or.inr rfl) (pe_callH h_run_end (hr.mono (by first | decide | omega)) (by rfl) pass0 (pa_cons (pv 0) (pa_cons (pv 1) (pa_cons (pe_globS C2.DIGITS (by rfl)) (pa_cons (pe_ifExp (pt_cmpR (kEqG K (hU hr)) (pe_ix (kIx K) (pv 0) (pv 1) (fun _ _ => rfl)) pe_str (nomark _)) pe_int (pe_globI C2.LONGEST_NUMBER (by rfl))) pa_nil))))))) (pss_one (ps_ret (pe_op (kAdd K) (pv 1) pe_int)))))) (pss_cons (ps_if (PW.pt (pw_and (pt_cmpR ltU (pv 3) (pe_callB (kLen K) (by rfl) B.len (by decide +kernel) (pa_cons (pv 0) pa_nil)) (nomark _)) (pw_and1 (pt_cmpR (kIn K) (pe_callH h_kind_of (hr.mono (by first | decide | omega)) (by rfl) pass0 (pa_cons (pe_ix (kIx K) (pv 0) (pv 3) (fun _ _ => rfl)) pa_nil)) (pe_tup (pa_cons pe_str (pa_cons pe_str pa_nil))) (by rfl))))) (pss_one (ps_raiseE K hI M_BadText rfl (hr.mono (by decide)) tkX (pv 3) (by rfl))) pss_nil) (pss_one (ps_ret (pv 3))))), ?_⟩
  refine st0 [some (.str z), some (.int a), some (.str t.kind), none] rfl ?_
  have la : a + t.cs.length + r.length = z.length := by
    have h1 := congrArg List.length hd
    rw [List.length_drop, List.length_append] at h1
    have h2 := Tk.ne ho
    have h3 : 0 < t.cs.length := List.length_pos_iff.mpr h2
    omega
  walk_at "go"
  apply shareJ (P := fun e => t.run = true ∧ e = ((a + t.cs.length : Nat) : Int))
  case h =>
    intro key
    have hk := tk_kinds ho
    rcases hk with ⟨k1, k2, k3, k4⟩ | ⟨k0, k1, k2, n, k3, k4⟩ | ⟨k0, k1, k2⟩
    · rw [decide_eq_true (show t.kind = Str.ofString "word" from k1)]
      refine iteT ?_
      walk_at "go"
      refine ⟨z, Letters, a, 8, t.cs, r, rfl, hz, by omega, hd, fun c hc => let_mem.mpr (k3 c hc), k4, fun _ c hc => fun hm => (hf k2 c hc).1 (let_mem.mp hm), ?_⟩
      obtain ⟨e, ee⟩ : ∃ e : Int, e = ((a + t.cs.length : Nat) : Int) := ⟨_, rfl⟩
      rw [← ee]
      walk_at "go"
      exact key e ⟨k2, ee⟩
    · rw [decide_eq_false (show ¬ t.kind = Str.ofString "word" from k0)]
      refine iteF ?_
      walk_at "go"
      rw [decide_eq_true (show t.kind = Str.ofString "number" from k1)]
      refine iteT ?_
      walk_at "go"
      have la2 : a < z.cps.toList.length := by
        have h2 := Tk.ne ho
        have h3 : 0 < t.cs.length := List.length_pos_iff.mpr h2
        omega
      obtain ⟨c0, rr, ec⟩ : ∃ c0 rr, t.cs = c0 :: rr := by
        cases h : t.cs with
        | nil => exact absurd h (Tk.ne ho)
        | cons x y => exact ⟨x, y, rfl⟩
      have e0 : z.cps.toList[a]? = some c0 := (drop_at (r := rr ++ r) (by rw [hd, ec] <;> rfl)).1
      have nl := num_len k4
      have dg : ∀ c ∈ t.cs, c ∈ Digits.cps.toList := fun c hc => dig_mem.mpr (num_digits c (by rw [← k3]; exact hc))
      refine u_ixS (ll (by omega)) (atI_nat e0) ?_
      walk_at "go"
      by_cases n0 : n = 0
      · have ecs : t.cs = [48] := by rw [k3, n0] <;> decide +kernel
        have c48 : c0 = 48 := by
          rw [ecs] at ec
          exact (List.cons.inj ec).1.symm
        rw [decide_eq_true (by rw [c48] <;> decide +kernel)]
        refine iteT ?_
        walk_at "go"
        refine ⟨z, Digits, a, 1, t.cs, r, rfl, hz, by omega, hd, dg, by rw [ecs] <;> decide, fun hh => absurd hh (by rw [ecs] <;> decide), ?_⟩
        obtain ⟨e, ee⟩ : ∃ e : Int, e = ((a + t.cs.length : Nat) : Int) := ⟨_, rfl⟩
        rw [← ee]
        walk_at "go"
        exact key e ⟨k2, ee⟩
      · obtain ⟨d, r2, ed, nd⟩ := numL_head n (by omega)
        have c48 : c0 = d := by
          rw [k3, ed] at ec
          exact (List.cons.inj ec).1.symm
        have hne : ¬ (⟨#[c0]⟩ : Str) = Str.ofString "0" := fun h => by
          have h1 := congrArg (fun s : Str => s.cps.toList) h
          have h2 : (Str.ofString "0").cps.toList = [48] := by decide +kernel
          have h1 : [c0] = (Str.ofString "0").cps.toList := h1
          rw [h2] at h1
          exact nd (by rw [← c48]; exact (List.cons.inj h1).1)
        rw [decide_eq_false hne]
        refine iteF ?_
        walk_at "go"
        refine ⟨z, Digits, a, 7, t.cs, r, rfl, hz, by omega, hd, dg, by rw [k3]; exact nl, fun _ c hc => fun hm => (hf k2 c hc).2 (dig_mem.mp hm), ?_⟩
        obtain ⟨e, ee⟩ : ∃ e : Int, e = ((a + t.cs.length : Nat) : Int) := ⟨_, rfl⟩
        rw [← ee]
        walk_at "go"
        exact key e ⟨k2, ee⟩
    · rw [decide_eq_false (show ¬ t.kind = Str.ofString "word" from k0)]
      refine iteF ?_
      walk_at "go"
      rw [decide_eq_false (show ¬ t.kind = Str.ofString "number" from k1)]
      refine iteF ?_
      walk_at "go"
      have := q H (Same.refl H)
      rw [k2] at this
      exact this
  case main =>
  rintro e ⟨hrun, rfl⟩
  have hF := hf hrun
  refine u_lenS (ll (by omega)) ?_
  walk_at "go"
  have hde : z.cps.toList.drop (a + t.cs.length) = r := by
    rw [← List.drop_drop, hd, List.drop_left]
  cases r with
  | nil =>
    have l0 : ([] : List Nat).length = 0 := rfl
    rw [decide_eq_false (by omega)]
    refine iteF ?_
    walk_at "go"
    exact q H (Same.refl H)
  | cons c r' =>
    obtain ⟨e1, e2, e3⟩ := drop_at hde
    have hc := hF c rfl
    have ek : kdC c = ⟨#[c]⟩ := by
      unfold kdC
      rw [if_neg hc.1, if_neg hc.2]
    rw [decide_eq_true (by omega)]
    refine iteT ?_
    walk_at "go"
    refine u_ixS (ll (by omega)) (atI_nat e1) ?_
    walk_at "go"
    refine ⟨c, rfl, ?_⟩
    rw [ek]
    walk_at "go"
    refine ⟨lk rfl, fun p hp => ?_⟩
    walk_at "go"
    refine u_inT (xs := [kW, kN].map V.str) (SqT.of upd_same) rfl rfl ?_
    rw [inV_str, decide_eq_false (fun h => by
      simp only [List.mem_cons, List.not_mem_nil, or_false] at h
      exact h.elim (one_ne kW_len) (one_ne kN_len))]
    walk_at "go"
    exact q _ (same_new hp _)
end

/-! ### S4 -/
section
variable {P : Program} {w : World} {K : PySem.W.Frag} {mg : Str → Option Value} {base : Heap}
structure NextTab (w : World) (K : PySem.W.Frag) (mg : Str → Option Value) (a : Addr) (g : Str → Option Value) : Prop where
  tab : Tab w K mg "NEXT" a g
  yes : ∀ st l, look nextT st = some l → ∃ b, g st = some (.ref b) ∧ ∀ H, SqT K H b (l.map V.str)
structure BehTab (w : World) (K : PySem.W.Frag) (mg : Str → Option Value) (a : Addr) (g : Str → Option Value) : Prop where
  tab : Tab w K mg "BEHIND" a g
  yes : ∀ k s, look behT k = some s → ∃ u, g k = some u ∧ RelV (.str s) u
theorem flat_strs' (l : List Str) : (l.map V.str).all flatV = true := by
  rw [List.all_map, List.all_eq_true]
  exact fun z _ => rfl
def spMy : Sp := fun vs H Q _ => ∃ (k st : Str) (d : Nat) (l : List Str), vs = [.str k, .str st, .int d] ∧ look nextT st = some l ∧ ∀ H', Same H H' → Q (.bl (mayS k st d)) H'
abbrev s_may_stand : Stmt := top 45
theorem sc_may_stand : FnScope ["kind", "state", "depth"] ["kind", "state", "depth"] (defScope s_may_stand) := ⟨rfl, rfl, rfl, by decide +kernel, rfl, by decide +kernel, by decide +kernel⟩
theorem has_may_stand {aN : Addr} {gN : Str → Option Value} (O : OwnF K mg "may_stand" s_may_stand) (TN : NextTab w K mg aN gN) : HasF P w K mg base CX0 1 "may_stand" ["kind", "state", "depth"] spMy := by
  refine has0 O sc_may_stand (fun _ _ _ _ _ _ us hl => match us, hl with | [_, _, _], _ => rfl) (fun vs H Q E h => ?_) (fun f cdv A outer s_ H vs Q E hr h => ?_)
  · obtain ⟨k, st, d, l, rfl, _⟩ := h
    rfl
  obtain ⟨k, st, d, l, rfl, hl, q⟩ := h
  have T_NEXT := TN.tab
  obtain ⟨b, eb, hb⟩ := TN.yes st l hl
  refine ⟨_, (pss_cons (ps_if (PW.pt (pw_and (pt_cmpR (kIn K) (pv 0) (pe_tup (pa_cons pe_str (pa_cons pe_str pa_nil))) (by rfl)) (pw_and1 (pt_cmpR (kEqG K (hU hr)) (pv 2) pe_int (nomark _))))) (pss_one (ps_ret pe_bl)) pss_nil) (pss_one (ps_ret (pe_cmpR (kIn K) (pv 0) (pe_ix (ix_tab T_NEXT) (pe_globR T_NEXT.m (by rfl)) (pv 1) (fun _ _ => rfl)) (by rfl))))), ?_⟩
  refine st0 [some (.str k), some (.str st), some (.int d)] rfl ?_
  walk_at "go"
  refine ⟨lk rfl, fun p hp => ?_⟩
  have sp := same_new hp (.tup [V.str (Str.ofString ","), .str (Str.ofString ")")])
  have e0 : upd H p (.tup [V.str (Str.ofString ","), .str (Str.ofString ")")]) p = some (.tup ([kK, kC].map V.str)) := upd_same
  generalize upd H p (.tup [V.str (Str.ofString ","), .str (Str.ofString ")")]) = H1 at *
  have q1 := q H1 sp
  have nl : nextS st = l := by
    unfold nextS
    rw [hl] <;> rfl
  walk_at "go"
  refine u_inT (xs := [kK, kC].map V.str) (SqT.of e0) rfl rfl ?_
  rw [inV_str]
  walk_at "go"
  have mem2 : k ∈ [kK, kC] ↔ (k = kK ∨ k = kC) := by simp
  by_cases c : k ∈ [kK, kC]
  · rw [decide_eq_true c]
    refine iteT ?_
    walk_at "go"
    by_cases d0 : d = 0
    · rw [decide_eq_true (by omega)]
      refine iteT ?_
      walk_at "go"
      have e : mayS k st d = false := by
        unfold mayS
        rw [if_pos ⟨mem2.mp c, d0⟩]
      rw [e] at q1
      exact q1
    · rw [decide_eq_false (by omega)]
      refine iteF ?_
      walk_at "go"
      refine u_ixTab eb (show RelV (.ref b) (.ref b) from rfl) ?_
      refine u_inT (hb H1) rfl (flat_strs' l) ?_
      rw [inV_str]
      have e : mayS k st d = decide (k ∈ l) := by
        unfold mayS
        rw [if_neg (fun y => d0 y.2), nl]
      rw [e] at q1
      exact q1
  · rw [decide_eq_false c]
    refine iteF ?_
    walk_at "go"
    refine u_ixTab eb (show RelV (.ref b) (.ref b) from rfl) ?_
    refine u_inT (hb H1) rfl (flat_strs' l) ?_
    rw [inV_str]
    have e : mayS k st d = decide (k ∈ l) := by
      unfold mayS
      rw [if_neg (fun y => c (mem2.mpr y.1)), nl]
    rw [e] at q1
    exact q1
def spSb : Sp := fun vs H Q _ => ∃ (k st : Str), vs = [.str k, .str st] ∧ (k = kW ∨ k = kN ∨ ∃ s, look behT k = some s) ∧ Q (.str (stB k st)) H
abbrev s_state_behind : Stmt := top 46
theorem sc_state_behind : FnScope ["kind", "state"] ["kind", "state"] (defScope s_state_behind) := ⟨rfl, rfl, rfl, by decide +kernel, rfl, by decide +kernel, by decide +kernel⟩
theorem has_state_behind {aB : Addr} {gB : Str → Option Value} (O : OwnF K mg "state_behind" s_state_behind) (TB : BehTab w K mg aB gB) : HasF P w K mg base CX0 1 "state_behind" ["kind", "state"] spSb := by
  refine has0 O sc_state_behind (fun _ _ _ _ _ _ us hl => match us, hl with | [_, _], _ => rfl) (fun vs H Q E h => ?_) (fun f cdv A outer s_ H vs Q E hr h => ?_)
  · obtain ⟨k, st, rfl, _⟩ := h
    rfl
  obtain ⟨k, st, rfl, hk, q⟩ := h
  have T_BEHIND := TB.tab
  refine ⟨_, (pss_cons (ps_if (pt_cmpR (kEqG K (hU hr)) (pv 0) pe_str (nomark _)) (pss_one (ps_ret pe_str)) pss_nil) (pss_cons (ps_if (pt_cmpR (kEqG K (hU hr)) (pv 0) pe_str (nomark _)) (pss_one (ps_ret (pe_ifExp (pt_cmpR (kEqG K (hU hr)) (pv 1) pe_str (nomark _)) pe_str pe_str))) pss_nil) (pss_one (ps_ret (pe_ix (ix_tab T_BEHIND) (pe_globR T_BEHIND.m (by rfl)) (pv 0) (fun _ _ => rfl)))))), ?_⟩
  refine st0 [some (.str k), some (.str st)] rfl ?_
  walk_at "go"
  refine rd_split (fun c => ?_) (fun c => ?_)
  · walk_at "go"
    have e : stB k st = Str.ofString "head" := by
      unfold stB
      rw [if_pos (show k = kW from c)] <;> rfl
    rw [e] at q
    exact q
  walk_at "go"
  refine rd_split (fun c2 => ?_) (fun c2 => ?_)
  · walk_at "go"
    refine rd_split (fun c3 => ?_) (fun c3 => ?_)
    · walk_at "go"
      have e : stB k st = Str.ofString "head" := by
        unfold stB
        rw [if_neg (show ¬ k = kW from c), if_pos (show k = kN from c2), if_pos (show st = sHead from c3)] <;> rfl
      rw [e] at q
      exact q
    · walk_at "go"
      have e : stB k st = Str.ofString "row" := by
        unfold stB
        rw [if_neg (show ¬ k = kW from c), if_pos (show k = kN from c2), if_neg (show ¬ st = sHead from c3)] <;> rfl
      rw [e] at q
      exact q
  walk_at "go"
  rcases hk with h | h | ⟨s, hs⟩
  · exact absurd h c
  · exact absurd h c2
  obtain ⟨u, eu, hu⟩ := TB.yes k s hs
  refine u_ixTab eu hu ?_
  have e : stB k st = s := by
    unfold stB
    rw [if_neg (show ¬ k = kW from c), if_neg (show ¬ k = kN from c2)]
    unfold behS
    rw [hs] <;> rfl
  rw [e] at q
  exact q
def spDb : Sp := fun vs H Q _ => ∃ (k : Str) (d : Nat), vs = [.str k, .int d] ∧ (k = kO → d < 40) ∧ (k = kC → 0 < d) ∧ Q (.int ((dpB k d : Nat) : Int)) H
abbrev s_depth_behind : Stmt := top 47
theorem sc_depth_behind : FnScope ["kind", "depth"] ["kind", "depth"] (defScope s_depth_behind) := ⟨rfl, rfl, rfl, by decide +kernel, rfl, by decide +kernel, by decide +kernel⟩
theorem has_depth_behind {fI cM : Addr} (O : OwnF K mg "depth_behind" s_depth_behind) (C : Cst mg) (hI : InitF P w K mg base fI) (M_TooMany : ErrC K mg fI "TooMany" cM) : HasF P w K mg base (L2.CX P w) 3 "depth_behind" ["kind", "depth"] spDb := by
  refine hasX O sc_depth_behind (fun _ _ _ _ _ _ us hl => match us, hl with | [_, _], _ => rfl) (fun vs H Q E h => ?_) (fun f cdv A outer s_ H vs Q E hr h => ?_)
  · obtain ⟨k, d, rfl, _⟩ := h
    rfl
  obtain ⟨k, d, rfl, h1, h2, q⟩ := h
  refine ⟨_, (pss_cons (ps_if (pt_cmpR (kEqG K (hU hr)) (pv 0) pe_str (nomark _)) (pss_one (ps_ret (pe_op subU (pv 1) pe_int))) pss_nil) (pss_cons (ps_if (pt_cmpR (kNeG K (hU hr)) (pv 0) pe_str (nomark _)) (pss_one (ps_ret (pv 1))) pss_nil) (pss_cons (ps_if (pt_cmpR (kEqG K (hU hr)) (pv 1) (pe_globI C.MOST_JOINTS (by rfl)) (nomark _)) (pss_one (ps_raiseE K hI M_TooMany rfl (hr.mono (by decide)) tkX (pe_op (kAdd K) (pe_globI C.MOST_JOINTS (by rfl)) pe_int) (by rfl))) pss_nil) (pss_one (ps_ret (pe_op (kAdd K) (pv 1) pe_int)))))), ?_⟩
  refine st0 [some (.str k), some (.int d)] rfl ?_
  walk_at "go"
  refine rd_split (fun c => ?_) (fun c => ?_)
  · have c' : k = kC := c
    have := h2 c'
    walk_at "go"
    have e : ((dpB k d : Nat) : Int) = (d : Int) - 1 := by
      unfold dpB
      rw [if_pos c']
      omega
    rw [e] at q
    exact q
  walk_at "go"
  refine rd_splitN (fun c2 => ?_) (fun c2 => ?_)
  · walk_at "go"
    have e : dpB k d = d := dp_same c c2
    rw [e] at q
    exact q
  have c2' : k = kO := c2
  have := h1 c2'
  walk_at "go"
  rw [decide_eq_false (by omega)]
  refine iteF ?_
  walk_at "go"
  have e : ((dpB k d : Nat) : Int) = (d : Int) + 1 := by
    unfold dpB
    rw [if_neg (show ¬ k = kC from c), if_pos c2']
    rfl
  rw [e] at q
  exact q
end

/-! ### S5 -/
section
variable {P : Program} {w : World} {K : PySem.W.Frag} {mg : Str → Option Value} {base : Heap}
def tkS (t : Tk) : Str := ⟨t.cs.toArray⟩
/-- tokens as the scanner tells them -/
structure Toks (K : PySem.W.Frag) (H : Hp) (xs : List V) (l : List (Tk × Bool)) : Prop where
  len : xs.length = l.length
  get : ∀ (i : Nat) p, l[i]? = some p → ∃ (t : Addr) (off : Int), xs[i]? = some (.ref t) ∧ SqT K H t [.int off, .str p.1.kind, .str (tkS p.1), .bl p.2]
theorem Toks.nil {H : Hp} : Toks K H [] [] := ⟨rfl, fun i p h => by simp at h⟩
theorem Toks.mono {H H' : Hp} {xs : List V} {l : List (Tk × Bool)} (h : Toks K H xs l) (e : Ext K H H') : Toks K H' xs l := ⟨h.len, fun i p hp => by
  obtain ⟨t, o, a, b⟩ := h.get i p hp
  exact ⟨t, o, a, e _ _ b⟩⟩
theorem Toks.snoc {H : Hp} {xs : List V} {l : List (Tk × Bool)} {t : Addr} {o : Int} {p : Tk × Bool} (h : Toks K H xs l) (s : SqT K H t [.int o, .str p.1.kind, .str (tkS p.1), .bl p.2]) : Toks K H (xs ++ [.ref t]) (l ++ [p]) := ⟨by rw [List.length_append, List.length_append, h.len] <;> rfl, fun i p' hp => by
  rcases Nat.lt_or_ge i l.length with c | c
  · rw [List.getElem?_append_left c] at hp
    obtain ⟨t, o, a, b⟩ := h.get i p' hp
    exact ⟨t, o, by rw [List.getElem?_append_left (by rw [h.len]; exact c)]; exact a, b⟩
  · have il := lt_of_get hp
    rw [List.length_append] at il
    have e : i = l.length := by
      have : i < l.length + 1 := il
      omega
    subst e
    rw [List.getElem?_append_right c, Nat.sub_self] at hp
    obtain rfl := Option.some.inj hp
    exact ⟨t, o, by rw [List.getElem?_append_right (by rw [h.len]; exact Nat.le_refl _), h.len, Nat.sub_self] <;> rfl, s⟩⟩
theorem slice_tk {z : Str} {a : Nat} {t : Tk} {r : List Nat} (h : z.cps.toList.drop a = t.cs ++ r) (ho : t.ok) : Txt.slice z (some (a : Int)) (some ((a + t.cs.length : Nat) : Int)) = tkS t := by
  have h1 := congrArg List.length h
  rw [List.length_drop, List.length_append] at h1
  have h3 : 0 < t.cs.length := List.length_pos_iff.mpr (Tk.ne ho)
  have hl := TL.len_tl z
  have e := beq_iff_eq.mp (PyProof.Rows.slice_closesL (x := z) (i := (a : Int)) (j := ((a + t.cs.length : Nat) : Int)) (by omega) (by omega) (by show ((a + t.cs.length : Nat) : Int) ≤ (z.length : Int); rw [hl]; show _ ≤ ((z.cps.toList.length : Nat) : Int); omega))
  rw [e]
  unfold tkS
  rw [show (a : Int).toNat = a by omega, h, show (((a + t.cs.length : Nat) : Int) - (a : Int)).toNat = t.cs.length by omega, List.take_left]
theorem kind_first {t : Tk} (ho : t.ok) : ∃ c r, t.cs = c :: r ∧ kdC c = t.kind ∧ ¬ (c = 32 ∨ c = 10) := by
  cases t with
  | wd y =>
    cases h : y.cps.toList with
    | nil => exact absurd h (Tk.ne (t := .wd y) ho)
    | cons c r =>
      have hc : letC c := ho.2.2 c (by rw [h]; exact List.mem_cons_self)
      refine ⟨c, r, h, ?_, ?_⟩
      · unfold kdC
        rw [if_pos hc] <;> rfl
      · unfold letC at hc
        omega
  | num n =>
    cases h : TL.numL n with
    | nil => exact absurd h (TL.numL_ne n)
    | cons c r =>
      have hc : digC c := num_digits c (by rw [h]; exact List.mem_cons_self)
      refine ⟨c, r, h, ?_, ?_⟩
      · unfold kdC
        rw [if_neg (fun y => by unfold letC at y; unfold digC at hc; omega), if_pos hc] <;> rfl
      · unfold digC at hc
        omega
  | sg c =>
    have h : c ∈ signs5 := ho
    have k : ∀ y ∈ signs5, ¬ letC y ∧ ¬ digC y ∧ ¬ (y = 32 ∨ y = 10) := by decide +kernel
    refine ⟨c, [], rfl, ?_, (k c h).2.2⟩
    unfold kdC
    rw [if_neg (k c h).1, if_neg (k c h).2.1] <;> rfl
def stI (st : Str) : Prop := ∃ l, look nextT st = some l
theorem may_st {k st : Str} {d : Nat} (h : mayS k st d = true) : stI st := by
  unfold stI
  cases e : look nextT st with
  | some l => exact ⟨l, rfl⟩
  | none =>
    unfold mayS nextS at h
    rw [e] at h
    split at h
    · cases h
    · simp at h
def Rst : List Tk → List Nat → Prop
  | [], l => l = []
  | t :: u, l => ∃ l', l = t.cs ++ l' ∧ t.ok ∧ (t.run = true → Free l') ∧ LayT u l'
theorem lay_gap {ts : List Tk} {l : List Nat} (h : LayT ts l) : ∃ g r, l = g ++ r ∧ Blank g ∧ (∀ c, r.head? = some c → ¬ (c = 32 ∨ c = 10)) ∧ Rst ts r := by
  cases h with
  | nil hg => exact ⟨l, [], by simp, hg, (fun c h => by simp at h), rfl⟩
  | @cons g t u l' hg ho hf h =>
    refine ⟨g, t.cs ++ l', rfl, hg, fun c hc => ?_, l', rfl, ho, hf, h⟩
    obtain ⟨c0, r, e, _, k⟩ := kind_first ho
    rw [e] at hc
    have : c0 = c := by simpa using hc
    rw [← this]
    exact k
theorem kind_beh {t : Tk} (ho : t.ok) : t.kind = kW ∨ t.kind = kN ∨ ∃ s, look behT t.kind = some s := by
  cases t with
  | wd y => exact .inl rfl
  | num n => exact .inr (.inl rfl)
  | sg c =>
    have h : c ∈ signs5 := ho
    have k : ∀ y ∈ signs5, (look behT ⟨#[y]⟩).isSome = true := by decide +kernel
    exact .inr (.inr (Option.isSome_iff_exists.mp (k c h)))
theorem may_pos {st : Str} {d : Nat} (h : mayS kC st d = true) : 0 < d := by
  refine Nat.pos_of_ne_zero fun e => ?_
  unfold mayS at h
  rw [if_pos ⟨.inr rfl, e⟩] at h
  cases h
def spSc (K : PySem.W.Frag) : Sp := fun vs H Q _ => ∃ (z : Str) (ts : List Tk), vs = [.str z] ∧ z.length ≤ 24000 ∧ LayT ts z.cps.toList ∧ okR sBegin 0 ts ∧ ((endR sBegin 0 ts).1 = sHead ∨ (endR sBegin 0 ts).1 = sClosed) ∧ (endR sBegin 0 ts).2 = 0 ∧
  ∀ (H' : Hp) (b : Addr) (xs : List V), Same H H' → H b = none → H' b = some (.lst xs) → Toks K H' xs (scn sBegin ts) → Q (.ref b) H'
abbrev s_scanned : Stmt := top 48
theorem sc_scanned : FnScope ["text", "found", "state", "depth", "at", "kind", "end"] ["text"] (defScope s_scanned) := ⟨rfl, rfl, rfl, by decide +kernel, rfl, by decide +kernel, by decide +kernel⟩
theorem has_scanned {fI cT : Addr} (O : OwnF K mg "scanned" s_scanned) (B : Bl mg) (hI : InitF P w K mg base fI) (M_BadText : ErrC K mg fI "BadText" cT) (h_kind_of : HasF P w K mg base CX0 1 "kind_of" ["sign"] spKo) (h_gap_end : HasF P w K mg base CX0 1 "gap_end" ["text", "at"] spGe) (h_token_end : HasF P w K mg base (L2.CX P w) 3 "token_end" ["text", "at", "kind"] spTe) (h_may_stand : HasF P w K mg base CX0 1 "may_stand" ["kind", "state", "depth"] spMy) (h_state_behind : HasF P w K mg base CX0 1 "state_behind" ["kind", "state"] spSb) (h_depth_behind : HasF P w K mg base (L2.CX P w) 3 "depth_behind" ["kind", "depth"] spDb) : HasF P w K mg base (L2.CX P w) 4 "scanned" ["text"] (spSc K) := by
  refine hasX O sc_scanned (fun _ _ _ _ _ _ us hl => match us, hl with | [_], _ => rfl) (fun vs H Q E h => ?_) (fun f cdv A outer s_ H vs Q E hr h => ?_)
  · obtain ⟨z, ts, rfl, _⟩ := h
    rfl
  obtain ⟨z, ts, rfl, hz, hL, hok, he1, he2, q⟩ := h
  have hl : z.length = z.cps.toList.length := TL.len_tl z
  refine ⟨_, (pss_cons (ps_set (i := 1) sc_scanned.nd rfl (by first | exact Or.inl rfl | exact Or.inr rfl) (pe_lst pa_nil)) (pss_cons (ps_set (i := 2) sc_scanned.nd rfl (by first | exact Or.inl rfl | exact Or.inr rfl) pe_str) (pss_cons (ps_set (i := 3) sc_scanned.nd rfl (by first | exact Or.inl rfl | exact Or.inr rfl) pe_int) (pss_cons (ps_set (i := 4) sc_scanned.nd rfl (by first | exact Or.inl rfl | exact Or.inr rfl) (pe_callH h_gap_end (hr.mono (by first | decide | omega)) (by rfl) pass0 (pa_cons (pv 0) (pa_cons pe_int pa_nil)))) (pss_cons (ps_while poX (pt_cmpR ltU (pv 4) (pe_callB (kLen K) (by rfl) B.len (by decide +kernel) (pa_cons (pv 0) pa_nil)) (nomark _)) (pss_cons (ps_set (i := 5) sc_scanned.nd rfl (by first | exact Or.inl rfl | exact Or.inr rfl) (pe_callH h_kind_of (hr.mono (by first | decide | omega)) (by rfl) pass0 (pa_cons (pe_ix (kIx K) (pv 0) (pv 4) (fun _ _ => rfl)) pa_nil))) (pss_cons (ps_if (pt_not (pt_val (pe_callH h_may_stand (hr.mono (by first | decide | omega)) (by rfl) pass0 (pa_cons (pv 5) (pa_cons (pv 2) (pa_cons (pv 3) pa_nil)))))) (pss_one (ps_raiseE K hI M_BadText rfl (hr.mono (by decide)) tkX (pv 4) (by rfl))) pss_nil) (pss_cons (ps_set (i := 6) sc_scanned.nd rfl (by first | exact Or.inl rfl | exact Or.inr rfl) (pe_callHS h_token_end (hr.mono (by first | decide | omega)) (by rfl) (fun σ => passAt tkX σ) (pa_cons (pv 0) (pa_cons (pv 4) (pa_cons (pv 5) pa_nil))))) (pss_cons (ps_expr (pe_bmK K PySem.F.plainAttrs_list PySem.F.slot_list_append PySem.F.type_list_append mt_append (pv 1) (pa_cons (pe_tup (pa_cons (pv 4) (pa_cons (pv 5) (pa_cons (pe_slice (kSlT K) (pv 0) (po_some (pv 4)) (po_some (pv 6))) (pa_cons (pe_cmpR (kEqG K (hU hr)) (pv 2) pe_str (nomark _)) pa_nil))))) pa_nil))) (pss_cons (ps_set (i := 3) sc_scanned.nd rfl (by first | exact Or.inl rfl | exact Or.inr rfl) (pe_callHS h_depth_behind (hr.mono (by first | decide | omega)) (by rfl) (fun σ => passAt tkX σ) (pa_cons (pv 5) (pa_cons (pv 3) pa_nil)))) (pss_cons (ps_set (i := 2) sc_scanned.nd rfl (by first | exact Or.inl rfl | exact Or.inr rfl) (pe_callH h_state_behind (hr.mono (by first | decide | omega)) (by rfl) pass0 (pa_cons (pv 5) (pa_cons (pv 2) pa_nil)))) (pss_one (ps_set (i := 4) sc_scanned.nd rfl (by first | exact Or.inl rfl | exact Or.inr rfl) (pe_callH h_gap_end (hr.mono (by first | decide | omega)) (by rfl) pass0 (pa_cons (pv 0) (pa_cons (pv 6) pa_nil)))))))))))) (pss_cons (ps_if (PW.pt (pw_or (pt_cmpR gtU (pv 3) pe_int (nomark _)) (pw_or1 (pt_cmpR (kNotIn K) (pv 2) (pe_tup (pa_cons pe_str (pa_cons pe_str pa_nil))) (by rfl))))) (pss_one (ps_raiseE K hI M_BadText rfl (hr.mono (by decide)) tkX (pe_callB (kLen K) (by rfl) B.len (by decide +kernel) (pa_cons (pv 0) pa_nil)) (by rfl))) pss_nil) (pss_one (ps_ret (pv 1))))))))), ?_⟩
  refine st0 [some (.str z), none, none, none, none, none, none] rfl ?_
  walk_at "go"
  refine ⟨lk rfl, fun p hp => ?_⟩
  have s1 := same_new hp (.lst [])
  have e1 : upd H p (.lst []) p = some (.lst []) := upd_same
  generalize upd H p (.lst []) = H1 at *
  obtain ⟨g0, r0, eg, hg0, hr0, hrs⟩ := lay_gap hL
  walk_at "go"
  refine ⟨z, 0, g0, r0, rfl, by omega, by omega, by rw [List.drop_zero]; exact eg, hg0, hr0, ?_⟩
  rw [Nat.zero_add]
  walk_at "go"
  refine rd_while (fun m σ H' => ∃ (u : List Tk) (st : Str) (d a : Nat) (r : List Nat) (xs : List V) (dn : List (Tk × Bool)) (o5 o6 : Option V), σ = [some (.str z), some (.ref p), some (.str st), some (.int (d : Int)), some (.int (a : Int)), o5, o6] ∧ m = u.length ∧ Same H H' ∧ H' p = some (.lst xs) ∧ Toks K H' xs dn ∧ dn ++ scn st u = scn sBegin ts ∧ okR st d u ∧ endR st d u = endR sBegin 0 ts ∧ z.cps.toList.drop a = r ∧ Rst u r ∧ xs.length ≤ a ∧ a ≤ z.length) ts.length
    ⟨ts, sBegin, 0, g0.length, r0, [], [], none, none, rfl, rfl, s1, e1, .nil, rfl, hok, rfl, by rw [eg, List.drop_left], hrs, Nat.zero_le _, by rw [hl, eg, List.length_append]; omega⟩ ?_
  rintro m σ H' ⟨u, st, d, a, r, xs, dn, o5, o6, rfl, rfl, k1, k2, k3, k4, k5, k6, k7, k8, k9, k10⟩
  walk_at "go"
  refine u_lenS (ll (by omega)) ?_
  walk_at "go"
  cases u with
  | nil =>
    have k8 : r = [] := k8
    rw [k8] at k7
    have := drop_end k7
    rw [decide_eq_false (by omega)]
    refine iteF ?_
    have k6 : (st, d) = endR sBegin 0 ts := k6
    rw [← k6] at he1 he2
    have he2 : d = 0 := he2
    have he1 : st = sHead ∨ st = sClosed := he1
    subst he2
    walk_at "go"
    rw [decide_eq_false (by omega)]
    refine iteF ?_
    walk_at "go"
    refine ⟨lk rfl, fun p2 hp2 => ?_⟩
    walk_at "go"
    refine u_ninT (xs := [sHead, sClosed].map V.str) (SqT.of upd_same) rfl rfl ?_
    rw [inV_str, decide_eq_true (by simpa using he1)]
    walk_at "go"
    have k4' : dn = scn sBegin ts := by simpa [scn] using k4
    rw [k4'] at k3
    refine iteF ?_
    walk_at "go"
    exact q _ p xs (Same.new k1 hp2) hp (same_new hp2 _ _ _ k2) (k3.mono (Ext.new hp2))
  | cons t u =>
    obtain ⟨l', rfl, ho, hf, hLu⟩ := k8
    obtain ⟨c0, rr, ec, ek, _⟩ := kind_first ho
    obtain ⟨e0, la, _⟩ := drop_at (r := rr ++ l') (by rw [k7, ec] <;> rfl)
    have h3 : 0 < t.cs.length := List.length_pos_iff.mpr (Tk.ne ho)
    have hle : a + t.cs.length ≤ z.length := by
      have h1 := congrArg List.length k7
      rw [List.length_drop, List.length_append] at h1
      omega
    have esl := slice_tk k7 ho
    rw [decide_eq_true (by omega)]
    refine iteT ⟨fun σ' H2 => ∃ m', m' < (t :: u).length ∧ _, fun _ _ h => h, ?_⟩
    simp only [okR] at k5
    obtain ⟨nl, hnl⟩ := may_st k5.1
    walk_at "go"
    refine u_ixS (ll (by omega)) (atI_nat e0) ?_
    walk_at "go"
    refine ⟨c0, rfl, ?_⟩
    rw [ek]
    walk_at "go"
    refine ⟨t.kind, st, d, nl, rfl, hnl, fun H2 s2 => ?_⟩
    rw [k5.1]
    walk_at "go"
    refine iteF ?_
    walk_at "go"
    refine ⟨z, a, t, l', rfl, by omega, ho, k7, hf, fun H3 s3 => ?_⟩
    have f2 := s3 _ _ (s2 _ _ k2)
    walk_at "go"
    refine u_slX (ll (by omega)) ?_
    rw [esl]
    walk_at "go"
    refine ⟨lk rfl, fun p2 hp2 => ?_⟩
    have np : p ≠ p2 := ne_of_none f2 hp2
    have f3 : upd H3 p2 (.tup [.int (a : Int), .str t.kind, .str (tkS t), .bl (decide (st = Str.ofString "begin"))]) p = some (.lst xs) := by rw [upd_ne np]; exact f2
    have tt : SqT K (upd H3 p2 (.tup [.int (a : Int), .str t.kind, .str (tkS t), .bl (decide (st = Str.ofString "begin"))])) p2 [.int (a : Int), .str t.kind, .str (tkS t), .bl (decide (st = Str.ofString "begin"))] := SqT.of upd_same
    have kk3 := ((k3.mono (Ext.of_same s2)).mono (Ext.of_same s3)).mono (Ext.new (o := .tup [.int (a : Int), .str t.kind, .str (tkS t), .bl (decide (st = Str.ofString "begin"))]) hp2)
    have ss := Same.new ((k1.trans s2).trans s3) (o := .tup [.int (a : Int), .str t.kind, .str (tkS t), .bl (decide (st = Str.ofString "begin"))]) hp2
    generalize upd H3 p2 (.tup [.int (a : Int), .str t.kind, .str (tkS t), .bl (decide (st = Str.ofString "begin"))]) = H4 at *
    walk_at "go"
    refine u_app f3 (ls (by omega)) ?_
    have exp_ : Ext K H4 (upd H4 p (.lst (xs ++ [V.ref p2]))) := Ext.set f3 trivial
    have kk4 := (kk3.mono exp_).snoc (p := (t, decide (st = sBegin))) (exp_ _ _ tt)
    have f4 : upd H4 p (.lst (xs ++ [V.ref p2])) p = some (.lst (xs ++ [V.ref p2])) := upd_same
    have s5 := Same.upd_new (o := .lst (xs ++ [V.ref p2])) ss hp
    generalize upd H4 p (.lst (xs ++ [V.ref p2])) = H5 at *
    walk_at "go"
    refine ⟨t.kind, d, rfl, k5.2.1, fun e => may_pos (by rw [← e]; exact k5.1), ?_⟩
    walk_at "go"
    refine ⟨t.kind, st, rfl, kind_beh ho, ?_⟩
    walk_at "go"
    obtain ⟨g, r', eg', hg', hr', hrs'⟩ := lay_gap hLu
    have hde : z.cps.toList.drop (a + t.cs.length) = l' := by
      rw [← List.drop_drop, k7, List.drop_left]
    refine ⟨z, a + t.cs.length, g, r', rfl, by omega, by omega, by rw [hde]; exact eg', hg', hr', ?_⟩
    walk_at "go"
    have lg : a + t.cs.length + g.length ≤ z.length := by
      have h1 := congrArg List.length hde
      rw [List.length_drop, eg', List.length_append] at h1
      omega
    refine ⟨u.length, by simp, u, stB t.kind st, dpB t.kind d, a + t.cs.length + g.length, r', xs ++ [.ref p2], dn ++ [(t, decide (st = sBegin))], _, _, rfl, rfl, s5, f4, kk4, ?_, k5.2.2, k6, ?_, hrs', ?_, lg⟩
    · rw [List.append_assoc]
      exact k4
    · rw [← List.drop_drop, hde, eg', List.drop_left]
    · rw [List.length_append]
      show xs.length + 1 ≤ _
      omega
end

/-! ### V1 -/
section
variable {P : Program} {w : World} {K : PySem.W.Frag} {mg : Str → Option Value} {base : Heap}
def spRf (K : PySem.W.Frag) : Sp := fun vs H Q _ => ∃ (v : V) (d : PyData) (n : Int), vs = [v] ∧ Rp K H v d ∧ dat d ∧ walk 42 [d] 0 = some (.prog, n) ∧ ∀ (H' : Hp) (q : Addr), Same H H' → Rp K H' (.ref q) (.tuple [.str "program", .int n]) → Q (.ref q) H'
abbrev s_law_refused : Stmt := top 72
theorem sc_law_refused : FnScope ["thing", "e"] ["thing"] (defScope s_law_refused) := ⟨rfl, rfl, rfl, by decide +kernel, rfl, by decide +kernel, by decide +kernel⟩
theorem has_refused {fI cR : Addr} {e : Ecl} (O : OwnF K mg "_law_refused" s_law_refused) (M_Refused : ErrC K mg fI "Refused" cR) (M_BadProgram : ErrC K mg fI "BadProgram" e.prog) (pp : PySem.W.exmOne K (.ref e.prog) (.ref e.prog) = some true) (h_told_text : HasF P w K mg base (L2.CX P w) 42 "told_text" ["program"] (spTt K e)) : HasF P w K mg base CX0 43 "_law_refused" ["thing"] (spRf K) := by
  refine has0 O sc_law_refused (fun _ _ _ _ _ _ us hl => match us, hl with | [_], _ => rfl) (fun vs H Q E h => ?_) (fun f cdv A outer s_ H vs Q E hr h => ?_)
  · obtain ⟨v, d, n, rfl, _⟩ := h
    rfl
  obtain ⟨v, d, n, rfl, r, hd, hw, q⟩ := h
  refine ⟨_, (pss_cons (ps_try_mix rfl rfl takes0 (fun W pn xe tk _ => (pss_one (ps_expr (pe_callHS h_told_text (hr.mono (by first | decide | omega)) (by rfl) (fun σ => passAt tk σ) (pa_cons (pv 0) pa_nil))))) K rfl (Hds.named (i := 1) ⟨rfl, by decide, Or.inl M_BadProgram.g⟩ sc_law_refused.nd rfl rfl (fun a oe cls d pn hz hf => (pss_one (ps_ret (pe_tup (pa_cons pe_str (pa_cons (pe_xf M_BadProgram.f M_BadProgram.n hz hf (pv 1)) pa_nil)))))) (Hds.plain ⟨rfl, by decide, Or.inl M_Refused.g⟩ (fun a oe cls d pn hz hf => (pss_one (ps_ret (pe_tup (pa_cons pe_str (pa_cons pe_int pa_nil)))))) Hds.nil))) (pss_one (ps_ret (pe_tup (pa_cons pe_str (pa_cons pe_int pa_nil)))))), ?_⟩
  refine st0 [some v, none] rfl ?_
  walk_at "go"
  refine ⟨v, rfl, .inr ⟨d, .prog, n, r, hd, hw, fun H1 d1 s1 e1 => ?_⟩⟩
  refine ⟨true, pp, fun _ a ha => ?_, fun z => nomatch z⟩
  walk_at "go"
  refine u_xf (by rfl) e1 ?_
  walk_at "go"
  exact ⟨lk rfl, fun p hp => q _ p (Same.new s1 hp) (.tup (SqT.of upd_same) (.cons (.str _) (.cons (by first | exact .int _ | exact .str _) .nil)))⟩
end
end Mine

/-! ### Y0 -/
namespace Mine
open PySem PySem.Spec L2
local macro_rules | `(tactic| walk_at "st") => `(tactic| (with_reducible apply iteF))
local macro_rules | `(tactic| walk_at "st") => `(tactic| (with_reducible apply iteT))
local macro_rules | `(tactic| walk_at "st") => `(tactic| ((with_reducible apply rd_tyF); (focus assumption)))
local macro_rules | `(tactic| walk_at "st") => `(tactic| (with_reducible apply rd_tupF))
local macro_rules | `(tactic| walk_at "st") => `(tactic| (with_reducible apply rd_bmT))
local macro_rules | `(tactic| walk_at "st") => `(tactic| (with_reducible apply rd_dc))
local macro_rules | `(tactic| walk_at "st") => `(tactic| (with_reducible apply u_notB))
local macro_rules | `(tactic| walk_at "st") => `(tactic| (with_reducible apply u_repB))
local macro_rules | `(tactic| walk_at "st") => `(tactic| (with_reducible apply u_isB))
local macro_rules | `(tactic| walk_at "st") => `(tactic| (with_reducible apply rd_nopart))
local macro_rules | `(tactic| walk_at "st") => `(tactic| (with_reducible apply rd_partI))
local macro_rules | `(tactic| walk_at "st") => `(tactic| (with_reducible apply rd_part))
local macro_rules | `(tactic| walk_at "st") => `(tactic| (with_reducible apply rd_sl))
local macro_rules | `(tactic| walk_at "st") => `(tactic| (with_reducible apply rd_disp1))
local macro_rules | `(tactic| walk_at "st") => `(tactic| (with_reducible apply rd_dput))
local macro_rules | `(tactic| walk_at "st") => `(tactic| (with_reducible apply rd_dget))
local macro_rules | `(tactic| walk_at "st") => `(tactic| (with_reducible apply rd_din))
local macro_rules | `(tactic| walk_at "st") => `(tactic| (with_reducible apply rd_dnew))
local macro_rules | `(tactic| walk_at "st") => `(tactic| ((with_reducible apply rd_gtup); (focus first | assumption | exact SqT.of (by assumption) | exact SqT.of upd_same); (focus rfl)))
local macro_rules | `(tactic| walk_at "st") => `(tactic| (with_reducible apply rd_lc2))
local macro_rules | `(tactic| walk_at "st") => `(tactic| (with_reducible apply rd_zip))
local macro_rules | `(tactic| walk_at "st") => `(tactic| ((with_reducible apply u_enL); (focus first | assumption | exact SqL.of (by assumption) | exact SqL.of upd_same)))
local macro_rules | `(tactic| walk_at "st") => `(tactic| ((with_reducible apply u_enT); (focus first | assumption | exact SqT.of (by assumption) | exact SqT.of upd_same)))
local macro_rules | `(tactic| walk_at "st") => `(tactic| (with_reducible apply rd_rng3))
local macro_rules | `(tactic| walk_at "st") => `(tactic| (with_reducible apply rd_rg1))
local macro_rules | `(tactic| walk_at "st") => `(tactic| (with_reducible apply rd_revR))
local macro_rules | `(tactic| walk_at "st") => `(tactic| (with_reducible apply rd_enA))
local macro_rules | `(tactic| walk_at "st") => `(tactic| (with_reducible apply rd_ipI))
local macro_rules | `(tactic| walk_at "st") => `(tactic| ((with_reducible apply rd_aug); exact rfl))
local macro_rules | `(tactic| walk_at "st") => `(tactic| (with_reducible apply rd_par3_end))
local macro_rules | `(tactic| walk_at "st") => `(tactic| (with_reducible apply rd_par3))
local macro_rules | `(tactic| walk_at "st") => `(tactic| (with_reducible apply u_mul; focus exact Or.inr cm))
local macro_rules | `(tactic| walk_at "st") => `(tactic| ((with_reducible apply u_pow); (focus (exact ⟨by decide, by decide, by decide⟩))))
local macro_rules | `(tactic| walk_at "st") => `(tactic| (with_reducible apply rd_yes))
local macro_rules | `(tactic| walk_at "st") => `(tactic| (with_reducible apply rd_lc))
local macro_rules | `(tactic| walk_at "st") => `(tactic| ((with_reducible apply rd_itT); (focus first | assumption | exact SqT.of (by assumption) | exact SqT.of upd_same)))
local macro_rules | `(tactic| walk_at "st") => `(tactic| ((with_reducible apply rd_itL); (focus first | assumption | exact SqL.of (by assumption) | exact SqL.of upd_same)))
local macro_rules | `(tactic| walk_at "st") => `(tactic| ((with_reducible apply u_isi); (focus (first | exact Or.inl rfl | exact Or.inr (Or.inl rfl) | exact Or.inr (Or.inr (Or.inl rfl)) | exact Or.inr (Or.inr (Or.inr rfl)))); (focus first | assumption | exact Rp.int _ | exact Rp.str _)))
local macro_rules | `(tactic| walk_at "st") => `(tactic| (with_reducible apply rd_istrE))
local macro_rules | `(tactic| walk_at "st") => `(tactic| (with_reducible apply rd_istr))
local macro_rules | `(tactic| walk_at "st") => `(tactic| ((with_reducible apply rd_seqT); (focus first | assumption | exact SqT.of (by assumption) | exact SqT.of upd_same)))
local macro_rules | `(tactic| walk_at "st") => `(tactic| ((with_reducible apply rd_seqL); (focus first | assumption | exact SqL.of (by assumption) | exact SqL.of upd_same)))
local macro_rules | `(tactic| walk_at "st") => `(tactic| (with_reducible apply rd_sfld))
local macro_rules | `(tactic| walk_at "st") => `(tactic| (with_reducible apply rd_make))
local macro_rules | `(tactic| walk_at "st") => `(tactic| (with_reducible apply rd_fld))
local macro_rules | `(tactic| walk_at "st") => `(tactic| (with_reducible apply rd_m1))
local macro_rules | `(tactic| walk_at "st") => `(tactic| (with_reducible apply rd_iSeq))
local macro_rules | `(tactic| walk_at "st") => `(tactic| (with_reducible apply u_notInS))
local macro_rules | `(tactic| walk_at "st") => `(tactic| (with_reducible apply u_inS))
local macro_rules | `(tactic| walk_at "st") => `(tactic| (with_reducible apply u_notInD))
local macro_rules | `(tactic| walk_at "st") => `(tactic| (with_reducible apply u_inD))
local macro_rules | `(tactic| walk_at "st") => `(tactic| (with_reducible apply rd_callS))
local macro_rules | `(tactic| walk_at "st") => `(tactic| (with_reducible apply rd_raiseE))
local macro_rules | `(tactic| walk_at "st") => `(tactic| (with_reducible apply rd_xf))
local macro_rules | `(tactic| walk_at "st") => `(tactic| (with_reducible apply g_neB))
local macro_rules | `(tactic| walk_at "st") => `(tactic| (with_reducible apply g_neS))
local macro_rules | `(tactic| walk_at "st") => `(tactic| (with_reducible apply g_neI))
local macro_rules | `(tactic| walk_at "st") => `(tactic| (with_reducible apply g_eqS))
local macro_rules | `(tactic| walk_at "st") => `(tactic| (with_reducible apply g_eqI))
local macro_rules | `(tactic| walk_at "st") => `(tactic| (with_reducible apply rd_retN))
local macro_rules | `(tactic| walk_at "st") => `(tactic| (with_reducible apply rd_gnil))
local macro_rules | `(tactic| walk_at "st") => `(tactic| (with_reducible apply rd_gcons))
local macro_rules | `(tactic| walk_at "st") => `(tactic| ((with_reducible apply rd_rng2e); (focus omega)))
local macro_rules | `(tactic| walk_at "st") => `(tactic| ((with_reducible apply rd_rng1e); (focus omega); (focus omega)))
local macro_rules | `(tactic| walk_at "st") => `(tactic| (with_reducible apply rd_rng2))
local macro_rules | `(tactic| walk_at "st") => `(tactic| (with_reducible apply rd_rng1))
local macro_rules | `(tactic| walk_at "st") => `(tactic| (with_reducible apply rd_for))
local macro_rules | `(tactic| walk_at "st") => `(tactic| (with_reducible apply rd_iTup))
local macro_rules | `(tactic| walk_at "st") => `(tactic| (with_reducible apply rd_iList))
local macro_rules | `(tactic| walk_at "st") => `(tactic| (with_reducible apply rd_rev))
local macro_rules | `(tactic| walk_at "st") => `(tactic| (with_reducible apply u_min3))
local macro_rules | `(tactic| walk_at "st") => `(tactic| ((with_reducible apply rd_tyL); focus (first | exact SqL.of (by assumption) | exact SqL.of upd_same)))
local macro_rules | `(tactic| walk_at "st") => `(tactic| (with_reducible apply rd_bm0))
local macro_rules | `(tactic| walk_at "st") => `(tactic| (with_reducible apply rd_bm))
local macro_rules | `(tactic| walk_at "st") => `(tactic| ((with_reducible apply rd_truL); focus (first | assumption | exact SqL.of (by assumption) | exact SqL.of upd_same)))
local macro_rules | `(tactic| walk_at "st") => `(tactic| (with_reducible apply rd_truB))
local macro_rules | `(tactic| walk_at "st") => `(tactic| (with_reducible apply rd_tru))
local macro_rules | `(tactic| walk_at "st") => `(tactic| (with_reducible apply rd_chain3))
local macro_rules | `(tactic| walk_at "st") => `(tactic| ((with_reducible apply u_setL); (focus (first | assumption | exact upd_same)); exact rfl))
local macro_rules | `(tactic| walk_at "st") => `(tactic| ((with_reducible apply u_lenT); focus (first | assumption | exact SqT.of (by assumption) | exact SqT.of upd_same)))
local macro_rules | `(tactic| walk_at "st") => `(tactic| ((with_reducible apply u_lenL); focus (first | assumption | exact SqL.of (by assumption) | exact SqL.of upd_same)))
local macro_rules | `(tactic| walk_at "st") => `(tactic| ((with_reducible apply u_ixL); (focus (first | assumption | exact SqL.of (by assumption) | exact SqL.of upd_same)); exact rfl))
local macro_rules | `(tactic| walk_at "st") => `(tactic| ((with_reducible apply u_mul); focus first | exact Or.inl (by omega) | exact Or.inr (by omega) | exact Or.inl (by decide) | exact Or.inr (by decide)))
local macro_rules | `(tactic| walk_at "st") => `(tactic| ((with_reducible apply u_div); focus first | decide | omega | (constructor <;> first | assumption | omega)))
local macro_rules | `(tactic| walk_at "st") => `(tactic| ((with_reducible apply u_mod); focus first | assumption | decide | omega))
local macro_rules | `(tactic| walk_at "st") => `(tactic| (with_reducible apply u_neg))
local macro_rules | `(tactic| walk_at "st") => `(tactic| (with_reducible apply u_min))
local macro_rules | `(tactic| walk_at "st") => `(tactic| (with_reducible apply u_max))
local macro_rules | `(tactic| walk_at "st") => `(tactic| (with_reducible apply u_intB))
local macro_rules | `(tactic| walk_at "st") => `(tactic| (with_reducible apply u_int))
local macro_rules | `(tactic| walk_at "st") => `(tactic| (with_reducible apply u_neI))
local macro_rules | `(tactic| walk_at "st") => `(tactic| (with_reducible apply u_eqS))
local macro_rules | `(tactic| walk_at "st") => `(tactic| (with_reducible apply u_eqI))
local macro_rules | `(tactic| walk_at "st") => `(tactic| (with_reducible apply u_ge))
local macro_rules | `(tactic| walk_at "st") => `(tactic| (with_reducible apply u_gt))
local macro_rules | `(tactic| walk_at "st") => `(tactic| (with_reducible apply u_le))
local macro_rules | `(tactic| walk_at "st") => `(tactic| (with_reducible apply u_lt))
local macro_rules | `(tactic| walk_at "st") => `(tactic| (with_reducible apply u_sub))
local macro_rules | `(tactic| walk_at "st") => `(tactic| (with_reducible apply u_add))
local macro_rules | `(tactic| walk_at "st") => `(tactic| (with_reducible apply rd_ct))
local macro_rules | `(tactic| walk_at "st") => `(tactic| (with_reducible apply rd_brk))
local macro_rules | `(tactic| walk_at "st") => `(tactic| (with_reducible apply rd_tB))
local macro_rules | `(tactic| walk_at "st") => `(tactic| (with_reducible apply rd_chain))
local macro_rules | `(tactic| walk_at "st") => `(tactic| (with_reducible apply rd_notV))
local macro_rules | `(tactic| walk_at "st") => `(tactic| (with_reducible apply rd_orV))
local macro_rules | `(tactic| walk_at "st") => `(tactic| (with_reducible apply rd_andV))
local macro_rules | `(tactic| walk_at "st") => `(tactic| (with_reducible apply rd_not))
local macro_rules | `(tactic| walk_at "st") => `(tactic| (with_reducible apply rd_or))
local macro_rules | `(tactic| walk_at "st") => `(tactic| (with_reducible apply rd_and))
local macro_rules | `(tactic| walk_at "st") => `(tactic| (with_reducible apply rd_un))
local macro_rules | `(tactic| walk_at "st") => `(tactic| (with_reducible apply rd_par_end))
local macro_rules | `(tactic| walk_at "st") => `(tactic| (with_reducible apply rd_par))
local macro_rules | `(tactic| walk_at "st") => `(tactic| (with_reducible apply rd_gsub))
local macro_rules | `(tactic| walk_at "st") => `(tactic| (with_reducible apply rd_ife))
local macro_rules | `(tactic| walk_at "st") => `(tactic| (with_reducible apply rd_next))
local macro_rules | `(tactic| walk_at "st") => `(tactic| (with_reducible apply rd_drop))
local macro_rules | `(tactic| walk_at "st") => `(tactic| (with_reducible apply rd_lst))
local macro_rules | `(tactic| walk_at "st") => `(tactic| (with_reducible apply rd_tup))
local macro_rules | `(tactic| walk_at "st") => `(tactic| (with_reducible apply rd_call))
local macro_rules | `(tactic| walk_at "st") => `(tactic| (with_reducible apply rd_ret))
local macro_rules | `(tactic| walk_at "st") => `(tactic| (with_reducible apply rd_retE))
local macro_rules | `(tactic| walk_at "st") => `(tactic| (with_reducible apply rd_bl))
local macro_rules | `(tactic| walk_at "st") => `(tactic| (with_reducible apply rd_test))
local macro_rules | `(tactic| walk_at "st") => `(tactic| (with_reducible apply rd_if))
local macro_rules | `(tactic| walk_at "st") => `(tactic| (with_reducible apply rd_nil))
local macro_rules | `(tactic| walk_at "st") => `(tactic| (with_reducible apply rd_cons))
local macro_rules | `(tactic| walk_at "st") => `(tactic| (with_reducible apply rd_cb))
local macro_rules | `(tactic| walk_at "st") => `(tactic| (with_reducible apply rd_op))
local macro_rules | `(tactic| walk_at "st") => `(tactic| (with_reducible apply rd_gname))
local macro_rules | `(tactic| walk_at "st") => `(tactic| (with_reducible apply rd_asg))
local macro_rules | `(tactic| walk_at "st") => `(tactic| (with_reducible apply rd_seq))
local macro_rules | `(tactic| walk_at "st") => `(tactic| (with_reducible apply rd_c))
local macro_rules | `(tactic| walk_at "st") => `(tactic| ((with_reducible apply rd_var); exact rfl))
local macro_rules | `(tactic| walk_at "go") => `(tactic| repeat (walk_at "st"))
local macro_rules | `(tactic| walk_at "sp") => `(tactic| (first | refine rd_split (fun c => ?_) (fun c => ?_) | refine rd_splitN (fun c => ?_) (fun c => ?_) | refine rd_splitB (fun c => ?_) (fun c => ?_)))
local macro_rules | `(tactic| walk_at "nx") => `(tactic| repeat (first | (with_reducible apply iteF) | (with_reducible apply iteT) | (with_reducible apply rd_next)))

section
variable {P : Program} {w : World} {K : PySem.W.Frag} {mg : Str → Option Value} {base : Heap}
def fOff : Str := Str.ofString "offset"
def fOp : Str := Str.ofString "op"
def fTold : Str := Str.ofString "told"
def fParts : Str := Str.ofString "parts"
/-- the fields of a draft -/
def fD (off : Int) (op : Str) (tl pl : Addr) : List (Str × V) := putF fParts (.ref pl) (putF fTold (.ref tl) (putF fOp (.str op) (putF fOff (.int off) [])))
theorem fD_off (off : Int) (op : Str) (tl pl : Addr) : (fD off op tl pl).lookup fOff = some (.int off) := by
  unfold fD
  rw [lookup_putF, if_neg (by decide +kernel), lookup_putF, if_neg (by decide +kernel), lookup_putF, if_neg (by decide +kernel), lookup_putF, if_pos rfl]
theorem fD_op (off : Int) (op : Str) (tl pl : Addr) : (fD off op tl pl).lookup fOp = some (.str op) := by
  unfold fD
  rw [lookup_putF, if_neg (by decide +kernel), lookup_putF, if_neg (by decide +kernel), lookup_putF, if_pos rfl]
theorem fD_told (off : Int) (op : Str) (tl pl : Addr) : (fD off op tl pl).lookup fTold = some (.ref tl) := by
  unfold fD
  rw [lookup_putF, if_neg (by decide +kernel), lookup_putF, if_pos rfl]
theorem fD_parts (off : Int) (op : Str) (tl pl : Addr) : (fD off op tl pl).lookup fParts = some (.ref pl) := by
  unfold fD
  rw [lookup_putF, if_pos rfl]
theorem putF_len (f : Str) (v : V) : ∀ l : List (Str × V), (putF f v l).length ≤ l.length + 1
  | [] => Nat.le_refl _
  | p :: r => by
    unfold putF
    split
    · simp
    · have := putF_len f v r
      simp only [List.length_cons]
      omega
/-- the class of drafts -/
structure DrC (K : PySem.W.Frag) (C : Addr) : Prop where
  cl : Cls K C
  n1 : NoAttr K C fOff
  n2 : NoAttr K C fOp
  n3 : NoAttr K C fTold
  n4 : NoAttr K C fParts
def spDi (C : Addr) : Sp := fun vs H Q _ => ∃ (p dx : Addr) (off : Int) (op : Str), vs = [.ref p, .int off, .str op] ∧ H p = some (.ins C dx []) ∧
  ∀ (H' : Hp) (tl pl : Addr), H tl = none → H pl = none → tl ≠ pl → H' p = some (.ins C dx (fD off op tl pl)) → H' tl = some (.lst []) → H' pl = some (.lst []) → (∀ b o, b ≠ p → H b = some o → H' b = some o) → Q .non H'
abbrev s_Draft___init__ : Stmt := inClass (top 51) 0
theorem sc_Draft___init__ : FnScope ["self", "offset", "op"] ["self", "offset", "op"] (defScope s_Draft___init__) := ⟨rfl, rfl, rfl, by decide +kernel, rfl, by decide +kernel, by decide +kernel⟩
theorem has_Draft {C : Addr} (O : OwnM K mg "Draft" "Draft.__init__" C s_Draft___init__) (D : DrC K C) : HasM P w K mg base CX0 1 "Draft" C ["self", "offset", "op"] (spDi C) := by
  refine hasM0 O sc_Draft___init__ (fun _ _ _ _ _ _ us hl => match us, hl with | [_, _, _], _ => rfl) (fun vs H Q E h => ?_) (fun f cdv A outer s_ H vs Q E hr h => ?_)
  · obtain ⟨p, dx, off, op, rfl, _⟩ := h
    rfl
  obtain ⟨p, dx, off, op, rfl, hp, q⟩ := h
  refine ⟨_, (pss_cons (ps_fldK K (pv 0) (pv 1)) (pss_cons (ps_fldK K (pv 0) (pv 2)) (pss_cons (ps_fldK K (pv 0) (pe_lst pa_nil)) (pss_one (ps_fldK K (pv 0) (pe_lst pa_nil)))))), ?_⟩
  refine st0 [some (.ref p), some (.int off), some (.str op)] rfl ?_
  walk_at "go"
  refine ⟨p, C, dx, [], rfl, hp, D.cl, D.n1, by decide, ?_⟩
  walk_at "go"
  have l1 := putF_len fOff (.int off) []
  have l2 := putF_len fOp (.str op) (putF fOff (.int off) [])
  have l3 : ∀ tl, (putF fTold (.ref tl) (putF fOp (.str op) (putF fOff (.int off) []))).length ≤ (putF fOp (.str op) (putF fOff (.int off) [])).length + 1 := fun tl => putF_len _ _ _
  have l0 : ([] : List (Str × V)).length = 0 := rfl
  refine ⟨p, C, dx, putF fOff (.int off) [], rfl, upd_same, D.cl, D.n2, by omega, ?_⟩
  walk_at "go"
  refine ⟨lk rfl, fun tl htl => ?_⟩
  have ntp : p ≠ tl := fun e => by rw [← e, upd_same] at htl; cases htl
  have htl0 : H tl = none := by
    rw [upd_ne ntp.symm, upd_ne ntp.symm] at htl
    exact htl
  walk_at "go"
  refine ⟨p, C, dx, putF fOp (.str op) (putF fOff (.int off) []), rfl, by rw [upd_ne ntp]; exact upd_same, D.cl, D.n3, by omega, ?_⟩
  walk_at "go"
  refine ⟨lk rfl, fun pl hpl => ?_⟩
  have npp : p ≠ pl := fun e => by rw [← e, upd_same] at hpl; cases hpl
  have npt : tl ≠ pl := fun e => by rw [← e, upd_ne ntp.symm, upd_same] at hpl; cases hpl
  have hpl0 : H pl = none := by
    rw [upd_ne npp.symm, upd_ne npt.symm, upd_ne npp.symm, upd_ne npp.symm] at hpl
    exact hpl
  walk_at "go"
  have l3' := l3 tl
  refine ⟨p, C, dx, putF fTold (.ref tl) (putF fOp (.str op) (putF fOff (.int off) [])), rfl, by rw [upd_ne npp]; exact upd_same, D.cl, D.n4, by omega, ?_⟩
  walk_at "go"
  refine q _ tl pl htl0 hpl0 npt upd_same ?_ ?_ fun b o hb e => ?_
  · rw [upd_ne ntp.symm, upd_ne npt, upd_ne ntp.symm, upd_same]
  · rw [upd_ne npp.symm, upd_same]
  · have nb1 : b ≠ tl := fun e' => by rw [e', htl0] at e; cases e
    have nb2 : b ≠ pl := fun e' => by rw [e', hpl0] at e; cases e
    rw [upd_ne hb, upd_ne nb2, upd_ne hb, upd_ne nb1, upd_ne hb, upd_ne hb]
    exact e
def spRd : Sp := fun vs H Q _ => ∃ (t : Tk), vs = [.str t.kind, .str (tkS t)] ∧ Q (.str (rdOp t)) H
abbrev s_read_op : Stmt := top 52
theorem sc_read_op : FnScope ["kind", "signs"] ["kind", "signs"] (defScope s_read_op) := ⟨rfl, rfl, rfl, by decide +kernel, rfl, by decide +kernel, by decide +kernel⟩
theorem has_read_op (O : OwnF K mg "read_op" s_read_op) : HasF P w K mg base CX0 1 "read_op" ["kind", "signs"] spRd := by
  refine has0 O sc_read_op (fun _ _ _ _ _ _ us hl => match us, hl with | [_, _], _ => rfl) (fun vs H Q E h => ?_) (fun f cdv A outer s_ H vs Q E hr h => ?_)
  · obtain ⟨t, rfl, _⟩ := h
    rfl
  obtain ⟨t, rfl, q⟩ := h
  refine ⟨_, (pss_cons (ps_if (pt_cmpR (kEqG K (hU hr)) (pv 0) pe_str (nomark _)) (pss_one (ps_ret pe_str)) pss_nil) (pss_one (ps_ret (pe_ifExp (pt_cmpR (kEqG K (hU hr)) (pv 1) pe_str (nomark _)) pe_str (pv 1))))), ?_⟩
  refine st0 [some (.str t.kind), some (.str (tkS t))] rfl ?_
  walk_at "go"
  refine rd_split (fun c => ?_) (fun c => ?_)
  · walk_at "go"
    have e : rdOp t = Str.ofString "row" := by
      unfold rdOp
      rw [if_pos (show t.kind = kB from c)]
    rw [e] at q
    exact q
  walk_at "go"
  refine rd_split (fun c2 => ?_) (fun c2 => ?_)
  · walk_at "go"
    have e : rdOp t = Str.ofString "" := by
      unfold rdOp
      rw [if_neg (show ¬ t.kind = kB from c)]
      exact if_pos c2
    rw [e] at q
    exact q
  walk_at "go"
  have e : rdOp t = tkS t := by
    unfold rdOp
    rw [if_neg (show ¬ t.kind = kB from c)]
    exact if_neg c2
  rw [e] at q
  exact q
end
end Mine

/-! ### T9 -/
namespace Mine
open PySem PySem.Spec L2
local macro_rules | `(tactic| walk_at "st") => `(tactic| (with_reducible apply iteF))
local macro_rules | `(tactic| walk_at "st") => `(tactic| (with_reducible apply iteT))
local macro_rules | `(tactic| walk_at "st") => `(tactic| (with_reducible apply rd_ipI))
local macro_rules | `(tactic| walk_at "st") => `(tactic| ((with_reducible apply rd_aug); exact rfl))
local macro_rules | `(tactic| walk_at "st") => `(tactic| (with_reducible apply rd_par3_end))
local macro_rules | `(tactic| walk_at "st") => `(tactic| (with_reducible apply rd_par3))
local macro_rules | `(tactic| walk_at "st") => `(tactic| (with_reducible apply u_mul; focus exact Or.inr cm))
local macro_rules | `(tactic| walk_at "st") => `(tactic| ((with_reducible apply u_pow); (focus (exact ⟨by decide, by decide, by decide⟩))))
local macro_rules | `(tactic| walk_at "st") => `(tactic| (with_reducible apply rd_yes))
local macro_rules | `(tactic| walk_at "st") => `(tactic| (with_reducible apply rd_lc))
local macro_rules | `(tactic| walk_at "st") => `(tactic| ((with_reducible apply rd_itT); (focus first | assumption | exact SqT.of (by assumption) | exact SqT.of upd_same)))
local macro_rules | `(tactic| walk_at "st") => `(tactic| ((with_reducible apply rd_itL); (focus first | assumption | exact SqL.of (by assumption) | exact SqL.of upd_same)))
local macro_rules | `(tactic| walk_at "st") => `(tactic| ((with_reducible apply u_isi); (focus (first | exact Or.inl rfl | exact Or.inr (Or.inl rfl) | exact Or.inr (Or.inr (Or.inl rfl)) | exact Or.inr (Or.inr (Or.inr rfl)))); (focus first | assumption | exact Rp.int _ | exact Rp.str _)))
local macro_rules | `(tactic| walk_at "st") => `(tactic| (with_reducible apply rd_istrE))
local macro_rules | `(tactic| walk_at "st") => `(tactic| (with_reducible apply rd_istr))
local macro_rules | `(tactic| walk_at "st") => `(tactic| ((with_reducible apply rd_seqT); (focus first | assumption | exact SqT.of (by assumption) | exact SqT.of upd_same)))
local macro_rules | `(tactic| walk_at "st") => `(tactic| ((with_reducible apply rd_seqL); (focus first | assumption | exact SqL.of (by assumption) | exact SqL.of upd_same)))
local macro_rules | `(tactic| walk_at "st") => `(tactic| (with_reducible apply rd_iSeq))
local macro_rules | `(tactic| walk_at "st") => `(tactic| (with_reducible apply u_notInS))
local macro_rules | `(tactic| walk_at "st") => `(tactic| (with_reducible apply u_inS))
local macro_rules | `(tactic| walk_at "st") => `(tactic| (with_reducible apply u_notInD))
local macro_rules | `(tactic| walk_at "st") => `(tactic| (with_reducible apply u_inD))
local macro_rules | `(tactic| walk_at "st") => `(tactic| (with_reducible apply rd_callS))
local macro_rules | `(tactic| walk_at "st") => `(tactic| (with_reducible apply rd_raiseE))
local macro_rules | `(tactic| walk_at "st") => `(tactic| (with_reducible apply rd_xf))
local macro_rules | `(tactic| walk_at "st") => `(tactic| (with_reducible apply g_neB))
local macro_rules | `(tactic| walk_at "st") => `(tactic| (with_reducible apply g_neS))
local macro_rules | `(tactic| walk_at "st") => `(tactic| (with_reducible apply g_neI))
local macro_rules | `(tactic| walk_at "st") => `(tactic| (with_reducible apply g_eqS))
local macro_rules | `(tactic| walk_at "st") => `(tactic| (with_reducible apply g_eqI))
local macro_rules | `(tactic| walk_at "st") => `(tactic| (with_reducible apply rd_retN))
local macro_rules | `(tactic| walk_at "st") => `(tactic| (with_reducible apply rd_gnil))
local macro_rules | `(tactic| walk_at "st") => `(tactic| (with_reducible apply rd_gcons))
local macro_rules | `(tactic| walk_at "st") => `(tactic| ((with_reducible apply rd_rng2e); (focus omega)))
local macro_rules | `(tactic| walk_at "st") => `(tactic| ((with_reducible apply rd_rng1e); (focus omega); (focus omega)))
local macro_rules | `(tactic| walk_at "st") => `(tactic| (with_reducible apply rd_rng2))
local macro_rules | `(tactic| walk_at "st") => `(tactic| (with_reducible apply rd_rng1))
local macro_rules | `(tactic| walk_at "st") => `(tactic| (with_reducible apply rd_for))
local macro_rules | `(tactic| walk_at "st") => `(tactic| (with_reducible apply rd_iTup))
local macro_rules | `(tactic| walk_at "st") => `(tactic| (with_reducible apply rd_iList))
local macro_rules | `(tactic| walk_at "st") => `(tactic| (with_reducible apply rd_rev))
local macro_rules | `(tactic| walk_at "st") => `(tactic| (with_reducible apply u_min3))
local macro_rules | `(tactic| walk_at "st") => `(tactic| ((with_reducible apply rd_tyL); focus (first | exact SqL.of (by assumption) | exact SqL.of upd_same)))
local macro_rules | `(tactic| walk_at "st") => `(tactic| (with_reducible apply rd_bm0))
local macro_rules | `(tactic| walk_at "st") => `(tactic| (with_reducible apply rd_bm))
local macro_rules | `(tactic| walk_at "st") => `(tactic| ((with_reducible apply rd_truL); focus (first | assumption | exact SqL.of (by assumption) | exact SqL.of upd_same)))
local macro_rules | `(tactic| walk_at "st") => `(tactic| (with_reducible apply rd_truB))
local macro_rules | `(tactic| walk_at "st") => `(tactic| (with_reducible apply rd_tru))
local macro_rules | `(tactic| walk_at "st") => `(tactic| (with_reducible apply rd_chain3))
local macro_rules | `(tactic| walk_at "st") => `(tactic| ((with_reducible apply u_setL); (focus (first | assumption | exact upd_same)); exact rfl))
local macro_rules | `(tactic| walk_at "st") => `(tactic| ((with_reducible apply u_lenT); focus (first | assumption | exact SqT.of (by assumption) | exact SqT.of upd_same)))
local macro_rules | `(tactic| walk_at "st") => `(tactic| ((with_reducible apply u_lenL); focus (first | assumption | exact SqL.of (by assumption) | exact SqL.of upd_same)))
local macro_rules | `(tactic| walk_at "st") => `(tactic| ((with_reducible apply u_ixL); (focus (first | assumption | exact SqL.of (by assumption) | exact SqL.of upd_same)); exact rfl))
local macro_rules | `(tactic| walk_at "st") => `(tactic| ((with_reducible apply u_mul); focus first | exact Or.inl (by omega) | exact Or.inr (by omega) | exact Or.inl (by decide) | exact Or.inr (by decide)))
local macro_rules | `(tactic| walk_at "st") => `(tactic| ((with_reducible apply u_div); focus first | decide | omega | (constructor <;> first | assumption | omega)))
local macro_rules | `(tactic| walk_at "st") => `(tactic| ((with_reducible apply u_mod); focus first | assumption | decide | omega))
local macro_rules | `(tactic| walk_at "st") => `(tactic| (with_reducible apply u_neg))
local macro_rules | `(tactic| walk_at "st") => `(tactic| (with_reducible apply u_min))
local macro_rules | `(tactic| walk_at "st") => `(tactic| (with_reducible apply u_max))
local macro_rules | `(tactic| walk_at "st") => `(tactic| (with_reducible apply u_intB))
local macro_rules | `(tactic| walk_at "st") => `(tactic| (with_reducible apply u_int))
local macro_rules | `(tactic| walk_at "st") => `(tactic| (with_reducible apply u_neI))
local macro_rules | `(tactic| walk_at "st") => `(tactic| (with_reducible apply u_eqS))
local macro_rules | `(tactic| walk_at "st") => `(tactic| (with_reducible apply u_eqI))
local macro_rules | `(tactic| walk_at "st") => `(tactic| (with_reducible apply u_ge))
local macro_rules | `(tactic| walk_at "st") => `(tactic| (with_reducible apply u_gt))
local macro_rules | `(tactic| walk_at "st") => `(tactic| (with_reducible apply u_le))
local macro_rules | `(tactic| walk_at "st") => `(tactic| (with_reducible apply u_lt))
local macro_rules | `(tactic| walk_at "st") => `(tactic| (with_reducible apply u_sub))
local macro_rules | `(tactic| walk_at "st") => `(tactic| (with_reducible apply u_add))
local macro_rules | `(tactic| walk_at "st") => `(tactic| (with_reducible apply rd_ct))
local macro_rules | `(tactic| walk_at "st") => `(tactic| (with_reducible apply rd_brk))
local macro_rules | `(tactic| walk_at "st") => `(tactic| (with_reducible apply rd_tB))
local macro_rules | `(tactic| walk_at "st") => `(tactic| (with_reducible apply rd_chain))
local macro_rules | `(tactic| walk_at "st") => `(tactic| (with_reducible apply rd_notV))
local macro_rules | `(tactic| walk_at "st") => `(tactic| (with_reducible apply rd_orV))
local macro_rules | `(tactic| walk_at "st") => `(tactic| (with_reducible apply rd_andV))
local macro_rules | `(tactic| walk_at "st") => `(tactic| (with_reducible apply rd_not))
local macro_rules | `(tactic| walk_at "st") => `(tactic| (with_reducible apply rd_or))
local macro_rules | `(tactic| walk_at "st") => `(tactic| (with_reducible apply rd_and))
local macro_rules | `(tactic| walk_at "st") => `(tactic| (with_reducible apply rd_un))
local macro_rules | `(tactic| walk_at "st") => `(tactic| (with_reducible apply rd_par_end))
local macro_rules | `(tactic| walk_at "st") => `(tactic| (with_reducible apply rd_par))
local macro_rules | `(tactic| walk_at "st") => `(tactic| (with_reducible apply rd_gsub))
local macro_rules | `(tactic| walk_at "st") => `(tactic| (with_reducible apply rd_ife))
local macro_rules | `(tactic| walk_at "st") => `(tactic| (with_reducible apply rd_next))
local macro_rules | `(tactic| walk_at "st") => `(tactic| (with_reducible apply rd_drop))
local macro_rules | `(tactic| walk_at "st") => `(tactic| (with_reducible apply rd_lst))
local macro_rules | `(tactic| walk_at "st") => `(tactic| (with_reducible apply rd_tup))
local macro_rules | `(tactic| walk_at "st") => `(tactic| (with_reducible apply rd_call))
local macro_rules | `(tactic| walk_at "st") => `(tactic| (with_reducible apply rd_ret))
local macro_rules | `(tactic| walk_at "st") => `(tactic| (with_reducible apply rd_retE))
local macro_rules | `(tactic| walk_at "st") => `(tactic| (with_reducible apply rd_bl))
local macro_rules | `(tactic| walk_at "st") => `(tactic| (with_reducible apply rd_test))
local macro_rules | `(tactic| walk_at "st") => `(tactic| (with_reducible apply rd_if))
local macro_rules | `(tactic| walk_at "st") => `(tactic| (with_reducible apply rd_nil))
local macro_rules | `(tactic| walk_at "st") => `(tactic| (with_reducible apply rd_cons))
local macro_rules | `(tactic| walk_at "st") => `(tactic| (with_reducible apply rd_cb))
local macro_rules | `(tactic| walk_at "st") => `(tactic| (with_reducible apply rd_op))
local macro_rules | `(tactic| walk_at "st") => `(tactic| (with_reducible apply rd_gname))
local macro_rules | `(tactic| walk_at "st") => `(tactic| (with_reducible apply rd_asg))
local macro_rules | `(tactic| walk_at "st") => `(tactic| (with_reducible apply rd_seq))
local macro_rules | `(tactic| walk_at "st") => `(tactic| (with_reducible apply rd_c))
local macro_rules | `(tactic| walk_at "st") => `(tactic| ((with_reducible apply rd_var); exact rfl))
local macro_rules | `(tactic| walk_at "go") => `(tactic| repeat (walk_at "st"))
local macro_rules | `(tactic| walk_at "sp") => `(tactic| (first | refine rd_split (fun c => ?_) (fun c => ?_) | refine rd_splitN (fun c => ?_) (fun c => ?_) | refine rd_splitB (fun c => ?_) (fun c => ?_)))
local macro_rules | `(tactic| walk_at "nx") => `(tactic| repeat (first | (with_reducible apply iteF) | (with_reducible apply iteT) | (with_reducible apply rd_next)))

section
variable {P : Program} {w : World} {K : PySem.W.Frag} {mg : Str → Option Value} {base : Heap}
/-! # drafts in the heap -/
structure DrA where
  p : Addr
  dx : Addr
  tl : Addr
  pl : Addr
  off : Int
def dV : PyData → V
  | .int i => .int i
  | .str z => .str z
  | _ => .non
structure DsAt (H0 H : Hp) (C D O : Addr) (rs : List DrA) (s : List Dr × List Nat) : Prop where
  len : rs.length = s.1.length
  same : Same H0 H
  hD : H D = some (.lst (rs.map fun r => V.ref r.p))
  hO : H O = some (.lst (s.2.map fun i => V.ref ((rs.map DrA.p).getD i 0)))
  ops : ∀ i ∈ s.2, i < rs.length
  ins : ∀ (i : Nat) r d, rs[i]? = some r → s.1[i]? = some d → H r.p = some (.ins C r.dx (fD r.off d.op r.tl r.pl)) ∧ H r.tl = some (.lst (d.td.map dV)) ∧ H r.pl = some (.lst (d.ps.map fun n : Nat => V.int n))
  new : ∀ r ∈ rs, H0 r.p = none ∧ H0 r.tl = none ∧ H0 r.pl = none
  nD : H0 D = none
  nO : H0 O = none
  tt : ∀ (i j : Nat) a b, rs[i]? = some a → rs[j]? = some b → a.tl = b.tl → i = j
  pp : ∀ (i j : Nat) a b, rs[i]? = some a → rs[j]? = some b → a.pl = b.pl → i = j
  tp : ∀ a ∈ rs, ∀ b ∈ rs, a.tl ≠ b.pl
  tD : ∀ a ∈ rs, a.tl ≠ D ∧ a.tl ≠ O ∧ a.pl ≠ D ∧ a.pl ≠ O
  dO : D ≠ O
section
variable {H0 H : Hp} {C D O : Addr} {rs : List DrA} {ds : List Dr} {op : List Nat}
theorem DsAt.at' (h : DsAt H0 H C D O rs (ds, op)) {i : Nat} {r : DrA} (hr : rs[i]? = some r) : ∃ d, ds[i]? = some d := by
  have := lt_of_get hr
  have hl : rs.length = ds.length := h.len
  exact ⟨_, List.getElem?_eq_getElem (by omega)⟩
theorem DsAt.pne (h : DsAt H0 H C D O rs (ds, op)) {i : Nat} {r : DrA} (hr : rs[i]? = some r) {x : Addr} {ys : List V} (hx : H x = some (.lst ys)) : r.p ≠ x := fun e => by
  obtain ⟨d, hd⟩ := h.at' hr
  have := (h.ins i r d hr hd).1
  rw [e, hx] at this
  cases this
theorem updN_get {l : List Dr} {k : Nat} {f : Dr → Dr} {d : Dr} (hd : l[k]? = some d) (i : Nat) : (updN l k f)[i]? = if i = k then some (f d) else l[i]? := by
  have hk := lt_of_get hd
  unfold updN
  rw [hd]
  show (l.set k (f d))[i]? = _
  rw [List.getElem?_set]
  by_cases c : i = k
  · subst c
    rw [if_pos rfl, if_pos hk, if_pos rfl]
  · rw [if_neg (Ne.symm c), if_neg c]
/-- a told thing more -/
theorem DsAt.tell (h : DsAt H0 H C D O rs (ds, op)) {k : Nat} {r : DrA} {d : Dr} (hr : rs[k]? = some r) (hd : ds[k]? = some d) (x : PyData) :
    DsAt H0 (upd H r.tl (.lst (d.td.map dV ++ [dV x]))) C D O rs (updN ds k fun d => { d with td := d.td ++ [x] }, op) := by
  have hrm := List.mem_of_getElem? hr
  obtain ⟨i1, i2, i3⟩ := h.ins k r d hr hd
  have nd := h.tD r hrm
  refine ⟨by rw [h.len]; exact (updN_len _ _ _).symm, Same.upd_new h.same (h.new r hrm).2.1, by rw [upd_ne nd.1.symm]; exact h.hD, by rw [upd_ne nd.2.1.symm]; exact h.hO, h.ops, fun i a e ha he => ?_, h.new, h.nD, h.nO, h.tt, h.pp, h.tp, h.tD, h.dO⟩
  have he : (updN ds k fun d => { d with td := d.td ++ [x] })[i]? = some e := he
  rw [updN_get hd] at he
  have ham := List.mem_of_getElem? ha
  have n1 : a.p ≠ r.tl := h.pne ha i2
  have n3 : a.pl ≠ r.tl := fun z => h.tp r hrm a ham z.symm
  by_cases c : i = k
  · subst c
    rw [if_pos rfl] at he
    cases he
    rw [hr] at ha
    cases ha
    rw [upd_ne n1, upd_ne n3]
    refine ⟨i1, ?_, i3⟩
    rw [upd_same, List.map_append] <;> rfl
  · rw [if_neg c] at he
    obtain ⟨j1, j2, j3⟩ := h.ins i a e ha he
    have n2 : a.tl ≠ r.tl := fun z => c (h.tt i k a r ha hr z)
    rw [upd_ne n1, upd_ne n2, upd_ne n3]
    exact ⟨j1, j2, j3⟩
/-- a part more -/
theorem DsAt.part (h : DsAt H0 H C D O rs (ds, op)) {k : Nat} {r : DrA} {d : Dr} (hr : rs[k]? = some r) (hd : ds[k]? = some d) (n : Nat) :
    DsAt H0 (upd H r.pl (.lst ((d.ps.map fun n : Nat => V.int n) ++ [.int n]))) C D O rs (updN ds k fun d => { d with ps := d.ps ++ [n] }, op) := by
  have hrm := List.mem_of_getElem? hr
  obtain ⟨i1, i2, i3⟩ := h.ins k r d hr hd
  have nd := h.tD r hrm
  refine ⟨by rw [h.len]; exact (updN_len _ _ _).symm, Same.upd_new h.same (h.new r hrm).2.2, by rw [upd_ne nd.2.2.1.symm]; exact h.hD, by rw [upd_ne nd.2.2.2.symm]; exact h.hO, h.ops, fun i a e ha he => ?_, h.new, h.nD, h.nO, h.tt, h.pp, h.tp, h.tD, h.dO⟩
  have he : (updN ds k fun d => { d with ps := d.ps ++ [n] })[i]? = some e := he
  rw [updN_get hd] at he
  have ham := List.mem_of_getElem? ha
  have n1 : a.p ≠ r.pl := h.pne ha i3
  have n3 : a.tl ≠ r.pl := h.tp a ham r hrm
  by_cases c : i = k
  · subst c
    rw [if_pos rfl] at he
    cases he
    rw [hr] at ha
    cases ha
    rw [upd_ne n1, upd_ne n3]
    refine ⟨i1, i2, ?_⟩
    rw [upd_same, List.map_append] <;> rfl
  · rw [if_neg c] at he
    obtain ⟨j1, j2, j3⟩ := h.ins i a e ha he
    have n2 : a.pl ≠ r.pl := fun z => c (h.pp i k a r ha hr z)
    rw [upd_ne n1, upd_ne n2, upd_ne n3]
    exact ⟨j1, j2, j3⟩
/-- what is open -/
theorem DsAt.opened (h : DsAt H0 H C D O rs (ds, op)) {op' : List Nat} (ho : ∀ i ∈ op', i < rs.length) :
    DsAt H0 (upd H O (.lst (op'.map fun i => V.ref ((rs.map DrA.p).getD i 0)))) C D O rs (ds, op') := by
  refine ⟨h.len, Same.upd_new h.same h.nO, by rw [upd_ne h.dO]; exact h.hD, upd_same, ho, fun i a e ha he => ?_, h.new, h.nD, h.nO, h.tt, h.pp, h.tp, h.tD, h.dO⟩
  have ham := List.mem_of_getElem? ha
  obtain ⟨j1, j2, j3⟩ := h.ins i a e ha he
  have nd := h.tD a ham
  rw [upd_ne (h.pne ha h.hO), upd_ne nd.2.1, upd_ne nd.2.2.2]
  exact ⟨j1, j2, j3⟩
/-- a new draft -/
theorem DsAt.push (h : DsAt H0 H C D O rs (ds, op)) {x dx tl pl : Addr} {off : Int} {o : Str} {H' : Hp} (hx : H x = none) (hdx : H dx = none) (htl : (upd (upd H dx (.own x)) x (.ins C dx [])) tl = none) (hpl : (upd (upd H dx (.own x)) x (.ins C dx [])) pl = none) (ntp : tl ≠ pl)
    (e1 : H' x = some (.ins C dx (fD off o tl pl))) (e2 : H' tl = some (.lst [])) (e3 : H' pl = some (.lst [])) (keep : ∀ b o, b ≠ x → (upd (upd H dx (.own x)) x (.ins C dx [])) b = some o → H' b = some o) :
    DsAt H0 (upd H' D (.lst ((rs.map fun r => V.ref r.p) ++ [.ref x]))) C D O (rs ++ [⟨x, dx, tl, pl, off⟩]) (ds ++ [⟨o, [], []⟩], op) := by
  have kp : ∀ b o, H b = some o → H' b = some o := fun b o e => by
    have n1 : b ≠ x := fun z => by rw [z, hx] at e; cases e
    have n2 : b ≠ dx := fun z => by rw [z, hdx] at e; cases e
    exact keep b o n1 (by rw [upd_ne n1, upd_ne n2]; exact e)
  have ntx : tl ≠ x := fun z => by rw [z, upd_same] at htl; cases htl
  have npx : pl ≠ x := fun z => by rw [z, upd_same] at hpl; cases hpl
  have htl0 : H tl = none := by
    have n : tl ≠ dx := fun z => by rw [z, upd_ne (fun y => by rw [← z] at y; exact ntx y), upd_same] at htl; cases htl
    rw [upd_ne ntx, upd_ne n] at htl
    exact htl
  have hpl0 : H pl = none := by
    have n : pl ≠ dx := fun z => by rw [z, upd_ne (fun y => by rw [← z] at y; exact npx y), upd_same] at hpl; cases hpl
    rw [upd_ne npx, upd_ne n] at hpl
    exact hpl
  have free : ∀ b, H b = none → H0 b = none := fun b e => by
    cases z : H0 b with
    | none => rfl
    | some o => rw [h.same _ _ z] at e; cases e
  have same' : Same H0 H' := fun b o e => kp b o (h.same b o e)
  have hl : rs.length = ds.length := h.len
  have nx : D ≠ x := fun z => by have := h.hD; rw [z, hx] at this; cases this
  have nt : D ≠ tl := fun z => by have := h.hD; rw [z, htl0] at this; cases this
  have np : D ≠ pl := fun z => by have := h.hD; rw [z, hpl0] at this; cases this
  have mo : ∀ a ∈ rs, ∃ (i : Nat) (d : Dr), rs[i]? = some a ∧ ds[i]? = some d := fun a ha => by
    obtain ⟨i, hi⟩ := List.getElem?_of_mem ha
    obtain ⟨d, hd⟩ := h.at' hi
    exact ⟨i, d, hi, hd⟩
  have old : ∀ a ∈ rs, a.tl ≠ tl ∧ a.tl ≠ pl ∧ a.pl ≠ tl ∧ a.pl ≠ pl := fun a ha => by
    obtain ⟨i, d, hi, hd⟩ := mo a ha
    obtain ⟨_, j2, j3⟩ := h.ins i a d hi hd
    refine ⟨fun z => ?_, fun z => ?_, fun z => ?_, fun z => ?_⟩
    · rw [z, htl0] at j2; cases j2
    · rw [z, hpl0] at j2; cases j2
    · rw [z, htl0] at j3; cases j3
    · rw [z, hpl0] at j3; cases j3
  have snoc : ∀ (i : Nat) a, (rs ++ [(⟨x, dx, tl, pl, off⟩ : DrA)])[i]? = some a → (rs[i]? = some a) ∨ (i = rs.length ∧ a = ⟨x, dx, tl, pl, off⟩) := fun i a e => by
    rcases Nat.lt_or_ge i rs.length with c | c
    · rw [List.getElem?_append_left c] at e
      exact .inl e
    · have il := lt_of_get e
      rw [List.length_append] at il
      have ei : i = rs.length := by
        have : i < rs.length + 1 := il
        omega
      subst ei
      rw [List.getElem?_append_right c, Nat.sub_self] at e
      exact .inr ⟨rfl, (Option.some.inj e).symm⟩
  refine ⟨by simp [hl], Same.upd_new same' h.nD, ?_, ?_, fun i hi => ?_, fun i a e ha he => ?_, fun a ha => ?_, h.nD, h.nO, fun i j a b ha hb hab => ?_, fun i j a b ha hb hab => ?_, fun a ha b hb => ?_, fun a ha => ?_, h.dO⟩
  · rw [upd_same, List.map_append] <;> rfl
  · rw [upd_ne h.dO.symm, kp _ _ h.hO]
    congr 2
    refine List.map_congr_left fun i hi => ?_
    have := h.ops i hi
    rw [List.map_append, List.getD_eq_getElem?_getD, List.getD_eq_getElem?_getD, List.getElem?_append_left (by rw [List.length_map]; exact this)]
  · have := h.ops i hi
    rw [List.length_append]
    omega
  · rcases snoc i a ha with ha | ⟨rfl, rfl⟩
    · have il := lt_of_get ha
      have he : (ds ++ [(⟨o, [], []⟩ : Dr)])[i]? = some e := he
      rw [List.getElem?_append_left (by omega)] at he
      obtain ⟨j1, j2, j3⟩ := h.ins i a e ha he
      have nd := h.tD a (List.mem_of_getElem? ha)
      rw [upd_ne (h.pne ha h.hD), upd_ne nd.1, upd_ne nd.2.2.1]
      exact ⟨kp _ _ j1, kp _ _ j2, kp _ _ j3⟩
    · have he : (ds ++ [(⟨o, [], []⟩ : Dr)])[rs.length]? = some e := he
      rw [hl, List.getElem?_append_right (Nat.le_refl _), Nat.sub_self] at he
      obtain rfl := (Option.some.inj he).symm
      show upd H' D _ x = _ ∧ upd H' D _ tl = _ ∧ upd H' D _ pl = _
      rw [upd_ne nx.symm, upd_ne nt.symm, upd_ne np.symm]
      exact ⟨e1, e2, e3⟩
  · rcases List.mem_append.mp ha with ha | ha
    · exact h.new a ha
    · rw [List.mem_singleton.mp ha]
      exact ⟨free _ hx, free _ htl0, free _ hpl0⟩
  · rcases snoc i a ha with ha | ⟨rfl, rfl⟩ <;> rcases snoc j b hb with hb | ⟨rfl, rfl⟩
    · exact h.tt i j a b ha hb hab
    · exact absurd hab (old a (List.mem_of_getElem? ha)).1
    · exact absurd hab.symm (old b (List.mem_of_getElem? hb)).1
    · rfl
  · rcases snoc i a ha with ha | ⟨rfl, rfl⟩ <;> rcases snoc j b hb with hb | ⟨rfl, rfl⟩
    · exact h.pp i j a b ha hb hab
    · exact absurd hab (old a (List.mem_of_getElem? ha)).2.2.2
    · exact absurd hab.symm (old b (List.mem_of_getElem? hb)).2.2.2
    · rfl
  · rcases List.mem_append.mp ha with ha | ha <;> rcases List.mem_append.mp hb with hb | hb
    · exact h.tp a ha b hb
    · rw [List.mem_singleton.mp hb]
      exact (old a ha).2.1
    · rw [List.mem_singleton.mp ha]
      exact fun z => (old b hb).2.2.1 z.symm
    · rw [List.mem_singleton.mp ha, List.mem_singleton.mp hb]
      exact ntp
  · rcases List.mem_append.mp ha with ha | ha
    · exact h.tD a ha
    · rw [List.mem_singleton.mp ha]
      refine ⟨nt.symm, fun z => ?_, np.symm, fun z => ?_⟩
      · have z : tl = O := z
        have := h.hO
        rw [← z, htl0] at this
        cases this
      · have z : pl = O := z
        have := h.hO
        rw [← z, hpl0] at this
        cases this
end
/-- what is told stays small -/
def Few (n : Nat) (s : List Dr × List Nat) : Prop := s.1.length ≤ n ∧ s.2.length ≤ n ∧ ∀ d ∈ s.1, d.td.length ≤ n ∧ d.ps.length ≤ n
theorem updN_mem {l : List Dr} {k : Nat} {f : Dr → Dr} {d : Dr} (h : d ∈ updN l k f) : d ∈ l ∨ ∃ e ∈ l, d = f e := by
  unfold updN at h
  split at h
  · rename_i e he
    rcases List.mem_or_eq_of_mem_set h with h | rfl
    · exact .inl h
    · exact .inr ⟨e, List.mem_of_getElem? he, rfl⟩
  · exact .inl h
theorem Few.up {n : Nat} {s : List Dr × List Nat} (h : Few n s) : Few (n + 1) s := ⟨by have := h.1; omega, by have := h.2.1; omega, fun d hd => by have := h.2.2 d hd; omega⟩
theorem Few.step {n : Nat} {s : List Dr × List Nat} (h : Few n s) (p : Tk × Bool) : Few (n + 1) (dstep s p) := by
  have tellF : ∀ x, Few (n + 1) (tellD s.1 x, s.2) := fun x => by
    unfold tellD
    refine ⟨by show (updN _ _ _).length ≤ _; rw [updN_len]; have := h.1; omega, by have := h.2.1; show s.2.length ≤ _; omega, fun d hd => ?_⟩
    rcases updN_mem hd with hd | ⟨e, he, rfl⟩
    · have := h.2.2 d hd; omega
    · have := h.2.2 e he
      simp only [List.length_append, List.length_cons, List.length_nil]
      omega
  unfold dstep
  split
  · have hl := linkD_len s.1 s.2
    refine ⟨by show List.length (_ ++ _) ≤ _; rw [List.length_append, hl]; have := h.1; simp only [List.length_cons, List.length_nil]; omega, by have := h.2.1; show s.2.length ≤ _; omega, fun d hd => ?_⟩
    rcases List.mem_append.mp hd with hd | hd
    · unfold linkD at hd
      split at hd
      · rcases updN_mem hd with hd | ⟨e, he, rfl⟩
        · have := h.2.2 d hd; omega
        · have := h.2.2 e he
          simp only [List.length_append, List.length_cons, List.length_nil]
          omega
      · have := h.2.2 d hd; omega
    · rw [List.mem_singleton.mp hd]
      simp
  · split
    · exact tellF _
    · exact tellF _
    · split
      · refine ⟨by have := h.1; show s.1.length ≤ _; omega, by show List.length (_ ++ _) ≤ _; rw [List.length_append]; have := h.2.1; simp only [List.length_cons, List.length_nil]; omega, fun d hd => by have := h.2.2 d hd; omega⟩
      · split
        · refine ⟨by have := h.1; show s.1.length ≤ _; omega, by show s.2.dropLast.length ≤ _; rw [List.length_dropLast]; have := h.2.1; omega, fun d hd => by have := h.2.2 d hd; omega⟩
        · exact h.up
theorem few_fold : ∀ (l : List (Tk × Bool)) (n : Nat) (s : List Dr × List Nat), Few n s → Few (n + l.length) (l.foldl dstep s)
  | [], n, s, h => h
  | p :: r, n, s, h => by
    rw [List.foldl_cons, List.length_cons, show n + (r.length + 1) = n + 1 + r.length by omega]
    exact few_fold r (n + 1) _ (h.step p)
end
end Mine

/-! ### Y1 -/
namespace Mine
open PySem PySem.Spec L2
local macro_rules | `(tactic| walk_at "st") => `(tactic| (with_reducible apply iteF))
local macro_rules | `(tactic| walk_at "st") => `(tactic| (with_reducible apply iteT))
local macro_rules | `(tactic| walk_at "st") => `(tactic| ((with_reducible apply rd_tyF); (focus assumption)))
local macro_rules | `(tactic| walk_at "st") => `(tactic| (with_reducible apply rd_tupF))
local macro_rules | `(tactic| walk_at "st") => `(tactic| (with_reducible apply rd_bmT))
local macro_rules | `(tactic| walk_at "st") => `(tactic| (with_reducible apply rd_dc))
local macro_rules | `(tactic| walk_at "st") => `(tactic| (with_reducible apply u_notB))
local macro_rules | `(tactic| walk_at "st") => `(tactic| (with_reducible apply u_repB))
local macro_rules | `(tactic| walk_at "st") => `(tactic| (with_reducible apply u_isB))
local macro_rules | `(tactic| walk_at "st") => `(tactic| (with_reducible apply rd_nopart))
local macro_rules | `(tactic| walk_at "st") => `(tactic| (with_reducible apply rd_partI))
local macro_rules | `(tactic| walk_at "st") => `(tactic| (with_reducible apply rd_part))
local macro_rules | `(tactic| walk_at "st") => `(tactic| (with_reducible apply rd_sl))
local macro_rules | `(tactic| walk_at "st") => `(tactic| (with_reducible apply rd_disp1))
local macro_rules | `(tactic| walk_at "st") => `(tactic| (with_reducible apply rd_dput))
local macro_rules | `(tactic| walk_at "st") => `(tactic| (with_reducible apply rd_dget))
local macro_rules | `(tactic| walk_at "st") => `(tactic| (with_reducible apply rd_din))
local macro_rules | `(tactic| walk_at "st") => `(tactic| (with_reducible apply rd_dnew))
local macro_rules | `(tactic| walk_at "st") => `(tactic| ((with_reducible apply rd_gtup); (focus first | assumption | exact SqT.of (by assumption) | exact SqT.of upd_same); (focus rfl)))
local macro_rules | `(tactic| walk_at "st") => `(tactic| (with_reducible apply rd_lc2))
local macro_rules | `(tactic| walk_at "st") => `(tactic| (with_reducible apply rd_zip))
local macro_rules | `(tactic| walk_at "st") => `(tactic| ((with_reducible apply u_enL); (focus first | assumption | exact SqL.of (by assumption) | exact SqL.of upd_same)))
local macro_rules | `(tactic| walk_at "st") => `(tactic| ((with_reducible apply u_enT); (focus first | assumption | exact SqT.of (by assumption) | exact SqT.of upd_same)))
local macro_rules | `(tactic| walk_at "st") => `(tactic| (with_reducible apply rd_rng3))
local macro_rules | `(tactic| walk_at "st") => `(tactic| (with_reducible apply rd_rg1))
local macro_rules | `(tactic| walk_at "st") => `(tactic| (with_reducible apply rd_revR))
local macro_rules | `(tactic| walk_at "st") => `(tactic| (with_reducible apply rd_enA))
local macro_rules | `(tactic| walk_at "st") => `(tactic| (with_reducible apply rd_ipI))
local macro_rules | `(tactic| walk_at "st") => `(tactic| ((with_reducible apply rd_aug); exact rfl))
local macro_rules | `(tactic| walk_at "st") => `(tactic| (with_reducible apply rd_par3_end))
local macro_rules | `(tactic| walk_at "st") => `(tactic| (with_reducible apply rd_par3))
local macro_rules | `(tactic| walk_at "st") => `(tactic| (with_reducible apply u_mul; focus exact Or.inr cm))
local macro_rules | `(tactic| walk_at "st") => `(tactic| ((with_reducible apply u_pow); (focus (exact ⟨by decide, by decide, by decide⟩))))
local macro_rules | `(tactic| walk_at "st") => `(tactic| (with_reducible apply rd_yes))
local macro_rules | `(tactic| walk_at "st") => `(tactic| (with_reducible apply rd_lc))
local macro_rules | `(tactic| walk_at "st") => `(tactic| ((with_reducible apply rd_itT); (focus first | assumption | exact SqT.of (by assumption) | exact SqT.of upd_same)))
local macro_rules | `(tactic| walk_at "st") => `(tactic| ((with_reducible apply rd_itL); (focus first | assumption | exact SqL.of (by assumption) | exact SqL.of upd_same)))
local macro_rules | `(tactic| walk_at "st") => `(tactic| ((with_reducible apply u_isi); (focus (first | exact Or.inl rfl | exact Or.inr (Or.inl rfl) | exact Or.inr (Or.inr (Or.inl rfl)) | exact Or.inr (Or.inr (Or.inr rfl)))); (focus first | assumption | exact Rp.int _ | exact Rp.str _)))
local macro_rules | `(tactic| walk_at "st") => `(tactic| (with_reducible apply rd_istrE))
local macro_rules | `(tactic| walk_at "st") => `(tactic| (with_reducible apply rd_istr))
local macro_rules | `(tactic| walk_at "st") => `(tactic| ((with_reducible apply rd_seqT); (focus first | assumption | exact SqT.of (by assumption) | exact SqT.of upd_same)))
local macro_rules | `(tactic| walk_at "st") => `(tactic| ((with_reducible apply rd_seqL); (focus first | assumption | exact SqL.of (by assumption) | exact SqL.of upd_same)))
local macro_rules | `(tactic| walk_at "st") => `(tactic| (with_reducible apply rd_sfld))
local macro_rules | `(tactic| walk_at "st") => `(tactic| (with_reducible apply rd_make))
local macro_rules | `(tactic| walk_at "st") => `(tactic| (with_reducible apply rd_fld))
local macro_rules | `(tactic| walk_at "st") => `(tactic| (with_reducible apply rd_m1))
local macro_rules | `(tactic| walk_at "st") => `(tactic| (with_reducible apply rd_iSeq))
local macro_rules | `(tactic| walk_at "st") => `(tactic| (with_reducible apply u_notInS))
local macro_rules | `(tactic| walk_at "st") => `(tactic| (with_reducible apply u_inS))
local macro_rules | `(tactic| walk_at "st") => `(tactic| (with_reducible apply u_notInD))
local macro_rules | `(tactic| walk_at "st") => `(tactic| (with_reducible apply u_inD))
local macro_rules | `(tactic| walk_at "st") => `(tactic| (with_reducible apply rd_callS))
local macro_rules | `(tactic| walk_at "st") => `(tactic| (with_reducible apply rd_raiseE))
local macro_rules | `(tactic| walk_at "st") => `(tactic| (with_reducible apply rd_xf))
local macro_rules | `(tactic| walk_at "st") => `(tactic| (with_reducible apply g_neB))
local macro_rules | `(tactic| walk_at "st") => `(tactic| (with_reducible apply g_neS))
local macro_rules | `(tactic| walk_at "st") => `(tactic| (with_reducible apply g_neI))
local macro_rules | `(tactic| walk_at "st") => `(tactic| (with_reducible apply g_eqS))
local macro_rules | `(tactic| walk_at "st") => `(tactic| (with_reducible apply g_eqI))
local macro_rules | `(tactic| walk_at "st") => `(tactic| (with_reducible apply rd_retN))
local macro_rules | `(tactic| walk_at "st") => `(tactic| (with_reducible apply rd_gnil))
local macro_rules | `(tactic| walk_at "st") => `(tactic| (with_reducible apply rd_gcons))
local macro_rules | `(tactic| walk_at "st") => `(tactic| ((with_reducible apply rd_rng2e); (focus omega)))
local macro_rules | `(tactic| walk_at "st") => `(tactic| ((with_reducible apply rd_rng1e); (focus omega); (focus omega)))
local macro_rules | `(tactic| walk_at "st") => `(tactic| (with_reducible apply rd_rng2))
local macro_rules | `(tactic| walk_at "st") => `(tactic| (with_reducible apply rd_rng1))
local macro_rules | `(tactic| walk_at "st") => `(tactic| (with_reducible apply rd_for))
local macro_rules | `(tactic| walk_at "st") => `(tactic| (with_reducible apply rd_iTup))
local macro_rules | `(tactic| walk_at "st") => `(tactic| (with_reducible apply rd_iList))
local macro_rules | `(tactic| walk_at "st") => `(tactic| (with_reducible apply rd_rev))
local macro_rules | `(tactic| walk_at "st") => `(tactic| (with_reducible apply u_min3))
local macro_rules | `(tactic| walk_at "st") => `(tactic| ((with_reducible apply rd_tyL); focus (first | exact SqL.of (by assumption) | exact SqL.of upd_same)))
local macro_rules | `(tactic| walk_at "st") => `(tactic| (with_reducible apply rd_bm0))
local macro_rules | `(tactic| walk_at "st") => `(tactic| (with_reducible apply rd_bm))
local macro_rules | `(tactic| walk_at "st") => `(tactic| ((with_reducible apply rd_truL); focus (first | assumption | exact SqL.of (by assumption) | exact SqL.of upd_same)))
local macro_rules | `(tactic| walk_at "st") => `(tactic| (with_reducible apply rd_truB))
local macro_rules | `(tactic| walk_at "st") => `(tactic| (with_reducible apply rd_tru))
local macro_rules | `(tactic| walk_at "st") => `(tactic| (with_reducible apply rd_chain3))
local macro_rules | `(tactic| walk_at "st") => `(tactic| ((with_reducible apply u_setL); (focus (first | assumption | exact upd_same)); exact rfl))
local macro_rules | `(tactic| walk_at "st") => `(tactic| ((with_reducible apply u_lenT); focus (first | assumption | exact SqT.of (by assumption) | exact SqT.of upd_same)))
local macro_rules | `(tactic| walk_at "st") => `(tactic| ((with_reducible apply u_lenL); focus (first | assumption | exact SqL.of (by assumption) | exact SqL.of upd_same)))
local macro_rules | `(tactic| walk_at "st") => `(tactic| ((with_reducible apply u_ixL); (focus (first | assumption | exact SqL.of (by assumption) | exact SqL.of upd_same)); exact rfl))
local macro_rules | `(tactic| walk_at "st") => `(tactic| ((with_reducible apply u_mul); focus first | exact Or.inl (by omega) | exact Or.inr (by omega) | exact Or.inl (by decide) | exact Or.inr (by decide)))
local macro_rules | `(tactic| walk_at "st") => `(tactic| ((with_reducible apply u_div); focus first | decide | omega | (constructor <;> first | assumption | omega)))
local macro_rules | `(tactic| walk_at "st") => `(tactic| ((with_reducible apply u_mod); focus first | assumption | decide | omega))
local macro_rules | `(tactic| walk_at "st") => `(tactic| (with_reducible apply u_neg))
local macro_rules | `(tactic| walk_at "st") => `(tactic| (with_reducible apply u_min))
local macro_rules | `(tactic| walk_at "st") => `(tactic| (with_reducible apply u_max))
local macro_rules | `(tactic| walk_at "st") => `(tactic| (with_reducible apply u_intB))
local macro_rules | `(tactic| walk_at "st") => `(tactic| (with_reducible apply u_int))
local macro_rules | `(tactic| walk_at "st") => `(tactic| (with_reducible apply u_neI))
local macro_rules | `(tactic| walk_at "st") => `(tactic| (with_reducible apply u_eqS))
local macro_rules | `(tactic| walk_at "st") => `(tactic| (with_reducible apply u_eqI))
local macro_rules | `(tactic| walk_at "st") => `(tactic| (with_reducible apply u_ge))
local macro_rules | `(tactic| walk_at "st") => `(tactic| (with_reducible apply u_gt))
local macro_rules | `(tactic| walk_at "st") => `(tactic| (with_reducible apply u_le))
local macro_rules | `(tactic| walk_at "st") => `(tactic| (with_reducible apply u_lt))
local macro_rules | `(tactic| walk_at "st") => `(tactic| (with_reducible apply u_sub))
local macro_rules | `(tactic| walk_at "st") => `(tactic| (with_reducible apply u_add))
local macro_rules | `(tactic| walk_at "st") => `(tactic| (with_reducible apply rd_ct))
local macro_rules | `(tactic| walk_at "st") => `(tactic| (with_reducible apply rd_brk))
local macro_rules | `(tactic| walk_at "st") => `(tactic| (with_reducible apply rd_tB))
local macro_rules | `(tactic| walk_at "st") => `(tactic| (with_reducible apply rd_chain))
local macro_rules | `(tactic| walk_at "st") => `(tactic| (with_reducible apply rd_notV))
local macro_rules | `(tactic| walk_at "st") => `(tactic| (with_reducible apply rd_orV))
local macro_rules | `(tactic| walk_at "st") => `(tactic| (with_reducible apply rd_andV))
local macro_rules | `(tactic| walk_at "st") => `(tactic| (with_reducible apply rd_not))
local macro_rules | `(tactic| walk_at "st") => `(tactic| (with_reducible apply rd_or))
local macro_rules | `(tactic| walk_at "st") => `(tactic| (with_reducible apply rd_and))
local macro_rules | `(tactic| walk_at "st") => `(tactic| (with_reducible apply rd_un))
local macro_rules | `(tactic| walk_at "st") => `(tactic| (with_reducible apply rd_par_end))
local macro_rules | `(tactic| walk_at "st") => `(tactic| (with_reducible apply rd_par))
local macro_rules | `(tactic| walk_at "st") => `(tactic| (with_reducible apply rd_gsub))
local macro_rules | `(tactic| walk_at "st") => `(tactic| (with_reducible apply rd_ife))
local macro_rules | `(tactic| walk_at "st") => `(tactic| (with_reducible apply rd_next))
local macro_rules | `(tactic| walk_at "st") => `(tactic| (with_reducible apply rd_drop))
local macro_rules | `(tactic| walk_at "st") => `(tactic| (with_reducible apply rd_lst))
local macro_rules | `(tactic| walk_at "st") => `(tactic| (with_reducible apply rd_tup))
local macro_rules | `(tactic| walk_at "st") => `(tactic| (with_reducible apply rd_call))
local macro_rules | `(tactic| walk_at "st") => `(tactic| (with_reducible apply rd_ret))
local macro_rules | `(tactic| walk_at "st") => `(tactic| (with_reducible apply rd_retE))
local macro_rules | `(tactic| walk_at "st") => `(tactic| (with_reducible apply rd_bl))
local macro_rules | `(tactic| walk_at "st") => `(tactic| (with_reducible apply rd_test))
local macro_rules | `(tactic| walk_at "st") => `(tactic| (with_reducible apply rd_if))
local macro_rules | `(tactic| walk_at "st") => `(tactic| (with_reducible apply rd_nil))
local macro_rules | `(tactic| walk_at "st") => `(tactic| (with_reducible apply rd_cons))
local macro_rules | `(tactic| walk_at "st") => `(tactic| (with_reducible apply rd_cb))
local macro_rules | `(tactic| walk_at "st") => `(tactic| (with_reducible apply rd_op))
local macro_rules | `(tactic| walk_at "st") => `(tactic| (with_reducible apply rd_gname))
local macro_rules | `(tactic| walk_at "st") => `(tactic| (with_reducible apply rd_asg))
local macro_rules | `(tactic| walk_at "st") => `(tactic| (with_reducible apply rd_seq))
local macro_rules | `(tactic| walk_at "st") => `(tactic| (with_reducible apply rd_c))
local macro_rules | `(tactic| walk_at "st") => `(tactic| ((with_reducible apply rd_var); exact rfl))
local macro_rules | `(tactic| walk_at "go") => `(tactic| repeat (walk_at "st"))
local macro_rules | `(tactic| walk_at "sp") => `(tactic| (first | refine rd_split (fun c => ?_) (fun c => ?_) | refine rd_splitN (fun c => ?_) (fun c => ?_) | refine rd_splitB (fun c => ?_) (fun c => ?_)))
local macro_rules | `(tactic| walk_at "nx") => `(tactic| repeat (first | (with_reducible apply iteF) | (with_reducible apply iteT) | (with_reducible apply rd_next)))

section
variable {P : Program} {w : World} {K : PySem.W.Frag} {mg : Str → Option Value} {base : Heap}
theorem at_last {ws : List V} {v : V} : atI (ws ++ [v]) (-1) = some v := by
  unfold atI ixN
  rw [if_neg (by decide), if_pos (by rw [List.length_append]; show -((ws.length + 1 : Nat) : Int) ≤ -1; omega)]
  show (ws ++ [v])[(-1 + ((ws ++ [v]).length : Int)).toNat]? = some v
  rw [List.length_append, show (-1 + ((ws.length + [v].length : Nat) : Int)).toNat = ws.length by show (-1 + ((ws.length + 1 : Nat) : Int)).toNat = ws.length; omega]
  simp
theorem at_end {ws : List V} {v : V} (h : ws[ws.length - 1]? = some v) : atI ws (-1) = some v := by
  rcases List.eq_nil_or_concat ws with e | ⟨r, x, e⟩
  · rw [e] at h
    cases h
  · rw [List.concat_eq_append] at e
    rw [e] at h ⊢
    rw [at_last]
    rw [List.length_append] at h
    simpa using h
theorem shareHH {P : Hp → Prop} {G : Hp → Prop} {T : Prop} (main : ∀ H, P H → G H) (h : (∀ H, P H → G H) → T) : T := h main
theorem iteT' {p q : Prop} {b : Bool} (hb : b = true) (h : p) : if b = true then p else q := by
  subst hb
  exact iteT h
theorem iteF' {p q : Prop} {b : Bool} (hb : b = false) (h : q) : if b = true then p else q := by
  subst hb
  exact iteF h
theorem tkS_num {n : Nat} : tkS (.num n) = Str.ofString (toString (n : Int)) := by
  have h : (Str.ofString (toString (n : Int))).cps.toList = TL.numL n := TL.tl_num n
  show (⟨(TL.numL n).toArray⟩ : Str) = _
  rw [← h]
theorem DsAt.last {H0 H : Hp} {C D O : Addr} {rs : List DrA} {ds : List Dr} {op : List Nat} (h : DsAt H0 H C D O rs (ds, op)) (hn : ds ≠ []) : ∃ r d, rs[ds.length - 1]? = some r ∧ ds[ds.length - 1]? = some d ∧ rs.length - 1 < rs.length ∧ atI (rs.map fun r => V.ref r.p) (-1) = some (.ref r.p) ∧ (rs.map DrA.p).getD (ds.length - 1) 0 = r.p := by
  have hl : rs.length = ds.length := h.len
  have h0 : 0 < ds.length := List.length_pos_iff.mpr hn
  have e1 : rs[ds.length - 1]? = some rs[ds.length - 1] := List.getElem?_eq_getElem (by omega)
  have e2 : ds[ds.length - 1]? = some ds[ds.length - 1] := List.getElem?_eq_getElem (by omega)
  refine ⟨_, _, e1, e2, by omega, at_end ?_, ?_⟩
  · rw [List.length_map, List.getElem?_map, show rs.length - 1 = ds.length - 1 by rw [hl], e1] <;> rfl
  · rw [List.getD_eq_getElem?_getD, List.getElem?_map, e1] <;> rfl
theorem step_wd (ds : List Dr) (op : List Nat) (z : Str) : dstep (ds, op) (.wd z, false) = (tellD ds (.str z), op) := by
  unfold dstep
  rw [if_neg (show ¬ (false = true) by decide)]
theorem step_num (ds : List Dr) (op : List Nat) (n : Nat) : dstep (ds, op) (.num n, false) = (tellD ds (.int n), op) := by
  unfold dstep
  rw [if_neg (show ¬ (false = true) by decide)]
def spDr (C : Addr) (K : PySem.W.Frag) : Sp := fun vs H Q _ => ∃ (tb : Addr) (xs : List V) (l : List (Tk × Bool)), vs = [.ref tb] ∧ H tb = some (.lst xs) ∧ Toks K H xs l ∧ okDs ([], []) l ∧ l.length ≤ 24000 ∧
  ∀ (H' : Hp) (D O : Addr) (rs : List DrA), DsAt H H' C D O rs (l.foldl dstep ([], [])) → Q (.ref D) H'
abbrev s_drafted : Stmt := top 53
theorem sc_drafted : FnScope ["tokens", "drafts", "opened", "offset", "kind", "signs", "begins"] ["tokens"] (defScope s_drafted) := ⟨rfl, rfl, rfl, by decide +kernel, rfl, by decide +kernel, by decide +kernel⟩
theorem has_drafted {C : Addr} (O : OwnF K mg "drafted" s_drafted) (B : Bl mg) (DC : DrC K C) (h_Draft : HasM P w K mg base CX0 1 "Draft" C ["self", "offset", "op"] (spDi C)) (h_read_op : HasF P w K mg base CX0 1 "read_op" ["kind", "signs"] spRd) : HasF P w K mg base CX0 4 "drafted" ["tokens"] (spDr C K) := by
  refine has0 O sc_drafted (fun _ _ _ _ _ _ us hl => match us, hl with | [_], _ => rfl) (fun vs H Q E h => ?_) (fun f cdv A outer s_ H vs Q E hr h => ?_)
  · obtain ⟨tb, xs, l, rfl, _⟩ := h
    rfl
  obtain ⟨tb, xs, l, rfl, htb, hT, hok, h24, q⟩ := h
  have lx := hT.len
  refine ⟨_, (pss_cons (ps_set (i := 1) sc_drafted.nd rfl (by first | exact Or.inl rfl | exact Or.inr rfl) (pe_lst pa_nil)) (pss_cons (ps_set (i := 2) sc_drafted.nd rfl (by first | exact Or.inl rfl | exact Or.inr rfl) (pe_lst pa_nil)) (pss_cons (ps_for PassesOwn.never rfl (pi_listK K (pv 0)) (pg_tupK (n := 4) K rfl (pgs_cons (pg_name (i := 3) sc_drafted.nd rfl (by first | exact Or.inl rfl | exact Or.inr rfl)) (pgs_cons (pg_name (i := 4) sc_drafted.nd rfl (by first | exact Or.inl rfl | exact Or.inr rfl)) (pgs_cons (pg_name (i := 5) sc_drafted.nd rfl (by first | exact Or.inl rfl | exact Or.inr rfl)) (pgs_cons (pg_name (i := 6) sc_drafted.nd rfl (by first | exact Or.inl rfl | exact Or.inr rfl)) pgs_nil))))) (pss_one (ps_if (pt_truthK K (pv 6) (by intro _; rfl)) (pss_cons (ps_if (pt_truthK K (pv 2) (by intro _; rfl)) (pss_one (ps_expr (pe_bmK K PySem.F.plainAttrs_list PySem.F.slot_list_append PySem.F.type_list_append mt_append (pe_fldK K (pe_ix (kIx K) (pv 2) (pe_un un_neg pe_int) (fun _ _ => rfl))) (pa_cons (pe_callB (kLen K) (by rfl) B.len (by decide +kernel) (pa_cons (pv 1) pa_nil)) pa_nil)))) pss_nil) (pss_one (ps_expr (pe_bmK K PySem.F.plainAttrs_list PySem.F.slot_list_append PySem.F.type_list_append mt_append (pv 1) (pa_cons (pe_makeH h_Draft (hr.mono (by first | decide | omega)) (by rfl) pass0 (pa_cons (pv 3) (pa_cons (pe_callH h_read_op (hr.mono (by first | decide | omega)) (by rfl) pass0 (pa_cons (pv 4) (pa_cons (pv 5) pa_nil))) pa_nil))) pa_nil))))) (pss_one (ps_if (pt_cmpR (kEqG K (hU hr)) (pv 4) pe_str (nomark _)) (pss_one (ps_expr (pe_bmK K PySem.F.plainAttrs_list PySem.F.slot_list_append PySem.F.type_list_append mt_append (pe_fldK K (pe_ix (kIx K) (pv 1) (pe_un un_neg pe_int) (fun _ _ => rfl))) (pa_cons (pv 5) pa_nil)))) (pss_one (ps_if (pt_cmpR (kEqG K (hU hr)) (pv 4) pe_str (nomark _)) (pss_one (ps_expr (pe_bmK K PySem.F.plainAttrs_list PySem.F.slot_list_append PySem.F.type_list_append mt_append (pe_fldK K (pe_ix (kIx K) (pv 1) (pe_un un_neg pe_int) (fun _ _ => rfl))) (pa_cons (pe_callTy call_int_str (by rfl) B.int (by decide +kernel) (pa_cons (pv 5) pa_nil)) pa_nil)))) (pss_one (ps_if (pt_cmpR (kEqG K (hU hr)) (pv 4) pe_str (nomark _)) (pss_one (ps_expr (pe_bmK K PySem.F.plainAttrs_list PySem.F.slot_list_append PySem.F.type_list_append mt_append (pv 2) (pa_cons (pe_ix (kIx K) (pv 1) (pe_un un_neg pe_int) (fun _ _ => rfl)) pa_nil)))) (pss_one (ps_if (pt_cmpR (kEqG K (hU hr)) (pv 4) pe_str (nomark _)) (pss_one (ps_expr (pe_bm0K K PySem.F.plainAttrs_list PySem.F.slot_list_pop PySem.F.type_list_pop mt_pop (pv 2)))) pss_nil))))))))))) (pss_one (ps_ret (pv 1)))))), ?_⟩
  refine st0 [some (.ref tb), none, none, none, none, none, none] rfl ?_
  walk_at "go"
  refine ⟨lk rfl, fun D hD => ?_⟩
  walk_at "go"
  refine ⟨lk rfl, fun Oa hO => ?_⟩
  have s1 := Same.new (same_new hD (.lst [])) (o := .lst []) hO
  have nDO : D ≠ Oa := fun e => by rw [← e, upd_same] at hO; cases hO
  have hO0 : H Oa = none := by rw [upd_ne nDO.symm] at hO; exact hO
  have base0 : DsAt H (upd (upd H D (.lst [])) Oa (.lst [])) C D Oa [] ([], []) := ⟨rfl, s1, by rw [upd_ne nDO, upd_same] <;> rfl, by rw [upd_same] <;> rfl, (fun _ h => nomatch h), (fun i r d h => by simp at h), (fun _ h => nomatch h), hD, hO0, (fun i j a b h => by simp at h), (fun i j a b h => by simp at h), (fun _ h => nomatch h), (fun _ h => nomatch h), nDO⟩
  have htb1 := s1 _ _ htb
  generalize upd (upd H D (.lst [])) Oa (.lst []) = H1 at *
  walk_at "go"
  refine forL (xs := xs) (fun i σ H' => ∃ (rs : List DrA) (o3 o4 o5 o6 : Option V), σ = [some (.ref tb), some (.ref D), some (.ref Oa), o3, o4, o5, o6] ∧ DsAt H H' C D Oa rs ((l.take i).foldl dstep ([], [])) ∧ okDs ((l.take i).foldl dstep ([], [])) (l.drop i)) ⟨[], _, _, _, _, rfl, base0, hok⟩ ?_ ?_ ?_
  · rintro i σ H' hi ⟨rs, o3, o4, o5, o6, rfl, k1, k2⟩
    exact SqL.of (k1.same _ _ htb)
  · rintro i x σ H' hx ⟨rs, o3, o4, o5, o6, rfl, k1, k2⟩
    have il := lt_of_get hx
    rw [lx] at il
    have el : l[i]? = some l[i] := List.getElem?_eq_getElem il
    have hf := few_fold (l.take i) 0 ([], []) ⟨Nat.le_refl _, Nat.le_refl _, fun _ h => nomatch h⟩
    rw [Nat.zero_add, List.length_take, Nat.min_eq_left (by omega)] at hf
    have ef : (l.take (i + 1)).foldl dstep ([], []) = dstep ((l.take i).foldl dstep ([], [])) l[i] := by
      rw [List.take_add_one, el, List.foldl_append] <;> rfl
    have ed : l.drop i = l[i] :: l.drop (i + 1) := List.drop_eq_getElem_cons il
    obtain ⟨t, off, et, st⟩ := hT.get i _ el
    rw [ed] at k2
    obtain ⟨ok1, ok2⟩ := k2
    rw [← ef] at ok2
    rw [hx, Option.some.injEq] at et
    subst et
    have st' := Ext.of_same (K := K) k1.same _ _ st
    generalize l[i] = pz at *
    obtain ⟨tk, bg⟩ := pz
    obtain ⟨s, es⟩ : ∃ s, s = (l.take i).foldl dstep ([], []) := ⟨_, rfl⟩
    rw [← es] at k1 hf ef ok1
    obtain ⟨ds, op⟩ := s
    have st' : SqT K H' t [.int off, .str tk.kind, .str (tkS tk), .bl bg] := st'
    have fin : ∀ H2 rs2, DsAt H H2 C D Oa rs2 (dstep (ds, op) (tk, bg)) → DsAt H H2 C D Oa rs2 ((l.take (i + 1)).foldl dstep ([], [])) := fun H2 rs2 h => by rw [ef]; exact h
    walk_at "go"
    have hlr : rs.length = ds.length := k1.len
    have fd1 : ds.length ≤ i := hf.1
    have fd2 : op.length ≤ i := hf.2.1
    rcases (Bool.eq_false_or_eq_true bg) with eb | eb
    · refine iteT' eb ?_
      walk_at "go"
      apply shareHH (P := fun H2 => DsAt H H2 C D Oa rs (linkD ds op, op))
      case h =>
        intro key
        refine ⟨!(op.map fun i => V.ref ((rs.map DrA.p).getD i 0)).isEmpty, .inl ⟨_, SqL.of k1.hO, rfl⟩, ?_⟩
        rcases (show op = [] ∨ ∃ o' k, op = o' ++ [k] from by
          rcases List.eq_nil_or_concat op with e | ⟨r, x, e⟩
          · exact .inl e
          · exact .inr ⟨r, x, by rw [e, List.concat_eq_append]⟩) with eo | ⟨o', k, eo⟩
        · refine iteF' (by rw [eo] <;> rfl) ?_
          walk_at "go"
          have e : linkD ds op = ds := by
            rw [eo] <;> rfl
          obtain ⟨H2, eH⟩ : ∃ H2, H2 = H' := ⟨_, rfl⟩
          rw [← eH]
          refine key H2 ?_
          rw [e, eH]
          exact k1
        · refine iteT' (by rw [eo]; simp) ?_
          walk_at "go"
          have kr : k < rs.length := k1.ops k (by rw [eo]; simp)
          have er : rs[k]? = some rs[k] := List.getElem?_eq_getElem kr
          obtain ⟨d, hd⟩ := k1.at' er
          obtain ⟨i1, i2, i3⟩ := k1.ins k _ d er hd
          have ep : atI (op.map fun i => V.ref ((rs.map DrA.p).getD i 0)) (-1) = some (.ref rs[k].p) := by
            rw [eo, List.map_append]
            rw [show (List.map (fun i => V.ref ((rs.map DrA.p).getD i 0)) [k]) = [V.ref ((rs.map DrA.p).getD k 0)] from rfl, at_last, List.getD_eq_getElem?_getD, List.getElem?_map, er] <;> rfl
          have kp := k1.part er hd ds.length
          have hdm := hf.2.2 d (List.mem_of_getElem? hd)
          generalize rs[k] = r at *
          refine u_ixL (SqL.of k1.hO) ep ?_
          refine ⟨r.p, C, r.dx, _, .ref r.pl, rfl, i1, DC.cl, DC.n4, fD_parts _ _ _ _, .inl ⟨rfl, _, SqL.of i3⟩, ?_⟩
          walk_at "go"
          refine u_lenL (SqL.of k1.hD) ?_
          walk_at "go"
          rw [List.length_map, hlr]
          refine u_app i3 (ls (by rw [List.length_map]; omega)) ?_
          walk_at "go"
          have e : linkD ds op = updN ds k fun d => { d with ps := d.ps ++ [ds.length] } := by
            unfold linkD
            rw [eo, List.getLast?_concat]
          rw [← e] at kp
          generalize upd H' r.pl (.lst (List.map (fun n : Nat => V.int n) d.ps ++ [V.int ds.length])) = H2 at *
          exact key H2 kp
      case main =>
      intro H2 k2
      refine ⟨.inl ⟨rfl, _, SqL.of k2.hD⟩, ?_⟩
      walk_at "go"
      refine ⟨tk, rfl, ?_⟩
      walk_at "go"
      intro x dx hx hdx ndx
      refine ⟨x, dx, off, rdOp tk, rfl, upd_same, fun H3 tl pl htl hpl ntp e1 e2 e3 keep => ⟨rfl, ?_⟩⟩
      have kq := k2.push (off := off) (o := rdOp tk) hx hdx htl hpl ntp e1 e2 e3 keep
      have nx : D ≠ x := fun z => by have := k2.hD; rw [z, hx] at this; cases this
      have nd : D ≠ dx := fun z => by have := k2.hD; rw [z, hdx] at this; cases this
      have hD3 : H3 D = some (.lst (rs.map fun r => V.ref r.p)) := keep _ _ nx (by rw [upd_ne nx, upd_ne nd]; exact k2.hD)
      walk_at "go"
      refine u_app hD3 (ls (by rw [List.length_map]; omega)) ?_
      walk_at "go"
      refine ⟨rs ++ [⟨x, dx, tl, pl, off⟩], _, _, _, _, rfl, fin _ _ ?_, ok2⟩
      rw [eb, step_begin]
      exact kq
    · refine iteF' eb ?_
      walk_at "go"
      subst eb
      obtain ⟨ok3, ok4⟩ := ok1
      have ok3 := ok3 rfl
      cases tk with
      | wd z =>
        have hds : ds ≠ [] := ok3
        refine iteT' (show decide (kW = Str.ofString "word") = true by decide +kernel) ?_
        walk_at "go"
        obtain ⟨r, d, er, hd, _, ea, _⟩ := k1.last hds
        obtain ⟨i1, i2, i3⟩ := k1.ins _ r d er hd
        have hdm := hf.2.2 d (List.mem_of_getElem? hd)
        have kt := k1.tell er hd (.str z)
        refine u_ixL (SqL.of k1.hD) ea ?_
        refine ⟨r.p, C, r.dx, _, .ref r.tl, rfl, i1, DC.cl, DC.n3, fD_told _ _ _ _, .inl ⟨rfl, _, SqL.of i2⟩, ?_⟩
        walk_at "go"
        refine u_app i2 (ls (by rw [List.length_map]; omega)) ?_
        walk_at "go"
        refine ⟨rs, _, _, _, _, rfl, fin _ _ ?_, ok2⟩
        rw [step_wd]
        have et : tkS (.wd z) = z := TL.mk_tl z
        rw [et]
        exact kt
      | num n =>
        have hds : ds ≠ [] := ok3
        refine iteF' (show decide (kN = Str.ofString "word") = false by decide +kernel) ?_
        walk_at "go"
        refine iteT' (show decide (kN = Str.ofString "number") = true by decide +kernel) ?_
        walk_at "go"
        obtain ⟨r, d, er, hd, _, ea, _⟩ := k1.last hds
        obtain ⟨i1, i2, i3⟩ := k1.ins _ r d er hd
        have hdm := hf.2.2 d (List.mem_of_getElem? hd)
        have kt := k1.tell er hd (.int n)
        refine u_ixL (SqL.of k1.hD) ea ?_
        refine ⟨r.p, C, r.dx, _, .ref r.tl, rfl, i1, DC.cl, DC.n3, fD_told _ _ _ _, .inl ⟨rfl, _, SqL.of i2⟩, ?_⟩
        walk_at "go"
        have hl7 : (TL.numL n).length ≤ 7 := num_len ok4
        refine ⟨tkS (.num n), n, rfl, by rw [tkS_num]; exact TL.int_num (by omega), ?_, ?_⟩
        · show (TL.numL n).toArray.size ≤ 640
          rw [List.size_toArray]
          omega
        walk_at "go"
        refine u_app i2 (ls (by rw [List.length_map]; omega)) ?_
        walk_at "go"
        refine ⟨rs, _, _, _, _, rfl, fin _ _ ?_, ok2⟩
        rw [step_num]
        exact kt
      | sg c =>
        have hc : c ∈ signs5 := ok4
        have hc' : c = 91 ∨ c = 93 ∨ c = 40 ∨ c = 44 ∨ c = 41 := by simpa [signs5] using hc
        obtain ⟨ok5, ok6⟩ : (c = 40 → ds ≠ []) ∧ (c = 41 → op ≠ []) := ok3
        have w1 : decide ((⟨#[c]⟩ : Str) = Str.ofString "word") = false := by rcases hc' with rfl | rfl | rfl | rfl | rfl <;> decide +kernel
        have w2 : decide ((⟨#[c]⟩ : Str) = Str.ofString "number") = false := by rcases hc' with rfl | rfl | rfl | rfl | rfl <;> decide +kernel
        refine iteF' w1 ?_
        walk_at "go"
        refine iteF' w2 ?_
        walk_at "go"
        by_cases c1 : c = 40
        · subst c1
          have hds := ok5 rfl
          refine iteT' (show decide ((⟨#[40]⟩ : Str) = Str.ofString "(") = true by decide +kernel) ?_
          walk_at "go"
          obtain ⟨r, d, er, hd, hlt, ea, eg⟩ := k1.last hds
          refine ⟨.inl ⟨rfl, _, SqL.of k1.hO⟩, ?_⟩
          walk_at "go"
          refine u_ixL (SqL.of k1.hD) ea ?_
          walk_at "go"
          refine u_app k1.hO (ls (by rw [List.length_map]; exact Nat.le_trans fd2 (by omega))) ?_
          walk_at "go"
          refine ⟨rs, _, _, _, _, rfl, fin _ _ ?_, ok2⟩
          rw [step_sign, if_pos rfl]
          have ko := k1.opened (op' := op ++ [ds.length - 1]) (fun i hi => by
            rcases List.mem_append.mp hi with hi | hi
            · exact k1.ops i hi
            · rw [List.mem_singleton.mp hi]; omega)
          rw [List.map_append, List.map_cons, List.map_nil, eg] at ko
          exact ko
        · refine iteF' (show decide ((⟨#[c]⟩ : Str) = Str.ofString "(") = false by rcases hc' with rfl | rfl | rfl | rfl | rfl <;> first | exact absurd rfl c1 | decide +kernel) ?_
          walk_at "go"
          by_cases c2 : c = 41
          · subst c2
            have hop := ok6 rfl
            refine iteT' (show decide ((⟨#[41]⟩ : Str) = Str.ofString ")") = true by decide +kernel) ?_
            walk_at "go"
            obtain ⟨o', k, eo⟩ : ∃ o' k, op = o' ++ [k] := by
              rcases List.eq_nil_or_concat op with e | ⟨r, x, e⟩
              · exact absurd e hop
              · exact ⟨r, x, by rw [e, List.concat_eq_append]⟩
            refine ⟨.inl ⟨rfl, _, SqL.of k1.hO⟩, ?_⟩
            walk_at "go"
            refine u_pop k1.hO (y := .ref ((rs.map DrA.p).getD k 0)) (by rw [eo]; simp) ?_
            walk_at "go"
            refine ⟨rs, _, _, _, _, rfl, fin _ _ ?_, ok2⟩
            rw [step_sign, if_neg c1, if_pos rfl]
            have ko := k1.opened (op' := op.dropLast) (fun i hi => k1.ops i (List.dropLast_subset _ hi))
            rw [List.map_dropLast] at ko
            exact ko
          · refine iteF' (show decide ((⟨#[c]⟩ : Str) = Str.ofString ")") = false by rcases hc' with rfl | rfl | rfl | rfl | rfl <;> first | exact absurd rfl c2 | decide +kernel) ?_
            walk_at "go"
            refine ⟨rs, _, _, _, _, rfl, fin _ _ ?_, ok2⟩
            rw [step_sign, if_neg c1, if_neg c2]
            exact k1
  rintro σ H' ⟨rs, o3, o4, o5, o6, rfl, k1, k2⟩
  rw [lx, List.take_length] at k1
  walk_at "go"
  exact q H' D Oa rs k1
end

/-! ### Y2 -/
section
variable {P : Program} {w : World} {K : PySem.W.Frag} {mg : Str → Option Value} {base : Heap}
mutual
theorem drs_at : ∀ (j : Jn) (n k : Nat) o td ps, j.all[k]? = some (.mk o td ps) → (j.drs n)[k]? = some ⟨o, td, kids ps (n + k + 1)⟩
  | .mk o td ps, n, 0, o', td', ps', h => by
    simp only [Jn.all, List.getElem?_cons_zero] at h
    cases h
    simp [Jn.drs]
  | .mk o td ps, n, k + 1, o', td', ps', h => by
    simp only [Jn.all, List.getElem?_cons_succ] at h
    simp only [Jn.drs, List.getElem?_cons_succ]
    rw [drsl_at ps (n + 1) k _ _ _ h, show n + 1 + k = n + (k + 1) by omega]
theorem drsl_at : ∀ (l : List Jn) (n k : Nat) o td ps, (Jn.alls l)[k]? = some (.mk o td ps) → (Jn.drsl l n)[k]? = some ⟨o, td, kids ps (n + k + 1)⟩
  | [], n, k, o, td, ps, h => by simp [Jn.alls] at h
  | j :: r, n, k, o, td, ps, h => by
    simp only [Jn.alls] at h
    simp only [Jn.drsl]
    by_cases c : k < j.all.length
    · rw [List.getElem?_append_left c] at h
      rw [List.getElem?_append_left (by rw [drs_len, ← all_cnt]; exact c)]
      exact drs_at j n k _ _ _ h
    · rw [List.getElem?_append_right (by omega), all_cnt] at h
      rw [List.getElem?_append_right (by rw [drs_len, ← all_cnt]; omega), drs_len]
      rw [drsl_at r (n + j.cnt) (k - j.cnt) _ _ _ h, show n + j.cnt + (k - j.cnt) = n + k by rw [all_cnt] at c; omega]
end
mutual
theorem all_drop : ∀ (j : Jn) (k : Nat) (x : Jn), j.all[k]? = some x → ∃ r, j.all.drop k = x.all ++ r
  | .mk o td ps, 0, x, h => by
    simp only [Jn.all, List.getElem?_cons_zero] at h
    cases h
    exact ⟨[], by simp⟩
  | .mk o td ps, k + 1, x, h => by
    simp only [Jn.all, List.getElem?_cons_succ] at h
    simp only [Jn.all, List.drop_succ_cons]
    exact alls_drop ps k x h
theorem alls_drop : ∀ (l : List Jn) (k : Nat) (x : Jn), (Jn.alls l)[k]? = some x → ∃ r, (Jn.alls l).drop k = x.all ++ r
  | [], k, x, h => by simp [Jn.alls] at h
  | j :: l, k, x, h => by
    simp only [Jn.alls] at h ⊢
    by_cases c : k < j.all.length
    · rw [List.getElem?_append_left c] at h
      obtain ⟨r, e⟩ := all_drop j k x h
      exact ⟨r ++ Jn.alls l, by rw [List.drop_append_of_le_length (by omega), e, List.append_assoc]⟩
    · rw [List.getElem?_append_right (by omega)] at h
      obtain ⟨r, e⟩ := alls_drop l _ x h
      exact ⟨r, by rw [List.drop_append, List.drop_of_length_le (by omega), List.nil_append, e]⟩
end
theorem kids_at : ∀ (l : List Jn) (n q : Nat) (p : Jn), l[q]? = some p → ∃ k, (kids l n)[q]? = some (n + k) ∧ (Jn.alls l)[k]? = some p
  | [], n, q, p, h => by simp at h
  | j :: r, n, 0, p, h => by
    simp only [List.getElem?_cons_zero] at h
    cases h
    refine ⟨0, by simp [kids], ?_⟩
    simp only [Jn.alls]
    cases j
    simp [Jn.all]
  | j :: r, n, q + 1, p, h => by
    simp only [List.getElem?_cons_succ] at h
    obtain ⟨k, e1, e2⟩ := kids_at r (n + j.cnt) q p h
    refine ⟨j.cnt + k, ?_, ?_⟩
    · simp only [kids, List.getElem?_cons_succ]
      rw [e1, Nat.add_assoc]
    · simp only [Jn.alls]
      rw [List.getElem?_append_right (by rw [all_cnt]; omega), all_cnt, Nat.add_sub_cancel_left, e2]
theorem kids_len : ∀ (l : List Jn) (n : Nat), (kids l n).length = l.length
  | [], n => rfl
  | j :: r, n => by simp only [kids, List.length_cons, kids_len r]
theorem all_kid {j : Jn} {k : Nat} {o : Str} {td : List PyData} {ps : List Jn} (h : j.all[k]? = some (.mk o td ps)) {q : Nat} {p : Jn} (hp : ps[q]? = some p) : ∃ k', (kids ps (k + 1))[q]? = some k' ∧ k < k' ∧ j.all[k']? = some p := by
  obtain ⟨m, e1, e2⟩ := kids_at ps (k + 1) q p hp
  obtain ⟨r, er⟩ := all_drop j k _ h
  refine ⟨k + 1 + m, e1, by omega, ?_⟩
  have e3 : (j.all.drop k)[1 + m]? = some p := by
    have hl := lt_of_get e2
    rw [er]
    simp only [Jn.all, List.cons_append]
    rw [show 1 + m = m + 1 by omega, List.getElem?_cons_succ, List.getElem?_append_left hl, e2]
  rw [List.getElem?_drop] at e3
  rw [show k + 1 + m = k + (1 + m) by omega, e3]
theorem lcL {K : PySem.W.Frag} {a : Addr} {xs : List V} {g : TG} {tt : TT} {te : TE} {vs : List Nat} {σ : L2.St} {H1 : Hp} {D : Addr} {Qd : Hp → Prop} (Pv : Nat → Hp → Prop) (h0 : Pv 0 (upd H1 D (.lst []))) (hl : ∀ i H, i ≤ xs.length → Pv i H → SqL K H a xs)
    (hs : ∀ (i : Nat) (x : V) (H : Hp), xs[i]? = some x → Pv i H → g x (wipe σ vs) H fun σ2 H2 => wipe σ2 vs = wipe σ vs ∧ tt σ2 H2 fun b H3 =>
      if b = true then te σ2 H3 fun y H4 => ∃ acc, H4 D = some (.lst acc) ∧ acc.length < sizeLine ∧ Pv (i + 1) (upd H4 D (.lst (acc ++ [y]))) else Pv (i + 1) H3) (hd : ∀ H, Pv xs.length H → Qd H) :
    ∃ W : Nat → Nat → Hp → Prop, (∃ m, W 0 m (upd H1 D (.lst []))) ∧ ∀ i m H, W i m H →
      ((Itl K a).stop i H ∧ Qd H) ∨ ((Itl K a).go i H ∧ ∃ Nx : Hp → Prop, (∀ H', Nx H' → ∃ m', m' < m ∧ W (i + 1) m' H') ∧ ∀ x H', (Itl K a).yld i H x H' → g x (wipe σ vs) H' fun σ2 H2 => wipe σ2 vs = wipe σ vs ∧ tt σ2 H2 fun b H3 =>
        if b = true then te σ2 H3 fun y H4 => ∃ acc, H4 D = some (.lst acc) ∧ acc.length < sizeLine ∧ Nx (upd H4 D (.lst (acc ++ [y]))) else Nx H3) := by
  refine ⟨fun i m H => m = xs.length - i ∧ i ≤ xs.length ∧ Pv i H, ⟨xs.length, by simp, Nat.zero_le _, h0⟩, ?_⟩
  rintro i m H ⟨rfl, hi, pv⟩
  have sq := hl i H hi pv
  rcases Nat.lt_or_ge i xs.length with hlt | hge
  · refine .inr ⟨⟨xs, _, sq, List.getElem?_eq_getElem hlt⟩, Pv (i + 1), fun H' p' => ⟨xs.length - (i + 1), by omega, rfl, hlt, p'⟩, ?_⟩
    rintro v H' ⟨rfl, hx⟩
    exact hs i v H' (hx xs sq) pv
  · have : i = xs.length := by omega
    subst this
    exact .inl ⟨⟨xs, sq, Nat.le_refl _⟩, hd H pv⟩
theorem pys_map : ∀ l : List Jn, Jn.pys l = l.map Jn.py
  | [] => rfl
  | j :: r => by simp only [Jn.pys, List.map_cons, pys_map r]
theorem DsAt.mono {H0 H H' : Hp} {C D O : Addr} {rs : List DrA} {s : List Dr × List Nat} (h : DsAt H0 H C D O rs s) (e : Same H H') : DsAt H0 H' C D O rs s :=
  ⟨h.len, h.same.trans e, e _ _ h.hD, e _ _ h.hO, h.ops, fun i r d hr hd => ⟨e _ _ (h.ins i r d hr hd).1, e _ _ (h.ins i r d hr hd).2.1, e _ _ (h.ins i r d hr hd).2.2⟩, h.new, h.nD, h.nO, h.tt, h.pp, h.tp, h.tD, h.dO⟩
theorem cnts_ge : ∀ l : List Jn, l.length ≤ Jn.cnts l
  | [] => by simp [Jn.cnts]
  | j :: r => by
    have := cnts_ge r
    have := cnt_pos j
    simp only [List.length_cons, Jn.cnts]
    omega
theorem rps_dV {K : PySem.W.Frag} {H : Hp} : ∀ (td : List PyData), (∀ x ∈ td, TdO x) → Rps K H (td.map dV) td
  | [], _ => .nil
  | x :: r, h => by
    refine .cons ?_ (rps_dV r fun y hy => h y (List.mem_cons_of_mem _ hy))
    rcases h x List.mem_cons_self with ⟨n, rfl, _⟩ | ⟨z, rfl, _⟩
    · exact .int _
    · exact .str _
/-- the drafts' program -/
def spBu (C : Addr) (K : PySem.W.Frag) : Sp := fun vs H Q _ => ∃ (D O : Addr) (H0 : Hp) (rs : List DrA) (j : Jn), vs = [.ref D] ∧ DsAt H0 H C D O rs (j.drs 0, []) ∧ Fx j ∧ j.cnt ≤ 1000 ∧ ∀ (H' : Hp) (v : V), Same H H' → Rp K H' v j.py → Q v H'
abbrev s_built : Stmt := top 54
theorem sc_built : FnScope ["drafts", "done", "number", "draft", "parts", "part"] ["drafts"] (defScope s_built) := ⟨rfl, rfl, rfl, by decide +kernel, rfl, by decide +kernel, by decide +kernel⟩
theorem has_built {C : Addr} (O : OwnF K mg "built" s_built) (B : Bl mg) (BR : mg "reversed" = none) (DC : DrC K C) : HasF P w K mg base CX0 1 "built" ["drafts"] (spBu C K) := by
  refine has0 O sc_built (fun _ _ _ _ _ _ us hl => match us, hl with | [_], _ => rfl) (fun vs H Q E h => ?_) (fun f cdv A outer s_ H vs Q E hr h => ?_)
  · obtain ⟨D, O, H0, rs, j, rfl, _⟩ := h
    rfl
  obtain ⟨D, Oa, H0, rs, j, rfl, k1, fx, hn, q⟩ := h
  have hl : rs.length = j.cnt := by rw [k1.len]; exact drs_len j 0
  refine ⟨_, (pss_cons (ps_set (i := 1) sc_built.nd rfl (by first | exact Or.inl rfl | exact Or.inr rfl) (pe_op (kMul K) (pe_lst (pa_cons (pe_tup pa_nil) pa_nil)) (pe_callB (kLen K) (by rfl) B.len (by decide +kernel) (pa_cons (pv 0) pa_nil)))) (pss_cons (ps_for PassesOwn.never rfl (pi_revR (by rfl) BR (prg_1 (by rfl) B.range (pe_callB (kLen K) (by rfl) B.len (by decide +kernel) (pa_cons (pv 0) pa_nil)))) (pg_name (i := 2) sc_built.nd rfl (by first | exact Or.inl rfl | exact Or.inr rfl)) (pss_cons (ps_set (i := 3) sc_built.nd rfl (by first | exact Or.inl rfl | exact Or.inr rfl) (pe_ix (kIx K) (pv 0) (pv 2) (fun _ _ => rfl))) (pss_cons (ps_setLc (i := 4) (own := [("part", 5)]) (g := gName 5) (tt := tYes) rfl sc_built.nd rfl rfl (sw_true rfl rfl rfl (by decide +kernel)) (pi_listK K (pe_fldK K (pv 3))) (blkOk_by (own := [("part", 5)]) (N := ["drafts", "done", "number", "draft", "parts", "part"]) (sc := defScope s_built) (by decide +kernel)) (fun _ _ _ _ _ => (pg_name (i := 5) sc_built.nd rfl (by first | exact Or.inl rfl | exact Or.inr rfl))) (fun _ _ _ _ _ => pts_nil) (fun _ _ _ _ _ => (pe_ix (kIx K) (pv 1) (pv 5) (fun _ _ => rfl)))) (pss_one (ps_asg (pe_tup (pa_cons (pe_fldK K (pv 3)) (pa_cons (pe_callTy (kTup K) (by rfl) B.tuple (by decide +kernel) (pa_cons (pe_fldK K (pv 3)) pa_nil)) (pa_cons (pe_callTy (kTup K) (by rfl) B.tuple (by decide +kernel) (pa_cons (pv 4) pa_nil)) pa_nil)))) (pg_sub (pv 1) (pv 2) set_list)))))) (pss_one (ps_ret (pe_ix (kIx K) (pv 1) pe_int (fun _ _ => rfl)))))), ?_⟩
  refine st0 [some (.ref D), none, none, none, none, none] rfl ?_
  have hc := cnt_pos j
  walk_at "go"
  refine ⟨lk rfl, fun pe hpe => ?_⟩
  walk_at "go"
  refine ⟨lk rfl, fun pz hpz => ?_⟩
  walk_at "go"
  have s2 : Same H (upd (upd H pe (.tup [])) pz (.lst [.ref pe])) := Same.new (same_new hpe _) hpz
  refine u_lenL (SqL.of (s2 _ _ k1.hD)) ?_
  rw [List.length_map, hl]
  refine u_rep1 upd_same (by omega) fun pf hpf => ?_
  have s3 : Same H (upd (upd (upd H pe (.tup [])) pz (.lst [.ref pe])) pf (.lst (List.replicate j.cnt (.ref pe)))) := Same.new s2 hpf
  have hpf1 : H pf = none := by
    cases z : H pf with
    | none => rfl
    | some o => rw [s2 _ _ z] at hpf; cases hpf
  have f0 : (upd (upd (upd H pe (.tup [])) pz (.lst [.ref pe])) pf (.lst (List.replicate j.cnt (.ref pe)))) pf = some (.lst (List.replicate j.cnt (.ref pe))) := upd_same
  generalize upd (upd (upd H pe (.tup [])) pz (.lst [.ref pe])) pf (.lst (List.replicate j.cnt (.ref pe))) = H3 at *
  walk_at "go"
  refine u_lenL (SqL.of (s3 _ _ k1.hD)) ?_
  rw [List.length_map, hl]
  refine ⟨_, rfl, by omega, by omega, by omega, by omega, ?_⟩
  rw [show ((j.cnt : Int) - 0).toNat = j.cnt by omega]
  refine forC (fun i σ H' => ∃ (ws : List V) (o2 o3 o4 o5 : Option V), σ = [some (.ref D), some (.ref pf), o2, o3, o4, o5] ∧ Same H H' ∧ H' pf = some (.lst ws) ∧ ws.length = j.cnt ∧ ∀ k x, j.all[k]? = some x → j.cnt - i ≤ k → ∃ v, ws[k]? = some v ∧ Rp K H' v x.py)
    ⟨_, _, _, _, _, rfl, s3, f0, by rw [List.length_replicate], fun k x hx hk => by have := lt_of_get hx; rw [all_cnt] at this; omega⟩ ?_ ?_
  · rintro i σ H4 hi ⟨ws, o2, o3, o4, o5, rfl, g1, g2, g3, g4⟩
    obtain ⟨n, en⟩ : ∃ n, n = j.cnt - 1 - i := ⟨_, rfl⟩
    have hn2 : n < j.cnt := by omega
    have ex : (0 + ((j.cnt : Nat) : Int) - 1 + (i : Int) * -1) = (n : Int) := by omega
    obtain ⟨w0, hw⟩ : ∃ w0, j.all[n]? = some w0 := ⟨_, List.getElem?_eq_getElem (by rw [all_cnt]; exact hn2)⟩
    obtain ⟨o, td, ps⟩ := w0
    have hdr : (j.drs 0)[n]? = some ⟨o, td, kids ps (n + 1)⟩ := by
      rw [drs_at j 0 n o td ps hw, Nat.zero_add]
    obtain ⟨r, hr⟩ : ∃ r, rs[n]? = some r := ⟨_, List.getElem?_eq_getElem (by omega)⟩
    have k4 := k1.mono g1
    obtain ⟨i1, i2, i3⟩ := k4.ins n r _ hr hdr
    have hfit := fx.fit _ (List.mem_of_getElem? hw)
    obtain ⟨h1, h2, h3, h4⟩ := told_ok hfit.1
    walk_at "go"
    rw [ex]
    refine u_ixL (SqL.of k4.hD) (atI_nat (by rw [List.getElem?_map, hr] <;> rfl)) ?_
    walk_at "go"
    refine ⟨r.p, C, r.dx, _, .ref r.pl, rfl, i1, DC.cl, DC.n4, fD_parts _ _ _ _, r.pl, rfl, ⟨_, SqL.of i3⟩, fun Dn hDn => ?_⟩
    have hDn1 : H Dn = none := by
      cases z : H Dn with
      | none => rfl
      | some o => rw [g1 _ _ z] at hDn; cases hDn
    have lks : ((kids ps (n + 1)).map fun n : Nat => V.int n).length = ps.length := by rw [List.length_map, kids_len]
    have hpsc : ps.length ≤ j.cnt := by
      obtain ⟨r', er⟩ := all_drop j n _ hw
      have e1 := congrArg List.length er
      rw [List.length_drop, List.length_append, all_cnt, all_cnt] at e1
      have e2 := cnts_ge ps
      simp only [Jn.cnt] at e1 e2
      omega
    refine lcL (xs := (kids ps (n + 1)).map fun n : Nat => V.int n) (fun q H' => Same H4 H' ∧ ∃ us, H' Dn = some (.lst us) ∧ Rps K H' us (Jn.pys (ps.take q))) ⟨same_new hDn _, [], upd_same, by simp [Jn.pys]; exact .nil⟩ ?_ ?_ ?_
    · rintro q H' _ ⟨q1, _⟩
      exact SqL.of (q1 _ _ i3)
    · rintro q x H' hx ⟨q1, us, q2, q3⟩
      walk_at "go"
      have hq := lt_of_get hx
      rw [lks] at hq
      obtain ⟨p, hp⟩ : ∃ p, ps[q]? = some p := ⟨_, List.getElem?_eq_getElem hq⟩
      obtain ⟨k', e1, e2, e3⟩ := all_kid hw hp
      rw [List.getElem?_map, e1] at hx
      cases hx
      obtain ⟨v, e4, e5⟩ := g4 k' p e3 (by omega)
      refine ⟨rfl, ?_⟩
      refine rd_yes ?_
      rw [if_pos rfl]
      walk_at "go"
      refine u_ixL (SqL.of (q1 _ _ g2)) (atI_nat e4) ?_
      have ha : us.length = q := by
        rw [q3.length, pys_map, List.length_map, List.length_take, Nat.min_eq_left (by omega)]
      refine ⟨us, q2, ls (by omega), Same.upd_new q1 hDn, us ++ [v], upd_same, ?_⟩
      rw [pys_map, List.take_add_one, hp, List.map_append, ← pys_map]
      have ex : Ext K H' (upd H' Dn (.lst (us ++ [v]))) := Ext.set q2 (by trivial)
      exact (Rps.mono ex _ _ q3).append (.one (Rp.mono ex _ _ (Rp.mono (Ext.of_same q1) _ _ e5)))
    · rintro H' ⟨q1, us, q2, q3⟩
      rw [lks, List.take_length] at q3
      walk_at "go"
      refine ⟨r.p, C, r.dx, _, .str o, rfl, q1 _ _ i1, DC.cl, DC.n2, fD_op _ _ _ _, ?_⟩
      walk_at "go"
      refine ⟨r.p, C, r.dx, _, .ref r.tl, rfl, q1 _ _ i1, DC.cl, DC.n3, fD_told _ _ _ _, ?_⟩
      walk_at "go"
      refine u_tupL (SqL.of (q1 _ _ i2)) fun pt hpt => ?_
      walk_at "go"
      refine u_tupL (SqL.of (same_new hpt _ _ _ q2)) fun pq hpq => ?_
      walk_at "go"
      have s5 : Same H' (upd (upd H' pt (.tup (td.map dV))) pq (.tup us)) := Same.new (same_new hpt _) hpq
      have t1 : (upd (upd H' pt (.tup (td.map dV))) pq (.tup us)) pt = some (.tup (td.map dV)) := same_new hpq _ _ _ upd_same
      have t2 : (upd (upd H' pt (.tup (td.map dV))) pq (.tup us)) pq = some (.tup us) := upd_same
      generalize upd (upd H' pt (.tup (td.map dV))) pq (.tup us) = H5 at *
      refine ⟨lk rfl, fun pr hpr => ?_⟩
      have g5 : Same H4 (upd H5 pr (.tup [.str o, .ref pt, .ref pq])) := Same.new (q1.trans s5) hpr
      have rp : Rp K (upd H5 pr (.tup [.str o, .ref pt, .ref pq])) (.ref pr) (Jn.mk o td ps).py := by
        have ex : Ext K H' (upd H5 pr (.tup [.str o, .ref pt, .ref pq])) := Ext.of_same (Same.new s5 hpr)
        simp only [Jn.py]
        exact .tup (SqT.of upd_same) (.cons (.str _) (.cons (.tup (SqT.of (same_new hpr _ _ _ t1)) (rps_dV td h1)) (.cons (.tup (SqT.of (same_new hpr _ _ _ t2)) (Rps.mono ex _ _ q3)) .nil)))
      generalize upd H5 pr (.tup [.str o, .ref pt, .ref pq]) = H6 at *
      walk_at "go"
      refine u_setL (g5 _ _ g2) (show ixN ws.length (n : Int) = some n by unfold ixN; rw [if_pos (by omega), if_pos (by omega)] <;> rfl) ?_
      have ex6 : Ext K H6 (upd H6 pf (.lst (ws.set n (.ref pr)))) := Ext.set (g5 _ _ g2) (by trivial)
      refine ⟨_, _, _, _, _, rfl, Same.upd_new (g1.trans g5) hpf1, upd_same, by rw [List.length_set]; exact g3, fun k x hx hk => ?_⟩
      by_cases c : k = n
      · subst c
        rw [hw] at hx
        cases hx
        exact ⟨_, List.getElem?_set_self (by omega), Rp.mono ex6 _ _ rp⟩
      · obtain ⟨v, v1, v2⟩ := g4 k x hx (by omega)
        exact ⟨v, by rw [List.getElem?_set_ne (Ne.symm c)]; exact v1, Rp.mono ex6 _ _ (Rp.mono (Ext.of_same g5) _ _ v2)⟩
  · rintro σ H4 ⟨ws, o2, o3, o4, o5, rfl, g1, g2, g3, g4⟩
    walk_at "go"
    obtain ⟨v, v1, v2⟩ := g4 0 j (by cases j; simp [Jn.all]) (by omega)
    refine u_ixL (SqL.of g2) (show atI ws (0 : Nat) = some v from atI_nat v1) ?_
    walk_at "go"
    exact q _ _ g1 v2
end

/-! ### Y3 -/
section
variable {P : Program} {w : World} {K : PySem.W.Frag} {mg : Str → Option Value} {base : Heap}
theorem scn_len : ∀ (ts : List Tk) (st : Str), (scn st ts).length = ts.length
  | [], _ => rfl
  | t :: r, st => by simp only [scn, List.length_cons, scn_len r]
theorem ok_cs {t : Tk} (h : t.ok) : 1 ≤ t.cs.length := by
  cases t with
  | wd z =>
    have := h.1
    have e : z.length = z.cps.toList.length := TL.len_tl z
    show 1 ≤ z.cps.toList.length
    omega
  | num n =>
    show 1 ≤ (TL.numL n).length
    rcases Nat.eq_zero_or_pos n with e | e
    · rw [e]; decide +kernel
    · obtain ⟨c, r, e1, _⟩ := numL_head n e
      rw [e1]; simp
  | sg c => exact Nat.le_refl _
theorem LayT.le {ts : List Tk} {l : List Nat} (h : LayT ts l) : ts.length ≤ l.length := by
  induction h with
  | nil _ => exact Nat.zero_le _
  | cons hg ho hf h ih =>
    have := ok_cs ho
    simp only [List.length_cons, List.length_append]
    omega
theorem Fit.tell {o : Str} {td : List PyData} {ps : List Jn} (h : Fit (.mk o td ps)) : toldFits o td = true ∧ partsFit o (ps.length : Int) = true := ⟨h.1, h.2⟩
/-- a text of a program read -/
def spRead (K : PySem.W.Frag) : Sp := fun vs H Q _ => ∃ (z : Str) (j : Jn), vs = [.str z] ∧ z.length ≤ 24000 ∧ LayT j.tks z.cps.toList ∧ Fx j ∧ j.cnt ≤ 40 ∧ ∀ (H' : Hp) (v : V), Same H H' → Rp K H' v j.py → Q v H'
abbrev s_read : Stmt := top 55
theorem sc_read : FnScope ["text", "drafts", "number", "draft"] ["text"] (defScope s_read) := ⟨rfl, rfl, rfl, by decide +kernel, rfl, by decide +kernel, by decide +kernel⟩
theorem has_read {C fI cT cM cO cP : Addr} (O : OwnF K mg "read" s_read) (B : Bl mg) (C2 : Cst2 mg) (DC : DrC K C) (hI : InitF P w K mg base fI) (M_BadText : ErrC K mg fI "BadText" cT) (h_scanned : HasF P w K mg base (L2.CX P w) 4 "scanned" ["text"] (spSc K)) (h_drafted : HasF P w K mg base CX0 4 "drafted" ["tokens"] (spDr C K)) (h_check_count : HasF P w K mg base (L2.CX P w) 3 "check_count" ["number"] (spCount cM)) (h_check_form : HasF P w K mg base (L2.CX P w) 6 "check_form" ["op", "told", "many", "place"] (spForm K cO cP)) (h_built : HasF P w K mg base CX0 1 "built" ["drafts"] (spBu C K)) : HasK P w K mg base (L2.CX P w) 8 "read" "text" (spRead K) := by
  refine hasXK O sc_read (fun _ _ _ _ _ _ us hl => match us, hl with | [_], _ => rfl) (fun _ _ _ _ _ _ _ => rfl) (fun vs H Q E h => ?_) (fun f cdv A outer s_ H vs Q E hr h => ?_)
  · obtain ⟨z, j, rfl, _⟩ := h
    rfl
  obtain ⟨z, j, rfl, hz, hL, fx, h40, q⟩ := h
  refine ⟨_, (pss_cons (ps_if (pt_cmpR gtU (pe_callB (kLen K) (by rfl) B.len (by decide +kernel) (pa_cons (pv 0) pa_nil)) (pe_globI C2.LONGEST_TEXT (by rfl)) (nomark _)) (pss_one (ps_raiseE K hI M_BadText rfl (hr.mono (by decide)) tkX (pe_globI C2.LONGEST_TEXT (by rfl)) (by rfl))) pss_nil) (pss_cons (ps_set (i := 1) sc_read.nd rfl (by first | exact Or.inl rfl | exact Or.inr rfl) (pe_callH h_drafted (hr.mono (by first | decide | omega)) (by rfl) pass0 (pa_cons (pe_callHS h_scanned (hr.mono (by first | decide | omega)) (by rfl) (fun σ => passAt tkX σ) (pa_cons (pv 0) pa_nil)) pa_nil))) (pss_cons (ps_for poX rfl (pi_enAK K (by rfl) B.enumerate (pa_cons (pv 1) pa_nil)) (pg_tupK (n := 2) K rfl (pgs_cons (pg_name (i := 2) sc_read.nd rfl (by first | exact Or.inl rfl | exact Or.inr rfl)) (pgs_cons (pg_name (i := 3) sc_read.nd rfl (by first | exact Or.inl rfl | exact Or.inr rfl)) pgs_nil))) (pss_cons (ps_expr (pe_callHS h_check_count (hr.mono (by first | decide | omega)) (by rfl) (fun σ => passAt tkX σ) (pa_cons (pv 2) pa_nil))) (pss_one (ps_expr (pe_callHS h_check_form (hr.mono (by first | decide | omega)) (by rfl) (fun σ => passAt tkX σ) (pa_cons (pe_fldK K (pv 3)) (pa_cons (pe_fldK K (pv 3)) (pa_cons (pe_callB (kLen K) (by rfl) B.len (by decide +kernel) (pa_cons (pe_fldK K (pv 3)) pa_nil)) (pa_cons (pe_fldK K (pv 3)) pa_nil))))))))) (pss_one (ps_ret (pe_callH h_built (hr.mono (by first | decide | omega)) (by rfl) pass0 (pa_cons (pv 1) pa_nil))))))), ?_⟩
  refine st0 [some (.str z), none, none, none] rfl ?_
  have lA := hL.le
  have lz : z.length = z.cps.toList.length := TL.len_tl z
  obtain ⟨r1, r2, r3⟩ := tks_run j 0 fx.fit (by omega)
  walk_at "go"
  refine u_lenS (z := z) (ll (by omega)) ?_
  walk_at "go"
  refine iteF' (by rw [decide_eq_false_iff_not]; omega) ?_
  walk_at "go"
  refine ⟨z, j.tks, rfl, hz, hL, r1, r2, r3, fun H1 tb xs s1 ntb htb hT => ?_⟩
  walk_at "go"
  refine ⟨tb, xs, scn sBegin j.tks, rfl, htb, hT, okDs_tks j [] [] 0 fx.fit (by omega), by rw [scn_len]; omega, fun H2 D Oa rs k1 => ?_⟩
  have e0 : (scn sBegin j.tks).foldl dstep ([], []) = (j.drs 0, []) := fold_tks j [] [] 0 fx.fit (by omega)
  rw [e0] at k1
  walk_at "go"
  refine u_enL (SqL.of k1.hD) ?_
  have hlr : rs.length = j.cnt := by rw [k1.len]; exact drs_len j 0
  have s2 : Same H H2 := s1.trans k1.same
  refine forEL (xs := rs.map fun r => V.ref r.p) (fun i σ H' => ∃ o2 o3, σ = [some (.str z), some (.ref D), o2, o3] ∧ Same H2 H') ⟨_, _, rfl, Same.refl _⟩ ?_ ?_ ?_
  · rintro i σ H' _ ⟨o2, o3, rfl, g1⟩
    exact SqL.of (g1 _ _ k1.hD)
  · rintro i x t σ H' hx ⟨o2, o3, rfl, g1⟩ ht
    rw [List.getElem?_map] at hx
    cases hr : rs[i]? with
    | none => rw [hr] at hx; cases hx
    | some r =>
      rw [hr] at hx
      cases hx
      have il := lt_of_get hr
      obtain ⟨w0, hw⟩ : ∃ w0, j.all[i]? = some w0 := ⟨_, List.getElem?_eq_getElem (by rw [all_cnt]; omega)⟩
      obtain ⟨o, td, ps⟩ := w0
      have hdr : (j.drs 0)[i]? = some ⟨o, td, kids ps (i + 1)⟩ := by
        rw [drs_at j 0 i o td ps hw, Nat.zero_add]
      have g2 : Same H2 (upd H' t (.tup [.int i, .ref r.p])) := Same.new g1 ht
      obtain ⟨i1, i2, i3⟩ := (k1.mono g2).ins i r _ hr hdr
      have hfit := fx.fit _ (List.mem_of_getElem? hw)
      obtain ⟨h1, h2, h3, h4⟩ := told_ok hfit.1
      have hdat : dats td := by
        have := Jn.dat _ (fx.sub (List.mem_of_getElem? hw)).ok
        simp only [Jn.py, dat, dats] at this
        exact this.2.2.1.2
      walk_at "go"
      generalize upd H' t (.tup [.int i, .ref r.p]) = H3 at *
      walk_at "go"
      refine ⟨_, rfl, fun h => by omega, fun _ => ?_⟩
      walk_at "go"
      refine ⟨r.p, C, r.dx, _, .str o, rfl, i1, DC.cl, DC.n2, fD_op _ _ _ _, ?_⟩
      walk_at "go"
      refine ⟨r.p, C, r.dx, _, .ref r.tl, rfl, i1, DC.cl, DC.n3, fD_told _ _ _ _, ?_⟩
      walk_at "go"
      refine ⟨r.p, C, r.dx, _, .ref r.pl, rfl, i1, DC.cl, DC.n4, fD_parts _ _ _ _, ?_⟩
      walk_at "go"
      refine ⟨r.p, C, r.dx, _, .int r.off, rfl, i1, DC.cl, DC.n1, fD_off _ _ _ _, ?_⟩
      walk_at "go"
      rw [List.length_map, kids_len]
      have hft := hfit.tell
      refine ⟨o, r.tl, _, td, _, _, rfl, .inl (SqL.of i2), rps_dV td h1, by omega, hdat, fun e => ?_, fun _ e => ?_, fun _ _ H4 s4 => ?_⟩
      · rw [hft.1] at e
        cases e
      · rw [hft.2] at e
        cases e
      · exact ⟨_, _, rfl, g2.trans s4⟩
  · rintro σ H' ⟨o2, o3, rfl, g1⟩
    walk_at "go"
    exact ⟨D, Oa, H1, rs, j, rfl, k1.mono g1, fx, by omega, fun H4 v s4 r => q _ _ (s2.trans (g1.trans s4)) r⟩
end
end Mine

/-! ### Q4 -/
namespace Mine
open PySem PySem.Spec L2
local macro_rules | `(tactic| walk_at "st") => `(tactic| (with_reducible apply iteF))
local macro_rules | `(tactic| walk_at "st") => `(tactic| (with_reducible apply iteT))
local macro_rules | `(tactic| walk_at "st") => `(tactic| (with_reducible apply rd_nopart))
local macro_rules | `(tactic| walk_at "st") => `(tactic| (with_reducible apply rd_partI))
local macro_rules | `(tactic| walk_at "st") => `(tactic| (with_reducible apply rd_part))
local macro_rules | `(tactic| walk_at "st") => `(tactic| (with_reducible apply rd_sl))
local macro_rules | `(tactic| walk_at "st") => `(tactic| (with_reducible apply rd_disp1))
local macro_rules | `(tactic| walk_at "st") => `(tactic| (with_reducible apply rd_dput))
local macro_rules | `(tactic| walk_at "st") => `(tactic| (with_reducible apply rd_dget))
local macro_rules | `(tactic| walk_at "st") => `(tactic| (with_reducible apply rd_din))
local macro_rules | `(tactic| walk_at "st") => `(tactic| (with_reducible apply rd_dnew))
local macro_rules | `(tactic| walk_at "st") => `(tactic| (with_reducible apply rd_ipI))
local macro_rules | `(tactic| walk_at "st") => `(tactic| ((with_reducible apply rd_aug); exact rfl))
local macro_rules | `(tactic| walk_at "st") => `(tactic| (with_reducible apply rd_par3_end))
local macro_rules | `(tactic| walk_at "st") => `(tactic| (with_reducible apply rd_par3))
local macro_rules | `(tactic| walk_at "st") => `(tactic| (with_reducible apply u_mul; focus exact Or.inr cm))
local macro_rules | `(tactic| walk_at "st") => `(tactic| ((with_reducible apply u_pow); (focus (exact ⟨by decide, by decide, by decide⟩))))
local macro_rules | `(tactic| walk_at "st") => `(tactic| (with_reducible apply rd_yes))
local macro_rules | `(tactic| walk_at "st") => `(tactic| (with_reducible apply rd_lc))
local macro_rules | `(tactic| walk_at "st") => `(tactic| ((with_reducible apply rd_itT); (focus first | assumption | exact SqT.of (by assumption) | exact SqT.of upd_same)))
local macro_rules | `(tactic| walk_at "st") => `(tactic| ((with_reducible apply rd_itL); (focus first | assumption | exact SqL.of (by assumption) | exact SqL.of upd_same)))
local macro_rules | `(tactic| walk_at "st") => `(tactic| ((with_reducible apply u_isi); (focus (first | exact Or.inl rfl | exact Or.inr (Or.inl rfl) | exact Or.inr (Or.inr (Or.inl rfl)) | exact Or.inr (Or.inr (Or.inr rfl)))); (focus first | assumption | exact Rp.int _ | exact Rp.str _)))
local macro_rules | `(tactic| walk_at "st") => `(tactic| (with_reducible apply rd_istrE))
local macro_rules | `(tactic| walk_at "st") => `(tactic| (with_reducible apply rd_istr))
local macro_rules | `(tactic| walk_at "st") => `(tactic| ((with_reducible apply rd_seqT); (focus first | assumption | exact SqT.of (by assumption) | exact SqT.of upd_same)))
local macro_rules | `(tactic| walk_at "st") => `(tactic| ((with_reducible apply rd_seqL); (focus first | assumption | exact SqL.of (by assumption) | exact SqL.of upd_same)))
local macro_rules | `(tactic| walk_at "st") => `(tactic| (with_reducible apply rd_iSeq))
local macro_rules | `(tactic| walk_at "st") => `(tactic| (with_reducible apply u_notInS))
local macro_rules | `(tactic| walk_at "st") => `(tactic| (with_reducible apply u_inS))
local macro_rules | `(tactic| walk_at "st") => `(tactic| (with_reducible apply u_notInD))
local macro_rules | `(tactic| walk_at "st") => `(tactic| (with_reducible apply u_inD))
local macro_rules | `(tactic| walk_at "st") => `(tactic| (with_reducible apply rd_callS))
local macro_rules | `(tactic| walk_at "st") => `(tactic| (with_reducible apply rd_raiseE))
local macro_rules | `(tactic| walk_at "st") => `(tactic| (with_reducible apply rd_xf))
local macro_rules | `(tactic| walk_at "st") => `(tactic| (with_reducible apply g_neB))
local macro_rules | `(tactic| walk_at "st") => `(tactic| (with_reducible apply g_neS))
local macro_rules | `(tactic| walk_at "st") => `(tactic| (with_reducible apply g_neI))
local macro_rules | `(tactic| walk_at "st") => `(tactic| (with_reducible apply g_eqS))
local macro_rules | `(tactic| walk_at "st") => `(tactic| (with_reducible apply g_eqI))
local macro_rules | `(tactic| walk_at "st") => `(tactic| (with_reducible apply rd_retN))
local macro_rules | `(tactic| walk_at "st") => `(tactic| (with_reducible apply rd_gnil))
local macro_rules | `(tactic| walk_at "st") => `(tactic| (with_reducible apply rd_gcons))
local macro_rules | `(tactic| walk_at "st") => `(tactic| ((with_reducible apply rd_rng2e); (focus omega)))
local macro_rules | `(tactic| walk_at "st") => `(tactic| ((with_reducible apply rd_rng1e); (focus omega); (focus omega)))
local macro_rules | `(tactic| walk_at "st") => `(tactic| (with_reducible apply rd_rng2))
local macro_rules | `(tactic| walk_at "st") => `(tactic| (with_reducible apply rd_rng1))
local macro_rules | `(tactic| walk_at "st") => `(tactic| (with_reducible apply rd_for))
local macro_rules | `(tactic| walk_at "st") => `(tactic| (with_reducible apply rd_iTup))
local macro_rules | `(tactic| walk_at "st") => `(tactic| (with_reducible apply rd_iList))
local macro_rules | `(tactic| walk_at "st") => `(tactic| (with_reducible apply rd_rev))
local macro_rules | `(tactic| walk_at "st") => `(tactic| (with_reducible apply u_min3))
local macro_rules | `(tactic| walk_at "st") => `(tactic| ((with_reducible apply rd_tyL); focus (first | exact SqL.of (by assumption) | exact SqL.of upd_same)))
local macro_rules | `(tactic| walk_at "st") => `(tactic| (with_reducible apply rd_bm0))
local macro_rules | `(tactic| walk_at "st") => `(tactic| (with_reducible apply rd_bm))
local macro_rules | `(tactic| walk_at "st") => `(tactic| ((with_reducible apply rd_truL); focus (first | assumption | exact SqL.of (by assumption) | exact SqL.of upd_same)))
local macro_rules | `(tactic| walk_at "st") => `(tactic| (with_reducible apply rd_truB))
local macro_rules | `(tactic| walk_at "st") => `(tactic| (with_reducible apply rd_tru))
local macro_rules | `(tactic| walk_at "st") => `(tactic| (with_reducible apply rd_chain3))
local macro_rules | `(tactic| walk_at "st") => `(tactic| ((with_reducible apply u_setL); (focus (first | assumption | exact upd_same)); exact rfl))
local macro_rules | `(tactic| walk_at "st") => `(tactic| ((with_reducible apply u_lenT); focus (first | assumption | exact SqT.of (by assumption) | exact SqT.of upd_same)))
local macro_rules | `(tactic| walk_at "st") => `(tactic| ((with_reducible apply u_lenL); focus (first | assumption | exact SqL.of (by assumption) | exact SqL.of upd_same)))
local macro_rules | `(tactic| walk_at "st") => `(tactic| ((with_reducible apply u_ixL); (focus (first | assumption | exact SqL.of (by assumption) | exact SqL.of upd_same)); exact rfl))
local macro_rules | `(tactic| walk_at "st") => `(tactic| ((with_reducible apply u_mul); focus first | exact Or.inl (by omega) | exact Or.inr (by omega) | exact Or.inl (by decide) | exact Or.inr (by decide)))
local macro_rules | `(tactic| walk_at "st") => `(tactic| ((with_reducible apply u_div); focus first | decide | omega | (constructor <;> first | assumption | omega)))
local macro_rules | `(tactic| walk_at "st") => `(tactic| ((with_reducible apply u_mod); focus first | assumption | decide | omega))
local macro_rules | `(tactic| walk_at "st") => `(tactic| (with_reducible apply u_neg))
local macro_rules | `(tactic| walk_at "st") => `(tactic| (with_reducible apply u_min))
local macro_rules | `(tactic| walk_at "st") => `(tactic| (with_reducible apply u_max))
local macro_rules | `(tactic| walk_at "st") => `(tactic| (with_reducible apply u_intB))
local macro_rules | `(tactic| walk_at "st") => `(tactic| (with_reducible apply u_int))
local macro_rules | `(tactic| walk_at "st") => `(tactic| (with_reducible apply u_neI))
local macro_rules | `(tactic| walk_at "st") => `(tactic| (with_reducible apply u_eqS))
local macro_rules | `(tactic| walk_at "st") => `(tactic| (with_reducible apply u_eqI))
local macro_rules | `(tactic| walk_at "st") => `(tactic| (with_reducible apply u_ge))
local macro_rules | `(tactic| walk_at "st") => `(tactic| (with_reducible apply u_gt))
local macro_rules | `(tactic| walk_at "st") => `(tactic| (with_reducible apply u_le))
local macro_rules | `(tactic| walk_at "st") => `(tactic| (with_reducible apply u_lt))
local macro_rules | `(tactic| walk_at "st") => `(tactic| (with_reducible apply u_sub))
local macro_rules | `(tactic| walk_at "st") => `(tactic| (with_reducible apply u_add))
local macro_rules | `(tactic| walk_at "st") => `(tactic| (with_reducible apply rd_ct))
local macro_rules | `(tactic| walk_at "st") => `(tactic| (with_reducible apply rd_brk))
local macro_rules | `(tactic| walk_at "st") => `(tactic| (with_reducible apply rd_tB))
local macro_rules | `(tactic| walk_at "st") => `(tactic| (with_reducible apply rd_chain))
local macro_rules | `(tactic| walk_at "st") => `(tactic| (with_reducible apply rd_notV))
local macro_rules | `(tactic| walk_at "st") => `(tactic| (with_reducible apply rd_orV))
local macro_rules | `(tactic| walk_at "st") => `(tactic| (with_reducible apply rd_andV))
local macro_rules | `(tactic| walk_at "st") => `(tactic| (with_reducible apply rd_not))
local macro_rules | `(tactic| walk_at "st") => `(tactic| (with_reducible apply rd_or))
local macro_rules | `(tactic| walk_at "st") => `(tactic| (with_reducible apply rd_and))
local macro_rules | `(tactic| walk_at "st") => `(tactic| (with_reducible apply rd_un))
local macro_rules | `(tactic| walk_at "st") => `(tactic| (with_reducible apply rd_par_end))
local macro_rules | `(tactic| walk_at "st") => `(tactic| (with_reducible apply rd_par))
local macro_rules | `(tactic| walk_at "st") => `(tactic| (with_reducible apply rd_gsub))
local macro_rules | `(tactic| walk_at "st") => `(tactic| (with_reducible apply rd_ife))
local macro_rules | `(tactic| walk_at "st") => `(tactic| (with_reducible apply rd_next))
local macro_rules | `(tactic| walk_at "st") => `(tactic| (with_reducible apply rd_drop))
local macro_rules | `(tactic| walk_at "st") => `(tactic| (with_reducible apply rd_lst))
local macro_rules | `(tactic| walk_at "st") => `(tactic| (with_reducible apply rd_tup))
local macro_rules | `(tactic| walk_at "st") => `(tactic| (with_reducible apply rd_call))
local macro_rules | `(tactic| walk_at "st") => `(tactic| (with_reducible apply rd_ret))
local macro_rules | `(tactic| walk_at "st") => `(tactic| (with_reducible apply rd_retE))
local macro_rules | `(tactic| walk_at "st") => `(tactic| (with_reducible apply rd_bl))
local macro_rules | `(tactic| walk_at "st") => `(tactic| (with_reducible apply rd_test))
local macro_rules | `(tactic| walk_at "st") => `(tactic| (with_reducible apply rd_if))
local macro_rules | `(tactic| walk_at "st") => `(tactic| (with_reducible apply rd_nil))
local macro_rules | `(tactic| walk_at "st") => `(tactic| (with_reducible apply rd_cons))
local macro_rules | `(tactic| walk_at "st") => `(tactic| (with_reducible apply rd_cb))
local macro_rules | `(tactic| walk_at "st") => `(tactic| (with_reducible apply rd_op))
local macro_rules | `(tactic| walk_at "st") => `(tactic| (with_reducible apply rd_gname))
local macro_rules | `(tactic| walk_at "st") => `(tactic| (with_reducible apply rd_asg))
local macro_rules | `(tactic| walk_at "st") => `(tactic| (with_reducible apply rd_seq))
local macro_rules | `(tactic| walk_at "st") => `(tactic| (with_reducible apply rd_c))
local macro_rules | `(tactic| walk_at "st") => `(tactic| ((with_reducible apply rd_var); exact rfl))
local macro_rules | `(tactic| walk_at "go") => `(tactic| repeat (walk_at "st"))
local macro_rules | `(tactic| walk_at "sp") => `(tactic| (first | refine rd_split (fun c => ?_) (fun c => ?_) | refine rd_splitN (fun c => ?_) (fun c => ?_) | refine rd_splitB (fun c => ?_) (fun c => ?_)))
local macro_rules | `(tactic| walk_at "nx") => `(tactic| repeat (first | (with_reducible apply iteF) | (with_reducible apply iteT) | (with_reducible apply rd_next)))

section
variable {P : Program} {w : World} {K : PySem.W.Frag} {mg : Str → Option Value} {base : Heap}
abbrev s_law_written : Stmt := top 71
theorem sc_law_written : FnScope ["joint", "words", "thing", "text", "part"] ["joint"] (defScope s_law_written) := ⟨rfl, rfl, rfl, by decide +kernel, rfl, by decide +kernel, by decide +kernel⟩
theorem base_wr {l : Nat} (O : OwnF K mg "_law_written" s_law_written) : HasF P w K mg base CX0 (l + 1) "_law_written" ["joint"] (spJx K 0) := by
  refine has0 O sc_law_written (fun _ _ _ _ _ _ us hl => match us, hl with | [_], _ => rfl) (fun vs H Q E h => ?_) (fun f cdv A outer s_ H vs Q E hr h => ?_)
  · obtain ⟨v, j, rfl, _⟩ := h
    rfl
  obtain ⟨v, j, _, _, _, h1, _⟩ := h
  have := cnt_pos j
  omega
theorem step_wr {n l : Nat} (O : OwnF K mg "_law_written" s_law_written) (B : Bl mg) (h_law_written : HasF P w K mg base CX0 l "_law_written" ["joint"] (spJx K n)) : HasF P w K mg base CX0 (l + 1) "_law_written" ["joint"] (spJx K (n + 1)) := by
  refine has0 O sc_law_written (fun _ _ _ _ _ _ us hl => match us, hl with | [_], _ => rfl) (fun vs H Q E h => ?_) (fun f cdv A outer s_ H vs Q E hr h => ?_)
  · obtain ⟨v, j, rfl, _⟩ := h
    rfl
  obtain ⟨v, j, rfl, r, gx, hn, h40, q⟩ := h
  obtain ⟨op, td, parts⟩ := j
  have hf : Fit (.mk op td parts) := gx.fit _ (all_self _)
  obtain ⟨h1, h2, h3, h4⟩ := told_ok hf.1
  have hw := op_word hf.1
  have hs8 := sum_le8 h1
  obtain ⟨pj, t, qa, tv, pws, rfl, hsj, hst, hRt, hsq, hRq⟩ := r.jn
  refine ⟨_, (pss_cons (ps_setLc (i := 1) (own := [("thing", 2)]) (g := gName 2) (tt := tYes) rfl sc_law_written.nd rfl rfl (sw_true rfl rfl rfl (by decide +kernel)) (pi_tupK K (pe_ix (kIx K) (pv 0) pe_int (fun _ _ => rfl))) (blkOk_by (own := [("thing", 2)]) (N := ["joint", "words", "thing", "text", "part"]) (sc := defScope s_law_written) (by decide +kernel)) (fun _ _ _ _ _ => (pg_name (i := 2) sc_law_written.nd rfl (by first | exact Or.inl rfl | exact Or.inr rfl))) (fun _ _ _ _ _ => pts_nil) (fun _ _ _ _ _ => (pe_callTy kStrU (by rfl) B.str (by decide +kernel) (pa_cons (pv 2) pa_nil)))) (pss_cons (ps_if (pt_cmpR (kEqG K (hU hr)) (pe_ix (kIx K) (pv 0) pe_int (fun _ _ => rfl)) pe_str (nomark _)) (pss_one (ps_ret (pe_op (kAdd K) (pe_op (kAdd K) pe_str (pe_joinK K pe_str (pv 1))) pe_str))) pss_nil) (pss_cons (ps_set (i := 3) sc_law_written.nd rfl (by first | exact Or.inl rfl | exact Or.inr rfl) (pe_joinK K pe_str (pe_op (kAdd K) (pe_lst (pa_cons (pe_ix (kIx K) (pv 0) pe_int (fun _ _ => rfl)) pa_nil)) (pv 1)))) (pss_cons (ps_if (pt_cmpR (kEqG K (hU hr)) (pe_ix (kIx K) (pv 0) pe_int (fun _ _ => rfl)) (pe_tup pa_nil) (nomark _)) (pss_one (ps_ret (pv 3))) pss_nil) (pss_one (ps_ret (pe_op (kAdd K) (pe_op (kAdd K) (pe_op (kAdd K) (pv 3) pe_str) (pe_joinK K pe_str (pe_lc (own := [("part", 4)]) (g := gName 4) (tt := tYes) rfl sc_law_written.nd (pi_tupK K (pe_ix (kIx K) (pv 0) pe_int (fun _ _ => rfl))) (blkOk_by (own := [("part", 4)]) (N := ["joint", "words", "thing", "text", "part"]) (sc := defScope s_law_written) (by decide +kernel)) (fun _ _ _ _ _ => (pg_name (i := 4) sc_law_written.nd rfl (by first | exact Or.inl rfl | exact Or.inr rfl))) (fun _ _ _ _ _ => pts_nil) (fun _ _ _ _ _ => (pe_callH h_law_written (hr.mono (by first | decide | omega)) (by rfl) pass0 (pa_cons (pv 4) pa_nil)))))) pe_str))))))), ?_⟩
  refine st0 [some (.ref pj), none, none, none, none] rfl ?_
  walk_at "go"
  refine u_ixT hsj rfl ?_
  refine ⟨t, rfl, ⟨_, hst⟩, fun D hD => ?_⟩
  refine lc_tup (xs := tv) (fun i H' => H' D = some (.lst (((td.take i).map tdS).map V.str)) ∧ Same H H') ⟨upd_same, same_new hD _⟩ ?_ ?_ ?_
  · rintro i H' hi ⟨y1, y2⟩
    exact Ext.of_same y2 _ _ hst
  · rintro i x H' hx ⟨y1, y2⟩
    obtain ⟨d, e1, e2⟩ := hRt.getV hx
    have il := lt_of_get e1
    have hd := h1 d (List.mem_of_getElem? e1)
    walk_at "go"
    refine ⟨rfl, ?_⟩
    walk_at "go"
    have fin : ∀ z : Str, z = tdS d → ∃ acc, H' D = some (.lst acc) ∧ acc.length < sizeLine ∧ (upd H' D (.lst (acc ++ [.str z])) D = some (.lst (((td.take (i + 1)).map tdS).map V.str)) ∧ Same H (upd H' D (.lst (acc ++ [.str z])))) := fun z ez => by
      refine ⟨_, y1, ls (by rw [List.length_map, List.length_map, List.length_take]; omega), ?_, Same.upd_new y2 hD⟩
      rw [upd_same, List.take_add_one, e1, List.map_append, List.map_append, ez] <;> rfl
    rcases hd with ⟨n, rfl, hn⟩ | ⟨z, rfl, hz⟩
    · cases e2
      refine u_strI (log_ok hn) ?_
      exact fin _ rfl
    · cases e2
      refine u_strS ?_
      exact fin _ rfl
  rintro H1 ⟨y1, y2⟩
  have lt' : tv.length = td.length := hRt.length
  rw [lt', List.take_length] at y1
  have e3 : (Str.ofString " ").length = 1 := by decide +kernel
  have hjl := join_len (Str.ofString " ") (td.map tdS)
  rw [List.length_map, e3] at hjl
  have hsj1 := Ext.of_same (K := K) y2 _ _ hsj
  walk_at "go"
  refine u_ixT hsj1 rfl ?_
  walk_at "go"
  refine rd_split (fun c => ?_) (fun c => ?_)
  · walk_at "go"
    refine rd_m1 ?_
    walk_at "go"
    refine ⟨⟨_, rfl⟩, ?_⟩
    walk_at "go"
    refine u_joinL (SqL.of y1) (by rw [List.length_map, e3]; omega) ?_
    have a1 : (Str.ofString "[" ++ Txt.join (Str.ofString " ") (td.map tdS)).length ≤ 700 := by
      rw [tl_len', show (Str.ofString "[").length = 1 by decide +kernel]
      omega
    refine u_addS (ll (by rw [← tl_len']; omega)) ?_
    walk_at "go"
    refine u_addS (ll (by rw [show (Str.ofString "]").length = 1 by decide +kernel]; omega)) ?_
    have et : (Jn.mk op td parts).tx = Str.ofString "[" ++ Txt.join (Str.ofString " ") (td.map tdS) ++ Str.ofString "]" := by
      simp only [Jn.tx]
      rw [if_pos c]
    rw [et] at q
    exact q _ y2
  have h3 := h3 c
  walk_at "go"
  refine rd_m1 ?_
  walk_at "go"
  refine ⟨⟨_, rfl⟩, ?_⟩
  walk_at "go"
  refine u_ixT hsj1 rfl ?_
  walk_at "go"
  refine ⟨lk rfl, fun L hL => ?_⟩
  walk_at "go"
  refine u_addL (xs := [V.str op]) (ys := (td.map tdS).map V.str) upd_same (same_new hL _ _ _ y1) ?_ fun L2 hL2 => ?_
  · rw [List.length_map, List.length_map]
    exact ll (by show 1 + td.length ≤ _; omega)
  have sD2 := Same.new (Same.new y2 (o := .lst [V.str op]) hL) (o := .lst ([V.str op] ++ (td.map tdS).map V.str)) hL2
  have eL2 : upd (upd H1 L (.lst [V.str op])) L2 (.lst ([V.str op] ++ (td.map tdS).map V.str)) L2 = some (.lst ((op :: td.map tdS).map V.str)) := by
    rw [upd_same] <;> rfl
  generalize upd (upd H1 L (.lst [V.str op])) L2 (.lst ([V.str op] ++ (td.map tdS).map V.str)) = H2 at *
  have hj2 := join_len (Str.ofString " ") (op :: td.map tdS)
  simp only [List.length_cons, List.length_map, List.map_cons, List.sum_cons] at hj2
  have hw2 := hw.2.1
  rw [e3] at hj2
  walk_at "go"
  refine u_joinL (ys := op :: td.map tdS) (SqL.of eL2) (by simp only [List.length_cons, List.length_map, List.map_cons, List.sum_cons]; rw [e3]; omega) ?_
  obtain ⟨hd, ehd⟩ : ∃ hd, hd = Txt.join (Str.ofString " ") (op :: td.map tdS) := ⟨_, rfl⟩
  rw [← ehd] at hj2 ⊢
  have hdl : hd.length ≤ 40 := by omega
  have lp : pws.length = parts.length := by rw [hRq.length, pys_length]
  have hsj2 := Ext.of_same (K := K) sD2 _ _ hsj
  have hdp : dat (.tuple (Jn.pys parts)) := by
    have := Jn.dat _ gx.ok
    simp only [Jn.py, dat, dats] at this
    simp only [dat]
    exact this.2.2.2.1
  walk_at "go"
  refine u_ixT hsj2 rfl ?_
  walk_at "go"
  refine ⟨by decide, fun pe hpe => ?_⟩
  have sE := sD2.trans (same_new hpe (.tup []))
  have r3 : Rp K H (.ref qa) (.tuple (Jn.pys parts)) := .tup hsq hRq
  refine g_eqD (Rp.dp _ _ (r3.mono (Ext.of_same sE) _ _)) (Rp.dp (.tuple []) _ (.tup (SqT.of upd_same) .nil)) (dat_lay _ hdp) (dat_lay _ (by simp [dat, dats])) (Nat.le_trans (Nat.min_le_right _ _) (by decide +kernel)) ?_
  have eqe : PyData.eqv (.tuple (Jn.pys parts)) (.tuple []) = parts.isEmpty := by
    cases hq : parts with
    | nil => exact (eqv_iff (by simp [dat, dats, Jn.pys]) (by simp [dat, dats])).mpr (by simp [Jn.pys])
    | cons j r =>
      rw [hq] at hdp
      have : ¬ PyData.eqv (.tuple (Jn.pys (j :: r))) (.tuple []) = true := fun h => by
        have := (eqv_iff hdp (by simp [dat, dats])).mp h
        simp [Jn.pys] at this
      simpa using this
  rw [eqe]
  generalize upd H2 pe (.tup []) = H2' at *
  have hsj2 := Ext.of_same (K := K) sE _ _ hsj
  have hsq2 := Ext.of_same (K := K) sE _ _ hsq
  walk_at "go"
  by_cases cp : parts.isEmpty = true
  · have et : (Jn.mk op td parts).tx = hd := by
      simp only [Jn.tx]
      rw [if_neg c, if_pos cp, ehd]
    refine iteT' cp ?_
    walk_at "go"
    rw [et] at q
    exact q _ sE
  refine iteF' (by simpa using cp) ?_
  walk_at "go"
  refine u_addS (ll (by rw [show (Str.ofString "(").length = 1 by decide +kernel]; omega)) ?_
  refine rd_m1 ?_
  walk_at "go"
  refine ⟨⟨_, rfl⟩, ?_⟩
  walk_at "go"
  refine u_ixT hsj2 rfl ?_
  refine ⟨qa, rfl, ⟨_, hsq2⟩, fun D2 hD2 => ?_⟩
  have hcn : 1 + Jn.cnts parts ≤ n + 1 := by simpa only [Jn.cnt] using hn
  have hc40 : 1 + Jn.cnts parts ≤ 40 := by simpa only [Jn.cnt] using h40
  refine lc_tup (xs := pws) (fun i H' => H' D2 = some (.lst (((parts.take i).map Jn.tx).map V.str)) ∧ Same H2' H') ⟨upd_same, same_new hD2 _⟩ ?_ ?_ ?_
  · rintro i H' hi ⟨z1, z2⟩
    exact Ext.of_same z2 _ _ hsq2
  · rintro i x H' hx ⟨z1, z2⟩
    obtain ⟨jx, ex, rx⟩ := hRq.part hx
    have jm : jx ∈ parts := List.mem_of_getElem? ex
    have jc := cnts_mem jm
    have il := lt_of_get ex
    have gj : Fx jx := gx.sub (by simp only [Jn.all]; exact List.mem_cons_of_mem _ (part_alls jm))
    have pl : parts.length ≤ 40 := by rw [← lp]; have := len_cnts parts; omega
    walk_at "go"
    refine ⟨rfl, ?_⟩
    walk_at "go"
    refine ⟨x, jx, rfl, rx.mono (Ext.of_same (sE.trans z2)) _ _, gj, by omega, by omega, fun H3 s3 => ?_⟩
    refine ⟨_, s3 _ _ z1, ls (by rw [List.length_map, List.length_map, List.length_take]; omega), ?_, Same.upd_new (z2.trans s3) hD2⟩
    rw [upd_same, List.take_add_one, ex, List.map_append, List.map_append] <;> rfl
  rintro H3 ⟨z1, z2⟩
  have etx : (parts.take pws.length).map Jn.tx = Jn.txs parts := by rw [lp, List.take_length, txs_map]
  rw [etx] at z1
  have hk := txs_len parts fun x hx => gx.fit x (by simp only [Jn.all]; exact List.mem_cons_of_mem _ hx)
  have e4 : (Str.ofString ", ").length = 2 := by decide +kernel
  have hjp := join_len (Str.ofString ", ") (Jn.txs parts)
  rw [e4, hk.2] at hjp
  walk_at "go"
  refine u_joinL (SqL.of z1) (by rw [e4, hk.2]; omega) ?_
  refine u_addS (ll (by rw [tl_len', show (Str.ofString "(").length = 1 by decide +kernel]; omega)) ?_
  walk_at "go"
  refine u_addS (ll (by rw [tl_len', tl_len', show (Str.ofString "(").length = 1 by decide +kernel, show (Str.ofString ")").length = 1 by decide +kernel]; omega)) ?_
  have et : (Jn.mk op td parts).tx = hd ++ Str.ofString "(" ++ Txt.join (Str.ofString ", ") (Jn.txs parts) ++ Str.ofString ")" := by
    simp only [Jn.tx]
    rw [if_neg c, if_neg cp, ehd]
  rw [et] at q
  exact q _ (sE.trans z2)
theorem has_wr (O : OwnF K mg "_law_written" s_law_written) (B : Bl mg) : ∀ n : Nat, HasF P w K mg base CX0 (1 + n) "_law_written" ["joint"] (spJx K n)
  | 0 => base_wr (l := 0) O
  | n + 1 => step_wr O B (has_wr O B n)
end

/-! ### Q5 -/
section
variable {P : Program} {w : World} {K : PySem.W.Frag} {mg : Str → Option Value} {base : Heap}
theorem Blank.lead {g : List Nat} {c : Nat} {l : List Nat} (h : Blank g) (hc : c ∈ signs5) : Free (g ++ c :: l) := by
  cases g with
  | nil =>
    refine free_sign ?_
    have hc' : c = 91 ∨ c = 93 ∨ c = 40 ∨ c = 44 ∨ c = 41 := by simpa [signs5] using hc
    unfold letC digC
    omega
  | cons a r => exact h.free (by simp)
/-- a sign with blanks around it, between two texts -/
theorem LayT.sgn {a b : List Tk} {la lb g g2 : List Nat} {c : Nat} (h : LayT a la) (hg : Blank g) (hc : c ∈ signs5) (hg2 : Blank g2) (k : LayT b lb) : LayT (a ++ .sg c :: b) (la ++ (g ++ (c :: (g2 ++ lb)))) := by
  refine h.app (LayT.gap hg (LayT.app (a := [.sg c]) (la := [c]) (.sign hc) (k.gap hg2) fun t ht hr => ?_)) fun _ _ _ => hg.lead hc
  have : Tk.sg c = t := by simpa using ht
  rw [← this] at hr
  cases hr
theorem tksl_snoc : ∀ (l : List Jn) (p : Jn), l ≠ [] → Jn.tksl (l ++ [p]) = Jn.tksl l ++ .sg 44 :: p.tks
  | [], p, h => absurd rfl h
  | [j], p, _ => by simp [Jn.tksl]
  | j :: k :: r, p, _ => by
    have := tksl_snoc (k :: r) p (by simp)
    rw [List.cons_append]
    simp only [Jn.tksl]
    rw [show (k :: r ++ [p]).isEmpty = false from rfl, show (k :: r).isEmpty = false from rfl]
    simp only [Bool.false_eq_true, if_false]
    rw [this, List.append_assoc] <;> rfl
def preT (l : List Jn) : List Tk := if l.isEmpty = true then [] else .sg 40 :: Jn.tksl l
def sgnAt (k : Nat) : Nat := if k = 0 then 40 else 44
theorem preT_snoc (l : List Jn) (p : Jn) : preT (l ++ [p]) = preT l ++ .sg (sgnAt l.length) :: p.tks := by
  unfold preT sgnAt
  cases l with
  | nil => simp [Jn.tksl]
  | cons j r =>
    rw [tksl_snoc _ _ (by simp)]
    simp
theorem tkS_tl (t : Tk) : (tkS t).cps.toList = t.cs := rfl
theorem tkS_told {x : PyData} (h : TdO x) : tkS (tdT x) = tdS x := by
  unfold tkS
  rw [← (tdO_cs h).1] <;> rfl
theorem cs_le8 {t : Tk} (h : t.ok) (hr : t.run = true) : t.cs.length ≤ 8 := by
  cases t with
  | wd z =>
    have := h.2.1
    rw [TL.len_tl] at this
    exact this
  | num n => exact Nat.le_trans (num_len h) (by omega)
  | sg c => cases hr
theorem shareWH {P : Addr → Hp → Prop} {G : Addr → Hp → Prop} {T : Prop} (main : ∀ W H, P W H → G W H) (h : (∀ W H, P W H → G W H) → T) : T := h main
def spGd (K : PySem.W.Frag) (n : Nat) : Sp := fun vs H Q _ => ∃ (a : Addr) (v : V) (j : Jn), vs = [.ref a, v] ∧ Src H a ∧ Rp K H v j.py ∧ Fx j ∧ j.cnt ≤ n ∧ j.cnt ≤ 40 ∧
  ∀ (H' : Hp) (z : Str), SB a H H' → Src H' a → LayT j.tks z.cps.toList → z.cps.toList.length + 7 ≤ 551 * j.cnt + 168 → Q (.str z) H'
theorem use_gd {K : PySem.W.Frag} {n : Nat} {a : Addr} {v : V} {j : Jn} {H : Hp} {Q : VK} {E : XK} (h : Src H a) (h1 : Rp K H v j.py) (h2 : Fx j) (h3 : j.cnt ≤ n) (h4 : j.cnt ≤ 40) (q : ∀ (H' : Hp) (z : Str), SB a H H' → Src H' a → LayT j.tks z.cps.toList → z.cps.toList.length + 7 ≤ 551 * j.cnt + 168 → Q (.str z) H') : spGd K n [.ref a, v] H Q E := ⟨a, v, j, rfl, h, h1, h2, h3, h4, q⟩
abbrev s_law_gapped : Stmt := top 70
theorem sc_law_gapped : FnScope ["source", "joint", "words", "thing", "text", "word", "at", "part"] ["source", "joint"] (defScope s_law_gapped) := ⟨rfl, rfl, rfl, by decide +kernel, rfl, by decide +kernel, by decide +kernel⟩
theorem base_gd {l : Nat} (O : OwnF K mg "_law_gapped" s_law_gapped) : HasF P w K mg base CX0 (l + 1) "_law_gapped" ["source", "joint"] (spGd K 0) := by
  refine has0 O sc_law_gapped (fun _ _ _ _ _ _ us hl => match us, hl with | [_, _], _ => rfl) (fun vs H Q E h => ?_) (fun f cdv A outer s_ H vs Q E hr h => ?_)
  · obtain ⟨a, v, j, rfl, _⟩ := h
    rfl
  obtain ⟨a, v, j, _, _, _, _, h1, _⟩ := h
  have := cnt_pos j
  omega
theorem step_gd {n l : Nat} (hl : 3 ≤ l) (O : OwnF K mg "_law_gapped" s_law_gapped) (B : Bl mg) (h_law_gap : HasF P w K mg base CX0 3 "_law_gap" ["source", "least"] spGap) (h_law_gapped : HasF P w K mg base CX0 l "_law_gapped" ["source", "joint"] (spGd K n)) : HasF P w K mg base CX0 (l + 1) "_law_gapped" ["source", "joint"] (spGd K (n + 1)) := by
  refine has0 O sc_law_gapped (fun _ _ _ _ _ _ us hl => match us, hl with | [_, _], _ => rfl) (fun vs H Q E h => ?_) (fun f cdv A outer s_ H vs Q E hr h => ?_)
  · obtain ⟨a, v, j, rfl, _⟩ := h
    rfl
  obtain ⟨a, v, j, rfl, hS, r, gx, hn, h40, q⟩ := h
  obtain ⟨op, td, parts⟩ := j
  have hf : Fit (.mk op td parts) := gx.fit _ (all_self _)
  obtain ⟨h1, h2, h3, h4⟩ := told_ok hf.1
  have hw := op_word hf.1
  obtain ⟨pj, t, qa, tv, pws, rfl, hsj, hst, hRt, hsq, hRq⟩ := r.jn
  refine ⟨_, (pss_cons (ps_setLc (i := 2) (own := [("thing", 3)]) (g := gName 3) (tt := tYes) rfl sc_law_gapped.nd rfl rfl (sw_true rfl rfl rfl (by decide +kernel)) (pi_tupK K (pe_ix (kIx K) (pv 1) pe_int (fun _ _ => rfl))) (blkOk_by (own := [("thing", 3)]) (N := ["source", "joint", "words", "thing", "text", "word", "at", "part"]) (sc := defScope s_law_gapped) (by decide +kernel)) (fun _ _ _ _ _ => (pg_name (i := 3) sc_law_gapped.nd rfl (by first | exact Or.inl rfl | exact Or.inr rfl))) (fun _ _ _ _ _ => pts_nil) (fun _ _ _ _ _ => (pe_callTy kStrU (by rfl) B.str (by decide +kernel) (pa_cons (pv 3) pa_nil)))) (pss_cons (ps_if (pt_cmpR (kNeG K (hU hr)) (pe_ix (kIx K) (pv 1) pe_int (fun _ _ => rfl)) pe_str (nomark _)) (pss_one (ps_set (i := 2) sc_law_gapped.nd rfl (by first | exact Or.inl rfl | exact Or.inr rfl) (pe_op (kAdd K) (pe_lst (pa_cons (pe_ix (kIx K) (pv 1) pe_int (fun _ _ => rfl)) pa_nil)) (pv 2)))) pss_nil) (pss_cons (ps_set (i := 4) sc_law_gapped.nd rfl (by first | exact Or.inl rfl | exact Or.inr rfl) (pe_ix (kIx K) (pv 2) pe_int (fun _ _ => rfl))) (pss_cons (ps_for PassesOwn.never rfl (pi_listK K (pe_slice (kSl K) (pv 2) (po_some pe_int) po_none)) (pg_name (i := 5) sc_law_gapped.nd rfl (by first | exact Or.inl rfl | exact Or.inr rfl)) (pss_one (ps_set (i := 4) sc_law_gapped.nd rfl (by first | exact Or.inl rfl | exact Or.inr rfl) (pe_op (kAdd K) (pe_op (kAdd K) (pv 4) (pe_callH h_law_gap (hr.mono (by first | decide | omega)) (by rfl) pass0 (pa_cons (pv 0) (pa_cons pe_int pa_nil)))) (pv 5))))) (pss_cons (ps_if (pt_cmpR (kEqG K (hU hr)) (pe_ix (kIx K) (pv 1) pe_int (fun _ _ => rfl)) pe_str (nomark _)) (pss_one (ps_ret (pe_op (kAdd K) (pe_op (kAdd K) (pe_op (kAdd K) (pe_op (kAdd K) pe_str (pe_callH h_law_gap (hr.mono (by first | decide | omega)) (by rfl) pass0 (pa_cons (pv 0) (pa_cons pe_int pa_nil)))) (pv 4)) (pe_callH h_law_gap (hr.mono (by first | decide | omega)) (by rfl) pass0 (pa_cons (pv 0) (pa_cons pe_int pa_nil)))) pe_str))) pss_nil) (pss_cons (ps_for PassesOwn.never rfl (pi_enAK K (by rfl) B.enumerate (pa_cons (pe_ix (kIx K) (pv 1) pe_int (fun _ _ => rfl)) pa_nil)) (pg_tupK (n := 2) K rfl (pgs_cons (pg_name (i := 6) sc_law_gapped.nd rfl (by first | exact Or.inl rfl | exact Or.inr rfl)) (pgs_cons (pg_name (i := 7) sc_law_gapped.nd rfl (by first | exact Or.inl rfl | exact Or.inr rfl)) pgs_nil))) (pss_one (ps_set (i := 4) sc_law_gapped.nd rfl (by first | exact Or.inl rfl | exact Or.inr rfl) (pe_op (kAdd K) (pe_op (kAdd K) (pe_op (kAdd K) (pe_op (kAdd K) (pv 4) (pe_callH h_law_gap (hr.mono (by first | decide | omega)) (by rfl) pass0 (pa_cons (pv 0) (pa_cons pe_int pa_nil)))) (pe_ix (kIx K) (pe_lst (pa_cons pe_str (pa_cons pe_str pa_nil))) (pe_callTy intU (by rfl) B.int (by decide +kernel) (pa_cons (pe_cmpR gtU (pv 6) pe_int (nomark _)) pa_nil)) (fun _ _ => rfl))) (pe_callH h_law_gap (hr.mono (by first | decide | omega)) (by rfl) pass0 (pa_cons (pv 0) (pa_cons pe_int pa_nil)))) (pe_callH h_law_gapped (hr.mono (by first | decide | omega)) (by rfl) pass0 (pa_cons (pv 0) (pa_cons (pv 7) pa_nil))))))) (pss_one (ps_ret (pe_op (kAdd K) (pv 4) (pe_ifExp (pt_truthK K (pe_ix (kIx K) (pv 1) pe_int (fun _ _ => rfl)) (by intro _; rfl)) (pe_op (kAdd K) (pe_callH h_law_gap (hr.mono (by first | decide | omega)) (by rfl) pass0 (pa_cons (pv 0) (pa_cons pe_int pa_nil))) pe_str) pe_str)))))))))), ?_⟩
  refine st0 [some (.ref a), some (.ref pj), none, none, none, none, none, none] rfl ?_
  obtain ⟨ts, ets⟩ : ∃ ts, ts = (if op = "row" then td.map tdT else .wd op :: td.map tdT) := ⟨_, rfl⟩
  have tok : ∀ t ∈ ts, t.ok ∧ t.run = true := by
    have k : ∀ t ∈ td.map tdT, t.ok ∧ t.run = true := fun t ht => by
      obtain ⟨x, hx, rfl⟩ := List.mem_map.mp ht
      exact (tdO_cs (h1 x hx)).2
    intro t ht
    rw [ets] at ht
    split at ht
    · exact k t ht
    · rcases List.mem_cons.mp ht with rfl | ht
      · exact ⟨hw, rfl⟩
      · exact k t ht
  have tne : ts ≠ [] := by
    rw [ets]
    split
    · rename_i c
      have := (h4 c).1
      intro e
      have := congrArg List.length e
      rw [List.length_map, List.length_nil] at this
      omega
    · simp
  have tl64 : ts.length ≤ 65 := by
    rw [ets]
    split
    · rw [List.length_map]; omega
    · rw [List.length_cons, List.length_map]; omega
  have emap : td.map tdS = (td.map tdT).map tkS := by
    rw [List.map_map]
    exact List.map_congr_left fun x hx => (tkS_told (h1 x hx)).symm
  walk_at "go"
  refine u_ixT hsj rfl ?_
  refine ⟨t, rfl, ⟨_, hst⟩, fun D hD => ?_⟩
  refine lc_tup (xs := tv) (fun i H' => H' D = some (.lst (((td.take i).map tdS).map V.str)) ∧ Same H H') ⟨upd_same, same_new hD _⟩ ?_ ?_ ?_
  · rintro i H' hi ⟨y1, y2⟩
    exact Ext.of_same y2 _ _ hst
  · rintro i x H' hx ⟨y1, y2⟩
    obtain ⟨d, e1, e2⟩ := hRt.getV hx
    have il := lt_of_get e1
    have hd := h1 d (List.mem_of_getElem? e1)
    walk_at "go"
    refine ⟨rfl, ?_⟩
    walk_at "go"
    have fin : ∀ z : Str, z = tdS d → ∃ acc, H' D = some (.lst acc) ∧ acc.length < sizeLine ∧ (upd H' D (.lst (acc ++ [.str z])) D = some (.lst (((td.take (i + 1)).map tdS).map V.str)) ∧ Same H (upd H' D (.lst (acc ++ [.str z])))) := fun z ez => by
      refine ⟨_, y1, ls (by rw [List.length_map, List.length_map, List.length_take]; omega), ?_, Same.upd_new y2 hD⟩
      rw [upd_same, List.take_add_one, e1, List.map_append, List.map_append, ez] <;> rfl
    rcases hd with ⟨n, rfl, hn⟩ | ⟨z, rfl, hz⟩
    · cases e2
      refine u_strI (log_ok hn) ?_
      exact fin _ rfl
    · cases e2
      refine u_strS ?_
      exact fin _ rfl
  rintro H1 ⟨y1, y2⟩
  have lt' : tv.length = td.length := hRt.length
  rw [lt', List.take_length, emap] at y1
  have hsj1 := Ext.of_same (K := K) y2 _ _ hsj
  walk_at "go"
  refine u_ixT hsj1 rfl ?_
  walk_at "go"
  apply shareWH (P := fun W H2 => Same H H2 ∧ H2 W = some (.lst ((ts.map tkS).map V.str)))
  case h =>
    intro key
    by_cases c : op = "row"
    · refine iteF' (by rw [c]; decide +kernel) ?_
      walk_at "go"
      obtain ⟨W, eW⟩ : ∃ W, W = D := ⟨_, rfl⟩
      obtain ⟨H2, eH⟩ : ∃ H2, H2 = H1 := ⟨_, rfl⟩
      rw [← eW, ← eH]
      refine key W H2 ⟨by rw [eH]; exact y2, ?_⟩
      rw [eH, eW, y1, ets, if_pos c]
    · refine iteT' (by simpa using c) ?_
      walk_at "go"
      refine u_ixT hsj1 rfl ?_
      walk_at "go"
      refine ⟨lk rfl, fun L hL => ?_⟩
      walk_at "go"
      refine u_addL (xs := [V.str op]) (ys := ((td.map tdT).map tkS).map V.str) upd_same (same_new hL _ _ _ y1) ?_ fun L2 hL2 => ?_
      · rw [List.length_map, List.length_map, List.length_map]
        exact ll (by show 1 + td.length ≤ _; omega)
      have sD2 := Same.new (Same.new y2 (o := .lst [V.str op]) hL) (o := .lst ([V.str op] ++ ((td.map tdT).map tkS).map V.str)) hL2
      have eL2 : upd (upd H1 L (.lst [V.str op])) L2 (.lst ([V.str op] ++ ((td.map tdT).map tkS).map V.str)) L2 = some (.lst ((ts.map tkS).map V.str)) := by
        rw [upd_same, ets, if_neg c, List.map_cons, List.map_cons, show tkS (.wd op) = op from TL.mk_tl op] <;> rfl
      generalize upd (upd H1 L (.lst [V.str op])) L2 (.lst ([V.str op] ++ ((td.map tdT).map tkS).map V.str)) = H2 at *
      walk_at "go"
      exact key L2 H2 ⟨sD2, eL2⟩
  case main =>
  intro W H2 ⟨s2, eW⟩
  obtain ⟨t0, tr, etr⟩ : ∃ t0 tr, ts = t0 :: tr := by
    cases hts : ts with
    | nil => exact absurd hts tne
    | cons x y => exact ⟨x, y, rfl⟩
  have hS2 : Src H2 a := hS.same s2
  have ok0 := tok t0 (by rw [etr]; exact List.mem_cons_self)
  refine u_ixL (SqL.of eW) (show atI ((ts.map tkS).map V.str) (0 : Nat) = some (.str (tkS t0)) from atI_nat (by rw [etr] <;> rfl)) ?_
  walk_at "go"
  refine u_slL (SqL.of eW) fun p hp => ?_
  have ecut : cutV ((ts.map tkS).map V.str) (some ((1 : Nat) : Int)) none = (tr.map tkS).map V.str := by
    rw [cut_from, etr] <;> rfl
  have ep : (upd H2 p (.lst (cutV ((ts.map tkS).map V.str) (some (1 : Int)) none))) p = some (.lst ((tr.map tkS).map V.str)) := by
    rw [upd_same]
    exact congrArg _ (congrArg _ ecut)
  have sp := s2.trans (same_new hp (.lst (cutV ((ts.map tkS).map V.str) (some (1 : Int)) none)))
  have npa : p ≠ a := hS2.ne hp
  have hS3 := hS2.new (o := .lst (cutV ((ts.map tkS).map V.str) (some (1 : Int)) none)) hp
  generalize upd H2 p (.lst (cutV ((ts.map tkS).map V.str) (some (1 : Int)) none)) = H3 at *
  have sb3 : SB a H H3 := SB.of_same sp
  walk_at "go"
  have ltr : tr.length ≤ 64 := by rw [etr, List.length_cons] at tl64; omega
  refine forL (xs := (tr.map tkS).map V.str) (fun k σ H' => ∃ (z : Str) (o5 : Option V), σ = [some (.ref a), some (.ref pj), some (.ref W), none, some (.str z), o5, none, none] ∧ SB a H3 H' ∧ Src H' a ∧ LayT (t0 :: tr.take k) z.cps.toList ∧ z.cps.toList.length ≤ 11 * (k + 1)) ⟨_, _, rfl, SB.refl, hS3, ?_, ?_⟩ ?_ ?_ ?_
  · rw [tkS_tl]
    exact .one ok0.1
  · rw [tkS_tl]
    have := cs_le8 ok0.1 ok0.2
    omega
  · rintro k σ H' _ ⟨z, o5, rfl, g1, _⟩
    exact g1.seqL npa (SqL.of ep)
  · rintro k x σ H' hx ⟨z, o5, rfl, g1, g2, g3, g4⟩
    rw [List.getElem?_map, List.getElem?_map] at hx
    cases et : tr[k]? with
    | none => rw [et] at hx; cases hx
    | some tk =>
      rw [et] at hx
      cases hx
      have okt := tok tk (by rw [etr]; exact List.mem_cons_of_mem _ (List.mem_of_getElem? et))
      have l8 := cs_le8 okt.1 okt.2
      have kl := lt_of_get et
      walk_at "go"
      refine use_gap g2 (by omega) (by omega) fun H4 gz s4 hS4 gb g0 g9 => ?_
      refine u_addS ?_ ?_
      · rw [len_list z, len_list gz]
        exact ll (by omega)
      walk_at "go"
      refine u_addS ?_ ?_
      · rw [len_list, app_list, List.length_append, len_list (tkS tk), tkS_tl]
        exact ll (by omega)
      walk_at "go"
      refine ⟨_, _, rfl, g1.trans s4, hS4, ?_, ?_⟩
      · rw [app_list, app_list, tkS_tl, List.take_add_one, et, List.append_assoc]
        show LayT (t0 :: (tr.take k ++ [tk])) _
        have gne : gz.cps.toList ≠ [] := fun e => by rw [e] at g0; simp at g0
        exact LayT.app (a := t0 :: tr.take k) g3 ((LayT.one okt.1).gap gb) fun _ _ _ => gb.free gne
      · rw [app_list, app_list, tkS_tl, List.length_append, List.length_append]
        omega
  rintro σ H4 ⟨z, o5, rfl, g1, g2, g3, g4⟩
  rw [List.length_map, List.length_map] at g3 g4
  rw [List.take_length, ← etr] at g3
  have g4 : z.cps.toList.length ≤ 11 * ts.length := by rw [etr, List.length_cons]; exact g4
  have sb4 : SB a H H4 := sb3.trans g1
  have hsj4 := (hS.ext sb4) _ _ hsj
  walk_at "go"
  refine u_ixT hsj4 rfl ?_
  walk_at "go"
  have hc := cnt_pos (Jn.mk op td parts)
  by_cases c : op = "row"
  · refine iteT' (by rw [c]; decide +kernel) ?_
    have ets' : ts = td.map tdT := by rw [ets, if_pos c]
    have tl := congrArg List.length ets'
    rw [List.length_map] at tl
    walk_at "go"
    refine use_gap g2 (by omega) (by omega) fun H5 ga s5 hS5 ab a0 a9 => ?_
    refine u_addS ?_ ?_
    · simp only [len_list, app_list, s91, s93, List.length_append, List.length_cons, List.length_nil]
      exact ll (by omega)
    walk_at "go"
    refine u_addS ?_ ?_
    · simp only [len_list, app_list, s91, s93, List.length_append, List.length_cons, List.length_nil]
      exact ll (by omega)
    walk_at "go"
    refine use_gap hS5 (by omega) (by omega) fun H6 gc s6 hS6 cb c0 c9 => ?_
    refine u_addS ?_ ?_
    · simp only [len_list, app_list, s91, s93, List.length_append, List.length_cons, List.length_nil]
      exact ll (by omega)
    walk_at "go"
    refine u_addS ?_ ?_
    · simp only [len_list, app_list, s91, s93, List.length_append, List.length_cons, List.length_nil]
      exact ll (by omega)
    refine q _ _ (sb4.trans (s5.trans s6)) hS6 ?_ ?_
    · rw [app_list, app_list, app_list, app_list, s91, s93]
      simp only [Jn.tks]
      rw [if_pos c, ← ets']
      have e1 : LayT (.sg 91 :: ts) ([91] ++ (ga.cps.toList ++ z.cps.toList)) := LayT.app (a := [.sg 91]) (.sign (in5 (.inl rfl))) (g3.gap ab) fun t ht hr => by
        have : Tk.sg 91 = t := by simpa using ht
        rw [← this] at hr
        cases hr
      have e2 := e1.app (LayT.gap cb (.sign (c := 93) (in5 (.inr (.inl rfl))))) fun _ _ _ => cb.lead (in5 (.inr (.inl rfl)))
      simpa only [List.append_assoc] using e2
    · rw [app_list, app_list, app_list, app_list, s91, s93]
      simp only [List.length_append, List.length_cons, List.length_nil]
      omega
  refine iteF' (by simpa using c) ?_
  have ets' : ts = .wd op :: td.map tdT := by rw [ets, if_neg c]
  have tl3 : ts.length ≤ 3 := by
    have := h3 c
    rw [ets', List.length_cons, List.length_map]
    omega
  walk_at "go"
  have hsq4 := (hS.ext sb4) _ _ hsq
  refine rd_enA ?_
  walk_at "go"
  refine u_ixT hsj4 rfl ?_
  walk_at "go"
  refine u_enT hsq4 ?_
  have lp : pws.length = parts.length := by rw [hRq.length, pys_length]
  have hcn : 1 + Jn.cnts parts ≤ n + 1 := by simpa only [Jn.cnt] using hn
  have hc40 : 1 + Jn.cnts parts ≤ 40 := by simpa only [Jn.cnt] using h40
  have p4 : parts.length ≤ 4 := by
    have := gx.ok
    simp only [Jn.ok] at this
    exact this.2.2.2.1
  refine HE.forET (xs := pws) (fun k σ H' => ∃ (y : Str) (o5 o6 o7 : Option V), σ = [some (.ref a), some (.ref pj), some (.ref W), none, some (.str y), o5, o6, o7] ∧ SB a H4 H' ∧ Src H' a ∧ LayT (ts ++ preT (parts.take k)) y.cps.toList ∧ y.cps.toList.length ≤ 33 + (551 * Jn.cnts (parts.take k) + 168 * k)) ⟨_, _, _, _, rfl, SB.refl, g2, ?_, ?_⟩ ?_ ?_ ?_
  · rw [List.take_zero]
    show LayT (ts ++ []) _
    rw [List.append_nil]
    exact g3
  · omega
  · rintro k σ H' _ ⟨y, p5, p6, p7, rfl, w1, _⟩
    exact (hS.ext (sb4.trans w1)) _ _ hsq
  · rintro k x T σ H' hx ⟨y, p5, p6, p7, rfl, w1, w2, w3, w4⟩ hT
    obtain ⟨jx, ex, rx⟩ := hRq.part hx
    have jm : jx ∈ parts := List.mem_of_getElem? ex
    have jc := cnts_mem jm
    have il := lt_of_get ex
    have gj : Fx jx := gx.sub (by simp only [Jn.all]; exact List.mem_cons_of_mem _ (part_alls jm))
    have ect : Jn.cnts (parts.take (k + 1)) = Jn.cnts (parts.take k) + jx.cnt := by
      rw [List.take_add_one, ex, cnts_append]
      simp [Jn.cnts]
    refine rd_gtup (SqT.of upd_same) rfl ?_
    have w1 := w1.trans ((SB.refl (a := a) (H := H')).new (o := .tup [.int k, x]) hT)
    have w2 := w2.new (o := .tup [.int k, x]) hT
    generalize upd H' T (.tup [.int k, x]) = H5 at *
    walk_at "go"
    refine use_gap w2 (by omega) (by omega) fun H6 ga s6 hS6 ab a0 a9 => ?_
    have lc3 : 551 * Jn.cnts (parts.take k) ≤ 551 * 40 := Nat.mul_le_mul_left _ (Nat.le_trans (cnts_take parts k) (by omega))
    refine u_addS ?_ ?_
    · simp only [len_list, app_list, List.length_append, List.length_cons, List.length_nil]
      exact ll (by omega)
    walk_at "go"
    refine ⟨lk rfl, fun pL hpL => ?_⟩
    walk_at "go"
    refine u_ixL (SqL.of upd_same) (v := .str ⟨#[sgnAt k]⟩) ?_ ?_
    · unfold sgnAt
      by_cases k0 : k = 0
      · subst k0
        decide +kernel
      · rw [if_neg k0, decide_eq_true (show (0 : Int) < (k : Int) by omega)]
        decide +kernel
    have s7 := s6.trans ((SB.refl (a := a) (H := H6)).new (o := .lst [.str (Str.ofString "("), .str (Str.ofString ",")]) hpL)
    have hS7 := hS6.new (o := .lst [.str (Str.ofString "("), .str (Str.ofString ",")]) hpL
    generalize upd H6 pL (.lst [.str (Str.ofString "("), .str (Str.ofString ",")]) = H7 at *
    have esg : (⟨#[sgnAt k]⟩ : Str).cps.toList = [sgnAt k] := rfl
    refine u_addS ?_ ?_
    · simp only [len_list, app_list, esg, List.length_append, List.length_cons, List.length_nil]
      exact ll (by omega)
    walk_at "go"
    refine use_gap hS7 (by omega) (by omega) fun H8 gc s8 hS8 cb c0 c9 => ?_
    refine u_addS ?_ ?_
    · simp only [len_list, app_list, esg, List.length_append, List.length_cons, List.length_nil]
      exact ll (by omega)
    walk_at "go"
    have w8 := w1.trans (s7.trans s8)
    refine use_gd hS8 (rx.mono (hS.ext (sb4.trans w8)) _ _) gj (by omega) (by omega) fun H9 u s9 hS9 ul un => ?_
    refine u_addS ?_ ?_
    · simp only [len_list, app_list, esg, List.length_append, List.length_cons, List.length_nil]
      exact ll (by omega)
    walk_at "go"
    refine ⟨_, _, _, _, rfl, w8.trans s9, hS9, ?_, ?_⟩
    · simp only [app_list, esg]
      rw [List.take_add_one, ex]
      show LayT (ts ++ preT (parts.take k ++ [jx])) _
      rw [preT_snoc, List.length_take, Nat.min_eq_left (by omega)]
      have e1 := LayT.sgn w3 ab (show sgnAt k ∈ signs5 by unfold sgnAt; split <;> decide) cb ul
      simpa only [List.append_assoc, List.cons_append, List.nil_append] using e1
    · simp only [app_list, esg, List.length_append, List.length_cons, List.length_nil]
      rw [ect, Nat.mul_add]
      omega
  · rintro σ H' ⟨y, p5, p6, p7, rfl, w1, w2, w3, w4⟩
    rw [lp, List.take_length] at w3 w4
    have hsj5 := (hS.ext (sb4.trans w1)) _ _ hsj
    have hsq5 := (hS.ext (sb4.trans w1)) _ _ hsq
    have hcp : (Jn.mk op td parts).cnt = 1 + Jn.cnts parts := by simp only [Jn.cnt]
    walk_at "go"
    refine u_ixT hsj5 rfl ?_
    refine ⟨!pws.isEmpty, .inr (.inl ⟨pws, hsq5, rfl⟩), ?_⟩
    by_cases cp : parts.isEmpty = true
    · have ep : pws = [] := by
        cases parts with
        | nil => exact List.eq_nil_of_length_eq_zero lp
        | cons _ _ => cases cp
      rw [ep]
      refine iteF ?_
      walk_at "go"
      refine u_addS ?_ ?_
      · simp only [len_list, app_list, str_nil, List.length_append, List.length_cons, List.length_nil]
        exact ll (by omega)
      refine q _ _ (sb4.trans w1) w2 ?_ ?_
      · simp only [app_list, str_nil, List.append_nil]
        simp only [Jn.tks]
        rw [if_neg c, if_pos cp, ← ets']
        unfold preT at w3
        rw [if_pos cp] at w3
        exact w3
      · simp only [app_list, str_nil, List.append_nil, hcp]
        omega
    · have ep : (!pws.isEmpty) = true := by
        cases pws with
        | nil =>
          cases parts with
          | nil => exact absurd rfl cp
          | cons _ _ => cases lp
        | cons _ _ => rfl
      rw [ep]
      refine iteT ?_
      walk_at "go"
      refine use_gap w2 (by omega) (by omega) fun H6 ga s6 hS6 ab a0 a9 => ?_
      walk_at "go"
      refine u_addS ?_ ?_
      · simp only [len_list, app_list, s41, List.length_append, List.length_cons, List.length_nil]
        exact ll (by omega)
      refine u_addS ?_ ?_
      · simp only [len_list, app_list, s41, List.length_append, List.length_cons, List.length_nil]
        exact ll (by omega)
      have c41 : 41 ∈ signs5 := by decide
      refine q _ _ ((sb4.trans w1).trans s6) hS6 ?_ ?_
      · simp only [app_list, s41]
        simp only [Jn.tks]
        rw [if_neg c, if_neg cp, ← ets']
        unfold preT at w3
        rw [if_neg cp] at w3
        have e1 := w3.app (LayT.gap ab (.sign c41)) fun _ _ _ => ab.lead c41
        simpa only [List.append_assoc, List.cons_append] using e1
      · simp only [app_list, s41, List.length_append, List.length_cons, List.length_nil, hcp]
        omega
theorem has_gd (O : OwnF K mg "_law_gapped" s_law_gapped) (B : Bl mg) (h_law_gap : HasF P w K mg base CX0 3 "_law_gap" ["source", "least"] spGap) : ∀ n : Nat, HasF P w K mg base CX0 (3 + n) "_law_gapped" ["source", "joint"] (spGd K n)
  | 0 => base_gd (l := 2) O
  | n + 1 => step_gd (Nat.le_add_right 3 n) O B h_law_gap (has_gd O B h_law_gap n)
end
end Mine

/-! ### V2 -/
namespace Mine
open PySem PySem.Spec L2
local macro_rules | `(tactic| walk_at "st") => `(tactic| (with_reducible apply iteF))
local macro_rules | `(tactic| walk_at "st") => `(tactic| (with_reducible apply iteT))
local macro_rules | `(tactic| walk_at "st") => `(tactic| ((with_reducible apply rd_tyF); (focus assumption)))
local macro_rules | `(tactic| walk_at "st") => `(tactic| (with_reducible apply rd_tupF))
local macro_rules | `(tactic| walk_at "st") => `(tactic| (with_reducible apply rd_bmT))
local macro_rules | `(tactic| walk_at "st") => `(tactic| (with_reducible apply rd_dc))
local macro_rules | `(tactic| walk_at "st") => `(tactic| (with_reducible apply u_notB))
local macro_rules | `(tactic| walk_at "st") => `(tactic| (with_reducible apply u_repB))
local macro_rules | `(tactic| walk_at "st") => `(tactic| (with_reducible apply u_isB))
local macro_rules | `(tactic| walk_at "st") => `(tactic| (with_reducible apply rd_nopart))
local macro_rules | `(tactic| walk_at "st") => `(tactic| (with_reducible apply rd_partI))
local macro_rules | `(tactic| walk_at "st") => `(tactic| (with_reducible apply rd_part))
local macro_rules | `(tactic| walk_at "st") => `(tactic| (with_reducible apply rd_sl))
local macro_rules | `(tactic| walk_at "st") => `(tactic| (with_reducible apply rd_disp1))
local macro_rules | `(tactic| walk_at "st") => `(tactic| (with_reducible apply rd_dput))
local macro_rules | `(tactic| walk_at "st") => `(tactic| (with_reducible apply rd_dget))
local macro_rules | `(tactic| walk_at "st") => `(tactic| (with_reducible apply rd_din))
local macro_rules | `(tactic| walk_at "st") => `(tactic| (with_reducible apply rd_dnew))
local macro_rules | `(tactic| walk_at "st") => `(tactic| ((with_reducible apply rd_gtup); (focus first | assumption | exact SqT.of (by assumption) | exact SqT.of upd_same); (focus rfl)))
local macro_rules | `(tactic| walk_at "st") => `(tactic| (with_reducible apply rd_lc2))
local macro_rules | `(tactic| walk_at "st") => `(tactic| (with_reducible apply rd_zip))
local macro_rules | `(tactic| walk_at "st") => `(tactic| ((with_reducible apply u_enL); (focus first | assumption | exact SqL.of (by assumption) | exact SqL.of upd_same)))
local macro_rules | `(tactic| walk_at "st") => `(tactic| ((with_reducible apply u_enT); (focus first | assumption | exact SqT.of (by assumption) | exact SqT.of upd_same)))
local macro_rules | `(tactic| walk_at "st") => `(tactic| (with_reducible apply rd_rng3))
local macro_rules | `(tactic| walk_at "st") => `(tactic| (with_reducible apply rd_rg1))
local macro_rules | `(tactic| walk_at "st") => `(tactic| (with_reducible apply rd_revR))
local macro_rules | `(tactic| walk_at "st") => `(tactic| (with_reducible apply rd_enA))
local macro_rules | `(tactic| walk_at "st") => `(tactic| (with_reducible apply rd_ipI))
local macro_rules | `(tactic| walk_at "st") => `(tactic| ((with_reducible apply rd_aug); exact rfl))
local macro_rules | `(tactic| walk_at "st") => `(tactic| (with_reducible apply rd_par3_end))
local macro_rules | `(tactic| walk_at "st") => `(tactic| (with_reducible apply rd_par3))
local macro_rules | `(tactic| walk_at "st") => `(tactic| (with_reducible apply u_mul; focus exact Or.inr cm))
local macro_rules | `(tactic| walk_at "st") => `(tactic| ((with_reducible apply u_pow); (focus (exact ⟨by decide, by decide, by decide⟩))))
local macro_rules | `(tactic| walk_at "st") => `(tactic| (with_reducible apply rd_yes))
local macro_rules | `(tactic| walk_at "st") => `(tactic| (with_reducible apply rd_lc))
local macro_rules | `(tactic| walk_at "st") => `(tactic| ((with_reducible apply rd_itT); (focus first | assumption | exact SqT.of (by assumption) | exact SqT.of upd_same)))
local macro_rules | `(tactic| walk_at "st") => `(tactic| ((with_reducible apply rd_itL); (focus first | assumption | exact SqL.of (by assumption) | exact SqL.of upd_same)))
local macro_rules | `(tactic| walk_at "st") => `(tactic| ((with_reducible apply u_isi); (focus (first | exact Or.inl rfl | exact Or.inr (Or.inl rfl) | exact Or.inr (Or.inr (Or.inl rfl)) | exact Or.inr (Or.inr (Or.inr rfl)))); (focus first | assumption | exact Rp.int _ | exact Rp.str _)))
local macro_rules | `(tactic| walk_at "st") => `(tactic| (with_reducible apply rd_istrE))
local macro_rules | `(tactic| walk_at "st") => `(tactic| (with_reducible apply rd_istr))
local macro_rules | `(tactic| walk_at "st") => `(tactic| ((with_reducible apply rd_seqT); (focus first | assumption | exact SqT.of (by assumption) | exact SqT.of upd_same)))
local macro_rules | `(tactic| walk_at "st") => `(tactic| ((with_reducible apply rd_seqL); (focus first | assumption | exact SqL.of (by assumption) | exact SqL.of upd_same)))
local macro_rules | `(tactic| walk_at "st") => `(tactic| (with_reducible apply rd_iSeq))
local macro_rules | `(tactic| walk_at "st") => `(tactic| (with_reducible apply u_notInS))
local macro_rules | `(tactic| walk_at "st") => `(tactic| (with_reducible apply u_inS))
local macro_rules | `(tactic| walk_at "st") => `(tactic| (with_reducible apply u_notInD))
local macro_rules | `(tactic| walk_at "st") => `(tactic| (with_reducible apply u_inD))
local macro_rules | `(tactic| walk_at "st") => `(tactic| (with_reducible apply rd_callS))
local macro_rules | `(tactic| walk_at "st") => `(tactic| (with_reducible apply rd_raiseE))
local macro_rules | `(tactic| walk_at "st") => `(tactic| (with_reducible apply rd_xf))
local macro_rules | `(tactic| walk_at "st") => `(tactic| (with_reducible apply g_neB))
local macro_rules | `(tactic| walk_at "st") => `(tactic| (with_reducible apply g_neS))
local macro_rules | `(tactic| walk_at "st") => `(tactic| (with_reducible apply g_neI))
local macro_rules | `(tactic| walk_at "st") => `(tactic| (with_reducible apply g_eqS))
local macro_rules | `(tactic| walk_at "st") => `(tactic| (with_reducible apply g_eqI))
local macro_rules | `(tactic| walk_at "st") => `(tactic| (with_reducible apply rd_retN))
local macro_rules | `(tactic| walk_at "st") => `(tactic| (with_reducible apply rd_gnil))
local macro_rules | `(tactic| walk_at "st") => `(tactic| (with_reducible apply rd_gcons))
local macro_rules | `(tactic| walk_at "st") => `(tactic| ((with_reducible apply rd_rng2e); (focus omega)))
local macro_rules | `(tactic| walk_at "st") => `(tactic| ((with_reducible apply rd_rng1e); (focus omega); (focus omega)))
local macro_rules | `(tactic| walk_at "st") => `(tactic| (with_reducible apply rd_rng2))
local macro_rules | `(tactic| walk_at "st") => `(tactic| (with_reducible apply rd_rng1))
local macro_rules | `(tactic| walk_at "st") => `(tactic| (with_reducible apply rd_for))
local macro_rules | `(tactic| walk_at "st") => `(tactic| (with_reducible apply rd_iTup))
local macro_rules | `(tactic| walk_at "st") => `(tactic| (with_reducible apply rd_iList))
local macro_rules | `(tactic| walk_at "st") => `(tactic| (with_reducible apply rd_rev))
local macro_rules | `(tactic| walk_at "st") => `(tactic| (with_reducible apply u_min3))
local macro_rules | `(tactic| walk_at "st") => `(tactic| ((with_reducible apply rd_tyL); focus (first | exact SqL.of (by assumption) | exact SqL.of upd_same)))
local macro_rules | `(tactic| walk_at "st") => `(tactic| (with_reducible apply rd_bm0))
local macro_rules | `(tactic| walk_at "st") => `(tactic| (with_reducible apply rd_bm))
local macro_rules | `(tactic| walk_at "st") => `(tactic| ((with_reducible apply rd_truL); focus (first | assumption | exact SqL.of (by assumption) | exact SqL.of upd_same)))
local macro_rules | `(tactic| walk_at "st") => `(tactic| (with_reducible apply rd_truB))
local macro_rules | `(tactic| walk_at "st") => `(tactic| (with_reducible apply rd_tru))
local macro_rules | `(tactic| walk_at "st") => `(tactic| (with_reducible apply rd_chain3))
local macro_rules | `(tactic| walk_at "st") => `(tactic| ((with_reducible apply u_setL); (focus (first | assumption | exact upd_same)); exact rfl))
local macro_rules | `(tactic| walk_at "st") => `(tactic| ((with_reducible apply u_lenT); focus (first | assumption | exact SqT.of (by assumption) | exact SqT.of upd_same)))
local macro_rules | `(tactic| walk_at "st") => `(tactic| ((with_reducible apply u_lenL); focus (first | assumption | exact SqL.of (by assumption) | exact SqL.of upd_same)))
local macro_rules | `(tactic| walk_at "st") => `(tactic| ((with_reducible apply u_ixL); (focus (first | assumption | exact SqL.of (by assumption) | exact SqL.of upd_same)); exact rfl))
local macro_rules | `(tactic| walk_at "st") => `(tactic| ((with_reducible apply u_mul); focus first | exact Or.inl (by omega) | exact Or.inr (by omega) | exact Or.inl (by decide) | exact Or.inr (by decide)))
local macro_rules | `(tactic| walk_at "st") => `(tactic| ((with_reducible apply u_div); focus first | decide | omega | (constructor <;> first | assumption | omega)))
local macro_rules | `(tactic| walk_at "st") => `(tactic| ((with_reducible apply u_mod); focus first | assumption | decide | omega))
local macro_rules | `(tactic| walk_at "st") => `(tactic| (with_reducible apply u_neg))
local macro_rules | `(tactic| walk_at "st") => `(tactic| (with_reducible apply u_min))
local macro_rules | `(tactic| walk_at "st") => `(tactic| (with_reducible apply u_max))
local macro_rules | `(tactic| walk_at "st") => `(tactic| (with_reducible apply u_intB))
local macro_rules | `(tactic| walk_at "st") => `(tactic| (with_reducible apply u_int))
local macro_rules | `(tactic| walk_at "st") => `(tactic| (with_reducible apply u_neI))
local macro_rules | `(tactic| walk_at "st") => `(tactic| (with_reducible apply u_eqS))
local macro_rules | `(tactic| walk_at "st") => `(tactic| (with_reducible apply u_eqI))
local macro_rules | `(tactic| walk_at "st") => `(tactic| (with_reducible apply u_ge))
local macro_rules | `(tactic| walk_at "st") => `(tactic| (with_reducible apply u_gt))
local macro_rules | `(tactic| walk_at "st") => `(tactic| (with_reducible apply u_le))
local macro_rules | `(tactic| walk_at "st") => `(tactic| (with_reducible apply u_lt))
local macro_rules | `(tactic| walk_at "st") => `(tactic| (with_reducible apply u_sub))
local macro_rules | `(tactic| walk_at "st") => `(tactic| (with_reducible apply u_add))
local macro_rules | `(tactic| walk_at "st") => `(tactic| (with_reducible apply rd_ct))
local macro_rules | `(tactic| walk_at "st") => `(tactic| (with_reducible apply rd_brk))
local macro_rules | `(tactic| walk_at "st") => `(tactic| (with_reducible apply rd_tB))
local macro_rules | `(tactic| walk_at "st") => `(tactic| (with_reducible apply rd_chain))
local macro_rules | `(tactic| walk_at "st") => `(tactic| (with_reducible apply rd_notV))
local macro_rules | `(tactic| walk_at "st") => `(tactic| (with_reducible apply rd_orV))
local macro_rules | `(tactic| walk_at "st") => `(tactic| (with_reducible apply rd_andV))
local macro_rules | `(tactic| walk_at "st") => `(tactic| (with_reducible apply rd_not))
local macro_rules | `(tactic| walk_at "st") => `(tactic| (with_reducible apply rd_or))
local macro_rules | `(tactic| walk_at "st") => `(tactic| (with_reducible apply rd_and))
local macro_rules | `(tactic| walk_at "st") => `(tactic| (with_reducible apply rd_un))
local macro_rules | `(tactic| walk_at "st") => `(tactic| (with_reducible apply rd_par_end))
local macro_rules | `(tactic| walk_at "st") => `(tactic| (with_reducible apply rd_par))
local macro_rules | `(tactic| walk_at "st") => `(tactic| (with_reducible apply rd_gsub))
local macro_rules | `(tactic| walk_at "st") => `(tactic| (with_reducible apply rd_ife))
local macro_rules | `(tactic| walk_at "st") => `(tactic| (with_reducible apply rd_next))
local macro_rules | `(tactic| walk_at "st") => `(tactic| (with_reducible apply rd_drop))
local macro_rules | `(tactic| walk_at "st") => `(tactic| (with_reducible apply rd_lst))
local macro_rules | `(tactic| walk_at "st") => `(tactic| (with_reducible apply rd_tup))
local macro_rules | `(tactic| walk_at "st") => `(tactic| (with_reducible apply rd_call))
local macro_rules | `(tactic| walk_at "st") => `(tactic| (with_reducible apply rd_ret))
local macro_rules | `(tactic| walk_at "st") => `(tactic| (with_reducible apply rd_retE))
local macro_rules | `(tactic| walk_at "st") => `(tactic| (with_reducible apply rd_bl))
local macro_rules | `(tactic| walk_at "st") => `(tactic| (with_reducible apply rd_test))
local macro_rules | `(tactic| walk_at "st") => `(tactic| (with_reducible apply rd_if))
local macro_rules | `(tactic| walk_at "st") => `(tactic| (with_reducible apply rd_nil))
local macro_rules | `(tactic| walk_at "st") => `(tactic| (with_reducible apply rd_cons))
local macro_rules | `(tactic| walk_at "st") => `(tactic| (with_reducible apply rd_cb))
local macro_rules | `(tactic| walk_at "st") => `(tactic| (with_reducible apply rd_op))
local macro_rules | `(tactic| walk_at "st") => `(tactic| (with_reducible apply rd_gname))
local macro_rules | `(tactic| walk_at "st") => `(tactic| (with_reducible apply rd_asg))
local macro_rules | `(tactic| walk_at "st") => `(tactic| (with_reducible apply rd_seq))
local macro_rules | `(tactic| walk_at "st") => `(tactic| (with_reducible apply rd_c))
local macro_rules | `(tactic| walk_at "st") => `(tactic| ((with_reducible apply rd_var); exact rfl))
local macro_rules | `(tactic| walk_at "go") => `(tactic| repeat (walk_at "st"))
local macro_rules | `(tactic| walk_at "sp") => `(tactic| (first | refine rd_split (fun c => ?_) (fun c => ?_) | refine rd_splitN (fun c => ?_) (fun c => ?_) | refine rd_splitB (fun c => ?_) (fun c => ?_)))
local macro_rules | `(tactic| walk_at "nx") => `(tactic| repeat (first | (with_reducible apply iteF) | (with_reducible apply iteT) | (with_reducible apply rd_next)))

section
variable {P : Program} {w : World} {K : PySem.W.Frag} {mg : Str → Option Value} {base : Heap}
theorem neq_same {H : Hp} {x y : V} {d : PyData} {Q : VK} (h1 : Rp K H x d) (h2 : Rp K H y d) (hd : dat d) (dp : d.depth ≤ 199) (q : Q (.bl false) H) : rNeG K x y H Q := by
  refine g_neD (Rp.dp _ _ h1) (Rp.dp _ _ h2) (dat_lay _ hd) (dat_lay _ hd) (Nat.le_trans (Nat.min_le_left _ _) dp) ?_
  rw [(eqv_iff hd hd).mpr rfl]
  exact q
theorem eq_same {H : Hp} {x y : V} {d : PyData} {Q : VK} (h1 : Rp K H x d) (h2 : Rp K H y d) (hd : dat d) (dp : d.depth ≤ 199) (q : Q (.bl true) H) : rEqG K x y H Q := by
  refine g_eqD (Rp.dp _ _ h1) (Rp.dp _ _ h2) (dat_lay _ hd) (dat_lay _ hd) (Nat.le_trans (Nat.min_le_left _ _) dp) ?_
  rw [(eqv_iff hd hd).mpr rfl]
  exact q
theorem tagS_dat {z : Str} {d : PyData} (h1 : okS z) (h2 : dat d) : dat (.tuple [.str z, d]) := by
  simp only [dat, dats]
  exact ⟨by simp, h1, h2, trivial⟩
theorem tagS_dp {z : Str} {d : PyData} (h : d.depth ≤ 198) : (PyData.tuple [.str z, d]).depth ≤ 199 := by
  have : PyData.depthAll [.str z, d] ≤ 198 := depth_of fun e he => by
    simp only [List.mem_cons, List.not_mem_nil, or_false] at he
    rcases he with rfl | rfl
    · simp [PyData.depth]
    · exact h
  simp only [PyData.depth]
  omega
theorem NewsAt.sb {H H' : Hp} {a d : Addr} {f : Int → Option PyData} (h : NewsAt K H d f) (s : SB a H H') (n : d ≠ a) (e : Ext K H H') : NewsAt K H' d f := by
  obtain ⟨kvs, h1, h2⟩ := h
  refine ⟨kvs, s _ _ n h1, fun i => ?_⟩
  rcases h2 i with ⟨nv, dd, a, b, c⟩ | h
  · exact .inl ⟨nv, dd, a, b, c.mono e _ _⟩
  · exact .inr h
theorem oneF_dat {x i : Int} {d e : PyData} (hd : dat d) (h : oneF x d i = some e) : dat e := by
  unfold oneF at h
  split at h
  · cases h
    exact hd
  · cases h
def spCr (K : PySem.W.Frag) : Sp := fun vs H Q _ => ∃ (a : Addr), vs = [.ref a] ∧ Src H a ∧ ∀ (H' : Hp), SB a H H' → Src H' a → Q (.bl true) H'
abbrev s_law_right : Stmt := top 73
theorem sc_law_right : FnScope ["source", "program", "listed", "news", "turn", "due", "told", "text", "back", "j", "spoilt"] ["source"] (defScope s_law_right) := ⟨rfl, rfl, rfl, by decide +kernel, rfl, by decide +kernel, by decide +kernel⟩
theorem has_right {e : Ecl} (O : OwnF K mg "_law_right" s_law_right) (B : Bl mg) (h_told_text : HasK P w K mg base (L2.CX P w) 42 "told_text" "program" (spTt K e)) (h_read : HasK P w K mg base (L2.CX P w) 8 "read" "text" (spRead K)) (h_law_take : HasF P w K mg base CX0 1 "_law_take" ["source", "top"] spTake) (h_law_one : HasF P w K mg base CX0 2 "_law_one" ["source", "things"] (spOne K)) (h_law_leaf : HasF P w K mg base CX0 4 "_law_leaf" ["source", "k"] (spLeaf K)) (h_law_program : HasF P w K mg base CX0 125 "_law_program" ["source", "most"] (spProg K)) (h_law_listed : HasF P w K mg base CX0 41 "_law_listed" ["joint"] (spLs K 40)) (h_law_put : HasF P w K mg base CX0 81 "_law_put" ["joint", "number", "news"] (spPut K 40)) (h_law_written : HasF P w K mg base CX0 41 "_law_written" ["joint"] (spJx K 40)) (h_law_gap : HasF P w K mg base CX0 3 "_law_gap" ["source", "least"] spGap) (h_law_gapped : HasF P w K mg base CX0 43 "_law_gapped" ["source", "joint"] (spGd K 40)) (h_law_refused : HasF P w K mg base CX0 43 "_law_refused" ["thing"] (spRf K)) : HasF P w K mg base CX0 126 "_law_right" ["source"] (spCr K) := by
  refine has0 O sc_law_right (fun _ _ _ _ _ _ us hl => match us, hl with | [_], _ => rfl) (fun vs H Q E h => ?_) (fun f cdv A outer s_ H vs Q E hr h => ?_)
  · obtain ⟨a, rfl, _⟩ := h
    rfl
  obtain ⟨a, rfl, hS, q⟩ := h
  refine ⟨_, (pss_cons (ps_set (i := 1) sc_law_right.nd rfl (by first | exact Or.inl rfl | exact Or.inr rfl) (pe_callH h_law_program (hr.mono (by first | decide | omega)) (by rfl) pass0 (pa_cons (pv 0) (pa_cons (pe_callH h_law_one (hr.mono (by first | decide | omega)) (by rfl) pass0 (pa_cons (pv 0) (pa_cons (pe_lst (pa_cons pe_int (pa_cons pe_int (pa_cons pe_int pa_nil)))) pa_nil))) pa_nil)))) (pss_cons (ps_par (i := 2) (j := 3) (by rfl) sc_law_right.nd rfl rfl (by decide) rfl rfl (pa_cons (pe_callH h_law_listed (hr.mono (by first | decide | omega)) (by rfl) pass0 (pa_cons (pv 1) pa_nil)) (pa_cons pe_dnewK pa_nil)) (by rfl)) (pss_cons (ps_for PassesOwn.never rfl (pi_range1 (by rfl) B.range (pa_cons (pe_callH h_law_take (hr.mono (by first | decide | omega)) (by rfl) pass0 (pa_cons (pv 0) (pa_cons pe_int pa_nil))) pa_nil)) (pg_name (i := 4) sc_law_right.nd rfl (by first | exact Or.inl rfl | exact Or.inr rfl)) (pss_one (ps_dput (hu_of hr) (pv 3) (pe_callH h_law_take (hr.mono (by first | decide | omega)) (by rfl) pass0 (pa_cons (pv 0) (pa_cons (pe_callB (kLen K) (by rfl) B.len (by decide +kernel) (pa_cons (pv 2) pa_nil)) pa_nil))) (pe_callH h_law_leaf (hr.mono (by first | decide | omega)) (by rfl) pass0 (pa_cons (pv 0) (pa_cons (pe_op (kAdd K) pe_int (pe_callH h_law_take (hr.mono (by first | decide | omega)) (by rfl) pass0 (pa_cons (pv 0) (pa_cons pe_int pa_nil)))) pa_nil))) rfl))) (pss_cons (ps_set (i := 1) sc_law_right.nd rfl (by first | exact Or.inl rfl | exact Or.inr rfl) (pe_callH h_law_put (hr.mono (by first | decide | omega)) (by rfl) pass0 (pa_cons (pv 1) (pa_cons pe_int (pa_cons (pv 3) pa_nil))))) (pss_cons (ps_par3 (i := 5) (j := 6) (l := 2) (by rfl) sc_law_right.nd rfl rfl rfl (by decide) (by decide) (by decide) rfl rfl rfl (pa_cons (pe_callH h_law_written (hr.mono (by first | decide | omega)) (by rfl) pass0 (pa_cons (pv 1) pa_nil)) (pa_cons (pe_callKS h_told_text (hr.mono (by first | decide | omega)) (by rfl) (fun σ => passAt takes0 σ) (pv 1)) (pa_cons (pe_callH h_law_listed (hr.mono (by first | decide | omega)) (by rfl) pass0 (pa_cons (pv 1) pa_nil)) pa_nil))) (by rfl)) (pss_cons (ps_if (PW.pt (pw_or (pt_not (pt_val (pe_callB (kIsi K) (by rfl) B.isinstance (by decide +kernel) (pa_cons (pv 6) (pa_cons (pe_bltn (v := .ty "str") (by rfl) B.str (by decide +kernel) rfl) pa_nil))))) (pw_or (pt_cmpR (kNeG K (hU hr)) (pv 6) (pv 5) (nomark _)) (pw_or (pt_cmpR (kNeG K (hU hr)) (pe_callHS h_read.pos (hr.mono (by first | decide | omega)) (by rfl) (fun σ => passAt takes0 σ) (pa_cons (pv 6) pa_nil)) (pv 1) (nomark _)) (pw_or1 (pt_cmpR geU (pe_callB (kLen K) (by rfl) B.len (by decide +kernel) (pa_cons (pv 6) pa_nil)) pe_int (nomark _))))))) (pss_one (ps_ret pe_bl)) pss_nil) (pss_cons (ps_set (i := 7) sc_law_right.nd rfl (by first | exact Or.inl rfl | exact Or.inr rfl) (pe_op (kAdd K) (pe_op (kAdd K) (pe_callH h_law_gap (hr.mono (by first | decide | omega)) (by rfl) pass0 (pa_cons (pv 0) (pa_cons pe_int pa_nil))) (pe_callH h_law_gapped (hr.mono (by first | decide | omega)) (by rfl) pass0 (pa_cons (pv 0) (pa_cons (pv 1) pa_nil)))) (pe_callH h_law_gap (hr.mono (by first | decide | omega)) (by rfl) pass0 (pa_cons (pv 0) (pa_cons pe_int pa_nil))))) (pss_cons (ps_set (i := 8) sc_law_right.nd rfl (by first | exact Or.inl rfl | exact Or.inr rfl) (pe_callKS h_read (hr.mono (by first | decide | omega)) (by rfl) (fun σ => passAt takes0 σ) (pv 7))) (pss_cons (ps_if (PW.pt (pw_or (pt_cmpR (kNeG K (hU hr)) (pv 8) (pv 1) (nomark _)) (pw_or1 (pt_cmpR (kNeG K (hU hr)) (pe_callHS h_told_text.pos (hr.mono (by first | decide | omega)) (by rfl) (fun σ => passAt takes0 σ) (pa_cons (pv 8) pa_nil)) (pv 5) (nomark _))))) (pss_one (ps_ret pe_bl)) pss_nil) (pss_cons (ps_set (i := 9) sc_law_right.nd rfl (by first | exact Or.inl rfl | exact Or.inr rfl) (pe_callH h_law_take (hr.mono (by first | decide | omega)) (by rfl) pass0 (pa_cons (pv 0) (pa_cons (pe_callB (kLen K) (by rfl) B.len (by decide +kernel) (pa_cons (pv 2) pa_nil)) pa_nil)))) (pss_cons (ps_set (i := 10) sc_law_right.nd rfl (by first | exact Or.inl rfl | exact Or.inr rfl) (pe_callH h_law_put (hr.mono (by first | decide | omega)) (by rfl) pass0 (pa_cons (pv 1) (pa_cons pe_int (pa_cons (pe_disp (pps_cons (pv 9) (pe_callH h_law_one (hr.mono (by first | decide | omega)) (by rfl) pass0 (pa_cons (pv 0) (pa_cons (pe_lst (pa_cons pe_non (pa_cons pe_int (pa_cons pe_str (pa_cons (pe_tup pa_nil) (pa_cons (pe_tup (pa_cons pe_str (pa_cons (pe_tup (pa_cons pe_int pa_nil)) pa_nil))) pa_nil)))))) pa_nil))) pps_nil) (by rfl) (by rfl) (fun z => by cases z) (by decide)) pa_nil))))) (pss_one (ps_ret (pe_cmpR (kEqG K (hU hr)) (pe_callH h_law_refused (hr.mono (by first | decide | omega)) (by rfl) pass0 (pa_cons (pv 10) pa_nil)) (pe_tup (pa_cons pe_str (pa_cons (pv 9) pa_nil))) (nomark _))))))))))))))), ?_⟩
  refine st0 [some (.ref a), none, none, none, none, none, none, none, none, none, none] rfl ?_
  walk_at "go"
  refine ⟨lk rfl, fun L hL => ?_⟩
  walk_at "go"
  refine use_one (xs := ([8, 20, 40] : List Int).map V.int) (hS.new hL) (SqL.of upd_same) (hS.ne hL) (by simp) (by simp) fun H1 mv s1 hS1 hv => ?_
  obtain ⟨most, hm, rfl⟩ := List.mem_map.mp hv
  have hm : most = 8 ∨ most = 20 ∨ most = 40 := by simpa using hm
  have s01 : SB a H H1 := (SB.refl.new hL).trans s1
  walk_at "go"
  refine use_prog hS1 (by omega) (by omega) fun H2 v0 j0 s2 hS2 r0 g0 c0 => ?_
  have c0 : j0.cnt ≤ 40 := by omega
  have hc0 := cnt_pos j0
  walk_at "go"
  refine use_ls r0 g0.ok (by omega) (by omega) fun H3 lb ws s3 hlb0 hlb hR => ?_
  have lw : ws.length = j0.cnt := by rw [hR.length, pys_length, all_cnt]
  have hS3 := hS2.same s3
  have nlb : lb ≠ a := hS2.ne hlb0
  have r3 := r0.mono (Ext.of_same s3) _ _
  have s03 := (s01.trans s2).trans (SB.of_same s3)
  clear s01 s1 s2 s3 hv hS1 hS2 r0 hR hlb0
  walk_at "go"
  intro p hp
  have npa : p ≠ a := hS3.ne hp
  have nlp : lb ≠ p := fun e => by rw [e, hp] at hlb; cases hlb
  have hpH : H p = none := by
    cases hh : H p with
    | none => rfl
    | some o => rw [s03 _ _ npa hh] at hp; cases hp
  have s4 := s03.new (o := .dK []) hp
  have hS4 := hS3.new (o := .dK []) hp
  have r4 := r3.mono (Ext.new (o := .dK []) hp) _ _
  have hlb4 : upd H3 p (.dK []) lb = some (.lst ws) := by rw [upd_ne nlp]; exact hlb
  have e4 : upd H3 p (.dK []) p = some (.dK []) := upd_same
  generalize upd H3 p (.dK []) = H4 at *
  clear hp s03 hS3 r3 hlb
  walk_at "go"
  refine use_take hS4 (by omega) (by omega) fun H5 m s5 hS5 m0 m1 => ?_
  walk_at "go"
  refine forR (fun i σ H' => ∃ (o4 : Option V) (f : Int → Option PyData) (kvs : List (Key × V)), σ = [some (.ref a), some v0, some (.ref lb), some (.ref p), o4, none, none, none, none, none, none] ∧ SB a H H' ∧ Src H' a ∧ Rp K H' v0 j0.py ∧ H' lb = some (.lst ws) ∧ NewsAt K H' p f ∧ Leafs f ∧ H' p = some (.dK kvs) ∧ kvs.length ≤ i) ?_ ?_ ?_
  · have e5 := s5 _ _ npa e4
    exact ⟨none, fun _ => none, [], rfl, s4.trans s5, hS5, r4.mono (hS4.ext s5) _ _, s5 _ _ nlb hlb4, ⟨[], e5, fun i => .inr ⟨rfl, rfl⟩⟩, (fun i d h => by cases h), e5, Nat.le_refl _⟩
  · rintro i σ H6 hi ⟨o4, f, kvs, rfl, g1, g2, g3, g4, g5, g6, g7, g8⟩
    walk_at "go"
    refine use_take g2 (by omega) (by omega) fun H7 r7 s7 hS7 r70 r71 => ?_
    walk_at "go"
    refine use_leaf hS7 (by omega) (by omega) fun H8 lv l s8 hS8 rl gl cl => ?_
    have s78 := s7.trans s8
    have x68 := g2.ext (K := K) s78
    have hlb8 := s78 _ _ nlb g4
    walk_at "go"
    rw [lw]
    refine use_take hS8 (by omega) (by omega) fun H9 x s9 hS9 x0 x1 => ?_
    have s79 := s78.trans s9
    have x69 := g2.ext (K := K) s79
    have e9 := s79 _ _ npa g7
    have N9 := g5.sb s79 npa x69
    walk_at "go"
    refine u_dput e9 (ls (by omega)) ?_
    have x9 : Ext K H9 (upd H9 p (.dK (putK kvs (Sum.inl x) lv))) := Ext.set e9 trivial
    refine ⟨_, fun y => if y = x then some l.py else f y, putK kvs (Sum.inl x) lv, rfl, (g1.trans s79).upd_new hpH, hS9.set npa, (g3.mono x69 _ _).mono x9 _ _, by rw [upd_ne nlp]; exact s9 _ _ nlb hlb8, ⟨_, upd_same, fun y => ?_⟩, fun y d hd => ?_, upd_same, ?_⟩
    · obtain ⟨kvs', e9', N⟩ := N9
      rw [e9] at e9'
      cases e9'
      rw [valV_put]
      by_cases c : y = x
      · have ef : (fun y => if y = x then some l.py else f y) y = some l.py := if_pos c
        rw [if_pos (by rw [c]), ef]
        exact .inl ⟨lv, l.py, rfl, rfl, (rl.mono (hS8.ext s9) _ _).mono x9 _ _⟩
      · have ef : (fun y => if y = x then some l.py else f y) y = f y := if_neg c
        rw [if_neg (fun w => c (Sum.inl.inj w)), ef]
        rcases N y with ⟨nv, dd, a1, a2, a3⟩ | h
        · exact .inl ⟨nv, dd, a1, a2, a3.mono x9 _ _⟩
        · exact .inr h
    · by_cases c : y = x
      · have ef : (fun y => if y = x then some l.py else f y) y = some l.py := if_pos c
        rw [ef] at hd
        cases hd
        exact ⟨l, rfl, gl, cl⟩
      · have ef : (fun y => if y = x then some l.py else f y) y = f y := if_neg c
        rw [ef] at hd
        exact g6 y d hd
    · have := length_putK kvs (Sum.inl x) lv
      omega
  · rintro σ H6 ⟨o4, f, kvs, rfl, g1, g2, g3, g4, g5, g6, g7, g8⟩
    walk_at "go"
    refine ⟨v0, j0, 0, p, f, rfl, g3, g0.ok, c0, c0, g5, fun H7 v s7 r7 => ?_⟩
    obtain ⟨j, ej, gx, cj⟩ := putF_leafs g6 j0 0 g0
    rw [ej] at r7
    have h40 : j.cnt ≤ 40 := by omega
    have hS7 := g2.same s7
    have t7 := g1.trans (SB.of_same s7)
    clear g1 g2 g3 g4 g5 g6 g7 s7 ej
    walk_at "go"
    refine ⟨v, j, rfl, r7, gx, h40, h40, fun H8 s8 => ?_⟩
    walk_at "go"
    refine ⟨v, rfl, .inl ⟨j, r7.mono (Ext.of_same s8) _ _, gx, h40, fun H9 s9 => ?_⟩⟩
    have s79 := s8.trans s9
    walk_at "go"
    refine use_ls (r7.mono (Ext.of_same s79) _ _) gx.ok (by omega) (by omega) fun HA lb2 ws2 sA hlb20 hlb2 hR2 => ?_
    have lw2 : ws2.length = j.cnt := by rw [hR2.length, pys_length, all_cnt]
    have nlb2 : lb2 ≠ a := (hS7.same s79).ne hlb20
    have sA7 := s79.trans sA
    have hSA := hS7.same sA7
    have rA := r7.mono (Ext.of_same sA7) _ _
    have tA := t7.trans (SB.of_same sA7)
    clear s8 s9 s79 sA sA7 hlb20 hR2 r7 hS7 t7
    have htx := tx_len j gx.fit
    have hdp : j.py.depth ≤ 199 := by have := Jn.deep j gx.ok; omega
    walk_at "go"
    refine iteF' (by rfl) ?_
    walk_at "go"
    refine iteF' (by simp) ?_
    walk_at "go"
    refine ⟨j.tx, j, rfl, by omega, lay_tx j gx.fit, gx, h40, fun HB rv sB rB => ?_⟩
    walk_at "go"
    refine neq_same rB (rA.mono (Ext.of_same sB) _ _) (Jn.dat j gx.ok) hdp ?_
    walk_at "go"
    refine u_lenS (z := j.tx) (ll (by omega)) ?_
    walk_at "go"
    refine iteF' (by rw [decide_eq_false_iff_not]; omega) ?_
    have hSB := hSA.same sB
    have rB' := rA.mono (Ext.of_same sB) _ _
    have tB := tA.trans (SB.of_same sB)
    have hlbB := sB _ _ hlb2
    clear sB rB hlb2 tA rA hSA
    walk_at "go"
    refine use_gap hSB (by omega) (by omega) fun HC ga sC hSC ab a0 a9 => ?_
    walk_at "go"
    refine use_gd hSC (rB'.mono (hSB.ext sC) _ _) gx h40 h40 fun HD zt sD hSD zl zn => ?_
    refine u_addS ?_ ?_
    · simp only [len_list]
      exact ll (by omega)
    walk_at "go"
    refine use_gap hSD (by omega) (by omega) fun HE_ gc sE hSE cb b0 b9 => ?_
    refine u_addS ?_ ?_
    · simp only [len_list, app_list, List.length_append]
      exact ll (by omega)
    have sBE := sC.trans (sD.trans sE)
    have rE := rB'.mono (hSB.ext sBE) _ _
    have hlbE := sBE _ _ nlb2 hlbB
    have tE := tB.trans sBE
    clear sC sD sE hSC hSD hlbB rB' tB
    obtain ⟨T, eT⟩ : ∃ T : Str, T = ga ++ zt ++ gc := ⟨_, rfl⟩
    rw [← eT]
    have lT : T.length ≤ 24000 := by
      rw [eT]
      simp only [len_list, app_list, List.length_append]
      omega
    have yT : LayT j.tks T.cps.toList := by
      rw [eT]
      simp only [app_list]
      exact (zl.gap ab).end cb
    walk_at "go"
    refine ⟨T, j, rfl, lT, yT, gx, h40, fun HF back sF rF => ?_⟩
    walk_at "go"
    have rF' := rE.mono (Ext.of_same sF) _ _
    refine neq_same rF rF' (Jn.dat j gx.ok) hdp ?_
    walk_at "go"
    refine ⟨back, rfl, .inl ⟨j, rF, gx, h40, fun HG sG => ?_⟩⟩
    walk_at "go"
    refine iteF' (by simp) ?_
    have sFG := sF.trans sG
    have hSG := hSE.same sFG
    have rG := rE.mono (Ext.of_same sFG) _ _
    have hlbG := sFG _ _ hlbE
    have tG := tE.trans (SB.of_same sFG)
    clear sF sG sFG rF rF' hSE rE hlbE tE
    have hc1 := cnt_pos j
    walk_at "go"
    rw [lw2]
    refine use_take hSG (by omega) (by omega) fun HH x sH hSH x0 x1 => ?_
    have rH := rG.mono (hSG.ext sH) _ _
    have tH := tG.trans sH
    clear sH tG hSG rG hlbG
    walk_at "go"
    intro pd hp
    have npd : pd ≠ a := hSH.ne hp
    have hpH : H pd = none := by
      cases hh : H pd with
      | none => rfl
      | some o => rw [tH _ _ npd hh] at hp; cases hp
    have e1 : upd HH pd (.dK []) pd = some (.dK []) := upd_same
    have t1 := tH.new (o := .dK []) hp
    have hS1 := hSH.new (o := .dK []) hp
    have r1 := rH.mono (Ext.new (o := .dK []) hp) _ _
    generalize upd HH pd (.dK []) = HI at *
    walk_at "go"
    refine ⟨lk rfl, fun w1 hw1 => ?_⟩
    walk_at "go"
    refine ⟨lk rfl, fun w2 hw2 => ?_⟩
    walk_at "go"
    refine ⟨lk rfl, fun w3 hw3 => ?_⟩
    have z1 : SqT K (upd (upd (upd HI w1 (.tup [])) w2 (.tup [V.int 1])) w3 (.tup [V.str "row", .ref w2])) w1 [] := Ext.new hw3 _ _ (Ext.new hw2 _ _ (SqT.of upd_same))
    have z2 : SqT K (upd (upd (upd HI w1 (.tup [])) w2 (.tup [V.int 1])) w3 (.tup [V.str "row", .ref w2])) w2 [.int 1] := Ext.new hw3 _ _ (SqT.of upd_same)
    have z3 : SqT K (upd (upd (upd HI w1 (.tup [])) w2 (.tup [V.int 1])) w3 (.tup [V.str "row", .ref w2])) w3 [.str "row", .ref w2] := SqT.of upd_same
    have sI := Same.new (Same.new (same_new hw1 (.tup [])) (o := .tup [V.int 1]) hw2) (o := .tup [V.str "row", .ref w2]) hw3
    generalize upd (upd (upd HI w1 (.tup [])) w2 (.tup [V.int 1])) w3 (.tup [V.str "row", .ref w2]) = HJ at *
    have e2 := sI _ _ e1
    have t2 := t1.trans (SB.of_same sI)
    have hS2 := hS1.same sI
    have r2 := r1.mono (Ext.of_same sI) _ _
    clear sI e1 t1 hS1 r1 hw1 hw2 hw3 tH hSH rH hp
    walk_at "go"
    refine ⟨lk rfl, fun L3 hL3 => ?_⟩
    walk_at "go"
    refine use_one (xs := [.non, .int 7, .str "row", .ref w1, .ref w3]) (hS2.new hL3) (SqL.of upd_same) (hS2.ne hL3) (by simp) (by simp) fun HK nv sJ hSJ hv => ?_
    have sIJ : SB a HJ HK := (SB.refl.new hL3).trans sJ
    have exJ := hS2.ext (K := K) sIJ
    obtain ⟨dd, rdd, ddat, djf⟩ : ∃ dd, Rp K HK nv dd ∧ dat dd ∧ ∀ n, n < 40 → jf dd n = some .prog := by
      simp only [List.mem_cons, List.not_mem_nil, or_false] at hv
      rcases hv with rfl | rfl | rfl | rfl | rfl
      · exact ⟨.none, .non, by simp only [dat], fun n hn => by unfold jf; rw [if_neg (by omega)]⟩
      · exact ⟨.int 7, .int 7, by simp only [dat], fun n hn => by unfold jf; rw [if_neg (by omega)]⟩
      · exact ⟨.str "row", .str "row", by simp only [dat]; exact okL (by decide +kernel), fun n hn => by unfold jf; rw [if_neg (by omega)]⟩
      · exact ⟨.tuple [], .tup (exJ _ _ z1) .nil, by simp only [dat, dats]; exact ⟨by simp, trivial⟩, fun n hn => by unfold jf; rw [if_neg (by omega)]⟩
      · exact ⟨.tuple [.str "row", .tuple [.int 1]], .tup (exJ _ _ z3) (.cons (.str _) (.cons (.tup (exJ _ _ z2) (.cons (.int 1) .nil)) .nil)), by simp only [dat, dats]; exact ⟨by simp, okL (by decide +kernel), ⟨by simp, trivial, trivial⟩, trivial⟩, fun n hn => by unfold jf; rw [if_neg (by omega)]⟩
    have e3 := sIJ _ _ npd e2
    refine ⟨e3, [(Sum.inl x, nv)], rfl, by simp, ?_⟩
    have t3 := t2.trans sIJ
    have r3 := r2.mono exJ _ _
    have exK : Ext K HK (upd HK pd (.dK (mergeK [] [(Sum.inl x, nv)]))) := Ext.set e3 trivial
    have e4 : upd HK pd (.dK (mergeK [] [(Sum.inl x, nv)])) pd = some (.dK [(Sum.inl x, nv)]) := upd_same
    have t4 := t3.upd_new (o := .dK (mergeK [] [(Sum.inl x, nv)])) hpH
    have hS4 := hSJ.set (o := .dK (mergeK [] [(Sum.inl x, nv)])) npd
    have r4 := r3.mono exK _ _
    have rd4 := rdd.mono exK _ _
    generalize upd HK pd (.dK (mergeK [] [(Sum.inl x, nv)])) = HL at *
    clear exK e3 t3 r3 rdd hSJ e2 t2 hS2 r2 sIJ exJ z1 z2 z3 hv sJ hL3
    walk_at "go"
    refine ⟨v, j, 0, pd, oneF x dd, rfl, r4, gx.ok, h40, h40, ⟨_, e4, fun i => ?_⟩, fun HM u sL hu => ?_⟩
    · unfold oneF
      by_cases c : i = x
      · rw [if_pos c, c]
        exact .inl ⟨nv, dd, valV_pos (p := ((Sum.inl x : Key), nv)) rfl, rfl, rd4⟩
      · rw [if_neg c]
        exact .inr ⟨by rw [valV_neg (p := ((Sum.inl x : Key), nv)) (fun h => c (Sum.inl.inj h).symm)]; exact valV_nil, rfl⟩
    have hwk := put_walk djf gx h40 x0 x1
    have hdt := putF_dat (f := oneF x dd) (fun i d h => oneF_dat ddat h) j 0 gx.ok
    generalize j.putF (oneF x dd) 0 = dsp at *
    have t5 := t4.trans (SB.of_same sL)
    have hS5 := hS4.same sL
    clear t4 hS4 r4 rd4 sL e4
    walk_at "go"
    refine ⟨u, dsp, x, rfl, hu, hdt, hwk, fun HN q1 sN hq1 => ?_⟩
    walk_at "go"
    refine ⟨lk rfl, fun u2 hu2 => ?_⟩
    have g1 := hq1.mono (Ext.new (o := .tup [V.str "program", .int x]) hu2) _ _
    have g2 : Rp K (upd HN u2 (.tup [V.str "program", .int x])) (.ref u2) (.tuple [.str "program", .int x]) := .tup (SqT.of upd_same) (.cons (.str _) (.cons (.int _) .nil))
    have k3 := Same.new sN (o := .tup [V.str "program", .int x]) hu2
    generalize upd HN u2 (.tup [V.str "program", .int x]) = HO_ at *
    refine eq_same g1 g2 (tagS_dat (okL (by decide +kernel)) (by simp only [dat])) (tagS_dp (by simp [PyData.depth])) ?_
    exact q HO_ (t5.trans (SB.of_same k3)) (hS5.same k3)
end

/-! ### V3 -/
section
variable {P : Program} {w : World} {K : PySem.W.Frag} {mg : Str → Option Value} {base : Heap}
theorem seq_on {K : PySem.W.Frag} {H H2 H3 : Hp} {a p : Addr} {xs : List V} (h : SqL K H a xs) (s : Same H H2) (hp : H p = none) (t : SB p H2 H3) : SqL K H3 a xs := by
  rcases h with (h | ⟨o, h⟩) | h
  · exact .inl (.inl (t _ _ (ne_of_none h hp) (s _ _ h)))
  · exact .inl (.inr ⟨o, t _ _ (ne_of_none h hp) (s _ _ h)⟩)
  · exact .inr h
def spLaw (K : PySem.W.Frag) : Sp := fun vs H Q _ => ∃ (a : Addr) (ns : List Int), vs = [.ref a] ∧ SqL K H a (ns.map V.int) ∧ ns.length ≤ 63 ∧ ∀ H', Q (.bl true) H'
abbrev s_law : Stmt := top 74
theorem sc_law : FnScope ["script", "k"] ["script"] (defScope s_law) := ⟨rfl, rfl, rfl, by decide +kernel, rfl, by decide +kernel, by decide +kernel⟩
theorem ok_law {f : Addr} {fd : FuncData} (F : Fun K "law" "law" s_law f fd) (B : Bl mg) (h_law_pool : HasF P w K mg base CX0 1 "_law_pool" ["script", "k"] (spPool K)) (h_law_right : HasF P w K mg base CX0 126 "_law_right" ["source"] (spCr K)) : FnOk P w K mg base CX0 127 f fd ["script"] (spLaw K) := by
  refine F.ok sc_law (fun vs H Q E h => ?_) (fun cdv A outer s_ H vs Q E hr h => ?_)
  · obtain ⟨a, ns, rfl, _⟩ := h
    rfl
  obtain ⟨a, ns, rfl, hL, h63, q⟩ := h
  have hl : (ns.map V.int).length = ns.length := List.length_map _
  refine ⟨_, (pss_cons (ps_for PassesOwn.never rfl (pi_range1 (by rfl) B.range (pa_cons (pe_callB (max2U rfl) (by rfl) B.max (by decide +kernel) (pa_cons pe_int (pa_cons (pe_callB (min2U rfl) (by rfl) B.min (by decide +kernel) (pa_cons (pe_callB (kLen K) (by rfl) B.len (by decide +kernel) (pa_cons (pv 0) pa_nil)) (pa_cons pe_int pa_nil))) pa_nil))) pa_nil)) (pg_name (i := 1) sc_law.nd rfl (by first | exact Or.inl rfl | exact Or.inr rfl)) (pss_one (ps_if (pt_not (pt_val (pe_callH h_law_right (hr.mono (by first | decide | omega)) (by rfl) pass0 (pa_cons (pe_callH h_law_pool (hr.mono (by first | decide | omega)) (by rfl) pass0 (pa_cons (pv 0) (pa_cons (pv 1) pa_nil))) pa_nil)))) (pss_one (ps_ret pe_bl)) pss_nil))) (pss_one (ps_ret pe_bl))), ?_⟩
  refine st0 [some (.ref a), none] rfl ?_
  walk_at "go"
  rw [hl]
  obtain ⟨m, em, m1, m2⟩ : ∃ m : Int, (if (if (3 : Int) < (ns.length : Int) then (3 : Int) else (ns.length : Int)) > 1 then (if (3 : Int) < (ns.length : Int) then (3 : Int) else (ns.length : Int)) else 1) = m ∧ 1 ≤ m ∧ m ≤ 3 := by
    refine ⟨_, rfl, ?_⟩
    split <;> split <;> omega
  rw [em]
  walk_at "go"
  refine forR (fun i σ H' => ∃ (o1 : Option V), σ = [some (.ref a), o1] ∧ SqL K H' a (ns.map V.int)) ⟨_, rfl, hL⟩ ?_ ?_
  · rintro i σ H1 hi ⟨o1, rfl, hL'⟩
    walk_at "go"
    refine ⟨a, ns, _, rfl, hL', by omega, by omega, fun H2 p s2 hp hS => ?_⟩
    walk_at "go"
    refine ⟨p, rfl, hS, fun H3 s3 hS3 => ?_⟩
    walk_at "go"
    refine iteF ?_
    walk_at "go"
    exact ⟨_, rfl, seq_on hL' s2 hp s3⟩
  · rintro σ H1 ⟨o1, rfl, _⟩
    walk_at "go"
    exact q _
end
end Mine

/-! ### F1 -/
namespace Mine
open PySem PySem.Spec L2
/-! ## facts of the written part, made ready -/
section
variable {K : PySem.W.Frag} {h : Heap} {mg : Str → Option Value}
theorem ownF_mk {x : Str} {st : Stmt} {f : Addr} {oc : Value} {od an : Option Addr} {osl : Array (Option Value)} {kV doc pm cdv ct : Value} (X : K.In h) (G : h.Ns mainGlobals mg) (a : PySem.W.nsIn K mainGlobals x = some (some (.ref f)))
    (l : K.lookup f = some ⟨oc, od, .func (PySem.W.fnOf x x (defArgs st) (defBody st) (defScope st) .none kV doc pm an cdv ct), osl⟩)
    (c : PySem.W.codeIn K cdv x = true) (k : PySem.W.keepIn K (.ref f) = true) : OwnF K mg x st := ⟨f, _, fun_mk (st := st) l c k, PySem.W.mg_of X G a⟩
theorem int_mk {x : Str} {i : Int} {t : Tok} (X : K.In h) (G : h.Ns mainGlobals mg) (a : PySem.W.nsIn K mainGlobals x = some (some (.int i t))) : ∃ t, mg x = some (.int i t) := ⟨t, PySem.W.mg_of X G a⟩
theorem str_mk {x z : Str} {t : Tok} (X : K.In h) (G : h.Ns mainGlobals mg) (a : PySem.W.nsIn K mainGlobals x = some (some (.str z t))) : ∃ t, mg x = some (.str z t) := ⟨t, PySem.W.mg_of X G a⟩
/-! the two tables -/
def entB (e : DictEntry) : Option (Str × Addr) := match e.key, e.val with
  | .str x _, .ref b => some (x, b)
  | _, _ => none
def tabG (L : List (Str × Addr)) (z : Str) : Option Value := (L.find? fun p => p.1 == z).map fun p => .ref p.2
theorem ents_find {z : Str} : ∀ {es : List DictEntry} {L : List (Str × Addr)}, es.map entB = L.map some → (es.find? (·.key.isStr z)).map (·.val) = tabG L z ∧ es.any (·.refKey) = false
  | [], [], _ => ⟨rfl, rfl⟩
  | [], _ :: _, h => by simp at h
  | _ :: _, [], h => by simp at h
  | e :: es, p :: L, h => by
    rw [List.map_cons, List.map_cons] at h
    injection h with h1 h2
    obtain ⟨i1, i2⟩ := ents_find (z := z) h2
    obtain ⟨x, b⟩ := p
    have hk : ∃ t, e.key = .str x t ∧ e.val = .ref b := by
      unfold entB at h1
      split at h1
      · rename_i x' t' b' e1 e2
        cases h1
        exact ⟨t', e1, e2⟩
      · cases h1
    obtain ⟨t, k1, k2⟩ := hk
    have e3 : e.key.isStr z = (x == z) := by rw [k1] <;> rfl
    refine ⟨?_, ?_⟩
    · unfold tabG at i1 ⊢
      rw [List.find?_cons, List.find?_cons, e3]
      cases hx : (x == z) with
      | true => simp only [Option.map_some, k2]
      | false => exact i1
    · rw [List.any_cons, i2, Bool.or_false]
      unfold DictEntry.refKey
      rw [k1] <;> rfl
theorem tab_mk {w : World} {x : Str} {a : Addr} {es : Array DictEntry} {n : Nat} {L : List (Str × Addr)} (X : K.In h) (G : h.Ns mainGlobals mg) (e : PySem.W.nsIn K mainGlobals x = some (some (.ref a))) (l : K.lookup a = some ⟨.type "dict", none, .dict es n, #[]⟩)
    (lit : PySem.W.KeysLit w.params es.toList) (low : (a == sysModules) = false) (hL : es.toList.map entB = L.map some) : Tab w K mg x a (tabG L) := by
  refine ⟨PySem.W.mg_of X G e, ⟨es, n, l, lit, low⟩, fun z => ?_⟩
  obtain ⟨f1, f2⟩ := ents_find (z := z) hL
  unfold PySem.W.nsIn
  rw [l]
  simp only
  rw [← f1]
  cases hf : es.toList.find? (·.key.isStr z) with
  | some e => rfl
  | none => simp only [f2]; rfl
/-! the errors -/
theorem exm_mk {C S : Addr} {b : Bool} (h1 : PySem.W.subIn K (.ref S) (.type "BaseException") = some true) (h2 : PySem.W.isClsIn K S = true) (h3 : PySem.W.typeIn K (.ref S) = some (.type "type")) (h4 : PySem.W.subIn K (.ref C) (.ref S) = some b) :
    PySem.W.exmOne K (.ref C) (.ref S) = some b := by
  have e1 : (PySem.W.subIn K (.ref S) (.type "BaseException") == some true) = true := by rw [h1] <;> rfl
  have e2 : ((PySem.W.clsIn K S).isSome && PySem.W.typeIn K (.ref S) == some (.type "type")) = true := by
    have h2' : (PySem.W.clsIn K S).isSome = true := h2
    rw [h2', h3] <;> rfl
  show (if (PySem.W.subIn K (.ref S) (.type "BaseException") == some true) = true then (if ((PySem.W.clsIn K S).isSome && PySem.W.typeIn K (.ref S) == some (.type "type")) = true then PySem.W.subIn K (.ref C) (.ref S) else none) else none) = some b
  rw [if_pos e1, if_pos e2]
  exact h4
theorem errC_mk {x : Str} {C fI N : Addr} {nm q : Str} {bs bm : List Value} {sn : List Str} {sub : List Value} {ab : Bool} {col : Option Bool} {dd : Option Addr} {m0 m1 m2 m3 m5 : Option Value} (X : K.In h) (G : h.Ns mainGlobals mg)
    (aC : PySem.W.nsIn K mainGlobals x = some (some (.ref C))) (xL : K.lookup C = some (excClassObj nm q C N bs bm true sn sub ab col dd m0 m1 m2 m3 m5 "ValueError.__new__")) (bmB : PySem.HandSPX.refsVE bm = true)
    (sa : PySem.W.findIn K (.ref C) "__setattr__" = some (some (.builtin "object.__setattr__"))) (ga : PySem.W.findIn K (.ref C) "__getattribute__" = some (some (.builtin "BaseException.__getattribute__"))) (gg : PySem.W.findIn K (.ref C) "__getattr__" = some none) (nb : PySem.W.findIn K (.ref C) "what" = some none)
    (iC : PySem.W.findIn K (.ref C) "__init__" = some (some (.ref fI))) (kC : PySem.W.keepIn K (.ref C) = true) (eC : PySem.W.subIn K (.ref C) (.type "BaseException") = some true) (tC : PySem.W.typeIn K (.ref C) = some (.type "type")) (hC : PySem.W.hasDictIn K C = true) : ErrC K mg fI x C :=
  ⟨PySem.W.mg_of X G aC, ⟨⟨nm, q, N, bs, bm, sn, sub, ab, col, dd, m0, m1, m2, m3, m5, xL, bmB⟩, sa, eC, tC, kC⟩, nb, iC, ⟨ga, gg, eC, hC⟩⟩
end
/-! ## the root's __init__ -/
def initSt : Stmt := match top 1 with
  | .ClassDef _ _ _ (s :: _) _ _ _ _ _ _ _ => s
  | s => s
theorem sc_init : FnScope ["self", "what"] ["self", "what"] (defScope initSt) := ⟨rfl, rfl, rfl, by decide +kernel, rfl, by decide +kernel, by decide +kernel⟩
theorem init_mk {P : Program} {w : World} {K : PySem.W.Frag} {mg : Str → Option Value} {base : Heap} {fI : Addr} {fd : FuncData} (F : Fun K "__init__" "Refused.__init__" initSt fI fd) (ht : PySem.W.typeIn K (.ref fI) = some (.type "function")) : InitF P w K mg base fI := by
  refine has_init F sc_init (fun _ _ _ _ _ _ us hl => match us, hl with | [_, _], _ => rfl) ht fun cdv A outer s H E => ?_
  exact pss_one (ps_ost (pv 0) (pv 1))
end Mine

/-! ### F2 -/
namespace Mine
open PySem PySem.Spec L2
section
variable {P : Program} {w : World} {K : PySem.W.Frag} {mg : Str → Option Value} {base : Heap}
theorem HasF.at {k : Nat} {x : Str} {ps : List Str} {sp : Sp} {b : Addr} (h : HasF P w K mg base CX0 k x ps sp) (m : mg x = some (.ref b)) : Held P w K mg base k b sp := by
  obtain ⟨f, m2, hh⟩ := h.held
  have := m2.symm.trans m
  cases this
  exact hh
/-- the defs -/
structure Own (K : PySem.W.Frag) (mg : Str → Option Value) : Prop where
  o0 : OwnF K mg "is_number" s_is_number
  o1 : OwnF K mg "is_between" s_is_between
  o2 : OwnF K mg "are_row_numbers" s_are_row_numbers
  o3 : OwnF K mg "is_word" s_is_word
  o4 : OwnF K mg "tells_row" s_tells_row
  o5 : OwnF K mg "tells_input" s_tells_input
  o6 : OwnF K mg "tells_stretch" s_tells_stretch
  o7 : OwnF K mg "tells_times" s_tells_times
  o8 : OwnF K mg "tells_room" s_tells_room
  o9 : OwnF K mg "told_fits" s_told_fits
  o10 : OwnF K mg "parts_fit" s_parts_fit
  o11 : OwnF K mg "check_count" s_check_count
  o12 : OwnF K mg "check_form" s_check_form
  o13 : OwnF K mg "is_triple" s_is_triple
  o14 : OwnF K mg "check_joint" s_check_joint
  o15 : OwnF K mg "made_program" s_made_program
  o16 : OwnF K mg "joint_text" s_joint_text
  o17 : OwnF K mg "told_text" s_told_text
  o18 : OwnF K mg "kind_of" s_kind_of
  o19 : OwnF K mg "gap_end" s_gap_end
  o20 : OwnF K mg "run_end" s_run_end
  o21 : OwnF K mg "token_end" s_token_end
  o22 : OwnF K mg "may_stand" s_may_stand
  o23 : OwnF K mg "state_behind" s_state_behind
  o24 : OwnF K mg "depth_behind" s_depth_behind
  o25 : OwnF K mg "scanned" s_scanned
  o26 : OwnF K mg "read_op" s_read_op
  o27 : OwnF K mg "drafted" s_drafted
  o28 : OwnF K mg "built" s_built
  o29 : OwnF K mg "read" s_read
  o30 : OwnF K mg "_law_pool" s_law_pool
  o31 : OwnF K mg "_law_take" s_law_take
  o32 : OwnF K mg "_law_one" s_law_one
  o33 : OwnF K mg "_law_name" s_law_name
  o34 : OwnF K mg "_law_digit" s_law_digit
  o35 : OwnF K mg "_law_leaf" s_law_leaf
  o36 : OwnF K mg "_law_joint" s_law_joint
  o37 : OwnF K mg "_law_forked" s_law_forked
  o38 : OwnF K mg "_law_catted" s_law_catted
  o39 : OwnF K mg "_law_program" s_law_program
  o40 : OwnF K mg "_law_listed" s_law_listed
  o41 : OwnF K mg "_law_put" s_law_put
  o42 : OwnF K mg "_law_gap" s_law_gap
  o43 : OwnF K mg "_law_gapped" s_law_gapped
  o44 : OwnF K mg "_law_written" s_law_written
  o45 : OwnF K mg "_law_refused" s_law_refused
  o46 : OwnF K mg "_law_right" s_law_right
/-- the errors -/
structure Errs (K : PySem.W.Frag) (mg : Str → Option Value) (fI cRefused cBadProgram cBadOp cBadParts cTooMany cBadText : Addr) : Prop where
  eRefused : ErrC K mg fI "Refused" cRefused
  eBadProgram : ErrC K mg fI "BadProgram" cBadProgram
  eBadOp : ErrC K mg fI "BadOp" cBadOp
  eBadParts : ErrC K mg fI "BadParts" cBadParts
  eTooMany : ErrC K mg fI "TooMany" cTooMany
  eBadText : ErrC K mg fI "BadText" cBadText
  xBadProgram_BadProgram : PySem.W.exmOne K (.ref cBadProgram) (.ref cBadProgram) = some true
/-- a pair of numbers of the module -/
theorem pair_mk {K : PySem.W.Frag} {b : Addr} {lo hi : Int} {t1 t2 : Tok} {dd : Option Addr} {n : Nat} {sl : Array (Option Value)} (l : K.lookup b = some ⟨.type "tuple", dd, .seq #[.int lo t1, .int hi t2] n, sl⟩) : ∀ H, SqT K H b [.int lo, .int hi] :=
  fun H => .inr ⟨_, _, _, l, rfl, rfl, by show 2 ≤ sizeLine; decide, .cons ⟨t1, rfl⟩ (.cons ⟨t2, rfl⟩ .nil)⟩
/-- the pairs of the table of the ops -/
inductive Prs (K : PySem.W.Frag) : List (Str × Addr) → List (Str × Int × Int) → Prop
  | nil : Prs K [] []
  | cons {p : Str × Addr} {r : Str × Int × Int} {L : List (Str × Addr)} {M : List (Str × Int × Int)} : (p.1 = r.1 ∧ ∀ H, SqT K H p.2 [.int r.2.1, .int r.2.2]) → Prs K L M → Prs K (p :: L) (r :: M)
def arts : List (Str × Int × Int) := [("row", 0, 0), ("in", 0, 0), ("rev", 1, 1), ("sort", 1, 1), ("sum", 1, 1), ("top", 1, 1), ("add", 2, 2), ("sub", 2, 2), ("mul", 2, 2), ("dot", 2, 2), ("cat", 1, 4), ("outer", 2, 2), ("blend", 2, 2), ("part", 1, 1), ("rep", 1, 1), ("hold", 1, 1)]
theorem prs_find {K : PySem.W.Frag} {z : Str} : ∀ {L : List (Str × Addr)} {M : List (Str × Int × Int)}, Prs K L M → ((M.find? fun p => p.1 == z) = none → tabG L z = none) ∧ ∀ q, (M.find? fun p => p.1 == z) = some q → ∃ b, tabG L z = some (.ref b) ∧ ∀ H, SqT K H b [.int q.2.1, .int q.2.2]
  | _, _, .nil => ⟨fun _ => rfl, fun q h => by simp at h⟩
  | _, _, .cons (p := p) (r := r) h t => by
    obtain ⟨i1, i2⟩ := prs_find (z := z) t
    unfold tabG at i1 i2 ⊢
    rw [List.find?_cons, List.find?_cons, h.1]
    cases hx : (r.1 == z) with
    | true => exact ⟨fun h => by simp at h, fun q e => by
        have e' : r = q := by simpa using e
        subst e'
        exact ⟨p.2, rfl, h.2⟩⟩
    | false => exact ⟨i1, i2⟩
theorem arity_arts {z : Str} : arity z = (arts.find? fun p => p.1 == z).map (·.2) := by
  have k : ∀ y ∈ arts.map (·.1), arity y = (arts.find? fun p => p.1 == y).map (·.2) := by decide +kernel
  by_cases c : z ∈ arts.map (·.1)
  · exact k z c
  have e1 : (arts.find? fun p => p.1 == z) = none := by
    rw [List.find?_eq_none]
    intro x hx hz
    have hz' : x.1 = z := by simpa using hz
    exact c (hz' ▸ List.mem_map_of_mem hx)
  rw [e1]
  have k0 : ∀ y ∈ op0, y ∈ arts.map (·.1) := by decide +kernel
  have k1 : ∀ y ∈ op1, y ∈ arts.map (·.1) := by decide +kernel
  have k2 : ∀ y ∈ op2, y ∈ arts.map (·.1) := by decide +kernel
  have k3 : ("cat" : Str) ∈ arts.map (·.1) := by decide +kernel
  unfold arity
  rw [if_neg (fun h => c (k0 z h)), if_neg (fun h => c (k1 z h)), if_neg (fun h => c (k2 z h)), if_neg (fun (h : z = "cat") => c (by rw [h]; exact k3))]
  rfl
theorem parts_tab {w : World} {K : PySem.W.Frag} {mg : Str → Option Value} {a : Addr} {L : List (Str × Addr)} (T : Tab w K mg "PARTS" a (tabG L)) (h : Prs K L arts) : PartsTab w K mg a (tabG L) := by
  refine ⟨T, fun z hz => ?_, fun z lo hi hz => ?_⟩
  · obtain ⟨i1, _⟩ := prs_find (z := z) h
    rw [arity_arts] at hz
    exact i1 (by simpa using hz)
  · obtain ⟨_, i2⟩ := prs_find (z := z) h
    rw [arity_arts, Option.map_eq_some_iff] at hz
    obtain ⟨q, e1, e2⟩ := hz
    obtain ⟨b, e3, e4⟩ := i2 q e1
    rw [e2] at e4
    exact ⟨b, e3, e4⟩
/-- a tuple of texts of the module -/
def strOf : Value → Option Str
  | .str z _ => some z
  | _ => none
theorem vals_strs : ∀ {us : List Value} {l : List Str}, us.map strOf = l.map some → Vals (l.map V.str) us
  | [], [], _ => .nil
  | [], _ :: _, h => by simp at h
  | _ :: _, [], h => by simp at h
  | u :: us, z :: l, h => by
    rw [List.map_cons, List.map_cons] at h
    injection h with h1 h2
    refine .cons ?_ (vals_strs h2)
    cases u with
    | str y t =>
      cases h1
      exact ⟨t, rfl⟩
    | _ => cases h1
theorem tupS_mk {K : PySem.W.Frag} {b : Addr} {l : List Str} {its : Array Value} {dd : Option Addr} {n : Nat} {sl : Array (Option Value)} (e : K.lookup b = some ⟨.type "tuple", dd, .seq its n, sl⟩) (hs : its.toList.map strOf = l.map some) (hn : l.length ≤ 1000) : ∀ H, SqT K H b (l.map V.str) :=
  fun H => .inr ⟨_, _, _, e, rfl, rfl, (by
    have := congrArg List.length hs
    rw [List.length_map, List.length_map, Array.length_toList] at this
    exact ll (by omega)), vals_strs hs⟩
inductive PrsS (K : PySem.W.Frag) : List (Str × Addr) → List (Str × List Str) → Prop
  | nil : PrsS K [] []
  | cons {p : Str × Addr} {r : Str × List Str} {L : List (Str × Addr)} {M : List (Str × List Str)} : (p.1 = r.1 ∧ ∀ H, SqT K H p.2 (r.2.map V.str)) → PrsS K L M → PrsS K (p :: L) (r :: M)
theorem prsS_find {K : PySem.W.Frag} {z : Str} : ∀ {L : List (Str × Addr)} {M : List (Str × List Str)}, PrsS K L M → ∀ q, look M z = some q → ∃ b, tabG L z = some (.ref b) ∧ ∀ H, SqT K H b (q.map V.str)
  | _, _, .nil => fun q h => by simp [look] at h
  | _, _, .cons (p := p) (r := r) h t => fun q hq => by
    have i2 := prsS_find (z := z) t q
    unfold tabG at i2 ⊢
    unfold look at hq i2
    rw [List.find?_cons] at hq ⊢
    rw [h.1]
    by_cases c : r.1 = z
    · rw [decide_eq_true c] at hq
      have hq' : r.2 = q := by simpa using hq
      rw [show (r.1 == z) = true by simpa using c]
      exact ⟨p.2, rfl, by rw [← hq']; exact h.2⟩
    · rw [decide_eq_false c] at hq
      rw [show (r.1 == z) = false by simpa using c]
      exact i2 hq
theorem next_tab {w : World} {K : PySem.W.Frag} {mg : Str → Option Value} {a : Addr} {L : List (Str × Addr)} (T : Tab w K mg "NEXT" a (tabG L)) (h : PrsS K L nextT) : NextTab w K mg a (tabG L) := ⟨T, fun st l hl => prsS_find h l hl⟩
def entS (e : DictEntry) : Option (Str × Str) := match e.key, e.val with
  | .str x _, .str y _ => some (x, y)
  | _, _ => none
theorem entS_find {z : Str} : ∀ {es : List DictEntry} {L : List (Str × Str)}, es.map entS = L.map some → (∀ q, look L z = some q → ∃ t, (es.find? (·.key.isStr z)).map (·.val) = some (.str q t)) ∧ es.any (·.refKey) = false
  | [], [], _ => ⟨fun q h => by simp [look] at h, rfl⟩
  | [], _ :: _, h => by simp at h
  | _ :: _, [], h => by simp at h
  | e :: es, p :: L, h => by
    rw [List.map_cons, List.map_cons] at h
    injection h with h1 h2
    obtain ⟨i1, i2⟩ := entS_find (z := z) h2
    obtain ⟨x, b⟩ := p
    have hk : ∃ t t', e.key = .str x t ∧ e.val = .str b t' := by
      unfold entS at h1
      split at h1
      · rename_i x' t' b' t2 e1 e2
        cases h1
        exact ⟨t', t2, e1, e2⟩
      · cases h1
    obtain ⟨t, t', k1, k2⟩ := hk
    have e3 : e.key.isStr z = (x == z) := by rw [k1] <;> rfl
    refine ⟨fun q hq => ?_, ?_⟩
    · unfold look at hq i1
      rw [List.find?_cons] at hq ⊢
      rw [e3]
      by_cases c : x = z
      · rw [decide_eq_true c] at hq
        have hq' : b = q := by simpa using hq
        rw [show (x == z) = true by simpa using c]
        exact ⟨t', by simp only [Option.map_some, k2, hq']⟩
      · rw [decide_eq_false c] at hq
        rw [show (x == z) = false by simpa using c]
        exact i1 q hq
    · rw [List.any_cons, i2, Bool.or_false]
      unfold DictEntry.refKey
      rw [k1] <;> rfl
theorem beh_mk {w : World} {K : PySem.W.Frag} {h : Heap} {mg : Str → Option Value} {a : Addr} {es : Array DictEntry} {n : Nat} (X : K.In h) (G : h.Ns mainGlobals mg) (e : PySem.W.nsIn K mainGlobals "BEHIND" = some (some (.ref a))) (l : K.lookup a = some ⟨.type "dict", none, .dict es n, #[]⟩)
    (lit : PySem.W.KeysLit w.params es.toList) (low : (a == sysModules) = false) (hL : es.toList.map entS = behT.map some) : BehTab w K mg a (fun z => (es.toList.find? (·.key.isStr z)).map (·.val)) := by
  refine ⟨⟨PySem.W.mg_of X G e, ⟨es, n, l, lit, low⟩, fun z => ?_⟩, fun k s hs => ?_⟩
  · obtain ⟨_, f2⟩ := entS_find (z := z) hL
    unfold PySem.W.nsIn
    rw [l]
    simp only
    cases hf : es.toList.find? (·.key.isStr z) with
    | some e => rfl
    | none => simp only [f2]; rfl
  · obtain ⟨f1, _⟩ := entS_find (z := k) hL
    obtain ⟨t, ht⟩ := f1 s hs
    exact ⟨_, ht, ⟨t, rfl⟩⟩
theorem draft_mk {K : PySem.W.Frag} {h : Heap} {mg : Str → Option Value} {C f1 : Addr} {od1 an1 : Option Addr} {sl1 : Array (Option Value)} {oc1 kV1 dc1 pm1 cd1 ct1 : Value} (X : K.In h) (G : h.Ns mainGlobals mg) (aC : PySem.W.nsIn K mainGlobals "Draft" = some (some (.ref C)))
    (a1 : PySem.W.findIn K (.ref C) "__init__" = some (some (.ref f1))) (i1 : PySem.W.isFn K (.ref f1) = true) (l1 : K.lookup f1 = some ⟨oc1, od1, .func (PySem.W.fnOf "__init__" "Draft.__init__" (defArgs s_Draft___init__) (defBody s_Draft___init__) (defScope s_Draft___init__) .none kV1 dc1 pm1 an1 cd1 ct1), sl1⟩) (c1 : PySem.W.codeIn K cd1 "Draft.__init__" = true) (k1 : PySem.W.keepIn K (.ref f1) = true)
    (pg : PySem.W.plainGet K C Str.empty = true) (hd : PySem.W.hasDictIn K C = true) (po : PySem.W.plainOver K C = true) (sa : PySem.W.findIn K (.ref C) "__setattr__" = some (some (.builtin "object.__setattr__"))) (mk : PySem.W.makesIn K C = true) (kc : PySem.W.keepIn K (.ref C) = true)
    (n1 : PySem.W.findIn K (.ref C) "offset" = some none) (n2 : PySem.W.findIn K (.ref C) "op" = some none) (n3 : PySem.W.findIn K (.ref C) "told" = some none) (n4 : PySem.W.findIn K (.ref C) "parts" = some none) :
    OwnM K mg "Draft" "Draft.__init__" C s_Draft___init__ ∧ DrC K C :=
  ⟨⟨f1, _, fun_mk (st := s_Draft___init__) l1 c1 k1, ⟨mk, a1, i1, kc⟩, PySem.W.mg_of X G aC⟩, ⟨⟨pg, hd, po, sa⟩, n1, n2, n3, n4⟩⟩
theorem all_mk {fI aP aT b0 b1 b2 b3 b4 aN aB cD cRefused cBadProgram cBadOp cBadParts cTooMany cBadText : Addr} {gP gN gB : Str → Option Value} {fdI : FuncData} {f : Addr} {fd : FuncData} (F : Fun K "law" "law" s_law f fd)
    (B : Bl mg) (BR : mg "reversed" = none) (C : Cst mg) (TP : PartsTab w K mg aP gP) (tT : Tab w K mg "TELLS" aT (tabG [("row", b0), ("in", b1), ("part", b2), ("rep", b3), ("hold", b4)])) (n0 : mg "tells_row" = some (.ref b0)) (n1 : mg "tells_input" = some (.ref b1)) (n2 : mg "tells_stretch" = some (.ref b2)) (n3 : mg "tells_times" = some (.ref b3)) (n4 : mg "tells_room" = some (.ref b4)) (FI : Fun K "__init__" "Refused.__init__" initSt fI fdI) (tI : PySem.W.typeIn K (.ref fI) = some (.type "function")) (Er : Errs K mg fI cRefused cBadProgram cBadOp cBadParts cTooMany cBadText) (OP : Own K mg) (C2 : Cst2 mg) (TN : NextTab w K mg aN gN) (TB : BehTab w K mg aB gB) (OD : OwnM K mg "Draft" "Draft.__init__" cD s_Draft___init__ ∧ DrC K cD) :
    FnOk P w K mg base CX0 127 f fd ["script"] (spLaw K) := by
  have hI : InitF P w K mg base fI := init_mk FI tI
  have p1 := has_is_number (P := P) (w := w) (base := base) OP.o0 B
  have p2 := has_is_between OP.o1 p1
  have p3 := has_are_row_numbers OP.o2 B C p2
  have p4 := has_is_word (P := P) (w := w) (base := base) OP.o3 B C
  have p5 := has_tells_row OP.o4 B C p3
  have p6 := has_tells_input OP.o5 B C p4 p2
  have p7 := has_tells_stretch OP.o6 B C p2
  have p8 := has_tells_times OP.o7 B C p2
  have p9 := has_tells_room OP.o8 B C p2
  have TT : TellsTab P w K mg base aT (tabG [("row", b0), ("in", b1), ("part", b2), ("rep", b3), ("hold", b4)]) := by
    refine ⟨tT, fun z hz => ?_, fun z f hz => ?_⟩
    · unfold asks at hz
      by_cases c1 : z = "row"
      · rw [if_pos c1] at hz; cases hz
      rw [if_neg c1] at hz
      by_cases c2 : z = "in"
      · rw [if_pos c2] at hz; cases hz
      rw [if_neg c2] at hz
      by_cases c3 : z = "part"
      · rw [if_pos c3] at hz; cases hz
      rw [if_neg c3] at hz
      by_cases c4 : z = "rep"
      · rw [if_pos c4] at hz; cases hz
      rw [if_neg c4] at hz
      by_cases c5 : z = "hold"
      · rw [if_pos c5] at hz; cases hz
      unfold tabG
      simp [List.find?_cons, beq_eq_false_iff_ne.mpr (Ne.symm c1), beq_eq_false_iff_ne.mpr (Ne.symm c2), beq_eq_false_iff_ne.mpr (Ne.symm c3), beq_eq_false_iff_ne.mpr (Ne.symm c4), beq_eq_false_iff_ne.mpr (Ne.symm c5)]
    · unfold asks at hz
      by_cases c1 : z = "row"
      · rw [if_pos c1] at hz; cases hz; subst c1
        exact ⟨b0, rfl, p5.at n0⟩
      rw [if_neg c1] at hz
      by_cases c2 : z = "in"
      · rw [if_pos c2] at hz; cases hz; subst c2
        exact ⟨b1, rfl, p6.at n1⟩
      rw [if_neg c2] at hz
      by_cases c3 : z = "part"
      · rw [if_pos c3] at hz; cases hz; subst c3
        exact ⟨b2, rfl, p7.at n2⟩
      rw [if_neg c3] at hz
      by_cases c4 : z = "rep"
      · rw [if_pos c4] at hz; cases hz; subst c4
        exact ⟨b3, rfl, p8.at n3⟩
      rw [if_neg c4] at hz
      by_cases c5 : z = "hold"
      · rw [if_pos c5] at hz; cases hz; subst c5
        exact ⟨b4, rfl, p9.at n4⟩
      rw [if_neg c5] at hz; cases hz
  have p10 := has_told_fits OP.o9 B TP TT
  have p11 := has_parts_fit (P := P) (base := base) OP.o10 TP
  have p12 := has_check_count OP.o11 C hI Er.eTooMany
  have p13 := has_check_form OP.o12 hI Er.eBadOp Er.eBadParts p10 p11
  have p14 := has_is_triple (P := P) (w := w) (base := base) OP.o13 B
  have p15 := has_check_joint (c := ⟨cTooMany, cBadProgram, cBadOp, cBadParts⟩) OP.o14 B hI Er.eBadProgram p12 p14 p13
  have p16 := has_made_program OP.o15 p15
  have q1 := has_jx (P := P) (w := w) (base := base) OP.o16 B 40
  have q2 := has_told_text OP.o17 p16 q1
  have q3 := has_kind_of (P := P) (w := w) (base := base) OP.o18 C C2
  have q4 := has_gap_end (P := P) (w := w) (base := base) OP.o19 B
  have q5 := has_run_end (P := P) (w := w) (base := base) OP.o20 B
  have q6 := has_token_end OP.o21 B C C2 hI Er.eBadText q3 q5
  have q7 := has_may_stand (P := P) (base := base) OP.o22 TN
  have q8 := has_state_behind (P := P) (base := base) OP.o23 TB
  have q9 := has_depth_behind OP.o24 C hI Er.eTooMany
  have q10 := has_scanned OP.o25 B hI Er.eBadText q3 q4 q6 q7 q8 q9
  have q11 := has_read_op (P := P) (w := w) (base := base) OP.o26
  have q12 := has_drafted OP.o27 B OD.2 (has_Draft (P := P) (w := w) (base := base) OD.1 OD.2) q11
  have q13 := has_built (P := P) (w := w) (base := base) OP.o28 B BR OD.2
  have q14 := has_read OP.o29 B C2 OD.2 hI Er.eBadText q10 q12 p12 p13 q13
  have m1 := has_pool (P := P) (w := w) (base := base) OP.o30 B
  have m2 := has_take (P := P) (w := w) (base := base) OP.o31 B
  have m3 := has_one OP.o32 B m2
  have m4 := has_name OP.o33 B m2
  have m5 := has_digit OP.o34 B m2 m3
  have m6 := has_leaf OP.o35 B m2 m4 m5
  have m7 := has_joint OP.o36 OP.o37 OP.o38 B m2 m3 m6 40
  have m8 := True.intro
  have m9 := True.intro
  have m10 := has_program OP.o39 m2 m3 m7
  have m11 := has_listed (P := P) (w := w) (base := base) OP.o40 40
  have m12 := has_put OP.o41 B m11 40
  have m13 := has_gap OP.o42 B m3
  have m14 := has_gd OP.o43 B m13 40
  have m15 := has_wr (P := P) (w := w) (base := base) OP.o44 B 40
  have m16 := has_refused (e := ⟨cTooMany, cBadProgram, cBadOp, cBadParts⟩) OP.o45 Er.eRefused Er.eBadProgram Er.xBadProgram_BadProgram q2.pos
  have m17 := has_right OP.o46 B q2 q14 m2 m3 m6 m10 m11 m12 m15 m13 m14 m16
  exact ok_law F B m1 m17
theorem fin_mk {h : Heap} {fa f3 : Addr} {fI aP aT b0 b1 b2 b3 b4 aN aB cD cRefused cBadProgram cBadOp cBadParts cTooMany cBadText : Addr} {gP gN gB : Str → Option Value} {fdI : FuncData} (X : K.In h) (G : h.Ns mainGlobals mg) (hfa : mg "law" = some (.ref fa)) {oc3 : Value} {od3 an3 : Option Addr} {sl3 : Array (Option Value)} {kV3 dc3 pm3 cd3 ct3 : Value}
    (a3 : PySem.W.nsIn K mainGlobals "law" = some (some (.ref f3))) (l3 : K.lookup f3 = some ⟨oc3, od3, .func (PySem.W.fnOf "law" "law" (defArgs s_law) (defBody s_law) (defScope s_law) .none kV3 dc3 pm3 an3 cd3 ct3), sl3⟩) (c3 : PySem.W.codeIn K cd3 "law" = true) (k3 : PySem.W.keepIn K (.ref f3) = true)
    (B : Bl mg) (BR : mg "reversed" = none) (C : Cst mg) (TP : PartsTab w K mg aP gP) (tT : Tab w K mg "TELLS" aT (tabG [("row", b0), ("in", b1), ("part", b2), ("rep", b3), ("hold", b4)])) (n0 : mg "tells_row" = some (.ref b0)) (n1 : mg "tells_input" = some (.ref b1)) (n2 : mg "tells_stretch" = some (.ref b2)) (n3 : mg "tells_times" = some (.ref b3)) (n4 : mg "tells_room" = some (.ref b4)) (FI : Fun K "__init__" "Refused.__init__" initSt fI fdI) (tI : PySem.W.typeIn K (.ref fI) = some (.type "function")) (Er : Errs K mg fI cRefused cBadProgram cBadOp cBadParts cTooMany cBadText) (OP : Own K mg) (C2 : Cst2 mg) (TN : NextTab w K mg aN gN) (TB : BehTab w K mg aB gB) (OD : OwnM K mg "Draft" "Draft.__init__" cD s_Draft___init__ ∧ DrC K cD) :
    ∃ fd : FuncData, (∀ (s : Shared) (v : Value), BindsTo s fd ⟨[v], []⟩ [("script", v)]) ∧ ∀ base : Heap, K.In base → base.Ns mainGlobals mg → FnOk P w K mg base CX0 127 fa fd ["script"] (spLaw K) := by
  have e := hfa.symm.trans (PySem.W.mg_of X G a3)
  cases e
  exact ⟨_, fun s v => .of_eq rfl, fun base _ _ => all_mk (base := base) (fun_mk (st := s_law) l3 c3 k3) B BR C TP tT n0 n1 n2 n3 n4 FI tI Er OP C2 TN TB OD⟩
end
/-- a class that stands in an except clause -/
structure ClsB (K : PySem.W.Frag) (S : Addr) : Prop where
  b : PySem.W.subIn K (.ref S) (.type "BaseException") = some true
  i : PySem.W.isClsIn K S = true
  t : PySem.W.typeIn K (.ref S) = some (.type "type")
theorem ClsB.exm {K : PySem.W.Frag} {C S : Addr} {b : Bool} (h : ClsB K S) (e : PySem.W.subIn K (.ref C) (.ref S) = some b) : PySem.W.exmOne K (.ref C) (.ref S) = some b := exm_mk h.b h.i h.t e
theorem errs_mk {K : PySem.W.Frag} {mg : Str → Option Value} {fI cRefused cBadProgram cBadOp cBadParts cTooMany cBadText : Addr} (eRefused : ErrC K mg fI "Refused" cRefused) (eBadProgram : ErrC K mg fI "BadProgram" cBadProgram) (eBadOp : ErrC K mg fI "BadOp" cBadOp) (eBadParts : ErrC K mg fI "BadParts" cBadParts) (eTooMany : ErrC K mg fI "TooMany" cTooMany) (eBadText : ErrC K mg fI "BadText" cBadText) (hBadProgram : ClsB K cBadProgram) (s0 : PySem.W.subIn K (.ref cBadProgram) (.ref cBadProgram) = some true) : Errs K mg fI cRefused cBadProgram cBadOp cBadParts cTooMany cBadText :=
  ⟨eRefused, eBadProgram, eBadOp, eBadParts, eTooMany, eBadText, hBadProgram.exm s0⟩
end Mine

/-! ### E1 -/
open PySem PySem.W PyProof.Rows
set_option maxRecDepth 100000 in
set_option maxHeartbeats 0 in
theorem PySem.Challenge.cw_hillrooms_k03_texts_written_and_read_bac_holds : PySem.Challenge.rw_hillrooms_k03_texts_written_and_read_bac.Holds := by
  w_on; o_law; k_head; (case hw => w_witness2)
  k_fill
  refine L2.walk_of (l := PySem.Challenge.rw_hillrooms_k03_texts_written_and_read_bac) (n := 63) (k := 127) (x := "script") (CX := fun _ => L2.CX0) (sp := fun w => Mine.spLaw _) rfl (by decide) rfl ⟨rfl, by decide, by decide⟩ (fun w h Y => PySem.W.kIn_of Y) ?F (fun _ _ a ns hl _ hS => ⟨a, ns, rfl, hS, hl, fun _ => rfl⟩) (fun _ _ _ _ _ z => z)
  case F =>
    intro w mg fa h KX G hmg
    have B : Mine.Bl mg := by
      refine' ⟨PySem.W.mg_none_of KX G ?z0, PySem.W.mg_none_of KX G ?z1, PySem.W.mg_none_of KX G ?z2, PySem.W.mg_none_of KX G ?z3, PySem.W.mg_none_of KX G ?z4, PySem.W.mg_none_of KX G ?z5, PySem.W.mg_none_of KX G ?z6, PySem.W.mg_none_of KX G ?z7, PySem.W.mg_none_of KX G ?z8, PySem.W.mg_none_of KX G ?z9, PySem.W.mg_none_of KX G ?z10, PySem.W.mg_none_of KX G ?z11, PySem.W.mg_none_of KX G ?z12⟩
      (case z0 => k_is); (case z1 => k_is); (case z2 => k_is); (case z3 => k_is); (case z4 => k_is); (case z5 => k_is); (case z6 => k_is); (case z7 => k_is); (case z8 => k_is); (case z9 => k_is); (case z10 => k_is); (case z11 => k_is); (case z12 => k_is)
    have BR : mg "reversed" = none := by
      refine' PySem.W.mg_none_of KX G ?z0
      (case z0 => k_is)
    have C : Mine.Cst mg := by
      refine' ⟨Mine.int_mk KX G ?z0, Mine.int_mk KX G ?z1, Mine.int_mk KX G ?z2, Mine.int_mk KX G ?z3, Mine.str_mk KX G ?z4, Mine.int_mk KX G ?z5⟩
      (case z0 => k_is); (case z1 => k_is); (case z2 => k_is); (case z3 => k_is); (case z4 => k_is); (case z5 => k_is)
    have OP : Mine.Own (L2.KOf KX) mg := by
      dsimp only [L2.KOf]
      refine' ⟨Mine.ownF_mk KX G ?a0 ?l0 ?c0 ?k0, Mine.ownF_mk KX G ?a1 ?l1 ?c1 ?k1, Mine.ownF_mk KX G ?a2 ?l2 ?c2 ?k2, Mine.ownF_mk KX G ?a3 ?l3 ?c3 ?k3, Mine.ownF_mk KX G ?a4 ?l4 ?c4 ?k4, Mine.ownF_mk KX G ?a5 ?l5 ?c5 ?k5, Mine.ownF_mk KX G ?a6 ?l6 ?c6 ?k6, Mine.ownF_mk KX G ?a7 ?l7 ?c7 ?k7, Mine.ownF_mk KX G ?a8 ?l8 ?c8 ?k8, Mine.ownF_mk KX G ?a9 ?l9 ?c9 ?k9, Mine.ownF_mk KX G ?a10 ?l10 ?c10 ?k10, Mine.ownF_mk KX G ?a11 ?l11 ?c11 ?k11, Mine.ownF_mk KX G ?a12 ?l12 ?c12 ?k12, Mine.ownF_mk KX G ?a13 ?l13 ?c13 ?k13, Mine.ownF_mk KX G ?a14 ?l14 ?c14 ?k14, Mine.ownF_mk KX G ?a15 ?l15 ?c15 ?k15, Mine.ownF_mk KX G ?a16 ?l16 ?c16 ?k16, Mine.ownF_mk KX G ?a17 ?l17 ?c17 ?k17, Mine.ownF_mk KX G ?a18 ?l18 ?c18 ?k18, Mine.ownF_mk KX G ?a19 ?l19 ?c19 ?k19, Mine.ownF_mk KX G ?a20 ?l20 ?c20 ?k20, Mine.ownF_mk KX G ?a21 ?l21 ?c21 ?k21, Mine.ownF_mk KX G ?a22 ?l22 ?c22 ?k22, Mine.ownF_mk KX G ?a23 ?l23 ?c23 ?k23, Mine.ownF_mk KX G ?a24 ?l24 ?c24 ?k24, Mine.ownF_mk KX G ?a25 ?l25 ?c25 ?k25, Mine.ownF_mk KX G ?a26 ?l26 ?c26 ?k26, Mine.ownF_mk KX G ?a27 ?l27 ?c27 ?k27, Mine.ownF_mk KX G ?a28 ?l28 ?c28 ?k28, Mine.ownF_mk KX G ?a29 ?l29 ?c29 ?k29, Mine.ownF_mk KX G ?a30 ?l30 ?c30 ?k30, Mine.ownF_mk KX G ?a31 ?l31 ?c31 ?k31, Mine.ownF_mk KX G ?a32 ?l32 ?c32 ?k32, Mine.ownF_mk KX G ?a33 ?l33 ?c33 ?k33, Mine.ownF_mk KX G ?a34 ?l34 ?c34 ?k34, Mine.ownF_mk KX G ?a35 ?l35 ?c35 ?k35, Mine.ownF_mk KX G ?a36 ?l36 ?c36 ?k36, Mine.ownF_mk KX G ?a37 ?l37 ?c37 ?k37, Mine.ownF_mk KX G ?a38 ?l38 ?c38 ?k38, Mine.ownF_mk KX G ?a39 ?l39 ?c39 ?k39, Mine.ownF_mk KX G ?a40 ?l40 ?c40 ?k40, Mine.ownF_mk KX G ?a41 ?l41 ?c41 ?k41, Mine.ownF_mk KX G ?a42 ?l42 ?c42 ?k42, Mine.ownF_mk KX G ?a43 ?l43 ?c43 ?k43, Mine.ownF_mk KX G ?a44 ?l44 ?c44 ?k44, Mine.ownF_mk KX G ?a45 ?l45 ?c45 ?k45, Mine.ownF_mk KX G ?a46 ?l46 ?c46 ?k46⟩
      (case a0 => k_is); (case l0 => k_is); (case c0 => k_is); (case k0 => k_is)
      (case a1 => k_is); (case l1 => k_is); (case c1 => k_is); (case k1 => k_is)
      (case a2 => k_is); (case l2 => k_is); (case c2 => k_is); (case k2 => k_is)
      (case a3 => k_is); (case l3 => k_is); (case c3 => k_is); (case k3 => k_is)
      (case a4 => k_is); (case l4 => k_is); (case c4 => k_is); (case k4 => k_is)
      (case a5 => k_is); (case l5 => k_is); (case c5 => k_is); (case k5 => k_is)
      (case a6 => k_is); (case l6 => k_is); (case c6 => k_is); (case k6 => k_is)
      (case a7 => k_is); (case l7 => k_is); (case c7 => k_is); (case k7 => k_is)
      (case a8 => k_is); (case l8 => k_is); (case c8 => k_is); (case k8 => k_is)
      (case a9 => k_is); (case l9 => k_is); (case c9 => k_is); (case k9 => k_is)
      (case a10 => k_is); (case l10 => k_is); (case c10 => k_is); (case k10 => k_is)
      (case a11 => k_is); (case l11 => k_is); (case c11 => k_is); (case k11 => k_is)
      (case a12 => k_is); (case l12 => k_is); (case c12 => k_is); (case k12 => k_is)
      (case a13 => k_is); (case l13 => k_is); (case c13 => k_is); (case k13 => k_is)
      (case a14 => k_is); (case l14 => k_is); (case c14 => k_is); (case k14 => k_is)
      (case a15 => k_is); (case l15 => k_is); (case c15 => k_is); (case k15 => k_is)
      (case a16 => k_is); (case l16 => k_is); (case c16 => k_is); (case k16 => k_is)
      (case a17 => k_is); (case l17 => k_is); (case c17 => k_is); (case k17 => k_is)
      (case a18 => k_is); (case l18 => k_is); (case c18 => k_is); (case k18 => k_is)
      (case a19 => k_is); (case l19 => k_is); (case c19 => k_is); (case k19 => k_is)
      (case a20 => k_is); (case l20 => k_is); (case c20 => k_is); (case k20 => k_is)
      (case a21 => k_is); (case l21 => k_is); (case c21 => k_is); (case k21 => k_is)
      (case a22 => k_is); (case l22 => k_is); (case c22 => k_is); (case k22 => k_is)
      (case a23 => k_is); (case l23 => k_is); (case c23 => k_is); (case k23 => k_is)
      (case a24 => k_is); (case l24 => k_is); (case c24 => k_is); (case k24 => k_is)
      (case a25 => k_is); (case l25 => k_is); (case c25 => k_is); (case k25 => k_is)
      (case a26 => k_is); (case l26 => k_is); (case c26 => k_is); (case k26 => k_is)
      (case a27 => k_is); (case l27 => k_is); (case c27 => k_is); (case k27 => k_is)
      (case a28 => k_is); (case l28 => k_is); (case c28 => k_is); (case k28 => k_is)
      (case a29 => k_is); (case l29 => k_is); (case c29 => k_is); (case k29 => k_is)
      (case a30 => k_is); (case l30 => k_is); (case c30 => k_is); (case k30 => k_is)
      (case a31 => k_is); (case l31 => k_is); (case c31 => k_is); (case k31 => k_is)
      (case a32 => k_is); (case l32 => k_is); (case c32 => k_is); (case k32 => k_is)
      (case a33 => k_is); (case l33 => k_is); (case c33 => k_is); (case k33 => k_is)
      (case a34 => k_is); (case l34 => k_is); (case c34 => k_is); (case k34 => k_is)
      (case a35 => k_is); (case l35 => k_is); (case c35 => k_is); (case k35 => k_is)
      (case a36 => k_is); (case l36 => k_is); (case c36 => k_is); (case k36 => k_is)
      (case a37 => k_is); (case l37 => k_is); (case c37 => k_is); (case k37 => k_is)
      (case a38 => k_is); (case l38 => k_is); (case c38 => k_is); (case k38 => k_is)
      (case a39 => k_is); (case l39 => k_is); (case c39 => k_is); (case k39 => k_is)
      (case a40 => k_is); (case l40 => k_is); (case c40 => k_is); (case k40 => k_is)
      (case a41 => k_is); (case l41 => k_is); (case c41 => k_is); (case k41 => k_is)
      (case a42 => k_is); (case l42 => k_is); (case c42 => k_is); (case k42 => k_is)
      (case a43 => k_is); (case l43 => k_is); (case c43 => k_is); (case k43 => k_is)
      (case a44 => k_is); (case l44 => k_is); (case c44 => k_is); (case k44 => k_is)
      (case a45 => k_is); (case l45 => k_is); (case c45 => k_is); (case k45 => k_is)
      (case a46 => k_is); (case l46 => k_is); (case c46 => k_is); (case k46 => k_is)
    obtain ⟨fI, cRefused, cBadProgram, cBadOp, cBadParts, cTooMany, cBadText, Er, fdI, FI, tI⟩ : ∃ (fI cRefused cBadProgram cBadOp cBadParts cTooMany cBadText : Addr), Mine.Errs (L2.KOf KX) mg fI cRefused cBadProgram cBadOp cBadParts cTooMany cBadText ∧ ∃ fdI : FuncData, L2.Fun (L2.KOf KX) "__init__" "Refused.__init__" Mine.initSt fI fdI ∧ PySem.W.typeIn (L2.KOf KX) (.ref fI) = some (.type "function") := by
      dsimp only [L2.KOf]
      refine' ⟨_, _, _, _, _, _, _, Mine.errs_mk (Mine.errC_mk KX G ?aC0 ?xL0 ?bm0 ?sa0 ?ga0 ?gg0 ?nb0 ?iC0 ?kC0 ?eC0 ?tC0 ?hC0) (Mine.errC_mk KX G ?aC1 ?xL1 ?bm1 ?sa1 ?ga1 ?gg1 ?nb1 ?iC1 ?kC1 ?eC1 ?tC1 ?hC1) (Mine.errC_mk KX G ?aC2 ?xL2 ?bm2 ?sa2 ?ga2 ?gg2 ?nb2 ?iC2 ?kC2 ?eC2 ?tC2 ?hC2) (Mine.errC_mk KX G ?aC3 ?xL3 ?bm3 ?sa3 ?ga3 ?gg3 ?nb3 ?iC3 ?kC3 ?eC3 ?tC3 ?hC3) (Mine.errC_mk KX G ?aC4 ?xL4 ?bm4 ?sa4 ?ga4 ?gg4 ?nb4 ?iC4 ?kC4 ?eC4 ?tC4 ?hC4) (Mine.errC_mk KX G ?aC5 ?xL5 ?bm5 ?sa5 ?ga5 ?gg5 ?nb5 ?iC5 ?kC5 ?eC5 ?tC5 ?hC5) ⟨?b0, ?i0, ?t0⟩ ?s0, _, L2.fun_mk (st := Mine.initSt) ?lI ?cI ?kI, ?tI⟩
      (case aC0 => k_is); (case xL0 => k_is); (case bm0 => decide +kernel); (case sa0 => k_is); (case ga0 => k_is); (case gg0 => k_is); (case nb0 => k_is); (case iC0 => k_is); (case kC0 => k_is); (case eC0 => k_is); (case tC0 => k_is); (case hC0 => k_is)
      (case aC1 => k_is); (case xL1 => k_is); (case bm1 => decide +kernel); (case sa1 => k_is); (case ga1 => k_is); (case gg1 => k_is); (case nb1 => k_is); (case iC1 => k_is); (case kC1 => k_is); (case eC1 => k_is); (case tC1 => k_is); (case hC1 => k_is)
      (case aC2 => k_is); (case xL2 => k_is); (case bm2 => decide +kernel); (case sa2 => k_is); (case ga2 => k_is); (case gg2 => k_is); (case nb2 => k_is); (case iC2 => k_is); (case kC2 => k_is); (case eC2 => k_is); (case tC2 => k_is); (case hC2 => k_is)
      (case aC3 => k_is); (case xL3 => k_is); (case bm3 => decide +kernel); (case sa3 => k_is); (case ga3 => k_is); (case gg3 => k_is); (case nb3 => k_is); (case iC3 => k_is); (case kC3 => k_is); (case eC3 => k_is); (case tC3 => k_is); (case hC3 => k_is)
      (case aC4 => k_is); (case xL4 => k_is); (case bm4 => decide +kernel); (case sa4 => k_is); (case ga4 => k_is); (case gg4 => k_is); (case nb4 => k_is); (case iC4 => k_is); (case kC4 => k_is); (case eC4 => k_is); (case tC4 => k_is); (case hC4 => k_is)
      (case aC5 => k_is); (case xL5 => k_is); (case bm5 => decide +kernel); (case sa5 => k_is); (case ga5 => k_is); (case gg5 => k_is); (case nb5 => k_is); (case iC5 => k_is); (case kC5 => k_is); (case eC5 => k_is); (case tC5 => k_is); (case hC5 => k_is)
      (case b0 => k_is); (case i0 => k_is); (case t0 => k_is)
      (case s0 => first | k_is | rfl | decide +kernel)
      (case lI => k_is); (case cI => k_is); (case kI => k_is); (case tI => k_is)
    obtain ⟨aT, b0, b1, b2, b3, b4, tT, n0, n1, n2, n3, n4⟩ : ∃ (aT b0 b1 b2 b3 b4 : Addr), Mine.Tab w (L2.KOf KX) mg "TELLS" aT (Mine.tabG [("row", b0), ("in", b1), ("part", b2), ("rep", b3), ("hold", b4)]) ∧ mg "tells_row" = some (.ref b0) ∧ mg "tells_input" = some (.ref b1) ∧ mg "tells_stretch" = some (.ref b2) ∧ mg "tells_times" = some (.ref b3) ∧ mg "tells_room" = some (.ref b4) := by
      dsimp only [L2.KOf]
      refine' ⟨_, _, _, _, _, _, Mine.tab_mk KX G ?e ?l ?k ?lo ?L, PySem.W.mg_of KX G ?n0, PySem.W.mg_of KX G ?n1, PySem.W.mg_of KX G ?n2, PySem.W.mg_of KX G ?n3, PySem.W.mg_of KX G ?n4⟩
      (case e => k_is); (case l => k_is); (case k => k_keys); (case lo => decide); (case L => rfl)
      (case n0 => k_is); (case n1 => k_is); (case n2 => k_is); (case n3 => k_is); (case n4 => k_is)
    obtain ⟨aP, p0, p1, p2, p3, p4, p5, p6, p7, p8, p9, p10, p11, p12, p13, p14, p15, tP, hP⟩ : ∃ (aP p0 p1 p2 p3 p4 p5 p6 p7 p8 p9 p10 p11 p12 p13 p14 p15 : Addr), Mine.Tab w (L2.KOf KX) mg "PARTS" aP (Mine.tabG [("row", p0), ("in", p1), ("rev", p2), ("sort", p3), ("sum", p4), ("top", p5), ("add", p6), ("sub", p7), ("mul", p8), ("dot", p9), ("cat", p10), ("outer", p11), ("blend", p12), ("part", p13), ("rep", p14), ("hold", p15)]) ∧ Mine.Prs (L2.KOf KX) [("row", p0), ("in", p1), ("rev", p2), ("sort", p3), ("sum", p4), ("top", p5), ("add", p6), ("sub", p7), ("mul", p8), ("dot", p9), ("cat", p10), ("outer", p11), ("blend", p12), ("part", p13), ("rep", p14), ("hold", p15)] Mine.arts := by
      dsimp only [L2.KOf]
      refine' ⟨_, _, _, _, _, _, _, _, _, _, _, _, _, _, _, _, _, Mine.tab_mk KX G ?e ?l ?k ?lo ?L, (.cons ⟨rfl, Mine.pair_mk ?p0⟩ (.cons ⟨rfl, Mine.pair_mk ?p1⟩ (.cons ⟨rfl, Mine.pair_mk ?p2⟩ (.cons ⟨rfl, Mine.pair_mk ?p3⟩ (.cons ⟨rfl, Mine.pair_mk ?p4⟩ (.cons ⟨rfl, Mine.pair_mk ?p5⟩ (.cons ⟨rfl, Mine.pair_mk ?p6⟩ (.cons ⟨rfl, Mine.pair_mk ?p7⟩ (.cons ⟨rfl, Mine.pair_mk ?p8⟩ (.cons ⟨rfl, Mine.pair_mk ?p9⟩ (.cons ⟨rfl, Mine.pair_mk ?p10⟩ (.cons ⟨rfl, Mine.pair_mk ?p11⟩ (.cons ⟨rfl, Mine.pair_mk ?p12⟩ (.cons ⟨rfl, Mine.pair_mk ?p13⟩ (.cons ⟨rfl, Mine.pair_mk ?p14⟩ (.cons ⟨rfl, Mine.pair_mk ?p15⟩ .nil))))))))))))))))⟩
      (case e => k_is); (case l => k_is); (case k => k_keys); (case lo => decide); (case L => rfl)
      (case p0 => k_is); (case p1 => k_is); (case p2 => k_is); (case p3 => k_is); (case p4 => k_is); (case p5 => k_is); (case p6 => k_is); (case p7 => k_is); (case p8 => k_is); (case p9 => k_is); (case p10 => k_is); (case p11 => k_is); (case p12 => k_is); (case p13 => k_is); (case p14 => k_is); (case p15 => k_is)
    have C2 : Mine.Cst2 mg := by
      refine' ⟨Mine.str_mk KX G ?z0, Mine.int_mk KX G ?z1, Mine.int_mk KX G ?z2⟩
      (case z0 => k_is); (case z1 => k_is); (case z2 => k_is)
    obtain ⟨aN, g0, g1, g2, g3, g4, tN, hN⟩ : ∃ (aN g0 g1 g2 g3 g4 : Addr), Mine.Tab w (L2.KOf KX) mg "NEXT" aN (Mine.tabG [("begin", g0), ("head", g1), ("fresh", g2), ("row", g3), ("closed", g4)]) ∧ Mine.PrsS (L2.KOf KX) [("begin", g0), ("head", g1), ("fresh", g2), ("row", g3), ("closed", g4)] Mine.nextT := by
      dsimp only [L2.KOf]
      refine' ⟨_, _, _, _, _, _, Mine.tab_mk KX G ?e ?l ?k ?lo ?L, (.cons ⟨rfl, Mine.tupS_mk ?p0 ?s0 (by decide)⟩ (.cons ⟨rfl, Mine.tupS_mk ?p1 ?s1 (by decide)⟩ (.cons ⟨rfl, Mine.tupS_mk ?p2 ?s2 (by decide)⟩ (.cons ⟨rfl, Mine.tupS_mk ?p3 ?s3 (by decide)⟩ (.cons ⟨rfl, Mine.tupS_mk ?p4 ?s4 (by decide)⟩ .nil)))))⟩
      (case e => k_is); (case l => k_is); (case k => k_keys); (case lo => decide); (case L => rfl)
      (case p0 => k_is); (case s0 => rfl); (case p1 => k_is); (case s1 => rfl); (case p2 => k_is); (case s2 => rfl); (case p3 => k_is); (case s3 => rfl); (case p4 => k_is); (case s4 => rfl)
    obtain ⟨aB, gB, tB⟩ : ∃ (aB : Addr) (gB : Str → Option Value), Mine.BehTab w (L2.KOf KX) mg aB gB := by
      dsimp only [L2.KOf]
      refine' ⟨_, _, Mine.beh_mk KX G ?e ?l ?k ?lo ?L⟩
      (case e => k_is); (case l => k_is); (case k => k_keys); (case lo => decide); (case L => rfl)
    obtain ⟨cD, OD⟩ : ∃ cD : Addr, Mine.OwnM (L2.KOf KX) mg "Draft" "Draft.__init__" cD Mine.s_Draft___init__ ∧ Mine.DrC (L2.KOf KX) cD := by
      dsimp only [L2.KOf]
      refine' ⟨_, Mine.draft_mk KX G ?aC ?a1 ?i1 ?l1 ?c1 ?k1 ?pg ?hd ?po ?sa ?mk ?kc ?n1 ?n2 ?n3 ?n4⟩
      (case aC => k_is); (case a1 => k_is); (case i1 => k_is); (case l1 => k_is); (case c1 => k_is); (case k1 => k_is); (case pg => k_is); (case hd => k_is); (case po => k_is); (case sa => k_is); (case mk => k_is); (case kc => k_is); (case n1 => k_is); (case n2 => k_is); (case n3 => k_is); (case n4 => k_is)
    refine' Mine.fin_mk KX G hmg ?a ?l ?c ?k B BR C (Mine.parts_tab tP hP) tT n0 n1 n2 n3 n4 FI tI Er OP C2 (Mine.next_tab tN hN) tB OD
    (case a => k_is); (case l => k_is); (case c => k_is); (case k => k_is)
