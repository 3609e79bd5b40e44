import PyProof.Rows.All
import Wide.All
import OpenK.AllK
import Wide.FinOn
import HandS.ForMost
import HandS.ForExc
import HandS.IsInst
import HandS.TupAny
import HandS.TupMul
import HandS.Style
import HandS.ExcInit
import HandS.TryMany
import HandS.ExcField
import HandS.CallLocal
import HandS.More
import HandS.Steps
import PyProof.MaxThree
import HandS.Rev
import HandS.Zip
import KE.GoesEnum
import HandS.Iter
import HandS.Comp
import HandS.RevRange
import HandS.Conv
import HandS.DictComp
import KE.KIndexOf
import PyProof.CallFns
import KE.SortKeyHeap
import HandS.Lambda
import HandS.SortKw
import KE.SortData
import KE.DatumOrd
import HandS.EndTab
import PySem.Challenge.RW_hillrooms_k14_rows_woven
set_option Elab.async false
set_option linter.all false
set_option maxRecDepth 100000
set_option maxHeartbeats 4000000
/-! ### Kit -/
namespace Mine
open PySem PySem.Spec L2

/-! ## heaps -/
/-- what stood stands, but at a -/
def SB (a : Addr) (H H' : Hp) : Prop := ∀ b o, b ≠ a → H b = some o → H' b = some o
/-- what was a tuple is one -/
def Ext (K : PySem.W.Frag) (H H' : Hp) : Prop := ∀ a xs, SqT K H a xs → SqT K H' a xs
theorem SB.refl {a : Addr} {H : Hp} : SB a H H := fun _ _ _ h => h
theorem SB.trans {a : Addr} {H H1 H2 : Hp} (x : SB a H H1) (y : SB a H1 H2) : SB a H H2 := fun b o n h => y b o n (x b o n h)
theorem SB.of_same {a : Addr} {H H' : Hp} (s : Same H H') : SB a H H' := fun b o _ h => s b o h
theorem SB.upd {a : Addr} {H : Hp} {o : HO} : SB a H (upd H a o) := fun b u n h => by rw [upd_ne n]; exact h
theorem SB.new {a p : Addr} {H H' : Hp} {o : HO} (s : SB a H H') (hp : H' p = none) : SB a H (L2.upd H' p o) := fun b u n h => by
  have q := s b u n h
  rw [upd_ne (ne_of_none q hp)]; exact q
theorem SB.set {a : Addr} {H H' : Hp} {o : HO} (s : SB a H H') : SB a H (L2.upd H' a o) := fun b u n h => by
  rw [upd_ne n]; exact s b u n h
theorem Same.new {p : Addr} {H H' : Hp} {o : HO} (s : Same H H') (hp : H' p = none) : Same H (L2.upd H' p o) := fun b u h => by
  have q := s b u h
  rw [upd_ne (ne_of_none q hp)]; exact q
theorem same_new {H : Hp} {p : Addr} (h : H p = none) (o : HO) : Same H (upd H p o) := fun b u q => by rw [upd_ne (ne_of_none q h)]; exact q
theorem Ext.refl {K : PySem.W.Frag} {H : Hp} : Ext K H H := fun _ _ h => h
theorem Ext.trans {K : PySem.W.Frag} {H H1 H2 : Hp} (x : Ext K H H1) (y : Ext K H1 H2) : Ext K H H2 := fun a xs h => y a xs (x a xs h)
theorem Ext.of_same {K : PySem.W.Frag} {H H' : Hp} (s : Same H H') : Ext K H H' := fun a xs h => by
  rcases h with (h | ⟨o, h⟩) | h
  · exact .inl (.inl (s _ _ h))
  · exact .inl (.inr ⟨o, s _ _ h⟩)
  · exact .inr h
/-- an object that is no tuple is no known tuple -/
def noTup : HO → Prop
  | .tup _ => False
  | .frz _ _ => False
  | _ => True
theorem Ext.of_SB {K : PySem.W.Frag} {a : Addr} {H H' : Hp} {o : HO} (s : SB a H H') (h : H a = some o) (hn : noTup o) : Ext K H H' := fun b xs q => by
  rcases q with (q | ⟨u, q⟩) | q
  · have ne : b ≠ a := fun e => by subst e; rw [h] at q; cases q; exact hn
    exact .inl (.inl (s _ _ ne q))
  · have ne : b ≠ a := fun e => by subst e; rw [h] at q; cases q; exact hn
    exact .inl (.inr ⟨u, s _ _ ne q⟩)
  · exact .inr q
theorem Ext.set {K : PySem.W.Frag} {a : Addr} {H : Hp} {o u : HO} (h : H a = some o) (hn : noTup o) : Ext K H (upd H a u) := Ext.of_SB SB.upd h hn
theorem Ext.new {K : PySem.W.Frag} {p : Addr} {H : Hp} {o : HO} (h : H p = none) : Ext K H (upd H p o) := Ext.of_same (same_new h o)

/-! ## data without lists -/
mutual
inductive Rp (K : PySem.W.Frag) (H : Hp) : V → PyData → Prop
  | non : Rp K H .non .none
  | bl (b : Bool) : Rp K H (.bl b) (.bool b)
  | int (i : Int) : Rp K H (.int i) (.int i)
  | str (x : Str) : Rp K H (.str x) (.str x)
  | tup {a : Addr} {xs : List V} {ds : List PyData} : SqT K H a xs → Rps K H xs ds → Rp K H (.ref a) (.tuple ds)
inductive Rps (K : PySem.W.Frag) (H : Hp) : List V → List PyData → Prop
  | nil : Rps K H [] []
  | cons {v : V} {vs : List V} {d : PyData} {ds : List PyData} : Rp K H v d → Rps K H vs ds → Rps K H (v :: vs) (d :: ds)
end
mutual
theorem Rp.mono {K : PySem.W.Frag} {H H' : Hp} (e : Ext K H H') : ∀ (d : PyData) (v : V), Rp K H v d → Rp K H' v d
  | .none, _, h => by cases h; exact .non
  | .bool b, _, h => by cases h; exact .bl b
  | .int i, _, h => by cases h; exact .int i
  | .str x, _, h => by cases h; exact .str x
  | .tuple ds, _, h => by
    cases h with
    | tup hs hr => exact .tup (e _ _ hs) (Rps.mono e ds _ hr)
  | .list _, _, h => nomatch h
  | .dict _, _, h => nomatch h
theorem Rps.mono {K : PySem.W.Frag} {H H' : Hp} (e : Ext K H H') : ∀ (ds : List PyData) (vs : List V), Rps K H vs ds → Rps K H' vs ds
  | [], _, h => by cases h; exact .nil
  | d :: ds, _, h => by
    cases h with
    | cons h1 h2 => exact .cons (Rp.mono e d _ h1) (Rps.mono e ds _ h2)
end
mutual
theorem Rp.dp {K : PySem.W.Frag} {H : Hp} : ∀ (d : PyData) (v : V), Rp K H v d → Dp K H v d
  | .none, _, h => by cases h; exact .non
  | .bool b, _, h => by cases h; exact .bl b
  | .int i, _, h => by cases h; exact .int i
  | .str x, _, h => by cases h; exact .str x
  | .tuple ds, _, h => by
    cases h with
    | tup hs hr => exact .tup hs (Rps.dp ds _ hr)
  | .list _, _, h => nomatch h
  | .dict _, _, h => nomatch h
theorem Rps.dp {K : PySem.W.Frag} {H : Hp} : ∀ (ds : List PyData) (vs : List V), Rps K H vs ds → DpAll K H vs ds
  | [], _, h => by cases h; exact .nil
  | d :: ds, _, h => by
    cases h with
    | cons h1 h2 => exact .cons (Rp.dp d _ h1) (Rps.dp ds _ h2)
end
theorem Rps.length {K : PySem.W.Frag} {H : Hp} : ∀ {vs : List V} {ds : List PyData}, Rps K H vs ds → vs.length = ds.length
  | _, _, .nil => rfl
  | _, _, .cons _ t => by rw [List.length_cons, List.length_cons, Rps.length t]
theorem Rps.get {K : PySem.W.Frag} {H : Hp} : ∀ {vs : List V} {ds : List PyData} {i : Nat} {d : PyData}, Rps K H vs ds → ds[i]? = some d → ∃ v, vs[i]? = some v ∧ Rp K H v d
  | _, _, _, _, .nil, e => by simp at e
  | _, _, 0, d, .cons h _, e => by simp at e; subst e; exact ⟨_, rfl, h⟩
  | _, _, i + 1, d, .cons _ t, e => by
    obtain ⟨v, h1, h2⟩ := Rps.get (i := i) (d := d) t (by simpa using e)
    exact ⟨v, by simpa using h1, h2⟩
theorem Rps.getV {K : PySem.W.Frag} {H : Hp} : ∀ {vs : List V} {ds : List PyData} {i : Nat} {v : V}, Rps K H vs ds → vs[i]? = some v → ∃ d, ds[i]? = some d ∧ Rp K H v d
  | _, _, _, _, .nil, e => by simp at e
  | _, _, 0, d, .cons h _, e => by simp at e; subst e; exact ⟨_, rfl, h⟩
  | _, _, i + 1, v, .cons _ t, e => by
    obtain ⟨d, h1, h2⟩ := Rps.getV (i := i) (v := v) t (by simpa using e)
    exact ⟨d, by simpa using h1, h2⟩
theorem Rps.append {K : PySem.W.Frag} {H : Hp} : ∀ {vs ws : List V} {ds es : List PyData}, Rps K H vs ds → Rps K H ws es → Rps K H (vs ++ ws) (ds ++ es)
  | _, _, _, _, .nil, s => s
  | _, _, _, _, .cons r t, s => .cons r (Rps.append t s)
theorem Rps.one {K : PySem.W.Frag} {H : Hp} {v : V} {d : PyData} (h : Rp K H v d) : Rps K H [v] [d] := .cons h .nil
theorem Rps.reverse {K : PySem.W.Frag} {H : Hp} : ∀ {vs : List V} {ds : List PyData}, Rps K H vs ds → Rps K H vs.reverse ds.reverse
  | _, _, .nil => .nil
  | _, _, .cons r t => by
    rw [List.reverse_cons, List.reverse_cons]
    exact (Rps.reverse t).append (.one r)
theorem Rps.dropLast {K : PySem.W.Frag} {H : Hp} : ∀ {vs : List V} {ds : List PyData}, Rps K H vs ds → Rps K H vs.dropLast ds.dropLast
  | _, _, .nil => .nil
  | _, _, .cons r .nil => .nil
  | _, _, .cons r (.cons r2 t) => .cons r (Rps.dropLast (.cons r2 t))
theorem Rps.drop {K : PySem.W.Frag} {H : Hp} : ∀ (n : Nat) {vs : List V} {ds : List PyData}, Rps K H vs ds → Rps K H (vs.drop n) (ds.drop n)
  | 0, _, _, r => r
  | _ + 1, _, _, .nil => .nil
  | n + 1, _, _, .cons _ t => Rps.drop n t
theorem Rps.take {K : PySem.W.Frag} {H : Hp} : ∀ (n : Nat) {vs : List V} {ds : List PyData}, Rps K H vs ds → Rps K H (vs.take n) (ds.take n)
  | 0, _, _, _ => .nil
  | _ + 1, _, _, .nil => .nil
  | n + 1, _, _, .cons r t => .cons r (Rps.take n t)
theorem Rps.ints {K : PySem.W.Frag} {H : Hp} : ∀ (ns : List Int), Rps K H (ns.map V.int) (ns.map PyData.int)
  | [] => .nil
  | n :: r => .cons (.int n) (Rps.ints r)

/-! ## readings, one step each -/
section
variable {σ : St} {H : Hp} {Q : VK} {D : Ends} {ta tb tc te : TE} {t u : TS} {tt tt' : TT} {i : Nat} {K : PySem.W.Frag}
theorem rd_var {v : V} (e : σ[i]? = some (some v)) (h : Q v H) : tVar i σ H Q := ⟨v, e, h⟩
theorem rd_c {v : V} (h : Q v H) : tC v σ H Q := h
theorem rd_seq {n bk ct : St → Hp → Prop} {rt : VK} (h : t ⟨u ⟨n, rt, bk, ct⟩, rt, bk, ct⟩ σ H) : tSeq t u ⟨n, rt, bk, ct⟩ σ H := h
theorem rd_next {n bk ct : St → Hp → Prop} {rt : VK} (h : n σ H) : tNext ⟨n, rt, bk, ct⟩ σ H := h
theorem rd_brk {n bk ct : St → Hp → Prop} {rt : VK} (h : bk σ H) : tBreak ⟨n, rt, bk, ct⟩ σ H := h
theorem rd_ct {n bk ct : St → Hp → Prop} {rt : VK} (h : ct σ H) : tCont ⟨n, rt, bk, ct⟩ σ H := h
theorem rd_ret {n bk ct : St → Hp → Prop} {rt : VK} (h : te σ H rt) : tRet te ⟨n, rt, bk, ct⟩ σ H := h
theorem rd_retN {n bk ct : St → Hp → Prop} {rt : VK} (h : rt .non H) : tRetN ⟨n, rt, bk, ct⟩ σ H := h
theorem rd_asg {g : TG} {n bk ct : St → Hp → Prop} {rt : VK} (h : te σ H fun x H1 => g x σ H1 n) : tAsg te g ⟨n, rt, bk, ct⟩ σ H := h
theorem rd_drop {n bk ct : St → Hp → Prop} {rt : VK} (h : te σ H fun _ H1 => n σ H1) : tDrop te ⟨n, rt, bk, ct⟩ σ H := h
theorem rd_gname {v : V} {R : St → Hp → Prop} (h : R (σ.set i (some v)) H) : gName i v σ H R := h
theorem rd_par {i j : Nat} {ta : TA} {n bk ct : St → Hp → Prop} {rt : VK} (h : ta σ H fun vs H1 => ∃ v w, vs = [v, w] ∧ n ((σ.set i (some v)).set j (some w)) H1) : tPar i j ta ⟨n, rt, bk, ct⟩ σ H := h
theorem rd_par3 {i j l : Nat} {ta : TA} {n bk ct : St → Hp → Prop} {rt : VK} (h : ta σ H fun vs H1 => ∃ u v w, vs = [u, v, w] ∧ n (((σ.set i (some u)).set j (some v)).set l (some w)) H1) : tPar3 i j l ta ⟨n, rt, bk, ct⟩ σ H := h
theorem rd_par3_end {i j l : Nat} {u v w : V} {N : St → Hp → Prop} (h : N (((σ.set i (some u)).set j (some v)).set l (some w)) H) : ∃ u' v' w', [u, v, w] = [u', v', w'] ∧ N (((σ.set i (some u')).set j (some v')).set l (some w')) H := ⟨u, v, w, rfl, h⟩
theorem rd_split {p A B : Prop} [Decidable p] (h1 : p → A) (h2 : ¬ p → B) : if decide p = true then A else B := by
  by_cases c : p
  · rw [decide_eq_true c, if_pos rfl]; exact h1 c
  · rw [decide_eq_false c, if_neg Bool.false_ne_true]; exact h2 c
theorem rd_splitN {p A B : Prop} [Decidable p] (h1 : ¬ p → A) (h2 : p → B) : if (!decide p) = true then A else B := by
  by_cases c : p
  · rw [decide_eq_true c]; exact h2 c
  · rw [decide_eq_false c]; exact h1 c
theorem rd_splitB {b : Bool} {A B : Prop} (h1 : b = true → A) (h2 : b = false → B) : if b = true then A else B := by
  cases b with
  | true => exact h1 rfl
  | false => exact h2 rfl
theorem rd_aug {te : TE} {ti : TIp} {n bk ct : St → Hp → Prop} {rt : VK} {x : V} (e : σ[i]? = some (some x)) (h : te σ H fun y H1 => ti x y H1 fun z H2 => n (σ.set i (some z)) H2) : tAug i te ti ⟨n, rt, bk, ct⟩ σ H := ⟨x, e, h⟩
theorem rd_ipI {f : Int → Int → Int} {x y : Int} (h : Q (.int (f x y)) H) : ipI f (.int x) (.int y) H Q := ⟨x, y, rfl, rfl, h⟩
theorem rd_par_end {i j : Nat} {v w : V} {N : St → Hp → Prop} (h : N ((σ.set i (some v)).set j (some w)) H) : ∃ v' w', [v, w] = [v', w'] ∧ N ((σ.set i (some v')).set j (some w')) H := ⟨v, w, rfl, h⟩
theorem rd_if (h : tt σ H fun b H1 => if b = true then t D σ H1 else u D σ H1) : tIfS tt t u D σ H := h
theorem rd_ife (h : tt σ H fun b H1 => if b = true then ta σ H1 Q else tb σ H1 Q) : tIf tt ta tb σ H Q := h
theorem rd_op {r : R2} (h : ta σ H fun x H1 => tb σ H1 fun y H2 => r x y H2 Q) : tOp r ta tb σ H Q := h
theorem rd_un {r : V → Hp → VK → Prop} (h : ta σ H fun x H1 => r x H1 Q) : tUn r ta σ H Q := h
theorem rd_nil {R : List V → Hp → Prop} (h : R [] H) : tNil σ H R := h
theorem rd_cons {tr : TA} {R : List V → Hp → Prop} (h : ta σ H fun x H1 => tr σ H1 fun xs H2 => R (x :: xs) H2) : tCons ta tr σ H R := h
theorem rd_tup {a : TA} (h : a σ H fun xs H1 => xs.length ≤ sizeLine ∧ ∀ p, H1 p = none → Q (.ref p) (upd H1 p (.tup xs))) : tTup a σ H Q := h
theorem rd_lst {a : TA} (h : a σ H fun xs H1 => xs.length ≤ sizeLine ∧ ∀ p, H1 p = none → Q (.ref p) (upd H1 p (.lst xs))) : tLst a σ H Q := h
theorem rd_call {sp : Sp} {E : XK} {a : TA} (h : a σ H fun vs H1 => sp vs H1 Q E) : tCall sp [] E a σ H Q := by
  show a σ H fun vs H1 => sp (vs ++ []) H1 Q E
  have e : (fun vs H1 => sp (vs ++ []) H1 Q E) = fun vs H1 => sp vs H1 Q E := by
    funext vs H1; rw [List.append_nil]
  rw [e]; exact h
theorem rd_cb {r : List V → Hp → VK → Prop} {a : TA} (h : a σ H fun vs H1 => r vs H1 Q) : tCB r a σ H Q := h
theorem rd_test {R : Bool → Hp → Prop} (h : te σ H fun x H' => ∃ k, x = .bl k ∧ R k H') : tTest te σ H R := h
theorem rd_tB {R : Bool → Hp → Prop} (h : te σ H fun x H' => ∃ k, x = .bl k ∧ R k H') : tB te σ H R := h
theorem rd_bl {k : Bool} {R : Bool → Prop} (h : R k) : ∃ k', V.bl k = .bl k' ∧ R k' := ⟨k, rfl, h⟩
theorem rd_and {R : Bool → Hp → Prop} (h : tt σ H fun c H1 => if c = true then tt' σ H1 R else R false H1) : tAnd tt tt' σ H R := h
theorem rd_or {R : Bool → Hp → Prop} (h : tt σ H fun c H1 => if c = true then R true H1 else tt' σ H1 R) : tOr tt tt' σ H R := h
theorem rd_not {R : Bool → Hp → Prop} (h : tt σ H fun c H1 => R (!c) H1) : tNot tt σ H R := h
theorem rd_andV (h : ta σ H fun x H1 => ∃ c, x = .bl c ∧ if c = true then tb σ H1 Q else Q (.bl false) H1) : tAndV ta tb σ H Q := h
theorem rd_orV (h : ta σ H fun x H1 => ∃ c, x = .bl c ∧ if c = true then Q (.bl true) H1 else tb σ H1 Q) : tOrV ta tb σ H Q := h
theorem rd_notV (h : ta σ H fun x H1 => ∃ c, x = .bl c ∧ Q (.bl (!c)) H1) : tNotV ta σ H Q := h
theorem rd_chain {r r' : R2} (h : ta σ H fun x H1 => tb σ H1 fun y H2 => r x y H2 fun z H3 => ∃ k, z = .bl k ∧ if k = true then tc σ H3 fun w H4 => r' y w H4 Q else Q (.bl false) H3) : tChain r r' ta tb tc σ H Q := h
end
end Mine

/-! ### Kit2 -/
namespace Mine
open PySem PySem.Spec L2

/-! ## defs of the text, and their promises -/
def HasF (P : Program) (w : World) (K : PySem.W.Frag) (mg : Str → Option Value) (base : Heap) (CX : CXT) (k : Nat) (x : Str) (ps : List Str) (sp : Sp) : Prop :=
  ∃ (f : Addr) (fd : FuncData), FnOk P w K mg base CX k f fd ps sp ∧ mg x = some (.ref f) ∧ PySem.W.keepIn K (.ref f) = true ∧ Binds K fd ps []
def OwnF (K : PySem.W.Frag) (mg : Str → Option Value) (x : Str) (st : Stmt) : Prop := ∃ (f : Addr) (fd : FuncData), Fun K x x st f fd ∧ mg x = some (.ref f)
section
variable {P : Program} {w : World} {K : PySem.W.Frag} {mg : Str → Option Value} {base : Heap} {CX : CXT}
theorem HasF.mono {j k : Nat} {x : Str} {ps : List Str} {sp : Sp} (h : HasF P w K mg base CX j x ps sp) (l : j ≤ k) : HasF P w K mg base CX k x ps sp := by
  obtain ⟨f, fd, F, m, kp, b⟩ := h
  exact ⟨f, fd, F.mono l, m, kp, b⟩
theorem HasF.imp {k : Nat} {x : Str} {ps : List Str} {sp sp' : Sp} (h : HasF P w K mg base CX k x ps sp) (i : ∀ vs H Q E, sp' vs H Q E → sp vs H Q E) : HasF P w K mg base CX k x ps sp' := by
  obtain ⟨f, fd, F, m, kp, b⟩ := h
  exact ⟨f, fd, F.imp i, m, kp, b⟩
/-- a def that lets nothing out -/
theorem has0 {x : Str} {st : Stmt} {N ps : List Str} {k : Nat} {sp : Sp} (O : OwnF K mg x st) (S : FnScope N ps (defScope st))
    (hb : ∀ (kV doc pm : Value) (an : Option Addr) (cdv ct : Value) (us : List Value), us.length = ps.length → bindArgs (PySem.W.fnOf x x (defArgs st) (defBody st) (defScope st) .none kV doc pm an cdv ct) ⟨us, []⟩ = pure (ps.zip us))
    (len : ∀ vs H Q E, sp vs H Q E → vs.length = ps.length)
    (body : ∀ (f : Addr) (cdv : Value) (A : Around) (outer : List Env) (s : Shared) (H : Hp) (vs : List V) (Q : VK) (E : XK), Room k (A.deeper (PyProof.Rows.envOfC x (defScope st) s.heap.objs.size f cdv)) → sp vs H Q E →
      ∃ t, PSs (cxOf CX0 P w K mg base N x (defScope st) f cdv A outer s H E).nox (defBody st) t ∧ t { nx := fun _ H' => Q .non H', rt := Q } (start N vs) H) :
    HasF P w K mg base CX0 (k + 1) x ps sp := by
  obtain ⟨f, fd, F, m⟩ := O
  exact ⟨f, fd, F.ok S len (fun cdv A outer s H vs Q E hr h => body f cdv A outer s H vs Q E hr h), m, F.kp, F.binds hb⟩
/-- a def that may raise -/
theorem hasX {x : Str} {st : Stmt} {N ps : List Str} {k : Nat} {sp : Sp} (O : OwnF K mg x st) (S : FnScope N ps (defScope st))
    (hb : ∀ (kV doc pm : Value) (an : Option Addr) (cdv ct : Value) (us : List Value), us.length = ps.length → bindArgs (PySem.W.fnOf x x (defArgs st) (defBody st) (defScope st) .none kV doc pm an cdv ct) ⟨us, []⟩ = pure (ps.zip us))
    (len : ∀ vs H Q E, sp vs H Q E → vs.length = ps.length)
    (body : ∀ (f : Addr) (cdv : Value) (A : Around) (outer : List Env) (s : Shared) (H : Hp) (vs : List V) (Q : VK) (E : XK), Room k (A.deeper (PyProof.Rows.envOfC x (defScope st) s.heap.objs.size f cdv)) → sp vs H Q E →
      ∃ t, PSs (cxOf (L2.CX P w) P w K mg base N x (defScope st) f cdv A outer s H E) (defBody st) t ∧ t { nx := fun _ H' => Q .non H', rt := Q } (start N vs) H) :
    HasF P w K mg base (L2.CX P w) (k + 1) x ps sp := by
  obtain ⟨f, fd, F, m⟩ := O
  exact ⟨f, fd, F.okX S len (fun cdv A outer s H vs Q E hr h => body f cdv A outer s H vs Q E hr h), m, F.kp, F.binds hb⟩
end
section
variable {X : Cx} {CX : CXT} {k : Nat} {ps : List Str} {sp : Sp} {E : XK} {x : Str} {p pos : Pos} {e : Expr} {es : List Expr} {t : TA}
theorem pe_callH (h : HasF X.prog X.w X.K X.mg X.base CX k x ps sp) (hr : Room k X.A) (hg : Gl X x) (hx : Passes CX X E) (ha : PA X (e :: es) t)
    (hdb : (x == ("__debug__" : Str)) = false := by decide) (he : starEach (e :: es) X.env = (false, eval e X.env) :: starEach es X.env := by rfl) (hpl : (backTo pos (starEach es X.env)).any (·.1) = false := by rfl) :
    PE X (.Call (.Name x p) (e :: es) [] pos) (tCall sp [] E t) := by
  obtain ⟨f, fd, F, m, kp, b⟩ := h
  exact pe_call F hr hg m kp b .nil hx ha hdb he hpl
/-- within a try, or where a raise leaves -/
theorem pe_callHS {E : St → XK} (h : HasF X.prog X.w X.K X.mg X.base CX k x ps sp) (hr : Room k X.A) (hg : Gl X x) (hx : ∀ σ, PassesAt CX X σ (E σ)) (ha : PA X (e :: es) t)
    (hdb : (x == ("__debug__" : Str)) = false := by decide) (he : starEach (e :: es) X.env = (false, eval e X.env) :: starEach es X.env := by rfl) (hpl : (backTo pos (starEach es X.env)).any (·.1) = false := by rfl) :
    PE X (.Call (.Name x p) (e :: es) [] pos) (tCallS sp E t) := by
  obtain ⟨f, fd, F, m, kp, b⟩ := h
  exact pe_callS F hr hg m kp b hx ha hdb he hpl
theorem rd_callS {σ : St} {H : Hp} {Q : VK} {E : St → XK} (h : t σ H fun vs H1 => sp vs H1 Q (E σ)) : tCallS sp E t σ H Q := h
/-- the module's ints and texts -/
theorem pe_globI {i : Int} (h : ∃ t, X.mg x = some (.int i t)) (hg : Gl X x) (hd : (x == ("__debug__" : Str)) = false := by decide) : PE X (.Name x pos) (tC (.int i)) := by
  obtain ⟨t, h⟩ := h
  exact pe_glob hg h ⟨t, rfl⟩ hd
theorem pe_globS {z : Str} (h : ∃ t, X.mg x = some (.str z t)) (hg : Gl X x) (hd : (x == ("__debug__" : Str)) = false := by decide) : PE X (.Name x pos) (tC (.str z)) := by
  obtain ⟨t, h⟩ := h
  exact pe_glob hg h ⟨t, rfl⟩ hd
theorem pe_globR {a : Addr} (h : X.mg x = some (.ref a)) (hg : Gl X x) (hd : (x == ("__debug__" : Str)) = false := by decide) : PE X (.Name x pos) (tC (.ref a)) := pe_glob hg h rfl hd
end

/-! ## operators of any kind of operands -/
section
variable {X : Cx}
def rAddU (K : PySem.W.Frag) : R2 := fun x y H Q => (∃ i j, x = .int i ∧ y = .int j ∧ Q (.int (i + j)) H) ∨ (∃ i j, x = .str i ∧ y = .str j ∧ i.length + j.length ≤ sizeLine ∧ Q (.str (i ++ j)) H) ∨ rCat x y H Q ∨ rCatA K x y H Q
theorem addU : OpR X (binaryOp .Add) (rAddU X.K) := op_add.or (op_add_str.or (op_cat.or op_catA))
def rMulU (K : PySem.W.Frag) : R2 := fun x y H Q => (∃ i j, x = .int i ∧ y = .int j ∧ CMul i j ∧ Q (.int (i * j)) H) ∨ rRep x y H Q ∨ rRepT K x y H Q
theorem mulU : OpR X (binaryOp .Mult) (rMulU X.K) := op_mul.or (op_rep.or op_repT)
def rSubU : R2 := fun x y H Q => ∃ i j, x = .int i ∧ y = .int j ∧ Q (.int (i - j)) H
theorem subU : OpR X (binaryOp .Sub) rSubU := op_sub
def rModU : R2 := fun x y H Q => ∃ i j, x = .int i ∧ y = .int j ∧ 0 < j ∧ Q (.int (i % j)) H
theorem modU : OpR X (binaryOp .Mod) rModU := op_mod
def rDivU : R2 := fun x y H Q => ∃ i j, x = .int i ∧ y = .int j ∧ CDiv i j ∧ Q (.int (i / j)) H
theorem divU : OpR X (binaryOp .FloorDiv) rDivU := op_fdiv
def rPowU : R2 := fun x y H Q => ∃ i j, x = .int i ∧ y = .int j ∧ CPow i j ∧ Q (.int (i ^ j.toNat)) H
theorem powU : OpR X (binaryOp .Pow) rPowU := op_pow
def rLtU : R2 := fun x y H Q => ∃ i j, x = .int i ∧ y = .int j ∧ Q (.bl (decide (i < j))) H
theorem ltU : OpR X (compareOp .Lt) rLtU := op_lt
def rLeU : R2 := fun x y H Q => ∃ i j, x = .int i ∧ y = .int j ∧ Q (.bl (decide (i ≤ j))) H
theorem leU : OpR X (compareOp .LtE) rLeU := op_le
def rGtU : R2 := fun x y H Q => ∃ i j, x = .int i ∧ y = .int j ∧ Q (.bl (decide (j < i))) H
theorem gtU : OpR X (compareOp .Gt) rGtU := op_gt
def rGeU : R2 := fun x y H Q => ∃ i j, x = .int i ∧ y = .int j ∧ Q (.bl (decide (j ≤ i))) H
theorem geU : OpR X (compareOp .GtE) rGeU := op_ge
def rEqU (K : PySem.W.Frag) : R2 := fun x y H Q => (scal x y = true ∧ Q (.bl (decide (x = y))) H) ∨ rEqD K x y H Q
theorem eqU (hu : X.A.units + 64 < cLine) : OpR X (compareOp .Eq) (rEqU X.K) := op_eq.or (op_eqD hu)
def rNeU (K : PySem.W.Frag) : R2 := fun x y H Q => (scal x y = true ∧ Q (.bl (!decide (x = y))) H) ∨ rNeD K x y H Q
theorem neU (hu : X.A.units + 64 < cLine) : OpR X (compareOp .NotEq) (rNeU X.K) := op_ne.or (op_neD hu)
def rInU (K : PySem.W.Frag) : R2 := fun x y H Q => rIn K false x y H Q ∨ rInS x y H Q
theorem op_inS' : OpR X (compareOp .In) rInS := op_in_sign
theorem op_notInS' : OpR X (compareOp .NotIn) rNotInS := op_notIn_sign
theorem inU : OpR X (compareOp .In) (rInU X.K) := op_in_seq.or op_inS'
def rNotInU (K : PySem.W.Frag) : R2 := fun x y H Q => rIn K true x y H Q ∨ rNotInS x y H Q
theorem notInU : OpR X (compareOp .NotIn) (rNotInU X.K) := op_notIn_seq.or op_notInS'
def rSlU (K : PySem.W.Frag) : V → Option Int → Option Int → Hp → VK → Prop := fun x lo hi H Q => rSlL K x lo hi H Q ∨ rSlA K x lo hi H Q
theorem slU : SlR X (rSlU X.K) := sl_list.or sl_tupA
def rLenU (K : PySem.W.Frag) : List V → Hp → VK → Prop := fun xs H Q => (∃ p ys, xs = [.ref p] ∧ (SqL K H p ys ∨ SqT K H p ys) ∧ Q (.int ys.length) H) ∨ (∃ z : Str, xs = [.str z] ∧ z.length ≤ sizeLine ∧ Q (.int z.length) H)
theorem lenU : CallR X (.builtin "len") (rLenU X.K) := call_len_seq.or call_len_str
def rIntU : List V → Hp → VK → Prop := fun xs H Q => (∃ i, xs = [.int i] ∧ Q (.int i) H) ∨ ∃ k, xs = [.bl k] ∧ Q (.int (if k then 1 else 0)) H
theorem intU : CallR X (.type "int") rIntU := call_int1
def rMax2 : List V → Hp → VK → Prop := fun xs H Q => ∃ i j, xs = [.int i, .int j] ∧ Q (.int (if j > i then j else i)) H
theorem max2U (hc : X.calm = true) : CallR X (.builtin "max") rMax2 := call_max2 hc
def rMin2 : List V → Hp → VK → Prop := fun xs H Q => ∃ i j, xs = [.int i, .int j] ∧ Q (.int (if j < i then j else i)) H
theorem min2U (hc : X.calm = true) : CallR X (.builtin "min") rMin2 := call_min2 hc
def rTupU (K : PySem.W.Frag) : List V → Hp → VK → Prop := fun xs H Q => ∃ p ys, xs = [.ref p] ∧ ((SqL K H p ys ∧ ∀ l, H l = none → Q (.ref l) (upd H l (.tup ys))) ∨ (SqT K H p ys ∧ Q (.ref p) H))
theorem tupU : CallR X (.type "tuple") (rTupU X.K) := call_tuple_of
end
section
variable {K : PySem.W.Frag} {H : Hp} {Q : VK} {i j : Int} {a b p : Addr} {xs ys : List V} {z z' : Str}
theorem u_add (h : Q (.int (i + j)) H) : rAddU K (.int i) (.int j) H Q := .inl ⟨i, j, rfl, rfl, h⟩
theorem u_addS (l : z.length + z'.length ≤ sizeLine) (h : Q (.str (z ++ z')) H) : rAddU K (.str z) (.str z') H Q := .inr (.inl ⟨z, z', rfl, rfl, l, h⟩)
theorem u_addL (ha : H a = some (.lst xs)) (hb : H b = some (.lst ys)) (l : xs.length + ys.length ≤ sizeLine) (h : ∀ p, H p = none → Q (.ref p) (upd H p (.lst (xs ++ ys)))) : rAddU K (.ref a) (.ref b) H Q :=
  .inr (.inr (.inl ⟨a, b, xs, ys, rfl, rfl, ha, hb, l, h⟩))
theorem u_mul (c : CMul i j) (h : Q (.int (i * j)) H) : rMulU K (.int i) (.int j) H Q := .inl ⟨i, j, rfl, rfl, c, h⟩
theorem u_sub (h : Q (.int (i - j)) H) : rSubU (.int i) (.int j) H Q := ⟨i, j, rfl, rfl, h⟩
theorem u_mod (c : 0 < j) (h : Q (.int (i % j)) H) : rModU (.int i) (.int j) H Q := ⟨i, j, rfl, rfl, c, h⟩
theorem u_div (c : 0 < j ∧ j < 1073741824) (h : Q (.int (i / j)) H) : rDivU (.int i) (.int j) H Q := ⟨i, j, rfl, rfl, c, h⟩
theorem u_pow (c : CPow i j) (h : Q (.int (i ^ j.toNat)) H) : rPowU (.int i) (.int j) H Q := ⟨i, j, rfl, rfl, c, h⟩
theorem u_lt (h : Q (.bl (decide (i < j))) H) : rLtU (.int i) (.int j) H Q := ⟨i, j, rfl, rfl, h⟩
theorem u_le (h : Q (.bl (decide (i ≤ j))) H) : rLeU (.int i) (.int j) H Q := ⟨i, j, rfl, rfl, h⟩
theorem u_gt (h : Q (.bl (decide (j < i))) H) : rGtU (.int i) (.int j) H Q := ⟨i, j, rfl, rfl, h⟩
theorem u_ge (h : Q (.bl (decide (j ≤ i))) H) : rGeU (.int i) (.int j) H Q := ⟨i, j, rfl, rfl, h⟩
theorem u_eqI (h : Q (.bl (decide (i = j))) H) : rEqU K (.int i) (.int j) H Q := .inl ⟨rfl, by
  have e : decide (V.int i = V.int j) = decide (i = j) := by
    by_cases c : i = j
    · rw [decide_eq_true c, decide_eq_true (congrArg V.int c)]
    · rw [decide_eq_false c, decide_eq_false (fun q => c (V.int.inj q))]
  rw [e]; exact h⟩
theorem u_eqS (h : Q (.bl (decide (z = z'))) H) : rEqU K (.str z) (.str z') H Q := .inl ⟨rfl, by
  have e : decide (V.str z = V.str z') = decide (z = z') := by
    by_cases c : z = z'
    · rw [decide_eq_true c, decide_eq_true (congrArg V.str c)]
    · rw [decide_eq_false c, decide_eq_false (fun q => c (V.str.inj q))]
  rw [e]; exact h⟩
theorem u_neI (h : Q (.bl (!decide (i = j))) H) : rNeU K (.int i) (.int j) H Q := .inl ⟨rfl, by
  have e : decide (V.int i = V.int j) = decide (i = j) := by
    by_cases c : i = j
    · rw [decide_eq_true c, decide_eq_true (congrArg V.int c)]
    · rw [decide_eq_false c, decide_eq_false (fun q => c (V.int.inj q))]
  rw [e]; exact h⟩
theorem u_neB {x y : Bool} (h : Q (.bl (!decide (x = y))) H) : rNeU K (.bl x) (.bl y) H Q := .inl ⟨rfl, by
  have e : decide (V.bl x = V.bl y) = decide (x = y) := by cases x <;> cases y <;> rfl
  rw [e]; exact h⟩
theorem u_ixL {v : V} (s : SqL K H p xs) (e : atI xs i = some v) (h : Q v H) : rIx K (.ref p) (.int i) H Q := .inl ⟨p, xs, i, v, rfl, rfl, s, e, h⟩
theorem u_ixT {v : V} (s : SqT K H p xs) (e : atI xs i = some v) (h : Q v H) : rIx K (.ref p) (.int i) H Q := .inr (.inl ⟨p, xs, i, v, rfl, rfl, s, e, h⟩)
theorem u_ixS {c : Nat} (l : z.length ≤ sizeLine) (e : atI z.cps.toList i = some c) (h : Q (.str ⟨#[c]⟩) H) : rIx K (.str z) (.int i) H Q := .inr (.inr ⟨z, i, c, rfl, rfl, l, e, h⟩)
theorem u_lenL (s : SqL K H p xs) (h : Q (.int xs.length) H) : rLenU K [.ref p] H Q := .inl ⟨p, xs, rfl, .inl s, h⟩
theorem u_lenT (s : SqT K H p xs) (h : Q (.int xs.length) H) : rLenU K [.ref p] H Q := .inl ⟨p, xs, rfl, .inr s, h⟩
theorem u_lenS (l : z.length ≤ sizeLine) (h : Q (.int z.length) H) : rLenU K [.str z] H Q := .inr ⟨z, rfl, l, h⟩
theorem u_int (h : Q (.int i) H) : rIntU [.int i] H Q := .inl ⟨i, rfl, h⟩
theorem u_intB {c : Bool} (h : Q (.int (if c then 1 else 0)) H) : rIntU [.bl c] H Q := .inr ⟨c, rfl, h⟩
theorem u_max (h : Q (.int (if j > i then j else i)) H) : rMax2 [.int i, .int j] H Q := ⟨i, j, rfl, h⟩
theorem u_min (h : Q (.int (if j < i then j else i)) H) : rMin2 [.int i, .int j] H Q := ⟨i, j, rfl, h⟩
theorem u_tupL (s : SqL K H p xs) (h : ∀ l, H l = none → Q (.ref l) (upd H l (.tup xs))) : rTupU K [.ref p] H Q := ⟨p, xs, rfl, .inl ⟨s, h⟩⟩
theorem u_setL {v : V} {n : Nat} {R : Hp → Prop} (h : H p = some (.lst xs)) (e : ixN xs.length i = some n) (q : R (upd H p (.lst (xs.set n v)))) : rSetL (.ref p) (.int i) v H R := ⟨p, xs, i, n, rfl, rfl, h, e, q⟩
theorem u_neg (h : Q (.int (-i)) H) : rU (fun i => .int (-i)) (.int i) H Q := ⟨i, rfl, h⟩
theorem rd_gsub {σ : St} {to ti : TE} {t : TSet} {v : V} {R : St → Hp → Prop} (h : to σ H fun o H1 => ti σ H1 fun i H2 => t o i v H2 fun H3 => R σ H3) : gSub to ti t v σ H R := h
end
end Mine

/-! ### Kit3 -/
namespace HT
open PySem PySem.Spec PyProof.Rows
theorem adjust_rev (n : Nat) : Builtin.Slice.sliceAdjust none none (-1) (n : Int) = ((n : Int) - 1, -1) := by
  unfold Builtin.Slice.sliceAdjust
  simp
theorem places_rev (n : Nat) : Builtin.Slice.slicePlaces ((n : Int) - 1) (-1) (-1) = n := by
  unfold Builtin.Slice.slicePlaces
  have h1 : ¬ ((-1 : Int) > 0) := by omega
  simp only [h1, if_false]
  by_cases h : (n : Int) - 1 > -1
  · rw [if_pos h]
    have e : (-(-1 : Int)) = 1 := by omega
    rw [e, Int.ediv_one]
    omega
  · rw [if_neg h]; omega
theorem pick_rev (xs : Array Value) : ((List.range xs.size).filterMap fun (m : Nat) => xs[((xs.size : Int) - 1 + (m : Int) * (-1)).toNat]?).toArray = xs.toList.reverse.toArray := by
  congr 1
  have e : ∀ l : List Nat, (∀ m ∈ l, m < xs.size) → l.filterMap (fun (m : Nat) => xs[((xs.size : Int) - 1 + (m : Int) * (-1)).toNat]?) = l.map (fun m => xs.getD (xs.size - 1 - m) .none) := by
    intro l
    induction l with
    | nil => intro _; rfl
    | cons m r ih =>
      intro h
      have hm' : m < xs.size := h m List.mem_cons_self
      have e1 : ((xs.size : Int) - 1 + (m : Int) * (-1)).toNat = xs.size - 1 - m := by omega
      have h2 : xs.size - 1 - m < xs.size := by omega
      have e2 : xs[((xs.size : Int) - 1 + (m : Int) * (-1)).toNat]? = some (xs.getD (xs.size - 1 - m) .none) := by
        rw [e1]
        simp [Array.getD, h2]
      rw [List.filterMap_cons, e2, List.map_cons, ih fun q hq => h q (List.mem_cons_of_mem _ hq)]
  rw [e _ fun m hm => List.mem_range.mp hm]
  apply List.ext_getElem?
  intro i
  rw [List.getElem?_map]
  by_cases hi : i < xs.size
  · rw [List.getElem?_range hi]
    rw [List.getElem?_reverse (by simpa using hi)]
    have h2 : xs.size - 1 - i < xs.size := by omega
    simp [Array.getD, h2]
  · have h1 : (List.range xs.size)[i]? = none := by simp; omega
    have h2 : xs.toList.reverse[i]? = none := by simp; omega
    rw [h1, h2]; rfl
theorem extend_tupW (l : Addr) (items : Array Value) (n : Nat) (b : Addr) (items2 : Array Value) (n2 : Nat) (dd : Option Addr) (sl : Array (Option Value)) (hs0 : ¬(!items.isEmpty && Builtin.List.listTooLong (items.size + items2.size)) = true) (hs1 : items.size ≤ sizeLine) (hs2 : items.size + items2.size ≤ sizeLine + 1) :
    Meets (Builtin.«list.extend» ⟨[.ref l, .ref b], []⟩) (fun _ R s => s.heap.get? l = some { cls := .type "list", dict := none, data := .seq items n, slots := #[] } ∧ s.heap.get? b = some { cls := .type "tuple", dict := dd, data := .seq items2 n2, slots := sl } ∧ R (.ok (.ret Value.none)) { s with heap := s.heap.update l (Obj.mapSeq fun x => x ++ items2), toks := s.toks }) :=
  .of_wp fun prog w A R s h => by
    obtain ⟨hp, g, d, tk, os⟩ := s; obtain ⟨hl, hb, h⟩ := h; have f1 := AutoSeq1.idx_int; have f2 := AutoSeq1.sub_tuple_tuple; have f3 := AutoSeq1.sub_list_list; have f4 := AutoSeq1.sub_tuple_list; have f5 := AutoSeq1.sub_list_tuple;
    have hz' : (items ++ items2).size ≤ sizeLine + 1 := by rw [Array.size_append]; exact hs2
    wp_walk using (wpAny_updateSeq hl rfl (hz := hs1) (_hz' := hz')), AutoSeq1.wpAny_loadPart' hl, AutoSeq1.wpAny_loadPart' hb; exact ⟨_, rfl, h⟩
variable {prog : Program} {w : World} {A : Around} {E : Value → Shared → Prop} {s : Shared}
theorem sliceApplied_rev {sl : Addr} {vl vu vs : Value} {n : Nat} {Q : Int × Int × Nat → Shared → Prop} (hs : s.heap.IsSliceOf sl vl vu vs) (pl : IsPart vl none) (pu : IsPart vu none) (ps : IsPart vs (some (-1)))
    (h : Q ((n : Int) - 1, -1, n) s) : wpAny (model prog w) A (Builtin.Slice.sliceApplied (.ref sl) (pure (n : Int))) Q E s := by
  obtain ⟨os, hos, hcs, hds⟩ := id hs
  unfold Builtin.Slice.sliceApplied Builtin.Slice.sliceFields
  refine wpAny_bind (wpAny_bind (wpAny_field hos hds (x := vl) rfl (wpAny_bind (wpAny_field hos hds (x := vu) rfl (wpAny_bind (wpAny_field hos hds (x := vs) rfl (wpAny_pure ?_)))))))
  refine wpAny_bind (slicePart_ ps ?_)
  show wpAny _ _ (if ((-1 : Int) == 0) = true then _ else _) _ _ s
  rw [if_neg (by decide)]
  refine wpAny_bind (slicePart_ pl (wpAny_bind (slicePart_ pu (wpAny_bind (wpAny_pure ?_)))))
  show wpAny _ _ (match Builtin.Slice.sliceAdjust none none (-1) (n : Int) with | (lo, hi) => pure (lo, (-1 : Int), Builtin.Slice.slicePlaces lo hi (-1))) _ _ s
  rw [adjust_rev n]
  show wpAny _ _ (pure ((n : Int) - 1, (-1 : Int), Builtin.Slice.slicePlaces ((n : Int) - 1) (-1) (-1))) _ _ s
  rw [places_rev]
  exact wpAny_pure h
theorem getItem_tuple_rev {t sl : Addr} {items : Array Value} {vl vu vs : Value} {Q : Value → Shared → Prop} (ht : IsTup s.heap t items) (hs : s.heap.IsSliceOf sl vl vu vs) (pl : IsPart vl none) (pu : IsPart vu none) (ps : IsPart vs (some (-1)))
    (h : Q (.ref s.heap.objs.size) { s with heap := s.heap.push { cls := .type "tuple", data := .seq items.toList.reverse.toArray } })
    (hsz : items.size ≤ sizeLine) : wpAny (model prog w) A (getItem (.ref t) (.ref sl)) Q E s := by
  have htake : sizeOk (.seq items.toList.reverse.toArray) := by
    show items.toList.reverse.toArray.size ≤ sizeLine
    rw [List.size_toArray, List.length_reverse, Array.length_toList]
    omega
  obtain ⟨os, hos, hcs, hds⟩ := id hs
  have hTs : s.TypeIs (.ref sl) "slice" := ⟨os, hos, hcs⟩
  unfold getItem
  try with_reducible refine wpAny_holding ?_
  first | refine wpAny_bind (wpAny_pure ?_) | skip
  refine wpAny_bind (wpAny_sequenceKey ht.typeIs (by decide) ?_)
  refine wpAny_bind (wpAny_callSpecial?_slot (name := Str.ofString "__getitem__") ht.typeIs PyProof.Rows.slot_tuple_getitem
    (wpAny_call_entry PyProof.Rows.slot_tuple_getitem ht.typeIs entry_tuple_getitem ?_ (args_tuple_getitem _ _)))
  show wpAny _ _ (Builtin.Tuple.tupleItemsOf (.ref t) >>= _) _ _ s
  refine wpAny_bind (tupleItemsOf_ ht ?_)
  refine wpAny_bind (wpAny_typeOf hTs ?_)
  rw [if_pos (by decide)]
  refine wpAny_bind (sliceApplied_rev (n := items.size) hs pl pu ps ?_)
  have hno : ¬ ((((items.size : Int) - 1) == 0 && (-1 : Int) == 1 && items.size == items.size) = true) := by
    intro q
    rw [Bool.and_eq_true, Bool.and_eq_true] at q
    exact absurd (eq_of_beq q.1.2) (by decide)
  show wpAny _ _ (if (((items.size : Int) - 1) == 0 && (-1 : Int) == 1 && items.size == items.size) = true then _ else _) _ _ s
  rw [if_neg hno, pick_rev]
  first
    | exact wpAny_bind (m := Builtin.Tuple.tupleExact _) (wpAny_newObj_type (wpAny_pure ⟨_, rfl, wpAny_pure h⟩) htake)
    | exact wpAny_bind (m := Builtin.Tuple.tupleExact _) (wpAny_newObj_type (wpAny_bind (wpAny_pure (wpAny_pure ⟨_, rfl, wpAny_pure h⟩))) htake)
    | exact wpAny_bind (wpAny_bind (m := Builtin.Tuple.tupleExact _) (wpAny_newObj_type (wpAny_pure (wpAny_pure ⟨_, rfl, wpAny_pure h⟩)) htake))
    | exact wpAny_bind (wpAny_bind (m := Builtin.Tuple.tupleExact _) (wpAny_newObj_type (wpAny_pure ⟨_, rfl, wpAny_pure h⟩) htake))
end HT
namespace Mine
open PySem PySem.Spec PyProof.Rows L2
section
variable {X : Cx}
/-- e[::-1], a list or a tuple -/
def tRevU (K : PySem.W.Frag) (te : TE) : TE := fun σ H Q => te σ H fun x H1 => ∃ a xs, x = .ref a ∧ ((SqL K H1 a xs ∧ ∀ p, H1 p = none → Q (.ref p) (upd H1 p (.lst xs.reverse))) ∨ (SqT K H1 a xs ∧ ∀ p, H1 p = none → Q (.ref p) (upd H1 p (.tup xs.reverse))))
theorem pe_revU {e : Expr} {te : TE} {k : Nat} {p1 p2 p3 pos : Pos} (he : PE X e te) : PE X (.Subscript e (.Slice none none (some (.UnaryOp .USub (.Constant (.int 1) k p1) p2)) p3) pos) (tRevU X.K te) := by
  refine ⟨fun pins s σ H Q I h => ?_⟩
  refine Subscript_ (thn (he.run pins s σ H _ I h) fun v s1 ⟨x, H1, I1, r1, q1⟩ => ?_)
  obtain ⟨a, xs, ex, q⟩ := q1
  subst ex
  cases r1
  have hst : PO X (some (.UnaryOp .USub (.Constant (.int 1) k p1) p2)) (tPart (tUn (rU fun i => .int (-i)) (tC (.int 1)))) := po_some (pe_un un_neg pe_int)
  refine wpAny_Slice (thn (po_none.run pins s1 σ H1 (fun o H2 => o = none ∧ H2 = H1) I1 ⟨rfl, rfl⟩) fun vl s2 ⟨l, H2, I2, pl, el, e2⟩ => ?_)
  subst el e2
  refine thn (po_none.run pins s2 σ H2 (fun o H3 => o = none ∧ H3 = H2) I2 ⟨rfl, rfl⟩) fun vu s3 ⟨u, H3, I3, pu, eu, e3⟩ => ?_
  subst eu e3
  refine thn (hst.run pins s3 σ H3 (fun o H4 => o = some (-1) ∧ H4 = H3) I3 ⟨1, rfl, -1, rfl, rfl, rfl⟩) fun vs s4 ⟨o, H4, I4, ps, eo, e4⟩ => ?_
  subst eo e4
  have I5 : Inv X pins σ H4 { s4 with heap := s4.heap.push { cls := .type "slice", data := .fields #[vl, vu, vs] } } := I4.kept (t' := s4.toks) fun b ob q => Heap.get?_push_of_some _ q
  show wpAny (model X.prog X.w) X.A (subscriptTail e (.Slice none none (some (.UnaryOp .USub (.Constant (.int 1) k p1) p2)) p3) (.ref a) (.ref s4.heap.objs.size)) (EP X pins σ Q) X.xe { s4 with heap := s4.heap.push { cls := .type "slice", data := .fields #[vl, vu, vs] } }
  rcases q with ⟨hx, q⟩ | ⟨hx, q⟩
  · obtain ⟨its, r, ht, hz⟩ := I5.list hx
    have hlen := r.length
    refine tail_any (ops := [.ref a, .ref s4.heap.objs.size]) ht.isList.typeIs (PySem.slot_list_getitem.lookup) ?_ (by with_unfolding_all rfl)
    refine wpAny_getItem_list_slice ht.isList (Heap.IsSliceOf.new _ vl vu vs) pl pu ps (by decide) ?_ (by rw [List.size_toArray]; omega)
    rw [PySem.W.krv_pick]
    refine ⟨.ref _, _, I5.laid (t' := s4.toks) (o := .lst xs.reverse) (fun b ob q => Heap.get?_push_of_some _ q) (Nat.le_refl _) ?_, rfl, q _ (I5.hok.fresh (Nat.le_refl _))⟩
    exact ⟨by rw [List.length_reverse]; exact hz, _, 0, r.reverse, Heap.get?_push_size _ rfl⟩
  · obtain ⟨its, r, ht, hz⟩ := I5.tuple hx
    have hlen := r.length
    refine tail_any (ops := [.ref a, .ref s4.heap.objs.size]) ht.typeIs (PyProof.Rows.slot_tuple_getitem.lookup) ?_ (by with_unfolding_all rfl)
    refine HT.getItem_tuple_rev ht (Heap.IsSliceOf.new _ vl vu vs) pl pu ps ?_ (by rw [List.size_toArray]; omega)
    refine ⟨.ref _, _, I5.laid (t' := s4.toks) (o := .tup xs.reverse) (fun b ob q => Heap.get?_push_of_some _ q) (Nat.le_refl _) ?_, rfl, q _ (I5.hok.fresh (Nat.le_refl _))⟩
    refine ⟨by rw [List.length_reverse]; exact hz, its.reverse, r.reverse, _, Heap.get?_push_size _ rfl, rfl, 0, rfl⟩
/-- xs.extend(e), e a list or a tuple -/
def rExtT (K : PySem.W.Frag) : V → List V → Hp → VK → Prop := fun x vs H Q => ∃ l b xs zs, x = .ref l ∧ vs = [.ref b] ∧ H l = some (.lst xs) ∧ SqT K H b zs ∧ xs.length + zs.length ≤ sizeLine ∧ Q .non (upd H l (.lst (xs ++ zs)))
theorem mt_extT : MtM X "list.extend" (rExtT X.K) := by
  intro pins s σ H x vs v us Q I rx rv h
  obtain ⟨l, b, xs, zs, rfl, rfl, hH, hB, hz, q⟩ := h
  cases rx
  obtain ⟨u, rfl, ru⟩ := rv.one
  cases ru
  obtain ⟨z, its, n, r, hl, e⟩ := I.lstM hH
  obtain ⟨its2, r2, ⟨⟨cls, dd, data, sl⟩, ho, hc, n2, hd⟩, hs⟩ := I.tuple hB
  simp only at hc hd
  subst hc hd
  have hl2 := r2.length
  have hsz : its.toArray.size + its2.toArray.size ≤ sizeLine := by rw [List.size_toArray, List.size_toArray]; omega
  have hlong : ¬ (!its.toArray.isEmpty && Builtin.List.listTooLong (its.toArray.size + its2.toArray.size)) = true := by
    rw [notLongL hsz, Bool.and_false]
    exact Bool.false_ne_true
  refine call_meets F.slot_list_extend ⟨_, e, rfl⟩ F.entry_list_extend (F.args_list_extend_2 _ _)
    (HT.extend_tupW l its.toArray n b its2.toArray n2 dd sl hlong (by rw [List.size_toArray]; omega) (by omega)) ⟨e, ho, ?_⟩
  refine ⟨.non, _, I.lset (its' := its ++ its2) hH e (by simp) (r.append r2) ?_, rfl, q⟩
  rw [List.length_append]
  omega
def rExtU (K : PySem.W.Frag) : V → List V → Hp → VK → Prop := fun x vs H Q => rExtend x vs H Q ∨ rExtT K x vs H Q
theorem mt_extU : MtR X "list.extend" (rExtU X.K) := MtR.or mt_extend mt_extT
end
end Mine

/-! ### Kit4 -/
namespace Mine
open PySem PySem.Spec L2
section
variable {X : Cx} (K : PySem.W.Frag)
theorem kAdd (h : X.K = K := by rfl) : OpR X (binaryOp .Add) (rAddU K) := by subst h; exact addU
theorem kMul (h : X.K = K := by rfl) : OpR X (binaryOp .Mult) (rMulU K) := by subst h; exact mulU
theorem kEq (hu : X.A.units + 64 < cLine) (h : X.K = K := by rfl) : OpR X (compareOp .Eq) (rEqU K) := by subst h; exact eqU hu
theorem kNe (hu : X.A.units + 64 < cLine) (h : X.K = K := by rfl) : OpR X (compareOp .NotEq) (rNeU K) := by subst h; exact neU hu
theorem kIn (h : X.K = K := by rfl) : OpR X (compareOp .In) (rInU K) := by subst h; exact inU
theorem kNotIn (h : X.K = K := by rfl) : OpR X (compareOp .NotIn) (rNotInU K) := by subst h; exact notInU
theorem kSl (h : X.K = K := by rfl) : SlR X (rSlU K) := by subst h; exact slU
theorem kLen (h : X.K = K := by rfl) : CallR X (.builtin "len") (rLenU K) := by subst h; exact lenU
theorem kTup (h : X.K = K := by rfl) : CallR X (.type "tuple") (rTupU K) := by subst h; exact tupU
theorem kIx (h : X.K = K := by rfl) : IxR X (rIx K) := by subst h; exact ix_seq
theorem kIsi (h : X.K = K := by rfl) : CallR X (.builtin "isinstance") (rIsi K) := by subst h; exact call_isi
theorem kExt (h : X.K = K := by rfl) : MtR X "list.extend" (rExtU K) := by subst h; exact mt_extU
theorem kSum (hc : X.calm = true) (h : X.K = K := by rfl) : CallR X (.builtin "sum") (rSum K) := by subst h; exact cr_sum hc
def rListU (K : PySem.W.Frag) : List V → Hp → VK → Prop := fun xs H Q => ∃ p ys, xs = [.ref p] ∧ (SqL K H p ys ∨ SqT K H p ys) ∧ ∀ l, H l = none → Q (.ref l) (upd H l (.lst ys))
theorem kList (h : X.K = K := by rfl) : CallR X (.type "list") (rListU K) := by subst h; exact call_list_of
variable {e o : Expr} {es : List Expr} {te to : TE} {ta t : TA} {tg : Expr}
theorem pe_revK {k : Nat} {p1 p2 p3 pos : Pos} (he : PE X e te) (h : X.K = K := by rfl) : PE X (.Subscript e (.Slice none none (some (.UnaryOp .USub (.Constant (.int 1) k p1) p2)) p3) pos) (tRevU K te) := by subst h; exact pe_revU he
theorem pi_listK (he : PE X e te) (h : X.K = K := by rfl) : PI X tg e (iList K te) := by subst h; exact pi_list he
theorem pi_tupK (he : PE X e te) (h : X.K = K := by rfl) : PI X tg e (iTup K te) := by subst h; exact pi_tup he
theorem pi_enumK {p pos tpos : Pos} {elts : List Expr} {kk : Nat} (hg : Gl X "enumerate") (hm : X.mg "enumerate" = none) (ha : PA X [e] ta) (h : X.K = K := by rfl) (hs : starEach [e] X.env = [(false, eval e X.env)] := by rfl) :
    PI X (.Tuple elts kk tpos) (.Call (.Name "enumerate" p) [e] [] pos) (iEnum K ta) := by subst h; exact pi_enum hg hm ha hs
theorem pi_zipK {e2 : Expr} {p pos tpos : Pos} {elts : List Expr} {kk : Nat} (hg : Gl X "zip") (hm : X.mg "zip" = none) (ha : PA X [e, e2] ta) (h : X.K = K := by rfl)
    (hs : starEach [e, e2] X.env = (false, eval e X.env) :: starEach [e2] X.env := by rfl) (hpl : (backTo pos (starEach [e2] X.env)).any (·.1) = false := by rfl) :
    PI X (.Tuple elts kk tpos) (.Call (.Name "zip" p) [e, e2] [] pos) (RZ.iZipA K ta) := by subst h; exact RZ.pi_zipA hg hm ha hs hpl
theorem pi_revK {p pos : Pos} (hg : Gl X "reversed") (hm : X.mg "reversed" = none) (he : PE X e te) (h : X.K = K := by rfl) (hs : starEach [e] X.env = (false, eval e X.env) :: starEach [] X.env := by rfl) : PI X tg (.Call (.Name "reversed" p) [e] [] pos) (RT.iRevA K te) := by
  subst h; exact RT.pi_revA hg hm he hs
theorem pg_tupK {es : List Expr} {k : Nat} {t : TGs} {n : Nat} {pos : Pos} (hc : X.calm = true) (hp : PGs X es t) (h : X.K = K := by rfl)
    (hn : (assignEach es X.env).length = n := by rfl) (hst : (assignEach es X.env).findIdx? (·.1) = none := by rfl) : PG X (.Tuple es k pos) (gTup K n t) := by subst h; exact pg_tup hc hp hn hst
/-- a test by truth -/
def tTruU (K : PySem.W.Frag) (ta : TE) : TT := fun σ H Q => ta σ H fun x H' => ∃ k, TruV K x H' k ∧ Q k H'
theorem pt_truthK (ha : PE X e te) (he : ∀ whole, isTrue e X.env whole = (do let v ← whole; standAt e.pos; holding [v] (truthy v))) (h : X.K = K := by rfl) : PT X e (tTruU K te) := by subst h; exact pt_truth ha he
variable {name : Str} {apos cpos : Pos} {T id : String} {r : V → List V → Hp → VK → Prop}
theorem pe_bm0K (pa : PlainAttrs T) (slot : Slot T name id) (hty : typeOf (.builtin id) = pure (.type "method_descriptor")) (hm : MtR X id r) (ho : PE X o to) (h : X.K = K := by rfl)
    (hbase : attributeBase o name X.env (eval o X.env) = eval o X.env := by rfl) (hline : (apos.endLine == cpos.line) = true := by rfl) : PE X (.Call (.Attribute o name apos) [] [] cpos) (tBM0 K T r to) := by
  subst h; exact pe_bm0 pa slot hty hm ho hbase hline
theorem pe_bmK (pa : PlainAttrs T) (slot : Slot T name id) (hty : typeOf (.builtin id) = pure (.type "method_descriptor")) (hm : MtR X id r) (ho : PE X o to) (ha : PA X (e :: es) t) (h : X.K = K := by rfl)
    (hbase : attributeBase o name X.env (eval o X.env) = eval o X.env := by rfl)
    (hfew : ((backTo cpos (starEach (e :: es) X.env)).all (fun x => !x.1) && (backToKw cpos (keywordEach [] X.env)).all (fun x => x.1.isSome)
      && decide ((e :: es).length + ([] : List Keyword).length + (if ([] : List Keyword).isEmpty then 0 else 1) < 30)) = true := by rfl)
    (hline : (apos.endLine == cpos.line) = true := by rfl) (hs : starEach (e :: es) X.env = (false, eval e X.env) :: starEach es X.env := by rfl) (hplain : (backTo cpos (starEach es X.env)).any (·.1) = false := by rfl) :
    PE X (.Call (.Attribute o name apos) (e :: es) [] cpos) (tBM K T r to t) := by subst h; exact pe_bm pa slot hty hm ho ha hbase hfew hline hs hplain
end
section
variable {X : Cx}
def rMin3 : List V → Hp → VK → Prop := fun xs H Q => ∃ a b c, xs = [.int a, .int b, .int c] ∧ Q (.int (if b < a then (if c < b then c else b) else (if c < a then c else a))) H
theorem min3U (hc : X.calm = true) : CallR X (.builtin "min") rMin3 := by
  intro pins s σ H xs us Q I r h
  obtain ⟨a, b, c, rfl, q⟩ := h
  cases r with
  | cons r1 r =>
    cases r with
    | cons r2 r =>
      cases r with
      | cons r3 r =>
        cases r
        obtain ⟨t1, rfl⟩ := r1
        obtain ⟨t2, rfl⟩ := r2
        obtain ⟨t3, rfl⟩ := r3
        refine min_three_ints (I.ok.hd hc) fun h' tk k => ⟨_, H, I.kept k, ?_, q⟩
        by_cases h1 : b < a
        · simp only [if_pos h1]
          by_cases h2 : c < b
          · simp only [if_pos h2]; exact ⟨_, rfl⟩
          · simp only [if_neg h2]; exact ⟨_, rfl⟩
        · simp only [if_neg h1]
          by_cases h2 : c < a
          · simp only [if_pos h2]; exact ⟨_, rfl⟩
          · simp only [if_neg h2]; exact ⟨_, rfl⟩
theorem u_min3 {H : Hp} {Q : VK} {a b c : Int} (h : Q (.int (if b < a then (if c < b then c else b) else (if c < a then c else a))) H) : rMin3 [.int a, .int b, .int c] H Q := ⟨a, b, c, rfl, h⟩
/-- a < b < c < d -/
def tChain3 (r r' r'' : R2) (ta tb tc td : TE) : TE := fun σ H Q => ta σ H fun x H1 => tb σ H1 fun y H2 => r x y H2 fun z H3 => ∃ k, z = .bl k ∧
  (if k = true then tc σ H3 fun w H4 => r' y w H4 fun z2 H5 => ∃ k2, z2 = .bl k2 ∧ (if k2 = true then td σ H5 fun v H6 => r'' w v H6 Q else Q (.bl false) H5) else Q (.bl false) H3)
theorem pe_chain3 {a b c d : Expr} {pos : Pos} {ta tb tc td : TE} {op op' op'' : CmpOp} {r r' r'' : R2} (ho : OpR X (compareOp op) r) (ho' : OpR X (compareOp op') r') (ho'' : OpR X (compareOp op'') r'') (ha : PE X a ta) (hb : PE X b tb) (hc : PE X c tc) (hd : PE X d td)
    (hm : lastMarks [op, op', op''] [b, c, d] = false := by with_unfolding_all rfl) : PE X (.Compare a [op, op', op''] [b, c, d] pos) (tChain3 r r' r'' ta tb tc td) := by
  refine ⟨fun pins s σ H Q I h => ?_⟩
  refine PyProof.Rows.Compare_chain (thn (ha.run pins s σ H _ I h) fun v s1 ⟨x, H1, I1, r1, q1⟩ => PyProof.Rows.chain_link (thn (hb.run pins s1 σ H1 _ I1 q1) fun u s2 ⟨y, H2, I2, r2, q2⟩ =>
    thn (ho pins s2 σ H2 x y v u _ I2 r1 r2 q2) fun d s3 ⟨z, H3, I3, r3, k, e, q3⟩ => ?_)) hm
  subst e
  cases r3
  refine wpAny_truthy_bool ?_
  cases k with
  | false => exact PyProof.Rows.ite_ff ⟨.bl false, H3, I3, rfl, q3⟩
  | true =>
    refine PyProof.Rows.ite_tt (PyProof.Rows.chain_link (thn (hc.run pins s3 σ H3 _ I3 q3) fun w' s4 ⟨z', H4, I4, r4, q4⟩ => thn (ho' pins s4 σ H4 y z' u w' _ I4 r2 r4 q4) fun d2 s5 ⟨z5, H5, I5, r5, k5, e5, q5⟩ => ?_))
    subst e5
    cases r5
    refine wpAny_truthy_bool ?_
    cases k5 with
    | false => exact PyProof.Rows.ite_ff ⟨.bl false, H5, I5, rfl, q5⟩
    | true => exact PyProof.Rows.ite_tt (PyProof.Rows.chain_last (thn (hd.run pins s5 σ H5 _ I5 q5) fun w2 s6 ⟨z6, H6, I6, r6, q6⟩ => ho'' pins s6 σ H6 z' z6 w' w2 Q I6 r4 r6 q6))
end
section
variable {σ : St} {H : Hp} {Q : VK} {D : Ends} {ta tb tc td te : TE} {K : PySem.W.Frag}
theorem rd_chain3 {r r' r'' : R2} (h : ta σ H fun x H1 => tb σ H1 fun y H2 => r x y H2 fun z H3 => ∃ k, z = .bl k ∧
  (if k = true then tc σ H3 fun w H4 => r' y w H4 fun z2 H5 => ∃ k2, z2 = .bl k2 ∧ (if k2 = true then td σ H5 fun v H6 => r'' w v H6 Q else Q (.bl false) H5) else Q (.bl false) H3)) : tChain3 r r' r'' ta tb tc td σ H Q := h
theorem rd_tru {R : Bool → Hp → Prop} (h : te σ H fun x H' => ∃ k, TruV K x H' k ∧ R k H') : tTruU K te σ H R := h
theorem rd_truL {a : Addr} {xs : List V} {R : Bool → Prop} (s : SqL K H a xs) (h : R (!xs.isEmpty)) : ∃ k, TruV K (.ref a) H k ∧ R k := ⟨_, .inl ⟨xs, s, rfl⟩, h⟩
theorem rd_truB {b : Bool} {R : Bool → Prop} (h : R b) : ∃ k, TruV K (.bl b) H k ∧ R k := ⟨b, rfl, h⟩
theorem rd_rev (h : te σ H fun x H1 => ∃ a xs, x = .ref a ∧ ((SqL K H1 a xs ∧ ∀ p, H1 p = none → Q (.ref p) (upd H1 p (.lst xs.reverse))) ∨ (SqT K H1 a xs ∧ ∀ p, H1 p = none → Q (.ref p) (upd H1 p (.tup xs.reverse))))) : tRevU K te σ H Q := h
theorem rd_revT {a : Addr} {xs : List V} {R1 R2 : Addr → List V → Prop} (s : SqT K H a xs) (h : R2 a xs) : ∃ a' xs', V.ref a = .ref a' ∧ ((SqL K H a' xs' ∧ R1 a' xs') ∨ (SqT K H a' xs' ∧ R2 a' xs')) := ⟨a, xs, rfl, .inr ⟨s, h⟩⟩
theorem rd_revL {a : Addr} {xs : List V} {R1 R2 : Addr → List V → Prop} (s : SqL K H a xs) (h : R1 a xs) : ∃ a' xs', V.ref a = .ref a' ∧ ((SqL K H a' xs' ∧ R1 a' xs') ∨ (SqT K H a' xs' ∧ R2 a' xs')) := ⟨a, xs, rfl, .inl ⟨s, h⟩⟩
theorem rd_bm {T : String} {r : V → List V → Hp → VK → Prop} {t : TA} (h : te σ H fun x H1 => tyV K T x H1 ∧ t σ H1 fun xs H2 => r x xs H2 Q) : tBM K T r te t σ H Q := h
theorem rd_bm0 {T : String} {r : V → List V → Hp → VK → Prop} (h : te σ H fun x H1 => tyV K T x H1 ∧ r x [] H1 Q) : tBM0 K T r te σ H Q := h
theorem rd_tyL {a : Addr} {xs : List V} {R : Prop} (s : SqL K H a xs) (h : R) : tyV K "list" (.ref a) H ∧ R := ⟨.inl ⟨rfl, xs, s⟩, h⟩
theorem u_app {a : Addr} {xs : List V} {y : V} (e : H a = some (.lst xs)) (l : xs.length < sizeLine) (h : Q .non (upd H a (.lst (xs ++ [y])))) : rAppend (.ref a) [y] H Q := ⟨a, xs, y, rfl, rfl, e, l, h⟩
theorem u_pop {a : Addr} {xs : List V} {y : V} (e : H a = some (.lst xs)) (l : xs[xs.length - 1]? = some y) (h : Q y (upd H a (.lst xs.dropLast))) : rPop (.ref a) [] H Q := ⟨a, xs, y, rfl, rfl, e, l, h⟩
theorem u_extT {a b : Addr} {xs ys : List V} (e : H a = some (.lst xs)) (s : SqT K H b ys) (l : xs.length + ys.length ≤ sizeLine) (h : Q .non (upd H a (.lst (xs ++ ys)))) : rExtU K (.ref a) [.ref b] H Q := .inr ⟨a, b, xs, ys, rfl, rfl, e, s, l, h⟩
theorem rd_for {wi : TI} {g : TG} {tb : TS} {n bk ct : St → Hp → Prop} {rt : VK} (h : wi σ H fun J H1 => ∃ W : Nat → Nat → St → Hp → Prop, (∃ m, W 0 m σ H1) ∧ ∀ i m σ H, W i m σ H →
  (J.stop i H ∧ n σ H) ∨ (J.go i H ∧ ∃ N : St → Hp → Prop, (∀ σ' H', N σ' H' → ∃ m', m' < m ∧ W (i + 1) m' σ' H') ∧ ∀ x H', J.yld i H x H' → g x σ H' fun σ2 H2 => tb ⟨N, rt, n, N⟩ σ2 H2)) : tFor wi g tb ⟨n, rt, bk, ct⟩ σ H := h
theorem rd_iList {R : It → Hp → Prop} (h : te σ H fun x H1 => ∃ a, x = .ref a ∧ (∃ xs, SqL K H1 a xs) ∧ R (Itl K a) H1) : iList K te σ H R := h
theorem rd_iTup {R : It → Hp → Prop} (h : te σ H fun x H1 => ∃ a, x = .ref a ∧ (∃ xs, SqT K H1 a xs) ∧ R (Itt K a) H1) : iTup K te σ H R := h
theorem rd_itL {a : Addr} {xs : List V} {R : Addr → Prop} (s : SqL K H a xs) (h : R a) : ∃ a', V.ref a = .ref a' ∧ (∃ xs, SqL K H a' xs) ∧ R a' := ⟨a, rfl, ⟨xs, s⟩, h⟩
theorem rd_itT {a : Addr} {xs : List V} {R : Addr → Prop} (s : SqT K H a xs) (h : R a) : ∃ a', V.ref a = .ref a' ∧ (∃ xs, SqT K H a' xs) ∧ R a' := ⟨a, rfl, ⟨xs, s⟩, h⟩
theorem rd_rng1 {t : TA} {R : It → Hp → Prop} (h : t σ H fun vs H1 => ∃ j : Int, vs = [.int j] ∧ -(2 ^ 62) ≤ j ∧ j < 2 ^ 62 ∧ R (Itr 0 j.toNat) H1) : iRng1 t σ H R := h
theorem rd_rng2 {t : TA} {R : It → Hp → Prop} (h : t σ H fun vs H1 => ∃ i j : Int, vs = [.int i, .int j] ∧ (-(2 ^ 62) ≤ i ∧ i < 2 ^ 62 ∧ -(2 ^ 62) ≤ j ∧ j < 2 ^ 62) ∧ R (Itr i (j - i).toNat) H1) : iRng2 t σ H R := h
theorem rd_rng1e {i : Int} {R : Int → Prop} (h1 : -(2 ^ 62) ≤ i) (h2 : i < 2 ^ 62) (h : R i) : ∃ j : Int, [V.int i] = [.int j] ∧ -(2 ^ 62) ≤ j ∧ j < 2 ^ 62 ∧ R j := ⟨i, rfl, h1, h2, h⟩
theorem rd_rng2e {i j : Int} {R : Int → Int → Prop} (h1 : -(2 ^ 62) ≤ i ∧ i < 2 ^ 62 ∧ -(2 ^ 62) ≤ j ∧ j < 2 ^ 62) (h : R i j) : ∃ i' j' : Int, [V.int i, V.int j] = [.int i', .int j'] ∧ (-(2 ^ 62) ≤ i' ∧ i' < 2 ^ 62 ∧ -(2 ^ 62) ≤ j' ∧ j' < 2 ^ 62) ∧ R i' j' := ⟨i, j, rfl, h1, h⟩
theorem rd_gtup {n : Nat} {t : TGs} {a : Addr} {xs : List V} {R : St → Hp → Prop} (s : SqT K H a xs) (l : xs.length = n) (h : t xs σ H R) : gTup K n t (.ref a) σ H R := ⟨a, xs, rfl, s, l, h⟩
theorem rd_gcons {t : TG} {u : TGs} {v : V} {r : List V} {R : St → Hp → Prop} (h : t v σ H fun σ' H' => u r σ' H' R) : gCons t u (v :: r) σ H R := ⟨v, r, rfl, h⟩
theorem rd_gnil {R : St → Hp → Prop} (h : R σ H) : gNil [] σ H R := ⟨rfl, h⟩
theorem st0 {N : List Str} {vs : List V} {t : TS} (σ : St) (e : L2.start N vs = σ) (h : t D σ H) : t D (L2.start N vs) H := by rw [e]; exact h
end
end Mine
namespace Mine
open PySem PySem.Spec L2
section
variable {g : TG} {tb : TS} {n : St → Hp → Prop} {rt : VK} {σ : St} {H : Hp} {K : PySem.W.Frag} {a : Addr} {xs : List V}
theorem forR {lo : Int} {m : Nat} (Pv : Nat → St → Hp → Prop) (h0 : Pv 0 σ H)
    (hs : ∀ i σ H, i < m → Pv i σ H → g (.int (lo + i)) σ H fun σ2 H2 => tb ⟨Pv (i + 1), rt, n, Pv (i + 1)⟩ σ2 H2) (hd : ∀ σ H, Pv m σ H → n σ H) :
    ∃ W : Nat → Nat → St → Hp → Prop, (∃ m, W 0 m σ H) ∧ ∀ i m' σ H, W i m' σ H →
      ((Itr lo m).stop i H ∧ n σ H) ∨ ((Itr lo m).go i H ∧ ∃ N : St → Hp → Prop, (∀ σ' H', N σ' H' → ∃ m'', m'' < m' ∧ W (i + 1) m'' σ' H') ∧ ∀ x H', (Itr lo m).yld i H x H' → g x σ H' fun σ2 H2 => tb ⟨N, rt, n, N⟩ σ2 H2) :=
  for_range (D := ⟨n, rt, fun _ _ => False, fun _ _ => False⟩) Pv h0 hs hd
theorem forL (Pv : Nat → St → Hp → Prop) (h0 : Pv 0 σ H) (hl : ∀ i σ H, i ≤ xs.length → Pv i σ H → SqL K H a xs)
    (hs : ∀ i x σ H, xs[i]? = some x → Pv i σ H → g x σ H fun σ2 H2 => tb ⟨Pv (i + 1), rt, n, Pv (i + 1)⟩ σ2 H2) (hd : ∀ σ H, Pv xs.length σ H → n σ H) :
    ∃ W : Nat → Nat → St → Hp → Prop, (∃ m, W 0 m σ H) ∧ ∀ i m σ H, W i m σ H →
      ((Itl K a).stop i H ∧ n σ H) ∨ ((Itl K a).go i H ∧ ∃ N : St → Hp → Prop, (∀ σ' H', N σ' H' → ∃ m', m' < m ∧ W (i + 1) m' σ' H') ∧ ∀ x H', (Itl K a).yld i H x H' → g x σ H' fun σ2 H2 => tb ⟨N, rt, n, N⟩ σ2 H2) :=
  for_list (D := ⟨n, rt, fun _ _ => False, fun _ _ => False⟩) Pv h0 hl hs hd
theorem forT (Pv : Nat → St → Hp → Prop) (h0 : Pv 0 σ H) (hl : ∀ i σ H, i ≤ xs.length → Pv i σ H → SqT K H a xs)
    (hs : ∀ i x σ H, xs[i]? = some x → Pv i σ H → g x σ H fun σ2 H2 => tb ⟨Pv (i + 1), rt, n, Pv (i + 1)⟩ σ2 H2) (hd : ∀ σ H, Pv xs.length σ H → n σ H) :
    ∃ W : Nat → Nat → St → Hp → Prop, (∃ m, W 0 m σ H) ∧ ∀ i m σ H, W i m σ H →
      ((Itt K a).stop i H ∧ n σ H) ∨ ((Itt K a).go i H ∧ ∃ N : St → Hp → Prop, (∀ σ' H', N σ' H' → ∃ m', m' < m ∧ W (i + 1) m' σ' H') ∧ ∀ x H', (Itt K a).yld i H x H' → g x σ H' fun σ2 H2 => tb ⟨N, rt, n, N⟩ σ2 H2) :=
  for_tup (D := ⟨n, rt, fun _ _ => False, fun _ _ => False⟩) Pv h0 hl hs hd
theorem rd_lc {wi : TI} {tt : TT} {te : TE} {vs : List Nat} {Q : VK} (h : wi σ H fun J H1 => ∀ D, H1 D = none → ∃ W : Nat → Nat → Hp → Prop, (∃ m, W 0 m (upd H1 D (.lst []))) ∧ ∀ i m H, W i m H →
  (J.stop i H ∧ Q (.ref D) H) ∨ (J.go i H ∧ ∃ Nx : Hp → Prop, (∀ H', Nx H' → ∃ m', m' < m ∧ W (i + 1) m' H') ∧ ∀ x H', J.yld i H x H' → g x (wipe σ vs) H' fun σ2 H2 => wipe σ2 vs = wipe σ vs ∧ tt σ2 H2 fun b H3 =>
    if b = true then te σ2 H3 fun y H4 => ∃ acc, H4 D = some (.lst acc) ∧ acc.length < sizeLine ∧ Nx (upd H4 D (.lst (acc ++ [y]))) else Nx H3)) : tLc wi g tt te vs σ H Q := h
theorem rd_yes {R : Bool → Hp → Prop} (h : R true H) : tYes σ H R := h
/-- a while -/
theorem rd_while {c : TT} {bk ct : St → Hp → Prop} (Pv : Nat → St → Hp → Prop) (m0 : Nat) (h0 : Pv m0 σ H)
    (hs : ∀ m σ H, Pv m σ H → c σ H fun b H1 => if b = true then (∃ N : St → Hp → Prop, (∀ σ' H', N σ' H' → ∃ m', m' < m ∧ Pv m' σ' H') ∧ tb ⟨N, rt, n, N⟩ σ H1) else n σ H1) :
    tWhile c tb ⟨n, rt, bk, ct⟩ σ H := ⟨Pv, ⟨m0, h0⟩, hs⟩
end
end Mine

/-! ### Kit5 -/
namespace Mine
open PySem PySem.Spec L2
/-! ## a list or a tuple that is walked -/
section
variable {X : Cx} (K : PySem.W.Frag) {tg e : Expr} {te : TE}
def iSeq (K : PySem.W.Frag) (tl : TE) : TI := fun σ H R => tl σ H fun x H1 => ∃ a, x = .ref a ∧ (((∃ xs, SqL K H1 a xs) ∧ R (Itl K a) H1) ∨ ((∃ xs, SqT K H1 a xs) ∧ R (Itt K a) H1))
theorem pi_seqK (he : PE X e te) (h : X.K = K := by rfl) : PI X tg e (iSeq K te) := by
  subst h
  refine ⟨fun pins s σ H R I h => ?_⟩
  refine thn (he.run pins s σ H _ I h) fun v s1 ⟨x, H1, I1, r1, a, ex, q⟩ => ?_
  subst ex
  cases r1
  have it : ∀ b, b ∈ [s1.heap.objs.size] → FpOk X pins H1 b := fun b hb => by
    obtain rfl : b = s1.heap.objs.size := by simpa using hb
    exact I1.fpOk (Nat.le_refl _) (I1.hok.fresh (Nat.le_refl _))
  rcases q with ⟨⟨xs, hx⟩, q⟩ | ⟨⟨xs, hx⟩, q⟩
  · obtain ⟨its, rv, p, hz⟩ := I1.list hx
    exact wpAny_pyIter_list p.isList ⟨s1.heap.objs.size, [s1.heap.objs.size], _, _, H1, rfl, I1.kept (t' := s1.toks) fun b o e => Heap.get?_push_of_some _ e, turn_list a _, ⟨_, Heap.get?_push_size _ rfl, rfl, rfl⟩, it, q⟩
  · obtain ⟨its, rv, p, hz⟩ := I1.tuple hx
    exact wpAny_pyIter_tuple (show s1.heap.IsTuple a its.toArray from p) ⟨s1.heap.objs.size, [s1.heap.objs.size], _, _, H1, rfl, I1.kept (t' := s1.toks) fun b o e => Heap.get?_push_of_some _ e, turn_tuple a _, ⟨_, Heap.get?_push_size _ rfl, rfl, rfl⟩, it, q⟩
theorem kAll (hc : X.calm = true) (h : X.K = K := by rfl) : CallR X (.builtin "all") (rAll K) := by subst h; exact cr_all hc
theorem kAny (hc : X.calm = true) (h : X.K = K := by rfl) : CallR X (.builtin "any") (rAny K) := by subst h; exact cr_any hc
end
section
variable {K : PySem.W.Frag} {σ : St} {H : Hp} {Q : VK} {te : TE} {a : Addr} {xs : List V}
theorem rd_iSeq {R : It → Hp → Prop} (h : te σ H fun x H1 => ∃ a, x = .ref a ∧ (((∃ xs, SqL K H1 a xs) ∧ R (Itl K a) H1) ∨ ((∃ xs, SqT K H1 a xs) ∧ R (Itt K a) H1))) : iSeq K te σ H R := h
theorem rd_seqL {R1 R2 : Addr → Prop} (s : SqL K H a xs) (h : R1 a) : ∃ a', V.ref a = .ref a' ∧ (((∃ xs, SqL K H a' xs) ∧ R1 a') ∨ ((∃ xs, SqT K H a' xs) ∧ R2 a')) := ⟨a, rfl, .inl ⟨⟨xs, s⟩, h⟩⟩
theorem rd_seqT {R1 R2 : Addr → Prop} (s : SqT K H a xs) (h : R2 a) : ∃ a', V.ref a = .ref a' ∧ (((∃ xs, SqL K H a' xs) ∧ R1 a') ∨ ((∃ xs, SqT K H a' xs) ∧ R2 a')) := ⟨a, rfl, .inr ⟨⟨xs, s⟩, h⟩⟩
theorem rd_istr {R : It → Hp → Prop} (h : te σ H fun v H1 => ∃ x, v = .str x ∧ R (Its x) H1) : iStr te σ H R := h
theorem rd_istrE {z : Str} {R : Str → Prop} (h : R z) : ∃ x, V.str z = .str x ∧ R x := ⟨z, rfl, h⟩
theorem u_all {bs : List Bool} (s : SqL K H a (bs.map V.bl)) (h : Q (.bl (bs.all id)) H) : rAll K [.ref a] H Q := ⟨a, bs, rfl, s, h⟩
end
/-- a text walked in a comprehension -/
theorem lcS {x : Str} {g : TG} {tt : TT} {te : TE} {vs : List Nat} {σ : St} {H1 : Hp} {D : Addr} {Qd : Hp → Prop} (Pv : Nat → Hp → Prop) (h0 : Pv 0 (upd H1 D (.lst [])))
    (hs : ∀ i c H, x.cps[i]? = some c → Pv i H → g (.str ⟨#[c]⟩) (wipe σ vs) H fun σ2 H2 => wipe σ2 vs = wipe σ vs ∧ tt σ2 H2 fun b H3 =>
      if b = true then te σ2 H3 fun y H4 => ∃ acc, H4 D = some (.lst acc) ∧ acc.length < sizeLine ∧ Pv (i + 1) (upd H4 D (.lst (acc ++ [y]))) else Pv (i + 1) H3) (hd : ∀ H, Pv x.cps.size H → Qd H) :
    ∃ W : Nat → Nat → Hp → Prop, (∃ m, W 0 m (upd H1 D (.lst []))) ∧ ∀ i m H, W i m H →
      ((Its x).stop i H ∧ Qd H) ∨ ((Its x).go i H ∧ ∃ Nx : Hp → Prop, (∀ H', Nx H' → ∃ m', m' < m ∧ W (i + 1) m' H') ∧ ∀ v H', (Its x).yld i H v H' → g v (wipe σ vs) H' fun σ2 H2 => wipe σ2 vs = wipe σ vs ∧ tt σ2 H2 fun b H3 =>
        if b = true then te σ2 H3 fun y H4 => ∃ acc, H4 D = some (.lst acc) ∧ acc.length < sizeLine ∧ Nx (upd H4 D (.lst (acc ++ [y]))) else Nx H3) := by
  refine ⟨fun i m H => m = x.cps.size - i ∧ i ≤ x.cps.size ∧ Pv i H, ⟨x.cps.size, by simp, Nat.zero_le _, h0⟩, ?_⟩
  rintro i m H ⟨rfl, hi, p⟩
  by_cases hlt : i < x.cps.size
  · refine .inr ⟨hlt, Pv (i + 1), fun H' p' => ⟨x.cps.size - (i + 1), by omega, rfl, hlt, p'⟩, fun v H' y => ?_⟩
    obtain ⟨e, c, hc, ev⟩ := y
    subst e ev
    exact hs i c _ hc p
  · obtain rfl : i = x.cps.size := by omega
    exact .inl ⟨Nat.le_refl _, hd H p⟩
/-! ## isinstance of data -/
def isT (n : String) : PyData → Bool
  | .none => n == "NoneType"
  | .bool _ => n == "bool" || n == "int"
  | .int _ => n == "int"
  | .str _ => n == "str"
  | .tuple _ => n == "tuple"
  | _ => false
theorem tyx_tup {K : PySem.W.Frag} {H : Hp} {a : Addr} {xs : List V} (h : SqT K H a xs) : TyX K H (.ref a) (.type "tuple") := by
  rcases h with (h | ⟨o, h⟩) | ⟨o, its, n, e, c, _⟩
  · exact .base (.tup h)
  · exact .fTuple h
  · exact .kTuple e c
theorem u_isi {K : PySem.W.Frag} {H : Hp} {Q : VK} {v : V} {d : PyData} {n : String} (hn : n = "int" ∨ n = "str" ∨ n = "tuple" ∨ n = "bool") (r : Rp K H v d) (h : Q (.bl (isT n d)) H) : rIsi K [v, .ty n] H Q := by
  cases r with
  | non => rcases hn with rfl | rfl | rfl | rfl <;> exact ⟨_, _, _, _, _, rfl, .ty _, .base .non, kit_ty (by simp only [isT]; decide +kernel), h⟩
  | bl b => rcases hn with rfl | rfl | rfl | rfl <;> exact ⟨_, _, _, _, _, rfl, .ty _, .base (.bl b), kit_ty (by simp only [isT]; decide +kernel), h⟩
  | int i => rcases hn with rfl | rfl | rfl | rfl <;> exact ⟨_, _, _, _, _, rfl, .ty _, .base (.int i), kit_ty (by simp only [isT]; decide +kernel), h⟩
  | str z => rcases hn with rfl | rfl | rfl | rfl <;> exact ⟨_, _, _, _, _, rfl, .ty _, .base (.str z), kit_ty (by simp only [isT]; decide +kernel), h⟩
  | tup s _ => rcases hn with rfl | rfl | rfl | rfl <;> exact ⟨_, _, _, _, _, rfl, .ty _, tyx_tup s, kit_ty (by simp only [isT]; decide +kernel), h⟩
end Mine

/-! ### Kit6 -/
namespace L2
open PySem PySem.Spec PyProof.Rows
/-! ## several except clauses, with names or without -/
abbrev Cl := Value × Option Nat × (Addr → Value → Option Addr → TS)
def endsAt (D : Ends) : Option Nat → Ends
  | none => D
  | some i => { nx := fun σ' H' => D.nx (σ'.set i none) H', rt := D.rt, bk := fun σ' H' => D.bk (σ'.set i none) H', ct := fun σ' H' => D.ct (σ'.set i none) H' }
def stAt (σ : St) (a : Addr) : Option Nat → St
  | none => σ
  | some i => σ.set i (some (.ref a))
def wMix (K : PySem.W.Frag) (Wout : WX) (D : Ends) : List Cl → WX
  | [] => Wout
  | (c, o, ts) :: r => fun cls d σ H => ∃ b, PySem.W.exmOne K cls c = some b ∧ (b = true → ∀ a, H a = none → ts a cls d (endsAt D o) (stAt σ a o) H) ∧ (b = false → wMix K Wout D r cls d σ H)
inductive Hds (X : Cx) : List ExceptHandler → List Cl → Prop
  | nil : Hds X [] []
  | plain {x : Str} {c : Value} {ts : Addr → Value → Option Addr → TS} {b₀ : Stmt} {suite : List Stmt} {np pos' : Pos} {hds : List ExceptHandler} {l : List Cl} (hc : Names X x c)
      (hsu : ∀ (a : Addr) (oe : Obj) (cls : Value) (d : Option Addr) (pn : List (Addr × Obj)), Zc cls d oe → (∃ vs, oe.data = .fields vs) → PSs (X.suite a ((a, oe) :: pn)) (b₀ :: suite) (ts a cls d)) (r : Hds X hds l) :
      Hds X (.ExceptHandler (some (.Name x np)) none (b₀ :: suite) pos' :: hds) ((c, none, ts) :: l)
  | named {x n : Str} {i : Nat} {c : Value} {ts : Addr → Value → Option Addr → TS} {b₀ : Stmt} {suite : List Stmt} {np pos' : Pos} {hds : List ExceptHandler} {l : List Cl} (hc : Names X x c) (hN : X.N.Nodup) (hi : X.N[i]? = some n) (hln : X.env.kindOf n = some .local)
      (hsu : ∀ (a : Addr) (oe : Obj) (cls : Value) (d : Option Addr) (pn : List (Addr × Obj)), Zc cls d oe → (∃ vs, oe.data = .fields vs) → PSs (X.suite a ((a, oe) :: pn)) (b₀ :: suite) (ts a cls d)) (r : Hds X hds l) :
      Hds X (.ExceptHandler (some (.Name x np)) (some n) (b₀ :: suite) pos' :: hds) ((c, some i, ts) :: l)
section
variable {X : Cx} {body : List Stmt} {h₀ : ExceptHandler} {hds : List ExceptHandler} {l : List Cl} {pos : Pos} {tb : WX → TS} {Wout : WX}
theorem ps_try_mix (hs : X.stack = X.env :: X.outer) (hf : X.env.frame = some X.env.locals) (tk : Takes X Wout)
    (hb : ∀ (W : WX) (pn : List (Addr × Obj)) (xe : Value → Shared → Prop), Takes (X.tr pn xe) W → PassesOwn (model X.prog X.w) X.A X.env xe → PSs (X.tr pn xe) body (tb W))
    (K : PySem.W.Frag) (hK : X.K = K) (hh : Hds X (h₀ :: hds) l) : PS X (.Try body (h₀ :: hds) [] [] pos) (fun D σ H => tb (wMix K Wout D l) D σ H) := by
  subst hK
  refine ⟨fun pins s σ H D I h => ?_⟩
  have ok := I.ok
  have hfr : X.A.frames = some (X.env :: X.outer) := by rw [ok.frames, hs]
  refine wpAny_Try_except ?_
  refine wpAny_mono ((hb (wMix X.K Wout D l) (X.pn ++ pins) (fun e s₁ => wpAny (model X.prog X.w) X.A (noteFrame e X.env) (fun _ s₂ => wpAny (model X.prog X.w) X.A (setFlight e none) (fun _ s₃ =>
    wpAny (model X.prog X.w) X.A (handleBy e X.env (h₀ :: hds)) (SP X pins D) X.xe s₃) X.xe s₂) X.xe s₁) (fun u s' xx => ?_) PassesOwn.looking).run [] s σ H D (I.toTry _) h) (fun f s1 hsp => ?_) (fun e s1 he => he)
  · obtain ⟨a, B, sI, pins', σ', H', cls, d, rfl, J', nb, up, sky, na, os, ag, w⟩ := xx
    have J : Inv X pins σ' H' sI := J'.ofTry ok
    have sky' : Sky B (X.env :: X.outer) a (Zc cls d) X.env.locals s'.heap := by rw [← hs]; exact sky
    show wpAny (model X.prog X.w) X.A (noteFrame (.ref a) X.env) _ _ _
    refine Sky.land Zc.steady hfr hf sky' fun h3 fl3 up3 => ?_
    have J3 : Inv X pins σ' H' { s' with heap := h3 } := J.landed nb fl3.1 (up.trans up3) os ag
    obtain ⟨oe3, vs3, he3, hz3, hd3⟩ := fl3.there
    have notFr : ∀ {h : Heap} {o : Obj} {vs : Array Value}, h.FunFrames B (X.env :: X.outer) → h.get? a = some o → o.data = .fields vs → a ∉ frs (X.env :: X.outer) := fun {h o vs} ff e dd hm => by
      obtain ⟨_, o', e', hnf⟩ := ff.mem hm
      rw [e] at e'; cases e'
      exact hnf _ dd
    have nfr := notFr fl3.2.2.1 he3 hd3
    have nL : a ≠ X.env.locals := fun z => nfr (List.mem_filterMap.mpr ⟨X.env, List.mem_cons_self, by rw [hf, z]⟩)
    have nF : a ∉ X.fs := fun hm => by
      obtain ⟨e, he, q⟩ := List.mem_filterMap.mp hm
      exact nfr (List.mem_filterMap.mpr ⟨e, List.mem_cons_of_mem _ he, q⟩)
    have S3 := J3.suite he3 hd3 na nL nF
    have LT : PySem.W.Looks (model X.prog X.w) h3 (typeOf (.ref a)) cls := fun A Q E s k q => wpAny_typeOf_ref (k _ _ he3) (by rw [hz3.1]; exact q)
    have test : ∀ {x : Str} {c : Value} {np : Pos}, Names X x c → ∀ {Q : Value → Shared → Prop} {E : Value → Shared → Prop}, Q c { s' with heap := h3 } → wpAny (model X.prog X.w) (X.A.mark (some (.ref a))) (eval (.Name x np) X.env) Q E { s' with heap := h3 } := fun {x c np} hc {Q E} q => by
      obtain ⟨hg, hdbg, hm | ⟨hm, hv, hnn⟩⟩ := hc
      · exact ld_glob (X := X.suite a ((a, oe3) :: (X.pn ++ pins))) S3 hg hm q hdbg
      · exact ld_blt (X := X.suite a ((a, oe3) :: (X.pn ++ pins))) S3 hg hm hv q hnn hdbg
    have go : ∀ {hds' : List ExceptHandler} {l' : List Cl}, Hds X hds' l' → wMix X.K Wout D l' cls d σ' H' →
        wpAny (model X.prog X.w) X.A (handleBy (.ref a) X.env hds') (SP X pins D) X.xe { s' with heap := h3 } := by
      intro hds' l' hk
      induction hk with
      | nil =>
        intro w
        refine wpAny_handleBy_nil ?_
        obtain ⟨k1, k2, k3, oe, vs, T, oT, ts', he, hz, hd, h1, hr⟩ := id fl3
        unfold PySem.passOn
        refine wpAny_bind (wpAny_field he hd h1 ?_)
        rw [if_neg (show ¬ ((Value.ref T == Value.none) = true) from by simp)]
        have fin : wpAny (model X.prog X.w) X.A (setFlight (.ref a) X.env.frame) (fun _ s4 => wpAny (model X.prog X.w) X.A (throw (.ref a) : Sem Flow) (SP X pins D) X.xe s4) X.xe { s' with heap := h3 } := by
          rw [hf]
          refine HandSPX.setFlight_upZ fl3 fun h4 hh4 up4 => wpAny_throw (tk _ _ ?_)
          exact ⟨a, B, sI, pins, σ', H', cls, d, rfl, J, nb, (up.trans up3).trans up4, .inr (.inr (by rw [hs]; exact hh4)), na, os, ag, w⟩
        first
          | exact wpAny_bind (wpAny_pure (wpAny_bind fin))
          | exact wpAny_bind fin
      | @plain x c ts b₀ suite np pos' hds2 l2 hc hsu r ih =>
        intro w
        obtain ⟨b, hb1, hyes, hno⟩ := w
        have LM := PySem.W.exm_one (M := model X.prog X.w) (J3.kIn) LT hb1
        refine wpAny_handleBy_cons (codeAny_handlers_test ?_) (by intro q; cases q)
        refine test hc (LM.here ?_)
        cases b with
        | true =>
          refine codeAny_handlers_suite ?_
          refine HandSPX.lands_againZ fl3 fun h4 fl4 up4 => ?_
          have J4 : Inv X pins σ' H' { s' with heap := h4 } := J.landed nb fl4.1 ((up.trans up3).trans up4) os ag
          obtain ⟨oe4, vs4, he4, hz4, hd4⟩ := fl4.there
          have S4 := J4.suite he4 hd4 na nL nF
          refine wpAny_mono ((hsu a oe4 cls d (X.pn ++ pins) hz4 ⟨_, hd4⟩).run [] _ _ H' _ S4 (hyes rfl a na)) (fun f s6 hsp => ?_) (fun _ _ z => False.elim z)
          cases f with
          | next =>
            obtain ⟨σ6, H6, S6, q6⟩ := hsp
            exact ⟨_, _, S6.unsuite ok, q6⟩
          | brk =>
            obtain ⟨σ6, H6, S6, q6⟩ := hsp
            exact ⟨_, _, S6.unsuite ok, q6⟩
          | cont =>
            obtain ⟨σ6, H6, S6, q6⟩ := hsp
            exact ⟨_, _, S6.unsuite ok, q6⟩
          | ret u =>
            obtain ⟨v6, σ6, H6, S6, r6, q6⟩ := hsp
            exact ⟨_, _, _, S6.unsuite ok, r6, q6⟩
        | false =>
          show wpAny _ X.A (handleBy (.ref a) X.env hds2) _ _ _
          exact ih (hno rfl)
      | @named x n i c ts b₀ suite np pos' hds2 l2 hc hN hi hln hsu r ih =>
        intro w
        obtain ⟨b, hb1, hyes, hno⟩ := w
        have LM := PySem.W.exm_one (M := model X.prog X.w) (J3.kIn) LT hb1
        have hloc : Loc X.env.scope n := .inl hln
        refine wpAny_handleBy_cons (codeAny_handlers_test ?_) (by intro q; cases q)
        refine test hc (LM.here ?_)
        cases b with
        | true =>
          refine codeAny_handlers_suite_as ?_
          refine HandSPX.lands_againZ fl3 fun h4 fl4 up4 => ?_
          have J4 : Inv X pins σ' H' { s' with heap := h4 } := J.landed nb fl4.1 ((up.trans up3).trans up4) os ag
          obtain ⟨oe4, vs4, he4, hz4, hd4⟩ := fl4.there
          have S4 := J4.suite he4 hd4 na nL nF
          refine store_ok (X := X.suite a ((a, oe4) :: (X.pn ++ pins))) (v := .ref a) S4 hN hi hloc rfl (fun s5 S5 => ?_) (.inr hln)
          refine wpAny_mono ((hsu a oe4 cls d (X.pn ++ pins) hz4 ⟨_, hd4⟩).run [] s5 _ H' _ S5 (hyes rfl a na)) (fun f s6 hsp => ?_) (fun _ _ z => False.elim z)
          have end_ : ∀ {σ6 : St} {H6 : Hp} {Q : Shared → Prop}, Inv (X.suite a ((a, oe4) :: (X.pn ++ pins))) [] σ6 H6 s6 → (∀ s7, Inv X pins (σ6.set i none) H6 s7 → Q s7) →
              wpAny (model X.prog X.w) X.A (do bindName X.env n .none; unbindBehindTheSuite X.env n pos') (fun _ s7 => Q s7) X.xe s6 := fun {σ6 H6 Q} S6 hq => gone_ok (S6.unsuite ok) hN hi hln hq
          cases f with
          | next =>
            obtain ⟨σ6, H6, S6, q6⟩ := hsp
            exact end_ S6 fun s7 J7 => ⟨_, _, J7, q6⟩
          | brk =>
            obtain ⟨σ6, H6, S6, q6⟩ := hsp
            exact end_ S6 fun s7 J7 => ⟨_, _, J7, q6⟩
          | cont =>
            obtain ⟨σ6, H6, S6, q6⟩ := hsp
            exact end_ S6 fun s7 J7 => ⟨_, _, J7, q6⟩
          | ret u =>
            obtain ⟨v6, σ6, H6, S6, r6, q6⟩ := hsp
            exact end_ S6 fun s7 J7 => ⟨_, _, _, J7, r6, q6⟩
        | false =>
          show wpAny _ X.A (handleBy (.ref a) X.env hds2) _ _ _
          exact ih (hno rfl)
    exact go hh w
  · cases f with
    | next =>
      obtain ⟨σ', H', J', q⟩ := hsp
      exact wpAny_execs_nil ⟨σ', H', J'.ofTry ok, q⟩
    | brk =>
      obtain ⟨σ', H', J', q⟩ := hsp
      exact ⟨σ', H', J'.ofTry ok, q⟩
    | cont =>
      obtain ⟨σ', H', J', q⟩ := hsp
      exact ⟨σ', H', J'.ofTry ok, q⟩
    | ret u =>
      obtain ⟨v, σ', H', J', r, q⟩ := hsp
      exact ⟨v, σ', H', J'.ofTry ok, r, q⟩
end
end L2

/-! ### Kit7 -/
namespace Mine
open PySem PySem.Spec L2
/-! ## own errors over ValueError, made by the __init__ of their root: self.what = what -/
def spInit (K : PySem.W.Frag) : Sp := fun vs H Q _ => ∃ (a C : Addr) (v : V), vs = [.ref a, v] ∧ OexC K C ∧ PySem.W.findIn K (.ref C) "what" = some none ∧ H a = some (exo a C none) ∧
  ∀ dx, H dx = none → dx ≠ a → Q .non (upd (upd H dx (exd dx [("what", v)])) a (exo a C (some dx)))
/-- what the written part says of the error class of the name x -/
structure ErrC (K : PySem.W.Frag) (mg : Str → Option Value) (fI : Addr) (x : Str) (C : Addr) : Prop where
  g : mg x = some (.ref C)
  c : OexC K C
  n : PySem.W.findIn K (.ref C) "what" = some none
  i : PySem.W.findIn K (.ref C) "__init__" = some (some (.ref fI))
  f : XfC K C
/-- the root's __init__ -/
def InitF (P : Program) (w : World) (K : PySem.W.Frag) (mg : Str → Option Value) (base : Heap) (fI : Addr) : Prop :=
  PySem.W.typeIn K (.ref fI) = some (.type "function") ∧ ∃ fd : FuncData, FnOk P w K mg base CX0 1 fI fd ["self", "what"] (spInit K) ∧ Binds K fd ["self", "what"] []
theorem has_init {P : Program} {w : World} {K : PySem.W.Frag} {mg : Str → Option Value} {base : Heap} {fI : Addr} {fd : FuncData} {st : Stmt} {qual : Str} (F : Fun K "__init__" qual st fI fd) (hS : FnScope ["self", "what"] ["self", "what"] (defScope st))
    (hb : ∀ (kV doc pm : Value) (an : Option Addr) (cdv ct : Value) (us : List Value), us.length = 2 → bindArgs (PySem.W.fnOf "__init__" qual (defArgs st) (defBody st) (defScope st) .none kV doc pm an cdv ct) ⟨us, []⟩ = pure ((["self", "what"] : List Str).zip us))
    (ht : PySem.W.typeIn K (.ref fI) = some (.type "function"))
    (body : ∀ (cdv : Value) (A : Around) (outer : List Env) (s : Shared) (H : Hp) (E : XK), PSs (cxOf CX0 P w K mg base ["self", "what"] qual (defScope st) fI cdv A outer s H E).nox (defBody st) (tOst K "what" (tVar 0) (tVar 1))) :
    InitF P w K mg base fI := by
  refine ⟨ht, fd, ?_, F.binds hb⟩
  refine F.ok (k := 0) hS (fun vs H Q E h => ?_) (fun cdv A outer s H vs Q E hr h => ⟨_, body cdv A outer s H E, ?_⟩)
  · obtain ⟨a, C, v, rfl, _⟩ := h
    rfl
  obtain ⟨a, C, v, rfl, hc, hn, ha, q⟩ := h
  exact ⟨v, rfl, .ref a, rfl, a, C, rfl, hc, hn, .inl ⟨ha, q⟩⟩
section
variable {X : Cx} {W : WX}
/-- what the making of x(v) asks -/
def RaiseAt (K : PySem.W.Frag) (C : Addr) (W : WX) (σ : St) (v : V) (H1 : Hp) : Prop := [v].length ≤ 1000 ∧ ∀ a, H1 a = none → spInit K (.ref a :: ([v] ++ [])) (upd H1 a (exo a C none))
  (fun u H2 => u = .non ∧ ∃ (d : Addr) (fs : List (Str × V)), H2 a = some (exo a C (some d)) ∧ H2 d = some (exd d fs) ∧ H1 d = none ∧ W (.ref C) (some d) σ (upd (del H2 a) d (.xd fs))) (fun _ _ _ => False)
def tRaiseE (K : PySem.W.Frag) (C : Addr) (W : WX) (te : TE) : TS := fun _ σ H => te σ H fun v H1 => RaiseAt K C W σ v H1
theorem ps_raiseE {fI C : Addr} {x : Str} {p pos pos2 : Pos} {e : Expr} {te : TE} (K : PySem.W.Frag) (hI : InitF X.prog X.w X.K X.mg X.base fI) (M : ErrC X.K X.mg fI x C) (hc : X.calm = true) (hr : Room 2 X.A) (tk : Takes X W) (he : PE X e te) (hg : Gl X x) (hK : X.K = K := by rfl)
    (hs : starEach [e] X.env = (false, eval e X.env) :: starEach [] X.env := by rfl) (hpl : (backTo pos (starEach [] X.env)).any (·.1) = false := by rfl) (hdb : (x == ("__debug__" : Str)) = false := by decide) :
    PS X (.Raise (some (.Call (.Name x p) [e] [] pos)) none pos2) (tRaiseE K C W te) := by
  subst hK
  obtain ⟨ht, fd, F, hb⟩ := hI
  exact ps_raise hc tk (pmk_oex (pos := pos) (p := p) (dvs := []) M.c M.i ht F hr hb .nil (fun _ _ _ _ _ _ _ z => z.elim) hg M.g (pa_cons he pa_nil hs) hdb hs hpl) (pos := pos2)
theorem rd_raiseE {K : PySem.W.Frag} {C : Addr} {te : TE} {D : Ends} {σ : St} {H : Hp} (h : te σ H fun v H1 => RaiseAt K C W σ v H1) : tRaiseE K C W te D σ H := h
theorem exd_ne_exo {a d C : Addr} {o : Option Addr} {fs : List (Str × V)} : True := trivial
theorem u_raise {K : PySem.W.Frag} {C : Addr} {σ : St} {v : V} {H : Hp} (c : OexC K C) (n : PySem.W.findIn K (.ref C) "what" = some none) (h : ∀ d, H d = none → W (.ref C) (some d) σ (upd H d (.xd [("what", v)]))) : RaiseAt K C W σ v H := by
  refine ⟨by show 1 ≤ 1000; decide, fun a ha => ⟨a, C, v, rfl, c, n, upd_same, fun dx hdx hne => ⟨rfl, dx, [("what", v)], ?_, ?_, ?_, ?_⟩⟩⟩
  · exact upd_same
  · rw [upd_ne hne, upd_same]
  · rw [upd_ne hne] at hdx; exact hdx
  · have hd : H dx = none := by rw [upd_ne hne] at hdx; exact hdx
    have e : upd (del (upd (upd (upd H a (exo a C none)) dx (exd dx [("what", v)])) a (exo a C (some dx))) a) dx (.xd [("what", v)]) = upd H dx (.xd [("what", v)]) := by
      funext b
      by_cases h1 : b = dx
      · subst h1; rw [upd_same, upd_same]
      · rw [upd_ne h1, upd_ne h1]
        by_cases h2 : b = a
        · subst h2; rw [del_same, ha]
        · rw [del_ne h2, upd_ne h2, upd_ne h1, upd_ne h2]
    rw [e]
    exact h dx hd
end
/-- what leaves a def that may raise -/
theorem tkX {P : Program} {w : World} {K : PySem.W.Frag} {mg : Str → Option Value} {base : Heap} {N : List Str} {qual : Str} {scope : Scope} {f : Addr} {cd : Value} {A : Around} {outer : List Env} {s : Shared} {H : Hp} {E : XK} :
    Takes (cxOf (L2.CX P w) P w K mg base N qual scope f cd A outer s H E) (fun cls d _ H' => E cls d H') := takes_of rfl rfl rfl rfl
theorem poX {P : Program} {w : World} {K : PySem.W.Frag} {mg : Str → Option Value} {base : Heap} {N : List Str} {qual : Str} {scope : Scope} {f : Addr} {cd : Value} {A : Around} {outer : List Env} {s : Shared} {H : Hp} {E : XK} :
    PassesOwn (model P w) (cxOf (L2.CX P w) P w K mg base N qual scope f cd A outer s H E).A (cxOf (L2.CX P w) P w K mg base N qual scope f cd A outer s H E).env (cxOf (L2.CX P w) P w K mg base N qual scope f cd A outer s H E).xe := passes_of (X := cxOf (L2.CX P w) P w K mg base N qual scope f cd A outer s H E) rfl
/-! ## a dict of the module, text keys -/
/-- at x: a dict that tells g of a text -/
structure Tab (w : World) (K : PySem.W.Frag) (mg : Str → Option Value) (x : Str) (a : Addr) (g : Str → Option Value) : Prop where
  m : mg x = some (.ref a)
  d : ∃ es n, KDict K w a es n
  t : ∀ z, PySem.W.nsIn K a z = some (g z)
section
variable {X : Cx}
def rInD (a : Addr) (g : Str → Option Value) : R2 := fun x y H Q => ∃ z, x = .str z ∧ y = .ref a ∧ Q (.bl (g z).isSome) H
def rNotInD (a : Addr) (g : Str → Option Value) : R2 := fun x y H Q => ∃ z, x = .str z ∧ y = .ref a ∧ Q (.bl (!(g z).isSome)) H
theorem op_inD {x : Str} {a : Addr} {g : Str → Option Value} (T : Tab X.w X.K X.mg x a g) : OpR X (compareOp .In) (rInD a g) := by
  obtain ⟨es, n, D⟩ := T.d
  intro pins s σ H u y v v2 Q I rx ry h
  obtain ⟨z, rfl, rfl, q⟩ := h
  exact op_in_kd D pins s σ H _ _ v v2 Q I rx ry ⟨z, _, rfl, rfl, T.t z, q⟩
theorem op_notInD {x : Str} {a : Addr} {g : Str → Option Value} (T : Tab X.w X.K X.mg x a g) : OpR X (compareOp .NotIn) (rNotInD a g) := by
  obtain ⟨es, n, D⟩ := T.d
  intro pins s σ H u y v v2 Q I rx ry h
  obtain ⟨z, rfl, rfl, q⟩ := h
  exact op_notIn_kd D pins s σ H _ _ v v2 Q I rx ry ⟨z, _, rfl, rfl, T.t z, q⟩
def rIxT' (a : Addr) (g : Str → Option Value) : R2 := fun x y H Q => ∃ z u v, x = .ref a ∧ y = .str z ∧ g z = some u ∧ RelV v u ∧ Q v H
theorem ix_tab {x : Str} {a : Addr} {g : Str → Option Value} (T : Tab X.w X.K X.mg x a g) : IxR X (rIxT' a g) := by
  obtain ⟨es, n, D⟩ := T.d
  intro value slice pins s σ H u y v v2 Q I rx ry h hs
  obtain ⟨z, u0, v0, rfl, rfl, e, r, q⟩ := h
  exact ix_kdict value slice pins s σ H _ _ v v2 Q I rx ry ⟨a, z, v0, rfl, rfl, ⟨es, n, u0, D.at_, D.lit, by rw [T.t z, e], r⟩, q⟩ hs
theorem u_inD {a : Addr} {g : Str → Option Value} {z : Str} {H : Hp} {Q : VK} (h : Q (.bl (g z).isSome) H) : rInD a g (.str z) (.ref a) H Q := ⟨z, rfl, rfl, h⟩
theorem u_notInD {a : Addr} {g : Str → Option Value} {z : Str} {H : Hp} {Q : VK} (h : Q (.bl (!(g z).isSome)) H) : rNotInD a g (.str z) (.ref a) H Q := ⟨z, rfl, rfl, h⟩
theorem u_ixTab {a : Addr} {g : Str → Option Value} {z : Str} {u : Value} {v : V} {H : Hp} {Q : VK} (e : g z = some u) (r : RelV v u) (h : Q v H) : rIxT' a g (.ref a) (.str z) H Q := ⟨z, u, v, rfl, rfl, e, r, h⟩
/-- the call of a def that a local name holds -/
def tCallV (P : Program) (w : World) (K : PySem.W.Frag) (mg : Str → Option Value) (base : Heap) (k : Nat) (i : Nat) (t : TA) : TE := fun σ H Q => ∃ f sp, σ[i]? = some (some (.ref f)) ∧ Held P w K mg base k f sp ∧ t σ H fun vs H1 => sp vs H1 Q E0
theorem pe_callV {P : Program} {w : World} {K : PySem.W.Frag} {mg : Str → Option Value} {base : Heap} {k i : Nat} {x : Str} {p pos : Pos} {e : Expr} {es : List Expr} {t : TA} (h1 : X.prog = P) (h2 : X.w = w) (h3 : X.K = K) (h4 : X.mg = mg) (h5 : X.base = base) (hr : Room k X.A) (hN : X.N[i]? = some x) (hv : Vis X.env.scope x) (ha : PA X (e :: es) t)
    (hdb : (x == ("__debug__" : Str)) = false := by decide) (hcd : (x == ("__classdict__" : Str)) = false := by decide)
    (he : starEach (e :: es) X.env = (false, eval e X.env) :: starEach es X.env := by rfl) (hpl : (backTo pos (starEach es X.env)).any (·.1) = false := by rfl) : PE X (.Call (.Name x p) (e :: es) [] pos) (tCallV P w K mg base k i t) := by
  subst h1 h2 h3 h4 h5
  refine ⟨fun pins s σ H Q I h => ?_⟩
  obtain ⟨f, sp, hs, hH, ht⟩ := h
  obtain ⟨fd, ps, F, hk, hb⟩ := hH.ex
  refine (pe_callL (i := i) (f := f) (sp := sp) (dvs := []) (E := fun _ _ _ => False) F hr hN hv hk hb .nil (fun _ _ _ _ _ _ _ z => z.elim) ha hdb hcd he hpl).run pins s σ H Q I ⟨hs, ?_⟩
  have e0 : (fun (vs : List V) (H1 : Hp) => sp (vs ++ []) H1 Q (fun _ _ _ => False)) = fun vs H1 => sp vs H1 Q E0 := by
    funext vs H1; rw [List.append_nil]
  show t σ H (fun vs H1 => sp (vs ++ []) H1 Q (fun _ _ _ => False))
  rw [e0]
  exact ht
theorem rd_callV {P : Program} {w : World} {K : PySem.W.Frag} {mg : Str → Option Value} {base : Heap} {k i : Nat} {t : TA} {σ : St} {H : Hp} {Q : VK} {f : Addr} {sp : Sp} (e : σ[i]? = some (some (.ref f))) (hH : Held P w K mg base k f sp) (h : t σ H fun vs H1 => sp vs H1 Q E0) : tCallV P w K mg base k i t σ H Q := ⟨f, sp, e, hH, h⟩
theorem HasF.held {P : Program} {w : World} {K : PySem.W.Frag} {mg : Str → Option Value} {base : Heap} {k : Nat} {x : Str} {ps : List Str} {sp : Sp} (h : HasF P w K mg base CX0 k x ps sp) : ∃ f, mg x = some (.ref f) ∧ Held P w K mg base k f sp := by
  obtain ⟨f, fd, F, m, kp, b⟩ := h
  exact ⟨f, m, ⟨fd, ps, F, kp, b⟩⟩
theorem u_inS {K : PySem.W.Frag} {c : Nat} {z : Str} {H : Hp} {Q : VK} (h : Q (.bl (decide (c ∈ z.cps.toList))) H) : rInU K (.str ⟨#[c]⟩) (.str z) H Q := .inr ⟨c, z, rfl, rfl, h⟩
theorem u_notInS {K : PySem.W.Frag} {c : Nat} {z : Str} {H : Hp} {Q : VK} (h : Q (.bl (!decide (c ∈ z.cps.toList))) H) : rNotInU K (.str ⟨#[c]⟩) (.str z) H Q := .inr ⟨c, z, rfl, rfl, h⟩
end
section
variable {K : PySem.W.Frag} {H : Hp} {xs : List V} {ds : List PyData}
theorem Rps.none (h : Rps K H xs ds) (l : (xs.length : Int) = 0) : xs = [] ∧ ds = [] := by
  cases h with
  | nil => exact ⟨rfl, rfl⟩
  | cons a r => rw [List.length_cons] at l; omega
theorem Rps.only (h : Rps K H xs ds) (l : (xs.length : Int) = 1) : ∃ x d, xs = [x] ∧ ds = [d] ∧ Rp K H x d := by
  cases h with
  | nil => cases l
  | cons a r =>
    cases r with
    | nil => exact ⟨_, _, rfl, rfl, a⟩
    | cons b r => rw [List.length_cons, List.length_cons] at l; omega
theorem Rps.pair (h : Rps K H xs ds) (l : (xs.length : Int) = 2) : ∃ x y d e, xs = [x, y] ∧ ds = [d, e] ∧ Rp K H x d ∧ Rp K H y e := by
  cases h with
  | nil => cases l
  | cons a r =>
    cases r with
    | nil => cases l
    | cons b r =>
      cases r with
      | nil => exact ⟨_, _, _, _, rfl, rfl, a, b⟩
      | cons c r => rw [List.length_cons, List.length_cons, List.length_cons] at l; omega
theorem Rps.three (h : Rps K H xs ds) (l : (xs.length : Int) = 3) : ∃ x y z d e f, xs = [x, y, z] ∧ ds = [d, e, f] ∧ Rp K H x d ∧ Rp K H y e ∧ Rp K H z f := by
  cases h with
  | nil => cases l
  | cons a r =>
    cases r with
    | nil => cases l
    | cons b r =>
      cases r with
      | nil => cases l
      | cons c r =>
        cases r with
        | nil => exact ⟨_, _, _, _, _, _, rfl, rfl, a, b, c⟩
        | cons c2 r => rw [List.length_cons, List.length_cons, List.length_cons, List.length_cons] at l; omega
end
end Mine
namespace Mine
open PySem PySem.Spec L2
section
variable {σ : St} {H : Hp} {Q : VK} {te : TE}
theorem rd_retE {n bk ct : St → Hp → Prop} {rt : VK} {o : Option Nat} (h : te σ H rt) : tRet te (endsAt ⟨n, rt, bk, ct⟩ o) σ H := by cases o <;> exact h
theorem rd_xf {a C : Addr} {cls : Value} {d : Option Addr} {f : Str} (h : te σ H fun x H1 => x = .ref a ∧ cls = .ref C ∧ ∃ (dd : Addr) (fs : List (Str × V)) (v : V), d = some dd ∧ H1 dd = some (.xd fs) ∧ fs.lookup f = some v ∧ Q v H1) : tXf a cls d C f te σ H Q := h
theorem u_xf {a C dd : Addr} {cls : Value} {v : V} {R : V → Prop} (ec : cls = .ref C) (e : H dd = some (.xd [("what", v)])) (h : R v) : V.ref a = .ref a ∧ cls = .ref C ∧ ∃ (dd' : Addr) (fs : List (Str × V)) (v' : V), some dd = some dd' ∧ H dd' = some (.xd fs) ∧ fs.lookup ("what" : Str) = some v' ∧ R v' :=
  ⟨rfl, ec, dd, [("what", v)], v, rfl, e, by simp [List.lookup], h⟩
end
end Mine

/-! ### Kit8 -/
namespace Mine
open PySem PySem.Spec L2
section
variable {X : Cx}
/-! ## == and != of numbers, texts, data of any depth below 200 -/
def rEqG (K : PySem.W.Frag) : R2 := fun x y H Q => (scal x y = true ∧ Q (.bl (decide (x = y))) H) ∨
  ∃ d e, Dp K H x d ∧ Dp K H y e ∧ d.canLay0 = true ∧ e.canLay0 = true ∧ min d.depth e.depth ≤ 199 ∧ Q (.bl (PyData.eqv d e)) H
def rNeG (K : PySem.W.Frag) : R2 := fun x y H Q => (scal x y = true ∧ Q (.bl (!decide (x = y))) H) ∨
  ∃ d e, Dp K H x d ∧ Dp K H y e ∧ d.canLay0 = true ∧ e.canLay0 = true ∧ min d.depth e.depth ≤ 199 ∧ Q (.bl (!PyData.eqv d e)) H
theorem hU {k : Nat} {A : Around} (r : Room k A) : A.units + 200 < cLine := by have := r.un; omega
theorem kEqG (K : PySem.W.Frag) (hu : X.A.units + 200 < cLine) (h : X.K = K := by rfl) : OpR X (compareOp .Eq) (rEqG K) := by
  subst h
  refine op_eq.or ?_
  intro pins s σ H x y v u Q I rx ry h
  obtain ⟨d, e, hd, he, sd, se, dd, q⟩ := h
  obtain ⟨as, r1⟩ := Dp.reads I d x v hd rx
  obtain ⟨bs, r2⟩ := Dp.reads I e y u he ry
  exact SeqAt.compareEq_reads r1 r2 sd se (by omega) ⟨.bl _, H, I, rfl, q⟩
theorem kNeG (K : PySem.W.Frag) (hu : X.A.units + 200 < cLine) (h : X.K = K := by rfl) : OpR X (compareOp .NotEq) (rNeG K) := by
  subst h
  refine op_ne.or ?_
  intro pins s σ H x y v u Q I rx ry h
  obtain ⟨d, e, hd, he, sd, se, dd, q⟩ := h
  obtain ⟨as, r1⟩ := Dp.reads I d x v hd rx
  obtain ⟨bs, r2⟩ := Dp.reads I e y u he ry
  exact SeqAt.compareNe_reads r1 r2 sd se (by omega) ⟨.bl _, H, I, rfl, q⟩
end
section
variable {K : PySem.W.Frag} {H : Hp} {Q : VK} {i j : Int} {z z' : Str} {x y : V} {d e : PyData} {a : Addr} {xs : List V}
theorem dV_int : decide (V.int i = V.int j) = decide (i = j) := by
  by_cases c : i = j
  · rw [decide_eq_true c, decide_eq_true (congrArg V.int c)]
  · rw [decide_eq_false c, decide_eq_false (fun q => c (V.int.inj q))]
theorem dV_str : decide (V.str z = V.str z') = decide (z = z') := by
  by_cases c : z = z'
  · rw [decide_eq_true c, decide_eq_true (congrArg V.str c)]
  · rw [decide_eq_false c, decide_eq_false (fun q => c (V.str.inj q))]
theorem dV_bl {x y : Bool} : decide (V.bl x = V.bl y) = decide (x = y) := by cases x <;> cases y <;> rfl
theorem g_eqI (h : Q (.bl (decide (i = j))) H) : rEqG K (.int i) (.int j) H Q := .inl ⟨rfl, by rw [dV_int]; exact h⟩
theorem g_eqS (h : Q (.bl (decide (z = z'))) H) : rEqG K (.str z) (.str z') H Q := .inl ⟨rfl, by rw [dV_str]; exact h⟩
theorem g_neI (h : Q (.bl (!decide (i = j))) H) : rNeG K (.int i) (.int j) H Q := .inl ⟨rfl, by rw [dV_int]; exact h⟩
theorem g_neS (h : Q (.bl (!decide (z = z'))) H) : rNeG K (.str z) (.str z') H Q := .inl ⟨rfl, by rw [dV_str]; exact h⟩
theorem g_neB {x y : Bool} (h : Q (.bl (!decide (x = y))) H) : rNeG K (.bl x) (.bl y) H Q := .inl ⟨rfl, by rw [dV_bl]; exact h⟩
theorem g_eqD (hx : Dp K H x d) (hy : Dp K H y e) (c1 : d.canLay0 = true) (c2 : e.canLay0 = true) (dd : min d.depth e.depth ≤ 199) (h : Q (.bl (PyData.eqv d e)) H) : rEqG K x y H Q := .inr ⟨d, e, hx, hy, c1, c2, dd, h⟩
theorem g_neD (hx : Dp K H x d) (hy : Dp K H y e) (c1 : d.canLay0 = true) (c2 : e.canLay0 = true) (dd : min d.depth e.depth ≤ 199) (h : Q (.bl (!PyData.eqv d e)) H) : rNeG K x y H Q := .inr ⟨d, e, hx, hy, c1, c2, dd, h⟩
theorem u_inL (s : SqL K H a xs) (fx : flatV x = true) (fxs : xs.all flatV = true) (h : Q (.bl (inV x xs)) H) : rInU K x (.ref a) H Q := .inl ⟨a, xs, rfl, .inl s, fx, fxs, h⟩
theorem u_inT (s : SqT K H a xs) (fx : flatV x = true) (fxs : xs.all flatV = true) (h : Q (.bl (inV x xs)) H) : rInU K x (.ref a) H Q := .inl ⟨a, xs, rfl, .inr s, fx, fxs, h⟩
end
/-! ## data -/
def okS (z : Str) : Prop := z.length ≤ 1000 ∧ PyData.canLay0 (.str z) = true
mutual
def dat : PyData → Prop
  | .none => True
  | .int _ => True
  | .str z => okS z
  | .tuple ds => ds.length ≤ 1000 ∧ dats ds
  | _ => False
def dats : List PyData → Prop
  | [] => True
  | d :: r => dat d ∧ dats r
end
mutual
theorem dat_lay : ∀ d : PyData, dat d → d.canLay0 = true
  | .none, _ => by simp only [PyData.canLay0]
  | .int _, _ => by simp only [PyData.canLay0]
  | .str z, h => by
    have h' : okS z := by simpa only [dat] using h
    exact h'.2
  | .tuple ds, h => by
    have h' : ds.length ≤ 1000 ∧ dats ds := by simpa only [dat] using h
    simp only [PyData.canLay0]
    exact dats_lay ds h'.2
  | .bool _, h => by simp only [dat] at h
  | .list _, h => by simp only [dat] at h
  | .dict _, h => by simp only [dat] at h
theorem dats_lay : ∀ ds : List PyData, dats ds → PyData.canLayAll0 ds = true
  | [], _ => by simp only [PyData.canLayAll0]
  | d :: r, h => by
    have h' : dat d ∧ dats r := by simpa only [dats] using h
    simp only [PyData.canLayAll0, dat_lay d h'.1, dats_lay r h'.2, Bool.and_self]
end
mutual
theorem eqv_same : ∀ d : PyData, dat d → PyData.eqv d d = true
  | .none, _ => by simp [PyData.eqv]
  | .int _, _ => by simp [PyData.eqv]
  | .str z, _ => by simp [PyData.eqv]
  | .tuple ds, h => by
    have h' : ds.length ≤ 1000 ∧ dats ds := by simpa only [dat] using h
    simp only [PyData.eqv]
    exact eqvs_same ds h'.2
  | .bool _, h => by simp only [dat] at h
  | .list _, h => by simp only [dat] at h
  | .dict _, h => by simp only [dat] at h
theorem eqvs_same : ∀ ds : List PyData, dats ds → PyData.eqvAll ds ds = true
  | [], _ => by simp [PyData.eqvAll]
  | d :: r, h => by
    have h' : dat d ∧ dats r := by simpa only [dats] using h
    simp only [PyData.eqvAll, eqv_same d h'.1, eqvs_same r h'.2, Bool.and_self]
end
end Mine

/-! ### Kit9 -/
/-! ## enumerate of a tuple -/
namespace HE
open PySem PySem.Spec PyProof.Rows L2
/-- one argument, whatever begins -/
theorem meets1 {v : Value} {ob : Obj} {Hb : Heap → Prop} (bg : Begins v ob Hb) : Meets (Builtin.«enumerate.__new__» ⟨[.type "enumerate", v], []⟩) (fun _ Z st => Hb st.heap ∧
    Z (.ok (.ret (.ref (st.heap.push ob).objs.size))) { st with heap := (st.heap.push ob).push { cls := .type "enumerate", data := .fields #[.none, .bool false, .ref st.heap.objs.size, rawInt 0, .none, .none] } }) := by
  refine .of_wp fun pr w2 A2 Z st hst => ?_
  obtain ⟨h0, gg, dd, tt, oo⟩ := st
  obtain ⟨hb, hst⟩ := hst
  have hs1 := sub_enumerate
  have it1 : ∀ {B : Around} {E2 : Value → Shared → Prop} {Q2 : Value → Shared → Prop}, Q2 (.ref h0.objs.size) ⟨h0.push ob, gg, dd, tt, oo⟩ → wpAny (model pr w2) B (pyIter v) Q2 E2 ⟨h0, gg, dd, tt, oo⟩ :=
    fun q2 => bg.iter pr w2 _ _ ⟨h0, gg, dd, tt, oo⟩ _ hb q2
  wp_walk using it1
  refine wpAny_stack_any fun sta => wpAny_pure ?_
  split
  · rename_i cc _ _ _ _ _
    cases (cc == Value.type "enumerate") <;> (wp_walk using it1; exact ⟨_, rfl, hst⟩)
  · wp_walk using it1; exact ⟨_, rfl, hst⟩
section
variable {prog : Program} {w : World} {A : Around} {E : Value → Shared → Prop} {s : Shared}
theorem call1 {a : Addr} {its : Array Value} {Q : Value → Shared → Prop} (ht : s.heap.IsTuple a its)
    (k : ∀ h2, IsEnum h2 (s.heap.objs.size + 1) s.heap.objs.size 0 .none → h2.IsTupleIter s.heap.objs.size a 0 → (∀ c u, s.heap.get? c = some u → h2.get? c = some u) → Q (.ref (s.heap.objs.size + 1)) { s with heap := h2 }) :
    wpAny (model prog w) A (call (.type "enumerate") [.ref a]) Q E s := by
  have bg := begins_tuple a its
  refine callType_new F.called_enumerate (by decide) (F.typeCall_enumerate_1 _) (F.newCall_enumerate_1 _) (fun ob => F.args_object_init_2 ob _) F.entry_enumerate_new (meets1 bg) ⟨ht, ?_⟩
  have sz : (s.heap.push ({ cls := .type "tuple_iterator", data := .fields #[.ref a, .int 0 0] } : Obj)).objs.size = s.heap.objs.size + 1 := Heap.size_push ..
  show _ ∧ _
  rw [sz]
  have en := Heap.get?_push_size (s.heap.push ({ cls := .type "tuple_iterator", data := .fields #[.ref a, .int 0 0] } : Obj)) (o := { cls := .type "enumerate", data := .fields #[.none, .bool false, .ref s.heap.objs.size, rawInt 0, .none, .none] }) rfl
  rw [sz] at en
  exact ⟨⟨_, en, rfl⟩, k _ en ⟨_, Heap.get?_push_of_some _ (Heap.get?_push_size _ rfl), rfl, rfl⟩ fun c u x => Heap.get?_push_of_some _ (Heap.get?_push_of_some _ x)⟩
end
/-- the tuple at a, each item in a new pair -/
def IteT (K : PySem.W.Frag) (a : Addr) : It where
  go := fun i H => ∃ (xs : List V) (x : V), SqT K H a xs ∧ xs[i]? = some x
  yld := fun i H v H' => ∃ t x, v = .ref t ∧ H t = none ∧ H' = upd H t (.tup [.int (i : Nat), x]) ∧ ∀ xs, SqT K H a xs → xs[i]? = some x
  stop := fun i H => ∃ xs : List V, SqT K H a xs ∧ xs.length ≤ i
theorem apartT {h : Heap} {a it : Addr} {i : Nat} {its : Array Value} (ht : h.IsTuple a its) (hi : h.IsTupleIter it a i) : a ≠ it := fun z => by
  obtain ⟨o, e, _, n, d⟩ := ht
  obtain ⟨o2, e2, _, d2⟩ := hi
  rw [z, e2] at e
  cases e
  rw [d2] at d
  cases d
theorem apartE {h : Heap} {a e it : Addr} {i : Int} {old : Value} {its : Array Value} (ht : h.IsTuple a its) (he : IsEnum h e it i old) : e ≠ a := fun z => by
  obtain ⟨o, q, _, n, d⟩ := ht
  rw [← z] at q
  have q2 : h.get? e = some _ := he
  rw [q2] at q
  cases q
  cases d
theorem turn_enT {P : Program} {w : World} {K : PySem.W.Frag} {elts : List Expr} {kk : Nat} {tpos : Pos} (a e it : Addr) :
    Turn P w K (.Tuple elts kk tpos) (IteT K a) [e, it] e (fun i h => (∃ old, IsEnum h e it ((i : Nat) : Int) old) ∧ h.IsTupleIter it a i ∧ e ≠ it) := by
  refine ⟨by simp, fun i h st b hb => ?_, fun i h h' st k => ?_, ?_, ?_, fun A i s Q E st h => ?_⟩
  · obtain ⟨⟨old, he⟩, ⟨o, ho, hc, hd⟩, _⟩ := st
    rcases (by simpa using hb : b = e ∨ b = it) with rfl | rfl
    · exact ⟨_, he, fun v q => nomatch q⟩
    · exact ⟨o, ho, fun v q => by rw [hd] at q; cases q⟩
  · obtain ⟨⟨old, he⟩, hi, hne⟩ := st
    exact ⟨⟨old, k e (by simp) _ he⟩, hi.at fun o q => k it (by simp) o q, hne⟩
  · intro X hP hw hK hc i pins s σ H E I hf st hg
    subst hP hw hK
    obtain ⟨⟨old, he⟩, hit, hne⟩ := st
    obtain ⟨xs, x, hq, hx⟩ := hg
    obtain ⟨its, rv, p, hz⟩ := I.tuple hq
    have p2 : s.heap.IsTuple a its.toArray := p
    obtain ⟨u, hu, ru⟩ := rv.get hx
    have hu2 : its.toArray[i]? = some u := by simpa using hu
    have hel : e < s.heap.objs.size := Heap.lt_size he
    have hil : it < s.heap.objs.size := by obtain ⟨_, q, _⟩ := hit; exact Heap.lt_size q
    have dr := Draws.tuple (prog := X.prog) (w := X.w) (A := X.A.in1) (I.ok.hd hc) it a (apartT p2 hit) its.toArray
    refine wpAny_pyNext_enum_itemD dr he ⟨hit, p2⟩ (by rcases Nat.lt_or_ge i its.toArray.size with g | g; exact g; rw [Array.getElem?_eq_none g] at hu2; cases hu2) hne (fun m => by rcases (by simpa using m : e = it ∨ e = a) with z | z; exact hne z; exact apartE p2 he z) fun u' h2 tk hu' out st2 hT hsz hk => ?_
    have eu : u' = u := Option.some.inj (hu'.symm.trans hu2)
    subst eu
    refine ⟨_, rfl, wpAny_letOwnedTupleGo_enum (s := { s with heap := h2, toks := tk + 1 }) out fun h3 he3 sb => ?_⟩
    have hT3 := (sb.2 _ (Nat.ne_of_gt hel)).trans hT
    have new : ObjOk X.prog X.w (upd H s.heap.objs.size (.tup [.int (i : Nat), x])) h3 s.heap.objs.size (.tup [.int (i : Nat), x]) :=
      ⟨(by decide : 2 ≤ sizeLine), [.int i tk, u'], .cons ⟨_, rfl⟩ (.cons ru .nil), ⟨_, hT3, rfl, _, rfl⟩⟩
    have I2 : Inv X pins σ (upd H s.heap.objs.size (.tup [.int (i : Nat), x])) { s with heap := h3, toks := tk + 1 } :=
      I.turnedNew (ch := [e, it]) (fun b ob hb q => (sb.2 b (fun z => hb (by simp [z]))).trans (hk b ob (fun z => hb (by simp [z])) (fun z => hb (by simp [z])) q)) hf (Nat.le_refl _) new
    refine ⟨.ref s.heap.objs.size, _, I2, rfl, ⟨_, x, rfl, I.hok.fresh (Nat.le_refl _), rfl, fun ys hy => by rw [I.tuple_inj hy hq]; exact hx⟩, ⟨⟨u', ?_⟩, st2.1.at fun o q => (sb.2 it (Ne.symm hne)).trans q, hne⟩, fun b hb => ?_⟩
    · rw [show ((i + 1 : Nat) : Int) = (i : Int) + 1 from by omega]; exact he3
    · have lt : b < s.heap.objs.size := by rcases (by simpa using hb : b = e ∨ b = it) with rfl | rfl <;> assumption
      rw [upd_ne (Nat.ne_of_lt lt)]
      exact (hf b hb).1
  · intro X hP hw hK hc i pins s σ H E I hf st hg
    subst hP hw hK
    obtain ⟨⟨old, he⟩, hit, hne⟩ := st
    obtain ⟨xs, hq, hx⟩ := hg
    obtain ⟨its, rv, p, hz⟩ := I.tuple hq
    have p2 : s.heap.IsTuple a its.toArray := p
    obtain ⟨f0, f1, f2, f3, f4, f5⟩ := hf it (by simp)
    have hl := rv.length
    unfold pyNext
    refine wpAny_bind (wpAny_attempt (wpAny_callSpecial?_slot (name := Str.ofString "__next__") (⟨_, he, rfl⟩ : s.TypeIs (.ref e) "enumerate") F.slot_enumerate_next
      (wpAny_call_entry F.slot_enumerate_next ⟨_, he, rfl⟩ F.entry_enumerate_next ?_ (F.args_enumerate_next_1 _))))
    show wpAny _ _ (field (.ref e) 2 >>= _) _ _ _
    refine wpAny_bind (wpAny_field he rfl (x := .ref it) rfl ?_)
    refine wpAny_bind (wpAny_nextOf_tuple_end (I.ok.hd hc) hit p2 (by simp; omega) fun h2 y eb hy => ?_)
    obtain ⟨o, ho, hc2⟩ := hy
    refine wpAny_bind (wpAny_isInstance (T := "StopIteration") (b := true) ⟨o, ho, hc2⟩ isSubtype_stop (wpAny_pure ?_))
    exact ⟨rfl, I.turned (t' := s.toks) (fun b o hb q => eb b o hb q) f0 f1 f3 f4 f5⟩
  · obtain ⟨⟨_, he⟩, _⟩ := st
    exact wpAny_pyIter_enum he h
/-- what enumerate walks: a list or a tuple -/
def iEnA (K : PySem.W.Frag) (ta : TA) : TI := fun σ H R => ta σ H fun vs H1 => ∃ a xs, vs = [.ref a] ∧ ((SqL K H1 a xs ∧ R (Ite K a) H1) ∨ (SqT K H1 a xs ∧ R (IteT K a) H1))
theorem pi_enA {X : Cx} {e : Expr} {ta : TA} {p pos tpos : Pos} {elts : List Expr} {kk : Nat} (hg : Gl X "enumerate") (hm : X.mg "enumerate" = none) (ha : PA X [e] ta) (hs : starEach [e] X.env = [(false, eval e X.env)] := by rfl) :
    PI X (.Tuple elts kk tpos) (.Call (.Name "enumerate" p) [e] [] pos) (iEnA X.K ta) := by
  refine ⟨fun pins s σ H R I h => ?_⟩
  refine Call_ (ld_blt I hg hm boot_enumerate (PyProof.Rows.callWith_type1 (thn (ha.run pos pins s σ H _ I h) fun us s1 ⟨vs, H1, I1, r1, q1⟩ => ?_) hs rfl))
  obtain ⟨a, xs, ex, q1⟩ := q1
  subst ex
  obtain _ | ⟨ru, rn⟩ := r1
  cases rn
  cases ru
  have fp : ∀ b ∈ [s1.heap.objs.size + 1, s1.heap.objs.size], FpOk X pins H1 b := fun b hb => by
    have le : s1.heap.objs.size ≤ b := by rcases (by simpa using hb : b = s1.heap.objs.size + 1 ∨ b = s1.heap.objs.size) with rfl | rfl <;> omega
    exact I1.fpOk le (I1.hok.fresh le)
  rcases q1 with ⟨hq, q⟩ | ⟨hq, q⟩
  · obtain ⟨its, rv, pl, hz⟩ := I1.list hq
    refine call_enumerate_list pl.isList fun h' he hit hsz hk => wpAny_pyIter_enum he ?_
    exact ⟨s1.heap.objs.size + 1, [s1.heap.objs.size + 1, s1.heap.objs.size], _, _, H1, rfl, I1.kept (t' := s1.toks) hk, turn_enum a _ _, ⟨⟨.none, he⟩, hit, Nat.succ_ne_self _⟩, fp, q⟩
  · obtain ⟨its, rv, pt, hz⟩ := I1.tuple hq
    refine call1 (show s1.heap.IsTuple a its.toArray from pt) fun h' he hit hk => wpAny_pyIter_enum he ?_
    exact ⟨s1.heap.objs.size + 1, [s1.heap.objs.size + 1, s1.heap.objs.size], _, _, H1, rfl, I1.kept (t' := s1.toks) hk, turn_enT a _ _, ⟨⟨.none, he⟩, hit, Nat.succ_ne_self _⟩, fp, q⟩
/-- a loop over enumerate of a tuple -/
theorem forET {K : PySem.W.Frag} {a : Addr} {xs : List V} {g : TG} {tb : TS} {n : L2.St → Hp → Prop} {rt : VK} {σ : L2.St} {H : Hp} (Pv : Nat → L2.St → Hp → Prop) (h0 : Pv 0 σ H) (hq : ∀ i σ H, i ≤ xs.length → Pv i σ H → SqT K H a xs)
    (hs : ∀ (i : Nat) (x : V) (t : Addr) (σ : L2.St) (H : Hp), xs[i]? = some x → Pv i σ H → H t = none → g (.ref t) σ (upd H t (.tup [.int (i : Nat), x])) fun σ2 H2 => tb ⟨Pv (i + 1), rt, n, Pv (i + 1)⟩ σ2 H2) (hd : ∀ σ H, Pv xs.length σ H → n σ H) :
    ∃ W : Nat → Nat → L2.St → Hp → Prop, (∃ m, W 0 m σ H) ∧ ∀ i m σ H, W i m σ H →
      ((IteT K a).stop i H ∧ n σ H) ∨ ((IteT K a).go i H ∧ ∃ N : L2.St → Hp → Prop, (∀ σ' H', N σ' H' → ∃ m', m' < m ∧ W (i + 1) m' σ' H') ∧ ∀ v H', (IteT K a).yld i H v H' → g v σ H' fun σ2 H2 => tb ⟨N, rt, n, N⟩ σ2 H2) := by
  refine ⟨fun i m σ H => m = xs.length - i ∧ i ≤ xs.length ∧ Pv i σ H, ⟨xs.length, by simp, Nat.zero_le _, h0⟩, ?_⟩
  rintro i m σ H ⟨rfl, hi, pv⟩
  have sq := hq i σ H hi pv
  rcases Nat.lt_or_ge i xs.length with hl | hl
  · refine .inr ⟨⟨xs, _, sq, List.getElem?_eq_getElem hl⟩, Pv (i + 1), fun σ' H' p' => ⟨xs.length - (i + 1), by omega, rfl, hl, p'⟩, ?_⟩
    rintro v H' ⟨t, x, rfl, ht, rfl, hx⟩
    exact hs i x t σ H (hx xs sq) pv ht
  · have : i = xs.length := by omega
    subst this
    exact .inl ⟨⟨xs, sq, Nat.le_refl _⟩, hd σ H pv⟩
end HE

/-! ### KitA -/
namespace Mine
open PySem PySem.Spec L2
section
variable {K : PySem.W.Frag} {H : Hp} {Q : VK} {a b : Addr} {xs ys : List V} {lo hi : Option Int}
/-! ## slices and sums of tuples, whatever object stands for them -/
theorem cut_whole (z : HT.sIx xs.length 0 lo = 0 ∧ HT.sIx xs.length xs.length hi = xs.length) : cutV xs lo hi = xs := by
  unfold cutV
  rw [z.1, z.2]
  simp
theorem u_slS (ha : SqT K H a xs) (h : ∀ q H', Same H H' → SqT K H' q (cutV xs lo hi) → Q (.ref q) H') : rSlU K (.ref a) lo hi H Q :=
  .inr ⟨a, xs, rfl, ha, fun z => h a H (Same.refl H) (by rw [cut_whole z]; exact ha), fun _ p hp => h p _ (same_new hp _) (SqT.of upd_same)⟩
theorem u_slL (ha : SqL K H a xs) (h : ∀ p, H p = none → Q (.ref p) (upd H p (.lst (cutV xs lo hi)))) : rSlU K (.ref a) lo hi H Q := .inl ⟨a, xs, rfl, ha, h⟩
theorem u_catS (ha : SqT K H a xs) (hb : SqT K H b ys) (l : xs.length + ys.length ≤ sizeLine) (h : ∀ q H', Same H H' → SqT K H' q (xs ++ ys) → Q (.ref q) H') : rAddU K (.ref a) (.ref b) H Q :=
  .inr (.inr (.inr ⟨a, b, xs, ys, rfl, rfl, ha, hb, l, fun z => h b H (Same.refl H) (by rw [z]; exact hb), fun _ z => h a H (Same.refl H) (by rw [z, List.append_nil]; exact ha), fun _ _ p hp => h p _ (same_new hp _) (SqT.of upd_same)⟩))
theorem cut_from (xs : List V) (i : Nat) : cutV xs (some (i : Int)) none = xs.drop i := by
  unfold cutV
  rw [HT.sIx_nat, HT.sIx_none]
  rcases Nat.le_total i xs.length with h | h
  · rw [Nat.min_eq_left h]
    exact List.take_of_length_le (by rw [List.length_drop]; omega)
  · rw [Nat.min_eq_right h, List.drop_of_length_le (Nat.le_refl _), List.drop_of_length_le h]
    simp
theorem cut_to (xs : List V) (j : Nat) : cutV xs none (some (j : Int)) = xs.take j := by
  unfold cutV
  rw [HT.sIx_nat, HT.sIx_none, List.drop_zero, Nat.sub_zero]
  rcases Nat.le_total j xs.length with h | h
  · rw [Nat.min_eq_left h]
  · rw [Nat.min_eq_right h, List.take_of_length_le (Nat.le_refl _), List.take_of_length_le h]
theorem cut_mid (xs : List V) (i j : Nat) (h : i ≤ xs.length) (k : j ≤ xs.length) : cutV xs (some (i : Int)) (some (j : Int)) = (xs.drop i).take (j - i) := by
  unfold cutV
  rw [HT.sIx_nat, HT.sIx_nat, Nat.min_eq_left h, Nat.min_eq_left k]
end
/-! ## enumerate of a list or a tuple -/
section
variable {X : Cx} (K : PySem.W.Frag) {e : Expr} {ta : TA}
theorem pi_enAK {p pos tpos : Pos} {elts : List Expr} {kk : Nat} (hg : Gl X "enumerate") (hm : X.mg "enumerate" = none) (ha : PA X [e] ta) (h : X.K = K := by rfl) (hs : starEach [e] X.env = [(false, eval e X.env)] := by rfl) :
    PI X (.Tuple elts kk tpos) (.Call (.Name "enumerate" p) [e] [] pos) (HE.iEnA K ta) := by subst h; exact HE.pi_enA hg hm ha hs
end
section
variable {K : PySem.W.Frag} {σ : St} {H : Hp} {ta : TA} {a b : Addr} {xs ys : List V}
theorem rd_enA {R : It → Hp → Prop} (h : ta σ H fun vs H1 => ∃ a xs, vs = [.ref a] ∧ ((SqL K H1 a xs ∧ R (Ite K a) H1) ∨ (SqT K H1 a xs ∧ R (HE.IteT K a) H1))) : HE.iEnA K ta σ H R := h
theorem u_enT {R1 R2 : Addr → Prop} (s : SqT K H a xs) (h : R2 a) : ∃ a' xs', [V.ref a] = [V.ref a'] ∧ ((SqL K H a' xs' ∧ R1 a') ∨ (SqT K H a' xs' ∧ R2 a')) := ⟨a, xs, rfl, .inr ⟨s, h⟩⟩
theorem u_enL {R1 R2 : Addr → Prop} (s : SqL K H a xs) (h : R1 a) : ∃ a' xs', [V.ref a] = [V.ref a'] ∧ ((SqL K H a' xs' ∧ R1 a') ∨ (SqT K H a' xs' ∧ R2 a')) := ⟨a, xs, rfl, .inl ⟨s, h⟩⟩
theorem rd_zip {R : It → Hp → Prop} (h : ta σ H fun vs H1 => ∃ a b xs ys, vs = [.ref a, .ref b] ∧ ((SqL K H1 a xs ∧ SqL K H1 b ys ∧ R (Itz K a b) H1) ∨ (SqT K H1 a xs ∧ SqT K H1 b ys ∧ R (RZ.ItzT K a b) H1))) : RZ.iZipA K ta σ H R := h
theorem u_zipL {R1 R2 : Addr → Addr → Prop} (s : SqL K H a xs) (t : SqL K H b ys) (h : R1 a b) : ∃ a' b' xs' ys', [V.ref a, V.ref b] = [V.ref a', V.ref b'] ∧ ((SqL K H a' xs' ∧ SqL K H b' ys' ∧ R1 a' b') ∨ (SqT K H a' xs' ∧ SqT K H b' ys' ∧ R2 a' b')) := ⟨a, b, xs, ys, rfl, .inl ⟨s, t, h⟩⟩
/-- a loop over zip of two lists of one length -/
theorem forZ {g : TG} {tb : TS} {n : St → Hp → Prop} {rt : VK} (hl : xs.length = ys.length) (Pv : Nat → St → Hp → Prop) (h0 : Pv 0 σ H) (hq : ∀ i σ H, Pv i σ H → SqL K H a xs ∧ SqL K H b ys)
    (hs : ∀ (i : Nat) (x y : V) (T : Addr) (σ : St) (H : Hp), xs[i]? = some x → ys[i]? = some y → Pv i σ H → H T = none → g (.ref T) σ (upd H T (.tup [x, y])) fun σ2 H2 => tb ⟨Pv (i + 1), rt, n, Pv (i + 1)⟩ σ2 H2) (hd : ∀ σ H, Pv xs.length σ H → n σ H) :
    ∃ W : Nat → Nat → St → Hp → Prop, (∃ m, W 0 m σ H) ∧ ∀ i m σ H, W i m σ H →
      ((Itz K a b).stop i H ∧ n σ H) ∨ ((Itz K a b).go i H ∧ ∃ N : St → Hp → Prop, (∀ σ' H', N σ' H' → ∃ m', m' < m ∧ W (i + 1) m' σ' H') ∧ ∀ v H', (Itz K a b).yld i H v H' → g v σ H' fun σ2 H2 => tb ⟨N, rt, n, N⟩ σ2 H2) :=
  RZ.for_zipL (D := ⟨n, rt, fun _ _ => False, fun _ _ => False⟩) hl Pv h0 hq hs hd
/-- a loop over zip of two lists, as long as the shorter -/
theorem forZm {g : TG} {tb : TS} {n : St → Hp → Prop} {rt : VK} {m : Nat} (hm : m = min xs.length ys.length) (Pv : Nat → St → Hp → Prop) (h0 : Pv 0 σ H) (hq : ∀ i σ H, i ≤ m → Pv i σ H → SqL K H a xs ∧ SqL K H b ys)
    (hs : ∀ (i : Nat) (x y : V) (t : Addr) (σ : St) (H : Hp), i < m → xs[i]? = some x → ys[i]? = some y → Pv i σ H → H t = none → g (.ref t) σ (upd H t (.tup [x, y])) fun σ2 H2 => tb ⟨Pv (i + 1), rt, n, Pv (i + 1)⟩ σ2 H2) (hd : ∀ σ H, Pv m σ H → n σ H) :
    ∃ W : Nat → Nat → St → Hp → Prop, (∃ m, W 0 m σ H) ∧ ∀ i m σ H, W i m σ H →
      ((Itz K a b).stop i H ∧ n σ H) ∨ ((Itz K a b).go i H ∧ ∃ N : St → Hp → Prop, (∀ σ' H', N σ' H' → ∃ m', m' < m ∧ W (i + 1) m' σ' H') ∧ ∀ v H', (Itz K a b).yld i H v H' → g v σ H' fun σ2 H2 => tb ⟨N, rt, n, N⟩ σ2 H2) := by
  refine ⟨fun i k σ H => k = m - i ∧ i ≤ m ∧ Pv i σ H, ⟨m, by simp, Nat.zero_le _, h0⟩, ?_⟩
  rintro i k σ H ⟨rfl, hi, pv⟩
  obtain ⟨q1, q2⟩ := hq i σ H hi pv
  rcases Nat.lt_or_ge i m with hl | hl
  · have l1 : i < xs.length := by omega
    have l2 : i < ys.length := by omega
    refine .inr ⟨⟨xs, ys, _, _, q1, q2, List.getElem?_eq_getElem l1, List.getElem?_eq_getElem l2⟩, Pv (i + 1), fun σ' H' p' => ⟨m - (i + 1), by omega, rfl, hl, p'⟩, ?_⟩
    rintro v H' ⟨t, x, y, rfl, ht, rfl, hx, hy⟩
    exact hs i x y t σ H hl (hx xs q1) (hy ys q2) pv ht
  · obtain rfl : i = m := by omega
    exact .inl ⟨⟨xs, ys, q1, q2, by omega⟩, hd σ H pv⟩
/-! ## a comprehension with two for -/
theorem rd_lc2 {wi : TI} {g : TG} {tt : TT} {wi1 : TI} {g1 : TG} {tt1 : TT} {te : TE} {vs vs1 : List Nat} {Q : VK} (h : wi σ H fun J H1 => ∀ D, H1 D = none → ∃ W : Nat → Nat → Hp → Prop, (∃ m, W 0 m (upd H1 D (.lst []))) ∧ ∀ i m H, W i m H →
  (J.stop i H ∧ Q (.ref D) H) ∨ (J.go i H ∧ ∃ Nx : Hp → Prop, (∀ H', Nx H' → ∃ m', m' < m ∧ W (i + 1) m' H') ∧ ∀ x H', J.yld i H x H' → g x (wipe σ vs) H' fun σ2 H2 => wipe σ2 vs = wipe σ vs ∧ tt σ2 H2 fun b H3 =>
    if b = true then wi1 σ2 H3 fun J1 H4 => ∃ W1 : Nat → Nat → Hp → Prop, (∃ m, W1 0 m H4) ∧ ∀ j k H, W1 j k H →
      (J1.stop j H ∧ Nx H) ∨ (J1.go j H ∧ ∃ Nx1 : Hp → Prop, (∀ H', Nx1 H' → ∃ k', k' < k ∧ W1 (j + 1) k' H') ∧ ∀ x H', J1.yld j H x H' → g1 x (wipe σ2 vs1) H' fun σ3 H5 => wipe σ3 vs1 = wipe σ2 vs1 ∧ tt1 σ3 H5 fun b H6 =>
        if b = true then te σ3 H6 fun y H7 => ∃ acc, H7 D = some (.lst acc) ∧ acc.length < sizeLine ∧ Nx1 (upd H7 D (.lst (acc ++ [y]))) else Nx1 H6)
    else Nx H3)) : tLc2 wi g tt wi1 g1 tt1 te vs vs1 σ H Q := h
/-- its outer and its inner walk, both over tuples: BB is what follows the tests -/
theorem lcG {g : TG} {tt : TT} {vs : List Nat} {Qd : Hp → Prop} {BB : (Hp → Prop) → St → Hp → Prop} (Pv : Nat → Hp → Prop) (h0 : Pv 0 H) (hl : ∀ i H, i ≤ xs.length → Pv i H → SqT K H a xs)
    (hs : ∀ i x H, xs[i]? = some x → Pv i H → g x (wipe σ vs) H fun σ2 H2 => wipe σ2 vs = wipe σ vs ∧ tt σ2 H2 fun b H3 => if b = true then BB (Pv (i + 1)) σ2 H3 else Pv (i + 1) H3) (hd : ∀ H, Pv xs.length H → Qd H) :
    ∃ W : Nat → Nat → Hp → Prop, (∃ m, W 0 m H) ∧ ∀ i m H, W i m H →
      ((Itt K a).stop i H ∧ Qd H) ∨ ((Itt K a).go i H ∧ ∃ Nx : Hp → Prop, (∀ H', Nx H' → ∃ m', m' < m ∧ W (i + 1) m' H') ∧ ∀ x H', (Itt K a).yld i H x H' → g x (wipe σ vs) H' fun σ2 H2 => wipe σ2 vs = wipe σ vs ∧ tt σ2 H2 fun b H3 =>
        if b = true then BB Nx σ2 H3 else Nx H3) := by
  refine ⟨fun i m H => m = xs.length - i ∧ i ≤ xs.length ∧ Pv i H, ⟨xs.length, by simp, Nat.zero_le _, h0⟩, ?_⟩
  rintro i m H ⟨rfl, hi, pv⟩
  have sq := hl i H hi pv
  rcases Nat.lt_or_ge i xs.length with hlt | hlt
  · refine .inr ⟨⟨xs, _, sq, List.getElem?_eq_getElem hlt⟩, Pv (i + 1), fun H' p' => ⟨xs.length - (i + 1), by omega, rfl, hlt, p'⟩, fun x H' y => ?_⟩
    obtain ⟨e1, e2⟩ := y
    subst e1
    exact hs i x _ (e2 xs sq) pv
  · obtain rfl : i = xs.length := by omega
    exact .inl ⟨⟨xs, sq, Nat.le_refl _⟩, hd H pv⟩
end
end Mine

/-! ### KitB -/
namespace Mine
open PySem PySem.Spec L2
section
variable {K : PySem.W.Frag} {σ : St} {H : Hp} {Q : VK}
/-- a loop over a range with a step -/
theorem forC {lo c : Int} {m : Nat} {g : TG} {tb : TS} {n : St → Hp → Prop} {rt : VK} (Pv : Nat → St → Hp → Prop) (h0 : Pv 0 σ H)
    (hs : ∀ i σ H, i < m → Pv i σ H → g (.int (lo + (i : Nat) * c)) σ H fun σ2 H2 => tb ⟨Pv (i + 1), rt, n, Pv (i + 1)⟩ σ2 H2) (hd : ∀ σ H, Pv m σ H → n σ H) :
    ∃ W : Nat → Nat → St → Hp → Prop, (∃ m, W 0 m σ H) ∧ ∀ i k σ H, W i k σ H →
      ((Itc lo c m).stop i H ∧ n σ H) ∨ ((Itc lo c m).go i H ∧ ∃ N : St → Hp → Prop, (∀ σ' H', N σ' H' → ∃ m', m' < k ∧ W (i + 1) m' σ' H') ∧ ∀ x H', (Itc lo c m).yld i H x H' → g x σ H' fun σ2 H2 => tb ⟨N, rt, n, N⟩ σ2 H2) :=
  for_rangeC (D := ⟨n, rt, fun _ _ => False, fun _ _ => False⟩) Pv h0 hs hd
theorem rd_revR {tr : St → Hp → (Int → Int → Hp → Prop) → Prop} {R : It → Hp → Prop} (h : tr σ H fun a b H1 => -(2 ^ 62) ≤ a ∧ a < 2 ^ 62 ∧ -(2 ^ 62) ≤ b ∧ b < 2 ^ 62 ∧ R (Itc (a + (((b - a).toNat : Nat) : Int) - 1) (-1) (b - a).toNat) H1) : iRevR tr σ H R := h
theorem rd_rg1 {ta : TE} {R : Int → Int → Hp → Prop} (h : ta σ H fun x H1 => ∃ n, x = .int n ∧ R 0 n H1) : tRg1 ta σ H R := h
theorem rd_rng3 {t : TA} {R : It → Hp → Prop} (h : t σ H fun vs H1 => ∃ (i j c : Int) (n : Nat), vs = [.int i, .int j, .int c] ∧ RgC i j c n ∧ R (Itc i c n) H1) : iRng3 t σ H R := h
theorem rep_one : ∀ (n : Nat) (v : V), (List.replicate n [v]).flatten = List.replicate n v
  | 0, _ => rfl
  | n + 1, v => by rw [List.replicate_succ, List.flatten_cons, rep_one n v] <;> rfl
theorem u_rep1 {l : Addr} {v : V} {n : Nat} (h : H l = some (.lst [v])) (hn : n ≤ 1000) (q : ∀ p, H p = none → Q (.ref p) (upd H p (.lst (List.replicate n v)))) : rMulU K (.ref l) (.int (n : Nat)) H Q := by
  refine .inr (.inl ⟨l, n, [v], rfl, rfl, h, by omega, by omega, ?_, fun p hp => ?_⟩)
  · show 1 * ((n : Int).toNat) ≤ sizeLine
    exact Nat.le_trans (show 1 * ((n : Int).toNat) ≤ 1000000 by omega) (by decide)
  · rw [Int.toNat_natCast, rep_one]
    exact q p hp
end
end Mine

/-! ### KitC -/
/-! ## a tuple once -/
namespace HE
open PySem PySem.Spec PyProof.Rows L2
theorem once (q : Addr) (vs : Array Value) (ep : Nat) (dc : Option Addr) (ss : Array (Option Value)) (tk : Tok) (ne : vs.isEmpty = false) :
    Meets (Builtin.«tuple.__mul__» ⟨[.ref q, .int 1 tk], []⟩) (fun _ Z st => st.heap.get? q = some { cls := .type "tuple", dict := dc, data := .seq vs ep, slots := ss } ∧ Z (.ok (.ret (.ref q))) st) := by
  refine .of_wp fun pr w2 A2 Z st hst => ?_
  obtain ⟨h0, gg, dd, tt, oo⟩ := st
  obtain ⟨hq, hz⟩ := hst
  have ix := AutoSeq1.idx_int
  wp_walk using wpAny_loadPart' hq
  exact ⟨_, rfl, hz⟩
def rRep1 (K : PySem.W.Frag) : R2 := fun x y H Q => ∃ l xs, x = .ref l ∧ y = .int 1 ∧ SqT K H l xs ∧ xs ≠ [] ∧ Q (.ref l) H
theorem op_rep1 {X : Cx} : OpR X (binaryOp .Mult) (rRep1 X.K) := by
  intro pins s σ H x y v u Q I rx ry h
  obtain ⟨l, xs, rfl, rfl, hT, hne, q⟩ := h
  cases rx
  obtain ⟨t, rfl⟩ := ry
  obtain ⟨its, r, ⟨⟨cls, dd, data, sl⟩, ho, hc, n, hd⟩, hs⟩ := I.tuple hT
  simp only at hc hd
  subst hc hd
  have hi : its.toArray.isEmpty = false := by
    cases r with
    | nil => exact absurd rfl hne
    | cons a b => rfl
  exact wpAny_binaryOp_repeat_ref (T := "tuple") (U := "int") (by decide) ⟨_, ho, rfl⟩ (fun s' => typeIs_int s' 1 t) noFill_tuple_mul F.fills_int_mul F.slot_int_rmul repeat_tuple F.slot_int_index.lookup
    (call_meets F.slot_int_rmul (typeIs_int s 1 t) F.entry_int_rmul (F.args_int_rmul_2 _ _) (int_rmul_tuple 1 t l its.toArray n dd sl)
      ⟨ho, rfl, ⟨_, ho, rfl⟩, call_meets F.slot_tuple_mul ⟨_, ho, rfl⟩ F.entry_tuple_mul (F.args_tuple_mul_2 _ _) (once l its.toArray n dd sl t hi) ⟨ho, ⟨.ref l, H, I, rfl, q⟩⟩⟩)
end HE
namespace Mine
open PySem PySem.Spec L2
def rMulV (K : PySem.W.Frag) : R2 := fun x y H Q => rMulU K x y H Q ∨ HE.rRep1 K x y H Q
theorem kMulV {X : Cx} (K : PySem.W.Frag) (h : X.K = K := by rfl) : OpR X (binaryOp .Mult) (rMulV K) := by subst h; exact mulU.or HE.op_rep1
/-- a tuple of one some times -/
theorem u_rowOf {K : PySem.W.Frag} {H : Hp} {Q : VK} {l : Addr} {v : V} {k : Int} (h : SqT K H l [v]) (h1 : 1 ≤ k) (h2 : k ≤ 1000) (q : ∀ p H', Same H H' → SqT K H' p (List.replicate k.toNat v) → Q (.ref p) H') : rMulV K (.ref l) (.int k) H Q := by
  by_cases c : k = 1
  · subst c
    exact .inr ⟨l, [v], rfl, rfl, h, by simp, q l H (Same.refl H) h⟩
  · refine .inl (.inr (.inr ⟨l, k, [v], rfl, rfl, h, by simp, by omega, h2, by simp, fun p hp => q p _ (same_new hp _) ?_⟩))
    rw [rep_one]
    exact SqT.of upd_same
end Mine

/-! ### KitD -/
namespace HE
open PySem PySem.Spec PyProof.Rows L2
section
variable {X : Cx}
/-- xs[i] op= y: what is read of a list -/
theorem get_list : PGet X (rIxL X.K) := by
  intro pins s σ H x y v u Q I rx ry h
  obtain ⟨p, xs, i, z, rfl, rfl, hq, he, q⟩ := h
  cases rx
  obtain ⟨t, rfl⟩ := ry
  obtain ⟨its, r, pl, hz⟩ := I.list hq
  obtain ⟨j, h1, h2, h3, h4, h5⟩ := atI_get he
  obtain ⟨w, ew, rw'⟩ := r.get h2
  have hl := r.length
  have hn := line63
  have fin : EP X pins σ Q w s := ⟨z, H, I, rw', q⟩
  by_cases h0 : 0 ≤ i
  · have hj : i.toNat = j := by
      rw [seqIndex_of h0 h5] at h1
      exact Option.some.inj h1
    exact wpAny_getItem_list pl.isList h0 (by omega) (by rw [hj]; simpa using ew) fin
  · have hj : (i + (its.toArray.size : Int)).toNat = j := by
      rw [seqIndex_neg (by omega) h4] at h1
      rw [List.size_toArray, ← hl]
      exact Option.some.inj h1
    exact wpAny_getItem_list_neg pl.isList (by omega) (by rw [List.size_toArray] <;> omega) (by omega) (by rw [hj]; simpa using ew) fin
theorem kGetL {X : Cx} (K : PySem.W.Frag) (h : X.K = K := by rfl) : PGet X (rIxL K) := by subst h; exact get_list
theorem rd_augS {to ti te : TE} {tget : V → V → Hp → VK → Prop} {tip : TIp} {tset : TSet} {D : Ends} {σ : L2.St} {H : Hp} (h : to σ H fun o H1 => ti σ H1 fun i H2 => tget o i H2 fun x H3 => te σ H3 fun y H4 => tip x y H4 fun z H5 => tset o i z H5 fun H6 => D.nx σ H6) : tAugS to ti te tget tip tset D σ H := h
end
end HE

/-! ### KitE -/
namespace HE
open PySem PySem.Spec PyProof.Rows L2
/-- t.index(i) of a tuple of ints -/
def rTix (K : PySem.W.Frag) : V → List V → Hp → VK → Prop := fun x vs H Q => ∃ (a : Addr) (ns : List Int) (k : Int), x = .ref a ∧ vs = [.int k] ∧ SqT K H a (ns.map V.int) ∧ k ∈ ns ∧ Q (.int (ns.idxOf k : Nat)) H
theorem mt_tix {X : Cx} : MtR X "tuple.index" (rTix X.K) := by
  intro pins s σ H x vs v us Q I rx rv h
  obtain ⟨a, ns, k, rfl, rfl, hs, hk, q⟩ := h
  cases rx
  obtain ⟨u, rfl, ru⟩ := rv.one
  obtain ⟨t, rfl⟩ := ru
  obtain ⟨its, r, pt, hz⟩ := I.tuple hs
  have hT : s.heap.IsTuple a its.toArray := pt
  exact PySem.SeqAt.tuple_index_ints hT r.ints hk ⟨.int _, H, I.kept (t' := s.toks + 1) (fun _ _ e => e), ⟨_, rfl⟩, q⟩
end HE
namespace Mine
open PySem PySem.Spec L2
theorem kTix {X : Cx} (K : PySem.W.Frag) (h : X.K = K := by rfl) : MtR X "tuple.index" (HE.rTix K) := by subst h; exact HE.mt_tix
variable {K : PySem.W.Frag} {σ : St} {H : Hp} {Q : VK} {a : Addr} {xs : List V}
theorem u_tix {ns : List Int} {k : Int} (s : SqT K H a (ns.map V.int)) (hk : k ∈ ns) (h : Q (.int (ns.idxOf k : Nat)) H) : HE.rTix K (.ref a) [.int k] H Q := ⟨a, ns, k, rfl, rfl, s, hk, h⟩
theorem rd_dc {wi : TI} {g : TG} {tt : TT} {tk tv : TE} {vs : List Nat} (h : wi σ H fun J H1 => ∀ D, H1 D = none → ∃ W : Nat → Nat → Hp → Prop, (∃ m, W 0 m (upd H1 D (.dK []))) ∧ ∀ i m H, W i m H →
  (J.stop i H ∧ Q (.ref D) H) ∨ (J.go i H ∧ ∃ Nx : Hp → Prop, (∀ H', Nx H' → ∃ m', m' < m ∧ W (i + 1) m' H') ∧ ∀ x H', J.yld i H x H' → g x (wipe σ vs) H' fun σ2 H2 => wipe σ2 vs = wipe σ vs ∧ tt σ2 H2 fun b H3 =>
    if b = true then tk σ2 H3 fun y H4 => tv σ2 H4 fun z H5 => ∃ kvs k, y = kV k ∧ H5 D = some (.dK kvs) ∧ kvs.length < sizeLine ∧ Nx (upd H5 D (.dK (putK kvs k z))) else Nx H3)) : tDc wi g tt tk tv vs σ H Q := h
/-- a dict comprehension over enumerate of a tuple -/
theorem dcET {g : TG} {tt : TT} {tk tv : TE} {vs : List Nat} {H1 : Hp} {D : Addr} {Qd : Hp → Prop} (Pv : Nat → Hp → Prop) (h0 : Pv 0 (upd H1 D (.dK []))) (hl : ∀ i H, i ≤ xs.length → Pv i H → SqT K H a xs)
    (hs : ∀ (i : Nat) (x : V) (t : Addr) (H : Hp), xs[i]? = some x → Pv i H → H t = none → g (.ref t) (wipe σ vs) (upd H t (.tup [.int (i : Nat), x])) fun σ2 H2 => wipe σ2 vs = wipe σ vs ∧ tt σ2 H2 fun b H3 =>
      if b = true then tk σ2 H3 fun y H4 => tv σ2 H4 fun z H5 => ∃ kvs k, y = kV k ∧ H5 D = some (.dK kvs) ∧ kvs.length < sizeLine ∧ Pv (i + 1) (upd H5 D (.dK (putK kvs k z))) else Pv (i + 1) H3) (hd : ∀ H, Pv xs.length H → Qd H) :
    ∃ W : Nat → Nat → Hp → Prop, (∃ m, W 0 m (upd H1 D (.dK []))) ∧ ∀ i m H, W i m H →
      ((HE.IteT K a).stop i H ∧ Qd H) ∨ ((HE.IteT K a).go i H ∧ ∃ Nx : Hp → Prop, (∀ H', Nx H' → ∃ m', m' < m ∧ W (i + 1) m' H') ∧ ∀ x H', (HE.IteT K a).yld i H x H' → g x (wipe σ vs) H' fun σ2 H2 => wipe σ2 vs = wipe σ vs ∧ tt σ2 H2 fun b H3 =>
        if b = true then tk σ2 H3 fun y H4 => tv σ2 H4 fun z H5 => ∃ kvs k, y = kV k ∧ H5 D = some (.dK kvs) ∧ kvs.length < sizeLine ∧ Nx (upd H5 D (.dK (putK kvs k z))) else Nx H3) := by
  refine ⟨fun i m H => m = xs.length - i ∧ i ≤ xs.length ∧ Pv i H, ⟨xs.length, by simp, Nat.zero_le _, h0⟩, ?_⟩
  rintro i m H ⟨rfl, hi, p⟩
  have q := hl i H hi p
  by_cases hlt : i < xs.length
  · refine .inr ⟨⟨xs, xs[i], q, by simp [hlt]⟩, Pv (i + 1), fun H' p' => ⟨xs.length - (i + 1), by omega, rfl, hlt, p'⟩, ?_⟩
    rintro v H' ⟨t, x, rfl, ht, rfl, hx⟩
    exact hs i x t H (hx xs q) p ht
  · have e : i = xs.length := by omega
    subst e
    exact .inl ⟨⟨xs, q, Nat.le_refl _⟩, hd H p⟩
theorem u_maxL {ns : List Int} (s : SqL K H a (ns.map V.int)) (l : 0 < ns.length) (h : ∀ m, m ∈ ns → (∀ y, y ∈ ns → y ≤ m) → Q (.int m) H) : rMax K [.ref a] H Q := ⟨a, ns, rfl, s, l, h⟩
theorem u_minL {ns : List Int} (s : SqL K H a (ns.map V.int)) (l : 0 < ns.length) (h : ∀ m, m ∈ ns → (∀ y, y ∈ ns → m ≤ y) → Q (.int m) H) : rMin K [.ref a] H Q := ⟨a, ns, rfl, s, l, h⟩
end Mine
namespace HE
open PySem PySem.Spec PyProof.Rows L2
variable {X : Cx}
/-- is, is not: two bools -/
def rIsB : R2 := fun x y H Q => ∃ a b, x = .bl a ∧ y = .bl b ∧ Q (.bl (decide (a = b))) H
def rNotB : R2 := fun x y H Q => ∃ a b, x = .bl a ∧ y = .bl b ∧ Q (.bl (!decide (a = b))) H
theorem op_isB : OpR X (compareOp .Is) rIsB := by
  intro pins s σ H x y v u Q I rx ry h
  obtain ⟨a, b, rfl, rfl, q⟩ := h
  cases rx
  cases ry
  show wpAny _ _ ((isSame (Value.bool a) (Value.bool b)) >>= fun z => pure (Value.bool z)) _ _ s
  exact wpAny_bind (wpAny_isSame_plain rfl (wpAny_pure (fin_bl I q (by cases a <;> cases b <;> rfl))))
theorem op_notB : OpR X (compareOp .IsNot) rNotB := by
  intro pins s σ H x y v u Q I rx ry h
  obtain ⟨a, b, rfl, rfl, q⟩ := h
  cases rx
  cases ry
  show wpAny _ _ ((isSame (Value.bool a) (Value.bool b)) >>= fun z => pure (Value.bool (!z))) _ _ s
  exact wpAny_bind (wpAny_isSame_plain rfl (wpAny_pure (fin_bl I q (by cases a <;> cases b <;> rfl))))
end HE
namespace Mine
open PySem PySem.Spec L2
variable {H : Hp} {Q : VK}
theorem u_isB {a b : Bool} (h : Q (.bl (decide (a = b))) H) : HE.rIsB (.bl a) (.bl b) H Q := ⟨a, b, rfl, rfl, h⟩
theorem u_notB {a b : Bool} (h : Q (.bl (!decide (a = b))) H) : HE.rNotB (.bl a) (.bl b) H Q := ⟨a, b, rfl, rfl, h⟩
end Mine

/-! ## tuples whose object is known -/
namespace HE
open PySem PySem.Spec PyProof.Rows L2
/-- a tuple without a dict -/
def FT (H : Hp) (a : Addr) (xs : List V) : Prop := ∃ o, H a = some (.frz o (.tup xs)) ∧ o.dict = none
theorem FT.sq {K : PySem.W.Frag} {H : Hp} {a : Addr} {xs : List V} (h : FT H a xs) : SqT K H a xs := .inl (.inr ⟨h.choose, h.choose_spec.1⟩)
variable {X : Cx} {e o : Expr} {es : List Expr} {to : TE} {t : TA} {name : Str} {apos cpos pos : Pos} {id : String} {r : V → List V → Hp → VK → Prop}
def tBMt (r : V → List V → Hp → VK → Prop) (to : TE) (t : TA) : TE := fun σ H Q => to σ H fun x H1 => (∃ a xs, x = .ref a ∧ FT H1 a xs) ∧ t σ H1 fun xs H2 => r x xs H2 Q
theorem pe_bmT (pa : PlainAttrs "tuple") (slot : Slot "tuple" name id) (hty : typeOf (.builtin id) = pure (.type "method_descriptor")) (hm : MtR X id r) (ho : PE X o to) (ha : PA X (e :: es) t)
    (hbase : attributeBase o name X.env (eval o X.env) = eval o X.env := by rfl)
    (hfew : ((backTo cpos (starEach (e :: es) X.env)).all (fun x => !x.1) && (backToKw cpos (keywordEach [] X.env)).all (fun x => x.1.isSome)
      && decide ((e :: es).length + ([] : List Keyword).length + (if ([] : List Keyword).isEmpty then 0 else 1) < 30)) = true := by rfl)
    (hline : (apos.endLine == cpos.line) = true := by rfl) (hs : starEach (e :: es) X.env = (false, eval e X.env) :: starEach es X.env := by rfl) (hplain : (backTo cpos (starEach es X.env)).any (·.1) = false := by rfl) :
    PE X (.Call (.Attribute o name apos) (e :: es) [] cpos) (tBMt r to t) := by
  refine ⟨fun pins s σ H Q I h => ?_⟩
  refine wpAny_Call_method_late hbase hfew hline rfl (thn (ho.run pins s σ H _ I h) fun v s1 ⟨x, H1, I1, r1, ty, q1⟩ => ?_)
  obtain ⟨a, xs, rfl, ob, e1, e2⟩ := ty
  cases r1
  obtain ⟨e3, _, its, _, p1⟩ := (show ObjOk X.prog X.w H1 s1.heap a (.frz ob (.tup xs)) from I1.hok a _ e1)
  refine ⟨"tuple", id, pa, slot, hty, IsTup.typeIs p1, (fun a' e' => by cases e'; exact ⟨ob, e3, e2⟩), ?_⟩
  have hA := ha.run cpos pins s1 σ H1 _ I1 q1
  rw [hs] at hA ⊢
  refine Calls.callWith_builtin (by show (false || (backTo cpos (starEach es X.env)).any (·.1)) = false; rw [hplain] <;> rfl) (Calls.evalArgs_plain ?_)
  exact thn hA fun us s2 ⟨vs, H2, I2, r2, q2⟩ => hm pins s2 σ H2 (.ref a) vs _ us Q I2 rfl r2 q2
/-- a display -/
def tTupF (t : TA) : TE := fun σ H Q => t σ H fun xs H1 => xs.length ≤ sizeLine ∧ ∀ p o, H1 p = none → o.dict = none → Q (.ref p) (upd H1 p (.frz o (.tup xs)))
theorem pe_tupF {x1} (h : PA X es t) : PE X (.Tuple es x1 pos) (tTupF t) := by
  refine ⟨fun pins s σ H Q I hq => ?_⟩
  refine wpAny_Tuple_spliced (thn (h.run pos pins s σ H _ I hq) fun us s1 ⟨xs, H1, I1, r, z, q⟩ => ⟨by rw [← r.length]; exact z, ?_⟩)
  have hf : H1 s1.heap.objs.size = none := I1.hok.fresh (Nat.le_refl _)
  refine ⟨.ref s1.heap.objs.size, upd H1 s1.heap.objs.size (.frz { cls := .type "tuple", data := .seq us.toArray } (.tup xs)), I1.laid (t' := s1.toks) (fun b u e => Heap.get?_push_of_some _ e) (Nat.le_refl _) ?_, rfl, q _ _ hf rfl⟩
  exact ⟨Heap.get?_push_size _ rfl, z, us, r, ⟨_, Heap.get?_push_size _ rfl, rfl, _, rfl⟩⟩
/-- tuple(xs) of a list -/
def rTupF (K : PySem.W.Frag) : List V → Hp → VK → Prop := fun xs H Q => ∃ p ys, xs = [.ref p] ∧ SqL K H p ys ∧ ∀ l o, H l = none → o.dict = none → Q (.ref l) (upd H l (.frz o (.tup ys)))
theorem call_tupF : CallR X (.type "tuple") (rTupF X.K) := by
  intro pins s σ H xs us Q I r h
  obtain ⟨p, ys, rfl, hq, q⟩ := h
  obtain ⟨u, rfl, rx⟩ := vals1 r
  cases rx
  obtain ⟨its, r', pl, hz⟩ := I.list hq
  have hlen := r'.length
  refine call_tuple_list pl.isList (fun h' kp => ?_) (by simp only [List.size_toArray] <;> omega)
  have I1 : Inv X pins σ H { s with heap := h' } := I.kept (t' := s.toks) kp
  have I2 : Inv X pins σ (upd H h'.objs.size (.frz { cls := .type "tuple", data := .seq its.toArray } (.tup ys))) { s with heap := h'.push { cls := .type "tuple", data := .seq its.toArray } } :=
    I1.laid (t' := s.toks) (fun b o e => Heap.get?_push_of_some _ e) (Nat.le_refl _) (show ObjOk X.prog X.w _ _ _ (.frz { cls := .type "tuple", data := .seq its.toArray } (.tup ys)) from ⟨Heap.get?_push_size _ rfl, hz, its, r', IsTup.new _ _⟩)
  exact ⟨.ref h'.objs.size, _, I2, rfl, q _ _ (I1.hok.fresh (Nat.le_refl _)) rfl⟩
/-- a + b -/
def rCatF (K : PySem.W.Frag) : R2 := fun x y H Q => ∃ a b xs ys, x = .ref a ∧ y = .ref b ∧ SqT K H a xs ∧ SqT K H b ys ∧ xs.length + ys.length ≤ sizeLine ∧
  (xs = [] → Q (.ref b) H) ∧ (xs ≠ [] → ys = [] → Q (.ref a) H) ∧ (xs ≠ [] → ys ≠ [] → ∀ p o, H p = none → o.dict = none → Q (.ref p) (upd H p (.frz o (.tup (xs ++ ys)))))
theorem op_catF : OpR X (binaryOp .Add) (rCatF X.K) := by
  intro pins s σ H x y v u Q I rx ry h
  obtain ⟨a, b, xs, ys, rfl, rfl, ha, hb, hz, q0, q1, q2⟩ := h
  by_cases hx : xs = []
  · subst hx
    exact op_catA pins s σ H _ _ v u Q I rx ry ⟨a, b, [], ys, rfl, rfl, ha, hb, hz, q0, fun z => absurd rfl z, fun z => absurd rfl z⟩
  cases rx
  cases ry
  obtain ⟨its, r1, p1, _⟩ := I.tuple ha
  obtain ⟨its2, r2, p2, _⟩ := I.tuple hb
  refine HT.cat_tup p1 p2 (fun z => hx (r1.nil_iff.mp z)) (fun z => ⟨.ref a, H, I, rfl, q1 hx (r2.nil_iff.mp z)⟩) (fun z => ?_) (by rw [← r1.length, ← r2.length]; exact hz)
  refine ⟨.ref s.heap.objs.size, _, I.laid (t' := s.toks) (o := .frz { cls := .type "tuple", data := .seq (its ++ its2).toArray } (.tup (xs ++ ys))) (fun b ob q => Heap.get?_push_of_some _ q) (Nat.le_refl _) ?_, rfl, q2 hx (fun w => z (r2.nil_iff.mpr w)) _ _ (I.hok.fresh (Nat.le_refl _)) rfl⟩
  exact ⟨Heap.get?_push_size _ rfl, by rw [List.length_append]; exact hz, _, r1.append r2, IsTup.new _ _⟩
end HE
namespace Mine
open PySem PySem.Spec L2
theorem kTupF {X : Cx} (K : PySem.W.Frag) (h : X.K = K := by rfl) : CallR X (.type "tuple") (HE.rTupF K) := by subst h; exact HE.call_tupF
theorem kCatF {X : Cx} (K : PySem.W.Frag) (h : X.K = K := by rfl) : OpR X (binaryOp .Add) (HE.rCatF K) := by subst h; exact HE.op_catF
variable {K : PySem.W.Frag} {σ : St} {H : Hp} {Q : VK} {a b : Addr} {xs ys : List V}
theorem rd_tupF {t : TA} (h : t σ H fun xs H1 => xs.length ≤ sizeLine ∧ ∀ p o, H1 p = none → o.dict = none → Q (.ref p) (upd H1 p (.frz o (.tup xs)))) : HE.tTupF t σ H Q := h
theorem rd_bmT {r : V → List V → Hp → VK → Prop} {te : TE} {t : TA} (h : te σ H fun x H1 => (∃ a xs, x = .ref a ∧ HE.FT H1 a xs) ∧ t σ H1 fun xs H2 => r x xs H2 Q) : HE.tBMt r te t σ H Q := h
theorem rd_tyF {R : Prop} (s : HE.FT H a xs) (h : R) : (∃ a' xs', V.ref a = .ref a' ∧ HE.FT H a' xs') ∧ R := ⟨⟨a, xs, rfl, s⟩, h⟩
theorem FTmk {o : Obj} (h : o.dict = none) : HE.FT (upd H a (.frz o (.tup xs))) a xs := ⟨o, upd_same, h⟩
theorem FT.same {H' : Hp} (h : HE.FT H a xs) (s : Same H H') : HE.FT H' a xs := by
  obtain ⟨o, e, d⟩ := h
  exact ⟨o, s _ _ e, d⟩
theorem FT.sb {H' : Hp} (h : HE.FT H a xs) (s : SB b H H') (n : a ≠ b) : HE.FT H' a xs := by
  obtain ⟨o, e, d⟩ := h
  exact ⟨o, s _ _ n e, d⟩
theorem u_tupF (s : SqL K H a xs) (h : ∀ q H', Same H H' → HE.FT H' q xs → Q (.ref q) H') : HE.rTupF K [.ref a] H Q := ⟨a, xs, rfl, s, fun l o hl ho => h l _ (same_new hl _) (FTmk ho)⟩
theorem u_catF (ha : SqT K H a xs) (hb : HE.FT H b ys) (n : ys ≠ []) (l : xs.length + ys.length ≤ sizeLine) (h : ∀ q H', Same H H' → HE.FT H' q (xs ++ ys) → Q (.ref q) H') : HE.rCatF K (.ref a) (.ref b) H Q :=
  ⟨a, b, xs, ys, rfl, rfl, ha, hb.sq, l, fun e => h _ _ (Same.refl H) (by rw [e]; exact hb), fun _ e => absurd e n, fun _ _ p o hp ho => h p _ (same_new hp _) (FTmk ho)⟩
theorem u_catG (ha : HE.FT H a xs) (hb : SqT K H b ys) (n : xs ≠ []) (l : xs.length + ys.length ≤ sizeLine) (h : ∀ q H', Same H H' → HE.FT H' q (xs ++ ys) → Q (.ref q) H') : HE.rCatF K (.ref a) (.ref b) H Q :=
  ⟨a, b, xs, ys, rfl, rfl, ha.sq, hb, l, fun e => absurd e n, fun _ e => h _ _ (Same.refl H) (by rw [e, List.append_nil]; exact ha), fun _ _ p o hp ho => h p _ (same_new hp _) (FTmk ho)⟩
end Mine

/-! ### KitF -/
namespace HE
open PySem PySem.Spec PyProof.Rows L2
variable {X : Cx}
/-- repr of a bool -/
def rRepB : List V → Hp → VK → Prop := fun xs H Q => ∃ b, xs = [.bl b] ∧ Q (.str (if b then "True" else "False")) H
theorem call_repr_bool : CallR X (.builtin "repr") rRepB := by
  intro pins s σ H xs us Q I r h
  obtain ⟨b, rfl, q⟩ := h
  obtain ⟨u, rfl, ru⟩ := vals1 r
  cases ru
  exact PySem.P.repr_of_bool ⟨.str _, H, I.tok _, ⟨_, rfl⟩, q⟩
end HE
namespace Mine
open PySem PySem.Spec L2
variable {K : PySem.W.Frag} {H : Hp} {Q : VK} {a : Addr} {xs : List V}
theorem u_repB {b : Bool} (h : Q (.str (if b then "True" else "False")) H) : HE.rRepB [.bl b] H Q := ⟨b, rfl, h⟩
theorem u_ninT {x : V} (s : SqT K H a xs) (fx : flatV x = true) (fxs : xs.all flatV = true) (h : Q (.bl (!inV x xs)) H) : rNotInU K x (.ref a) H Q := .inl ⟨a, xs, rfl, .inr s, fx, fxs, h⟩
theorem u_ninL {x : V} (s : SqL K H a xs) (fx : flatV x = true) (fxs : xs.all flatV = true) (h : Q (.bl (!inV x xs)) H) : rNotInU K x (.ref a) H Q := .inl ⟨a, xs, rfl, .inl s, fx, fxs, h⟩
/-- a list comprehension over enumerate of a list, as a loop -/
theorem forEL {g : TG} {tb : TS} {n : St → Hp → Prop} {rt : VK} {σ : St} (Pv : Nat → St → Hp → Prop) (h0 : Pv 0 σ H) (hq : ∀ i σ H, i ≤ xs.length → Pv i σ H → SqL K H a xs)
    (hs : ∀ (i : Nat) (x : V) (t : Addr) (σ : St) (H : Hp), xs[i]? = some x → Pv i σ H → H t = none → g (.ref t) σ (upd H t (.tup [.int (i : Nat), x])) fun σ2 H2 => tb ⟨Pv (i + 1), rt, n, Pv (i + 1)⟩ σ2 H2) (hd : ∀ σ H, Pv xs.length σ H → n σ H) :
    ∃ W : Nat → Nat → St → Hp → Prop, (∃ m, W 0 m σ H) ∧ ∀ i m σ H, W i m σ H →
      ((Ite K a).stop i H ∧ n σ H) ∨ ((Ite K a).go i H ∧ ∃ N : St → Hp → Prop, (∀ σ' H', N σ' H' → ∃ m', m' < m ∧ W (i + 1) m' σ' H') ∧ ∀ v H', (Ite K a).yld i H v H' → g v σ H' fun σ2 H2 => tb ⟨N, rt, n, N⟩ σ2 H2) := by
  refine ⟨fun i m σ H => m = xs.length - i ∧ i ≤ xs.length ∧ Pv i σ H, ⟨xs.length, by simp, Nat.zero_le _, h0⟩, ?_⟩
  rintro i m σ H ⟨rfl, hi, pv⟩
  have sq := hq i σ H hi pv
  rcases Nat.lt_or_ge i xs.length with hl | hl
  · refine .inr ⟨⟨xs, _, sq, List.getElem?_eq_getElem hl⟩, Pv (i + 1), fun σ' H' p' => ⟨xs.length - (i + 1), by omega, rfl, hl, p'⟩, ?_⟩
    rintro v H' ⟨t, x, rfl, ht, rfl, hx⟩
    exact hs i x t σ H (hx xs sq) pv ht
  · have : i = xs.length := by omega
    subst this
    exact .inl ⟨⟨xs, sq, Nat.le_refl _⟩, hd σ H pv⟩
end Mine

/-! ### KitL -/
set_option maxHeartbeats 2000000
/-! sorted(xs, key=lambda x: x[1] - x[0]) -/
namespace HE
open PySem PySem.Spec PyProof.Rows L2 LamX
/-- x[1] - x[0] -/
def falB (a : Str) (j1 j2 : Nat) (q1 q2 q3 q4 q5 q6 q7 : Pos) : Expr := .BinOp (.Subscript (.Name a q1) (.Constant (.int 1) j1 q2) q3) .Sub (.Subscript (.Name a q4) (.Constant (.int 0) j2 q5) q6) q7
theorem at_tuple {prog : Program} {w : World} {A : Around} {E : Value → Shared → Prop} {s : Shared} {t : Addr} {its : List Value} {v : Value} {i : Int} {k : Tok} {j : Nat} {e1 e2 : Expr} {Q : Value → Shared → Prop} (pl : IsTup s.heap t its.toArray) (hi : i = (j : Int)) (hl : its.length ≤ sizeLine) (hj : its[j]? = some v) (hs : NoSl e2) (h : Q v s) :
    wpAny (model prog w) A (subscriptTail e1 e2 (.ref t) (.int i k)) Q E s := by
  subst hi
  have hn := line63
  have hjl : j < its.length := (List.getElem?_eq_some_iff.mp hj).1
  exact subscriptTail_builtinR (x := v) pl.typeIs slot_tuple_getitem.lookup
    (getItem_tuple (j := j) (Q := fun r s' => r = v ∧ Q r s') pl (by omega) (by omega) (by rw [List.size_toArray]; exact seqIndex_of (by omega) (by omega)) (by simpa using hj) ⟨rfl, h⟩) (hs _ _)
/-- one call of the key -/
theorem key_turn {prog : Program} {w : World} {A : Around} {s : Shared} {f c' t : Addr} {qual a : Str} {params : Arguments} {scope : Scope} {pm ctv : Value} {its : List Value} {u0 u1 : Int} {t0 t1 : Tok} {j1 j2 : Nat} {q1 q2 q3 q4 q5 q6 q7 : Pos}
    (hroom : A.depth < recursionLimit) (of : s.heap.get? f = some (PySem.W.kla_obj "<lambda>" qual params (falB a j1 j2 q1 q2 q3 q4 q5 q6 q7) scope [] pm c' ctv)) (hcd : s.heap.CodeRec (.ref c') qual) (hlim : s.heap.NoLimit)
    (hbind : ∀ v, bindArgs (PySem.W.kla_fn "<lambda>" qual params (falB a j1 j2 q1 q2 q3 q4 q5 q6 q7) scope [] pm (.ref c') ctv) ⟨[v], []⟩ = pure [(a, v)])
    (hk : scope.kind = .function) (hco : scope.isCoroutine = false) (hgen : scope.isGenerator = false) (hn : scope.names = [(a, .local)]) (hda : (a == ("__debug__" : Str)) = false)
    (ht : IsTup s.heap t its.toArray) (hl : its.length ≤ sizeLine) (e0 : its[0]? = some (.int u0 t0)) (e1 : its[1]? = some (.int u1 t1)) :
    wpAny (model prog w) A (call (.ref f) [.ref t]) (PySem.W.KeyPure (.int (u1 - u0)) s) (fun _ _ => False) s := by
  refine wpAny_call ?_
  refine PySem.W.kla_callFunE hroom of rfl hco hgen rfl hcd ?_
  rw [hbind]
  have look : scope.names.lookup a = some .local := by rw [hn]; simp
  refine wpAny_pure (wpAny_newFunctionEnv (fun y hy => by rw [hn] at hy; simp at hy; rw [hy]; exact nofun) (fun y hy => by simp at hy; rw [hy]; exact look) (fun h₁ hns hsb => ⟨hlim.fresh _ hsb, ?_⟩) hk)
  have kp : ∀ b o, s.heap.get? b = some o → h₁.get? b = some o := fun b o e => hsb.extBut b o (Nat.ne_of_lt (Heap.lt_size e)) (Heap.get?_push_of_some _ e)
  have ht1 : IsTup h₁ t its.toArray := by
    obtain ⟨o, h1, h2⟩ := ht
    exact ⟨o, kp _ _ h1, h2⟩
  refine PySem.W.kla_codeExpr ?_
  refine wpAny_BinOp (Subscript_ (wpAny_Name (wpAny_loadName_local (v := .ref t) hk look hns (by simp) (wpAny_Constant_int ?_)) hda))
  refine at_tuple (j := 1) ht1 rfl hl e1 (fun _ _ => rfl) ?_
  refine Subscript_ (wpAny_Name (wpAny_loadName_local (v := .ref t) hk look hns (by simp) (wpAny_Constant_int ?_)) hda)
  refine at_tuple (j := 0) ht1 rfl hl e0 (fun _ _ => rfl) ?_
  refine sub_int ?_
  exact ⟨h₁, _, rfl, kp, .int _ _⟩
/-- segments and their keys -/
def SegK (K : PySem.W.Frag) (H : Hp) (xs : List V) (ks : List Int) : Prop := xs.length = ks.length ∧ ∀ (i : Nat) (v : V), xs[i]? = some v → ∃ (t : Addr) (u0 u1 : Int) (r : List V), v = .ref t ∧ SqT K H t (.int u0 :: .int u1 :: r) ∧ ks[i]? = some (u1 - u0)
theorem SegK.ext {K : PySem.W.Frag} {H H' : Hp} {xs : List V} {ks : List Int} (h : SegK K H xs ks) (e : ∀ a ys, SqT K H a ys → SqT K H' a ys) : SegK K H' xs ks := ⟨h.1, fun i v hv => by
  obtain ⟨t, u0, u1, r, h1, h2, h3⟩ := h.2 i v hv
  exact ⟨t, u0, u1, r, h1, e _ _ h2, h3⟩⟩
theorem ExtN.sqT {K : PySem.W.Frag} {H H' : Hp} {a : Addr} {xs : List V} (e : ExtN H H') (h : SqT K H a xs) : SqT K H' a xs := by
  rcases h with (h | ⟨o, h⟩) | h
  · exact .inl (.inl (e _ _ h (fun ps z => by cases z)))
  · exact .inl (.inr ⟨o, e _ _ h (fun ps z => by cases z)⟩)
  · exact .inr h
theorem ExtN.sqL {K : PySem.W.Frag} {H H' : Hp} {a : Addr} {xs : List V} (e : ExtN H H') (h : SqL K H a xs) : SqL K H' a xs := by
  rcases h with (h | ⟨o, h⟩) | h
  · exact .inl (.inl (e _ _ h (fun ps z => by cases z)))
  · exact .inl (.inr ⟨o, e _ _ h (fun ps z => by cases z)⟩)
  · exact .inr h
theorem each_zip {xs : List V} {its : List Value} (r : Vals xs its) : ∀ {ks : List Int}, xs.length = ks.length → PySem.W.EachIs (fun u (p : V × Int) => RelV p.1 u) its (xs.zip ks) := by
  induction r with
  | nil => intro ks _; exact .nil
  | cons h t ih =>
    intro ks hl
    cases ks with
    | nil => simp at hl
    | cons k ks => exact .cons h (ih (by simpa using hl))
theorem each_vals {out : List Value} {bs : List (V × Int)} (e : PySem.W.EachIs (fun u (p : V × Int) => RelV p.1 u) out bs) : Vals (bs.map (·.1)) out := by
  induction e with
  | nil => exact .nil
  | cons h t ih => exact .cons h ih
/-- sorted by the key, stably -/
def byFall (xs : List V) (ks : List Int) : List V := ((xs.zip ks).mergeSort fun a b => decide (a.2 ≤ b.2)).map (·.1)
def tSortF (T : List (Addr × Str)) (K : PySem.W.Frag) (te : TE) : TE := fun σ H Q => te σ H fun x H1 => Tabs T H1 ∧ ∃ (p : Addr) (xs : List V) (ks : List Int), x = .ref p ∧ SqL K H1 p xs ∧ SegK K H1 xs ks ∧ ∀ (H2 : Hp) (D : Addr), ExtN H1 H2 → Tabs T H2 → H2 D = none → Q (.ref D) (upd H2 D (.lst (byFall xs ks)))
theorem pe_sortF {X : Cx} {T : List (Addr × Str)} {c P : Addr} {a : Str} {e : Expr} {te : TE} {params : Arguments} {scope : Scope} {j1 j2 : Nat} {p lpos kpos pos q1 q2 q3 q4 q5 q6 q7 : Pos}
    (hg : Gl X "sorted") (hm : X.mg "sorted" = none) (ha : PE X e te) (TB : TabB X.base X.mg c P) (hcode : X.env.code = .ref c) (hmT : (P, X.env.qual ++ "<lambda>") ∈ T) (hu : ∀ p ∈ T, p.1 = P → p.2 = X.env.qual ++ "<lambda>")
    (hroom : X.A.depth < recursionLimit) (hunits : X.A.units + 200 < cLine) (hdef : defaultsOf params X.env = ([], [])) (hclo : cloFrom X.env.cells scope.names [] = [])
    (hfree : ∀ y ∈ scope.names, y.2 = .free → ∃ c, X.env.cells.lookup y.1 = some c)
    (hbind : ∀ (q : Str) (pm cv ctv : Value) (v : Value), bindArgs (PySem.W.kla_fn "<lambda>" q params (falB a j1 j2 q1 q2 q3 q4 q5 q6 q7) scope [] pm cv ctv) ⟨[v], []⟩ = pure [(a, v)])
    (hk : scope.kind = .function) (hco : scope.isCoroutine = false) (hgen : scope.isGenerator = false) (hn : scope.names = [(a, .local)]) (hda : (a == ("__debug__" : Str)) = false)
    (he2 : starEach [e] X.env = (false, eval e X.env) :: starEach [] X.env := by rfl) (he : backTo pos (starEach [e] X.env) = (false, eval e X.env) :: backTo pos (starEach [] X.env) := by rfl) (hpl : (backTo pos (starEach [e] X.env)).any (·.1) = false := by rfl)
    (hall : (backToKw pos (keywordEach [⟨some "key", .Lambda params (falB a j1 j2 q1 q2 q3 q4 q5 q6 q7) scope lpos, kpos⟩] X.env)).all (·.1.isSome) = true := by rfl) (hnone : (backToKw pos (keywordEach [⟨some "key", .Lambda params (falB a j1 j2 q1 q2 q3 q4 q5 q6 q7) scope lpos, kpos⟩] X.env)).any (·.1.isNone) = false := by rfl) (hks : (backToKw pos (keywordEach [⟨some "key", .Lambda params (falB a j1 j2 q1 q2 q3 q4 q5 q6 q7) scope lpos, kpos⟩] X.env)).filterMap (·.1) = [Str.ofString "key"] := by rfl) :
    PE X (.Call (.Name "sorted" p) [e] [⟨some "key", .Lambda params (falB a j1 j2 q1 q2 q3 q4 q5 q6 q7) scope lpos, kpos⟩] pos) (tSortF T X.K te) := by
  refine ⟨fun pins s σ H Q I h => ?_⟩
  refine wpAny_Call_Name_kw (ld_blt I hg hm (by rfl) ?_)
  refine PyProof.Rows.callWith_kw (thn ((pa_cons (hs := he2) ha pa_nil).run pos pins s σ H (fun vs H1 => match vs with
    | [x] => Tabs T H1 ∧ ∃ (p : Addr) (xs : List V) (ks : List Int), x = .ref p ∧ SqL X.K H1 p xs ∧ SegK X.K H1 xs ks ∧ ∀ (H2 : Hp) (D : Addr), ExtN H1 H2 → Tabs T H2 → H2 D = none → Q (.ref D) (upd H2 D (.lst (byFall xs ks)))
    | _ => False) I h) fun us s1 ⟨vs, H1, I1, r1, q1⟩ => ?_) he hpl hall hnone
  rw [hks]
  obtain ⟨x, rfl⟩ : ∃ x, vs = [x] := by
    match vs, q1 with
    | [x], _ => exact ⟨x, rfl⟩
  obtain ⟨hT, l, xs, ks, rfl, hx, hs, q⟩ := q1
  obtain ⟨u, rfl, ru⟩ := vals1 r1
  cases ru
  show wpAny _ _ (evalAll ((do let v ← eval (.Lambda params (falB a j1 j2 q1 q2 q3 q4 q5 q6 q7) scope lpos) X.env; standAt pos; pure v) :: [])) _ _ s1
  refine wpAny_evalAll_cons (wpAny_bind (lam_make2 I1 TB hcode hmT hu hT hdef hfree fun f c' pm ctv H2 s2 I2 eN T2 hf hfn hfr hco2 => wpAny_bind (wpAny_standAt (wpAny_pure (wpAny_evalAll_nil ?_)))))
  rw [hclo] at hf
  have hx2 : SqL X.K H2 l xs := ExtN.sqL eN hx
  have hs2 : SegK X.K H2 xs ks := hs.ext fun a ys => ExtN.sqT eN
  obtain ⟨its, rv, pl, hz⟩ := I2.list hx2
  obtain ⟨⟨oc, vs, tk0, hoc, hdc, hvc⟩, _, _⟩ := I2.hok c' _ hco2
  have hl := rv.length
  have eZ := each_zip rv hs2.1
  have lb : (xs.zip ks).length = xs.length := by rw [List.length_zip, hs2.1, Nat.min_self]
  have hkey : ∀ p ∈ xs.zip ks, ∃ (t : Addr) (u0 u1 : Int) (r : List V), p.1 = .ref t ∧ SqT X.K H2 t (.int u0 :: .int u1 :: r) ∧ p.2 = u1 - u0 := fun p hp => by
    obtain ⟨i, hi⟩ := List.getElem?_of_mem hp
    rw [List.getElem?_zip_eq_some] at hi
    obtain ⟨t, u0, u1, r, h1, h2, h3⟩ := hs2.2 i p.1 hi.1
    rw [hi.2, Option.some.injEq] at h3
    exact ⟨t, u0, u1, r, h1, h2, h3⟩
  refine PySem.W.sorted_key_data (vs := its) (bs := xs.zip ks) (R := fun u (p : V × Int) => RelV p.1 u) (fun p => PyData.int p.2) pl.isList eZ (fun d hd d' hd' => ?_) (.inr fun d hd => ?_) (by rw [lb]; exact hz) (fun p _ => ?_) (ksk_s1 _ _) (fun x => ksk_l1 _ _) (fun x => ksk_t1 _ _) (fun v p hR hp h tk kp => ?_) (fun out cc h' tk kp fresh hD lo eo => ?_)
  · obtain ⟨p, _, rfl⟩ := List.mem_map.mp hd
    obtain ⟨p', _, rfl⟩ := List.mem_map.mp hd'
    simp [PySem.W.alike]
  · obtain ⟨p, _, rfl⟩ := List.mem_map.mp hd
    exact ⟨nofun, fun _ => nofun⟩
  · simp only [PyData.depth]
    omega
  · obtain ⟨t, u0, u1, r, h1, h2, h3⟩ := hkey p hp
    rw [h1] at hR
    cases hR
    obtain ⟨its2, rv2, pt, hz2⟩ := I2.tuple h2
    obtain ⟨w0, z0, k0⟩ := rv2.get (i := 0) (x := .int u0) rfl
    obtain ⟨w1, z1, k1⟩ := rv2.get (i := 1) (x := .int u1) rfl
    obtain ⟨t0, rfl⟩ := k0
    obtain ⟨t1, rfl⟩ := k1
    rw [h3]
    refine key_turn (s := { s2 with heap := h, toks := tk }) hroom (kp _ _ hf) ⟨c', oc, vs, tk0, rfl, kp _ _ hoc, hdc, hvc⟩ (I2.nolimit.keeps kp) (fun v => hbind _ _ _ _ v) hk hco hgen hn hda ?_ (by rw [← rv2.length]; exact hz2) z0 z1
    obtain ⟨o, o1, o2⟩ := pt
    exact ⟨o, kp _ _ o1, o2⟩
  · rw [PySem.W.dataLe_int] at eo
    have vo := each_vals eo
    have lout : ((((xs.zip ks).mergeSort fun a b => decide (a.2 ≤ b.2)).map (·.1))).length = xs.length := by rw [List.length_map, List.length_mergeSort, lb]
    refine ⟨.ref (s2.heap.objs.size + 1), _, I2.laid (t' := tk) (a := s2.heap.objs.size + 1) (o := .lst (byFall xs ks)) kp (Nat.le_succ _) ?_, rfl, q H2 _ eN T2 (I2.hok.fresh (Nat.le_succ _))⟩
    exact ⟨by unfold byFall; rw [lout]; exact hz, out, cc, vo, hD⟩
end HE
namespace HE
open PySem PySem.Spec PyProof.Rows L2
/-! sorted(xs) of plain things -/
theorem each_zipD {xs : List V} {its : List Value} (r : Vals xs its) : ∀ {ds : List PyData}, xs.length = ds.length → PySem.W.EachIs (fun u (p : V × PyData) => RelV p.1 u) its (xs.zip ds) := by
  induction r with
  | nil => intro ks _; exact .nil
  | cons h t ih =>
    intro ks hl
    cases ks with
    | nil => simp at hl
    | cons k ks => exact .cons h (ih (by simpa using hl))
theorem each_valsD {out : List Value} {bs : List (V × PyData)} (e : PySem.W.EachIs (fun u (p : V × PyData) => RelV p.1 u) out bs) : Vals (bs.map (·.1)) out := by
  induction e with
  | nil => exact .nil
  | cons h t ih => exact .cons h ih
theorem each_reads {X : Cx} {pins : List (Addr × Obj)} {σ : L2.St} {H : Hp} {s : Shared} (I : Inv X pins σ H s) {xs : List V} {its : List Value} (r : Vals xs its) : ∀ {ds : List PyData}, DpAll X.K H xs ds → PySem.W.EachIs (fun u (p : V × PyData) => ∃ as, Reads s.heap u p.2 as) its (xs.zip ds) := by
  induction r with
  | nil => intro ds h; cases h; exact .nil
  | cons h t ih =>
    intro ds hd
    cases hd with
    | cons d1 d2 => exact .cons (Dp.reads I _ _ _ d1 h) (ih d2)
def byData (xs : List V) (ds : List PyData) : List V := ((xs.zip ds).mergeSort (PySem.W.dataLe false fun p => p.2)).map (·.1)
def rSortD (K : PySem.W.Frag) : List V → Hp → VK → Prop := fun vs H Q => ∃ (a : Addr) (xs : List V) (ds : List PyData), vs = [.ref a] ∧ SqL K H a xs ∧ DpAll K H xs ds ∧ xs.length = ds.length ∧ PySem.W.AllAlike ds ∧ PySem.W.Sortable ds ∧ (∀ d ∈ ds, d.depth ≤ 60) ∧ ∀ D, H D = none → Q (.ref D) (upd H D (.lst (byData xs ds)))
theorem cr_sortD {X : Cx} (hu : X.A.units + 200 < cLine) : CallR X (.builtin "sorted") (rSortD X.K) := by
  intro pins s σ H vs us Q I r h
  obtain ⟨a, xs, ds, rfl, hs, hd, hlen, hal, hso, hdp, q⟩ := h
  obtain ⟨u, rfl, ru⟩ := vals1 r
  cases ru
  obtain ⟨its, rv, pl, hz⟩ := I.list hs
  have lb : (xs.zip ds).length = xs.length := by rw [List.length_zip, hlen, Nat.min_self]
  have em : (xs.zip ds).map (fun p => p.2) = ds := by rw [List.map_snd_zip]; omega
  refine PySem.W.sorted_data (vs := its) (bs := xs.zip ds) (R := fun u (p : V × PyData) => RelV p.1 u) (enc := fun p => p.2) pl.isList (each_zipD rv hlen) (each_reads I rv hd) (by rw [em]; exact hal) (by rw [em]; exact hso) (by rw [lb]; exact hz) (fun p hp => ?_) fun out lo eo => ?_
  · have : p.2 ∈ ds := by rw [← em]; exact List.mem_map_of_mem hp
    have := hdp _ this
    omega
  · obtain ⟨ep, he'⟩ := PyProof.Rows.sortedAll_at s.heap its (List.toArray out)
    have lout : (byData xs ds).length = xs.length := by unfold byData; rw [List.length_map, List.length_mergeSort, lb]
    refine ⟨.ref _, upd H (s.heap.objs.size + 1) (.lst (byData xs ds)), I.laid (t' := s.toks) (fun _ _ => PyProof.Rows.sortedAll_old) (Nat.le_succ _) ⟨by rw [lout]; exact hz, out, ep, each_valsD eo, by simpa using he'⟩, rfl, q _ (I.hok.fresh (Nat.le_succ _))⟩
end HE
namespace Mine
open PySem PySem.Spec PyProof.Rows L2
variable {P : Program} {w : World} {K : PySem.W.Frag} {mg : Str → Option Value} {base : Heap}
/-- a def whose code object's address is known -/
def OwnC (K : PySem.W.Frag) (mg : Str → Option Value) (x : Str) (st : Stmt) (c : Addr) : Prop := ∃ (f : Addr) (oc : Value) (od : Option Addr) (kV doc pm : Value) (an : Option Addr) (ct : Value) (osl : Array (Option Value)),
  K.lookup f = some ⟨oc, od, .func (PySem.W.fnOf x x (defArgs st) (defBody st) (defScope st) .none kV doc pm an (.ref c) ct), osl⟩ ∧ PySem.W.codeIn K (.ref c) x = true ∧ PySem.W.keepIn K (.ref f) = true ∧ mg x = some (.ref f)
theorem has0C {x : Str} {st : Stmt} {N ps : List Str} {k : Nat} {sp : Sp} {c : Addr} (O : OwnC K mg x st c) (S : FnScope N ps (defScope st))
    (hb : ∀ (kV doc pm : Value) (an : Option Addr) (cdv ct : Value) (us : List Value), us.length = ps.length → bindArgs (PySem.W.fnOf x x (defArgs st) (defBody st) (defScope st) .none kV doc pm an cdv ct) ⟨us, []⟩ = pure (ps.zip us))
    (len : ∀ vs H Q E, sp vs H Q E → vs.length = ps.length)
    (body : ∀ (f : Addr) (A : Around) (outer : List Env) (s : Shared) (H : Hp) (vs : List V) (Q : VK) (E : XK), Room k (A.deeper (PyProof.Rows.envOfC x (defScope st) s.heap.objs.size f (.ref c))) → sp vs H Q E →
      ∃ t, PSs (cxOf CX0 P w K mg base N x (defScope st) f (.ref c) A outer s H E).nox (defBody st) t ∧ t { nx := fun _ H' => Q .non H', rt := Q } (start N vs) H) :
    HasF P w K mg base CX0 (k + 1) x ps sp := by
  obtain ⟨f, oc, od, kV, doc, pm, an, ct, osl, lk, hcd, kp, m⟩ := O
  have F : Fun K x x st f (PySem.W.fnOf x x (defArgs st) (defBody st) (defScope st) .none kV doc pm an (.ref c) ct) := fun_mk lk hcd kp
  refine ⟨f, _, ?_, m, kp, F.binds hb⟩
  refine fn_of lk hcd S len fun A outer s H vs Q E hr hsp => ?_
  obtain ⟨t, h, q⟩ := body f A outer s H vs Q E hr hsp
  exact ⟨t, h.nox, q⟩
end Mine

/-! ### R00 -/
namespace Mine
open PySem PySem.Spec L2
def top (i : Nat) : Stmt := PySem.Challenge.pw_hillrooms_k14_rows_woven.main.body.getD i (.Pass ⟨0, 0, 0, 0⟩)
/-- no global stands before these built-ins -/
structure Bl (mg : Str → Option Value) : Prop where
  all : mg "all" = none
  enumerate : mg "enumerate" = none
  sorted : mg "sorted" = none
  zip : mg "zip" = none
  bool : mg "bool" = none
  int : mg "int" = none
  isinstance : mg "isinstance" = none
  len : mg "len" = none
  max : mg "max" = none
  min : mg "min" = none
  range : mg "range" = none
  str : mg "str" = none
  tuple : mg "tuple" = none
/-- the source of draws: two numbers -/
def Src (H : Hp) (a : Addr) : Prop := ∃ b s : Int, H a = some (.lst [.int b, .int s]) ∧ 0 ≤ b ∧ 0 ≤ s ∧ s < 2147483647
theorem Src.ext {K : PySem.W.Frag} {H H' : Hp} {a : Addr} (h : Src H a) (s : SB a H H') : Ext K H H' := by
  obtain ⟨b, t, e, _⟩ := h
  exact Ext.of_SB s e trivial
theorem Src.ne {H : Hp} {a p : Addr} (h : Src H a) (hp : H p = none) : p ≠ a := by
  obtain ⟨b, t, e, _⟩ := h
  intro z
  rw [z, e] at hp
  cases hp
theorem Src.new {H : Hp} {a p : Addr} {o : HO} (h : Src H a) (hp : H p = none) : Src (upd H p o) a := by
  have n := h.ne hp
  obtain ⟨b, t, e, x⟩ := h
  exact ⟨b, t, by rw [upd_ne n.symm]; exact e, x⟩
theorem Src.set {H : Hp} {a p : Addr} {o : HO} (h : Src H a) (n : p ≠ a) : Src (upd H p o) a := by
  obtain ⟨b, t, e, x⟩ := h
  exact ⟨b, t, by rw [upd_ne n.symm]; exact e, x⟩
theorem Src.same {H H' : Hp} {a : Addr} (h : Src H a) (s : Same H H') : Src H' a := by
  obtain ⟨b, t, e, x⟩ := h
  exact ⟨b, t, s _ _ e, x⟩
/-- one draw -/
def spTake : Sp := fun vs H Q _ => ∃ (a : Addr) (t : Int), vs = [.ref a, .int t] ∧ Src H a ∧ 0 < t ∧ t < 1073741824 ∧
  ∀ (H' : Hp) (r : Int), SB a H H' → Src H' a → 0 ≤ r → r < t → Q (.int r) H'
theorem use_take {a : Addr} {t : Int} {H : Hp} {Q : VK} {E : XK} (h : Src H a) (h1 : 0 < t) (h2 : t < 1073741824) (q : ∀ (H' : Hp) (r : Int), SB a H H' → Src H' a → 0 ≤ r → r < t → Q (.int r) H') :
    spTake [.ref a, .int t] H Q E := ⟨a, t, rfl, h, h1, h2, q⟩
/-- one of a list -/
def spOne (K : PySem.W.Frag) : Sp := fun vs H Q _ => ∃ (a p : Addr) (xs : List V), vs = [.ref a, .ref p] ∧ Src H a ∧ SqL K H p xs ∧ p ≠ a ∧ 0 < xs.length ∧ xs.length < 1000 ∧
  ∀ (H' : Hp) (v : V), SB a H H' → Src H' a → v ∈ xs → Q v H'
theorem use_one {K : PySem.W.Frag} {a p : Addr} {xs : List V} {H : Hp} {Q : VK} {E : XK} (h : Src H a) (s : SqL K H p xs) (n : p ≠ a) (h1 : 0 < xs.length) (h2 : xs.length < 1000) (q : ∀ (H' : Hp) (v : V), SB a H H' → Src H' a → v ∈ xs → Q v H') :
    spOne K [.ref a, .ref p] H Q E := ⟨a, p, xs, rfl, h, s, n, h1, h2, q⟩
theorem SB.seqL {K : PySem.W.Frag} {a p : Addr} {H H' : Hp} {xs : List V} (s : SB a H H') (n : p ≠ a) (h : SqL K H p xs) : SqL K H' p xs := by
  rcases h with (h | ⟨o, h⟩) | h
  · exact .inl (.inl (s _ _ n h))
  · exact .inl (.inr ⟨o, s _ _ n h⟩)
  · exact .inr h
theorem at_in {xs : List V} {i : Int} (h0 : 0 ≤ i) (h1 : i < (xs.length : Int)) : ∃ v, atI xs i = some v ∧ v ∈ xs := by
  have hk : i.toNat < xs.length := by omega
  have e : i = ((i.toNat : Nat) : Int) := by omega
  have q : atI xs ((i.toNat : Nat) : Int) = some xs[i.toNat] := atI_nat (List.getElem?_eq_getElem hk)
  rw [← e] at q
  exact ⟨xs[i.toNat], q, List.getElem_mem hk⟩
theorem Same.upd_new {H H' : Hp} {D : Addr} {o : HO} (s : Same H H') (hD : H D = none) : Same H (upd H' D o) := fun b u h => by
  rw [upd_ne (ne_of_none h hD)]; exact s b u h
theorem at_ints {ns : List Int} {i : Int} (h0 : 0 ≤ i) (h1 : i < (ns.length : Int)) : ∃ n : Int, atI (ns.map V.int) i = some (.int n) := by
  obtain ⟨v, e, m⟩ := at_in (xs := ns.map V.int) h0 (by rw [List.length_map]; exact h1)
  obtain ⟨n, _, rfl⟩ := List.mem_map.mp m
  exact ⟨n, e⟩
theorem ll {n : Nat} (h : n ≤ 1000000) : n ≤ sizeLine := Nat.le_trans h (by decide)
theorem lk {n : Nat} (h : Nat.ble n 1000000 = true) : n ≤ sizeLine := ll (Nat.le_of_ble_eq_true h)
theorem ls {n : Nat} (h : n ≤ 1000000) : n < sizeLine := Nat.lt_of_le_of_lt h (by decide)
theorem cm {p : Bool} : -(2 ^ 64) < (if p then (1 : Int) else 0) ∧ (if p then (1 : Int) else 0) < 2 ^ 64 := by cases p <;> decide
theorem isE {ns : List Int} (h : (!(ns.map V.int).isEmpty) = true) : 0 < ns.length := by
  cases ns with
  | nil => cases h
  | cons a r => exact Nat.succ_pos _
end Mine

/-! ### M0 -/
namespace Mine
open PySem PySem.Spec L2
abbrev Letters : Str := "abcdefghijklmnopqrstuvwxyz"
/-! ## what the program tells of data -/
def isNum : PyData → Bool
  | .int _ => true
  | _ => false
def isBtw (d : PyData) (lo hi : Int) : Bool := match d with
  | .int i => decide (lo ≤ i) && decide (i ≤ hi)
  | _ => false
def lowAll (l : List Nat) : Bool := l.all fun c => decide (c ∈ Letters.cps.toList)
def isWord : PyData → Bool
  | .str z => decide ((1 : Int) ≤ z.length) && decide ((z.length : Int) ≤ 8) && lowAll z.cps.toList
  | _ => false
def rowNums (ds : List PyData) : Bool := ds.all fun d => isBtw d 0 1000002
def tellsRow (ds : List PyData) : Bool := decide ((1 : Int) ≤ ds.length) && decide ((ds.length : Int) ≤ 64) && rowNums ds
def tellsInput : List PyData → Bool
  | [a, b] => isWord a && isBtw b 1 64
  | _ => false
def tellsStretch : List PyData → Bool
  | [a, .int j] => isBtw (.int j) 0 64 && isBtw a 0 (j - 1)
  | _ => false
def tellsTimes : List PyData → Bool
  | [a] => isBtw a 1 16
  | _ => false
def tellsRoom : List PyData → Bool
  | [a] => isBtw a 0 64
  | _ => false
theorem dats_get : ∀ {ds : List PyData} {i : Nat} {d : PyData}, dats ds → ds[i]? = some d → dat d
  | [], _, _, _, e => by simp at e
  | a :: r, 0, d, h, e => by
    have q : a = d := by simpa using e
    rw [← q]; exact h.1
  | a :: r, i + 1, d, h, e => dats_get (ds := r) (i := i) h.2 (by simpa using e)
theorem dats_append : ∀ {a b : List PyData}, dats a → dats b → dats (a ++ b)
  | [], _, _, h => h
  | x :: r, b, h, k => ⟨h.1, dats_append h.2 k⟩
theorem dats_reverse : ∀ {a : List PyData}, dats a → dats a.reverse
  | [], _ => trivial
  | x :: r, h => by rw [List.reverse_cons]; exact dats_append (dats_reverse h.2) ⟨h.1, trivial⟩
theorem dats_dropLast : ∀ {a : List PyData}, dats a → dats a.dropLast
  | [], _ => trivial
  | [x], _ => trivial
  | x :: y :: r, h => ⟨h.1, dats_dropLast h.2⟩
theorem dats_mem : ∀ {ds : List PyData} {d : PyData}, dats ds → d ∈ ds → dat d
  | a :: r, d, h, m => by
    rcases List.mem_cons.mp m with rfl | m
    · exact h.1
    · exact dats_mem h.2 m
theorem app_list (x y : Str) : (x ++ y).cps.toList = x.cps.toList ++ y.cps.toList := by
  show (x.cps ++ y.cps).toList = _
  simp
theorem len_list (x : Str) : x.length = x.cps.toList.length := by
  show x.cps.size = _
  simp
/-- two numbers that end the range are tuples of two by turns -/
theorem all_map {α : Type} (f : α → Bool) (l : List α) : (l.map f).all id = l.all f := by
  induction l with
  | nil => rfl
  | cons a r ih => rw [List.map_cons, List.all_cons, List.all_cons, ih] <;> rfl
end Mine

/-! ### M3b -/
namespace Mine
open PySem PySem.Spec L2
theorem SB.upd_new {a : Addr} {H H' : Hp} {D : Addr} {o : HO} (s : SB a H H') (hD : H D = none) : SB a H (L2.upd H' D o) := fun b u n h => by
  rw [upd_ne (ne_of_none h hD)]; exact s b u n h
theorem okS_of {z : Str} (h1 : z.length ≤ 1000) (h2 : PyData.strOk z = true) : okS z := ⟨h1, by simp only [PyData.canLay0]; exact h2⟩
/-- v is plain data of a depth of at most n -/
def Dt (K : PySem.W.Frag) (n : Nat) (H : Hp) (v : V) : Prop := ∃ d, Rp K H v d ∧ dat d ∧ d.depth ≤ n
section
variable {K : PySem.W.Frag} {n m : Nat} {H H' : Hp} {v : V} {xs ys : List V} {p a : Addr} {d : PyData}
theorem Dt.mono (h : Dt K n H v) (e : Ext K H H') : Dt K n H' v := by
  obtain ⟨d, r, x, y⟩ := h
  exact ⟨d, r.mono e _ _, x, y⟩
theorem Dt.le (h : Dt K n H v) (e : n ≤ m) : Dt K m H v := by
  obtain ⟨d, r, x, y⟩ := h
  exact ⟨d, r, x, Nat.le_trans y e⟩
theorem Dt.int (i : Int) : Dt K n H (.int i) := ⟨.int i, .int i, by simp only [dat], by simp [PyData.depth]⟩
theorem Dt.non : Dt K n H .non := ⟨.none, .non, by simp only [dat], by simp [PyData.depth]⟩
theorem Dt.str {z : Str} (h : okS z) : Dt K n H (.str z) := ⟨.str z, .str z, by simpa only [dat] using h, by simp [PyData.depth]⟩
theorem Dt.all (h : ∀ x ∈ xs, Dt K n H x) : ∃ ds, Rps K H xs ds ∧ dats ds ∧ PyData.depthAll ds ≤ n ∧ ds.length = xs.length := by
  induction xs with
  | nil => exact ⟨[], .nil, trivial, by simp [PyData.depthAll], rfl⟩
  | cons x r ih =>
    obtain ⟨ds, a, b, c, e⟩ := ih (fun y hy => h y (List.mem_cons_of_mem _ hy))
    obtain ⟨d, a1, b1, c1⟩ := h x List.mem_cons_self
    exact ⟨d :: ds, .cons a1 a, ⟨b1, b⟩, by simp only [PyData.depthAll]; omega, by simp [e]⟩
theorem Dt.tup (h : ∀ x ∈ xs, Dt K n H x) (l : xs.length ≤ 1000) (s : SqT K H p xs) : Dt K (n + 1) H (.ref p) := by
  obtain ⟨ds, a, b, c, e⟩ := Dt.all h
  exact ⟨.tuple ds, .tup s a, by simp only [dat]; exact ⟨by omega, b⟩, by simp only [PyData.depth]; omega⟩
/-- the parts of a tuple -/
theorem Dt.parts {K : PySem.W.Frag} {n : Nat} {H : Hp} : ∀ {xs : List V} {ds : List PyData}, Rps K H xs ds → dats ds → PyData.depthAll ds ≤ n → ∀ x ∈ xs, Dt K n H x
  | _, _, .nil, _, _ => fun _ z => nomatch z
  | _, _, .cons (v := v) (d := d) (ds := ds) h1 h2, h, l => by
    simp only [PyData.depthAll] at l
    intro x hx
    rcases List.mem_cons.mp hx with rfl | hx
    · exact ⟨d, h1, h.1, by omega⟩
    · exact Dt.parts h2 h.2 (by omega) x hx
/-! ## what has been laid: a stack of values -/
def atomB : V → Bool
  | .int _ => true
  | .non => true
  | .str z => decide (z.length ≤ 1000) && PyData.strOk z
  | _ => false
theorem atom_dt (h : atomB v = true) : Dt K n H v := by
  cases v with
  | int i => exact .int i
  | non => exact .non
  | str z =>
    have q : (decide (z.length ≤ 1000) && PyData.strOk z) = true := h
    have q' := Bool.and_eq_true_iff.mp q
    exact .str (okS_of (of_decide_eq_true q'.1) q'.2)
  | _ => cases h
structure Lay (K : PySem.W.Frag) (a : Addr) (H0 : Hp) (n : Nat) (L : List V) (H : Hp) : Prop where
  sb : SB a H0 H
  src : Src H a
  dt : ∀ x ∈ L, Dt K n H x
theorem Lay.start (h : Src H a) : Lay K a H 0 [] H := ⟨SB.refl, h, fun _ z => nomatch z⟩
theorem Lay.tup {H0 : Hp} {L : List V} (h : Lay K a H0 n L H) (hp : H p = none) (l : xs.length ≤ 1000) (hx : ∀ x ∈ xs, x ∈ L ∨ atomB x = true) : Lay K a H0 (n + 1) (.ref p :: L) (upd H p (.tup xs)) := by
  have e : Ext K H (upd H p (.tup xs)) := Ext.new hp
  refine ⟨h.sb.new hp, h.src.new hp, fun x hm => ?_⟩
  rcases List.mem_cons.mp hm with rfl | hm
  · refine Dt.tup (xs := xs) (fun y hy => ?_) l (SqT.of upd_same)
    rcases hx y hy with q | q
    · exact (h.dt y q).mono e
    · exact atom_dt q
  · exact ((h.dt x hm).mono e).le (Nat.le_succ _)
theorem Lay.ext {H0 : Hp} {L : List V} (h : Lay K a H0 n L H) (s : Src H0 a) : Ext K H0 H := s.ext h.sb
theorem Lay.lst {H0 : Hp} {L : List V} (h : Lay K a H0 n L H) (hp : H p = none) : Lay K a H0 n L (upd H p (.lst xs)) := by
  have e : Ext K H (upd H p (.lst xs)) := Ext.new hp
  exact ⟨h.sb.new hp, h.src.new hp, fun x hm => (h.dt x hm).mono e⟩
theorem Lay.sbx {H0 : Hp} {L : List V} (h : Lay K a H0 n L H) (s : SB a H H') (hs : Src H' a) : Lay K a H0 n L H' := ⟨h.sb.trans s, hs, fun x hm => (h.dt x hm).mono (h.src.ext s)⟩
theorem Lay.push {H0 : Hp} {L : List V} (h : Lay K a H0 n L H) (d : Dt K m H v) (l : n ≤ m) : Lay K a H0 m (v :: L) H := ⟨h.sb, h.src, fun x hm => by
  rcases List.mem_cons.mp hm with rfl | hm
  · exact d
  · exact (h.dt x hm).le l⟩
theorem Lay.any {H0 : Hp} {L : List V} (h : Lay K a H0 n L H) (hx : ∀ x ∈ xs, x ∈ L ∨ atomB x = true) : ∀ x ∈ xs, Dt K n H x := fun y hy => by
  rcases hx y hy with q | q
  · exact h.dt y q
  · exact atom_dt q
theorem al0 {L : List V} : ∀ x ∈ ([] : List V), x ∈ L ∨ atomB x = true := fun _ z => nomatch z
theorem al1 {L : List V} {r : List V} (h : v ∈ L ∨ atomB v = true) (k : ∀ x ∈ r, x ∈ L ∨ atomB x = true) : ∀ x ∈ v :: r, x ∈ L ∨ atomB x = true := fun x hm => by
  rcases List.mem_cons.mp hm with rfl | hm
  · exact h
  · exact k x hm
/-! ## readings: dicts, tuples -/
variable {Q : VK} {σ : St}
theorem rd_dnew (h : ∀ p, H p = none → Q (.ref p) (upd H p (.dK []))) : tDNewK σ H Q := h
theorem rd_din {ty td : TE} (h : ty σ H fun y H1 => td σ H1 fun x H2 => ∃ a o, x = .ref a ∧ DGet H2 a y o ∧ Q (.bl o.isSome) H2) : tDIn ty td σ H Q := h
theorem u_din {i : Int} {kvs : List (Key × V)} {R : Option V → Prop} (e : H a = some (.dK kvs)) (h : R (valV kvs (Sum.inl i))) : ∃ a' o, V.ref a = .ref a' ∧ DGet H a' (.int i) o ∧ R o := ⟨a, _, rfl, DGet.k (k := Sum.inl i) e, h⟩
theorem rd_dget {ty td : TE} (h : td σ H fun x H1 => ty σ H1 fun y H2 => ∃ a v, x = .ref a ∧ DGet H2 a y (some v) ∧ Q v H2) : tDGet td ty σ H Q := h
theorem u_dget {i : Int} {kvs : List (Key × V)} {R : V → Prop} (e : H a = some (.dK kvs)) (ev : valV kvs (Sum.inl i) = some v) (h : R v) : ∃ a' v', V.ref a = .ref a' ∧ DGet H a' (.int i) (some v') ∧ R v' := ⟨a, v, rfl, by rw [← ev]; exact DGet.k (k := Sum.inl i) e, h⟩
theorem rd_dput {ty td tv : TE} {n bk ct : St → Hp → Prop} {rt : VK} (h : tv σ H fun v H1 => td σ H1 fun x H2 => ty σ H2 fun y H3 => ∃ a H4, x = .ref a ∧ DPut H3 a y v H4 ∧ n σ H4) : sDPut td ty tv ⟨n, rt, bk, ct⟩ σ H := h
theorem u_dput {i : Int} {kvs : List (Key × V)} {R : Hp → Prop} (e : H a = some (.dK kvs)) (l : kvs.length < sizeLine) (h : R (upd H a (.dK (putK kvs (Sum.inl i) v)))) : ∃ a' H4, V.ref a = .ref a' ∧ DPut H a' (.int i) v H4 ∧ R H4 := ⟨a, _, rfl, DPut.k (k := Sum.inl i) e l, h⟩
theorem rd_disp1 {tk tv : TE} (h : ∀ p, H p = none → tk σ (upd H p (.dK [])) fun x H1 => tv σ H1 fun y H2 => H2 p = some (.dK []) ∧ ∃ kvs : List (Key × V), [(x, y)] = kvs.map (fun kv => (kV kv.1, kv.2)) ∧ kvs.length ≤ 15 ∧ Q (.ref p) (upd H2 p (.dK (mergeK [] kvs)))) : tDisp [(tk, tv)] σ H Q := h
theorem merge1 {k : Key} {y : V} : mergeK [] [(k, y)] = [(k, y)] := rfl
theorem u_disp1 {i : Int} {y : V} {R : List (Key × V) → Prop} (e : H p = some (.dK [])) (h : R [(Sum.inl i, y)]) : H p = some (.dK []) ∧ ∃ kvs : List (Key × V), [(V.int i, y)] = kvs.map (fun kv => (kV kv.1, kv.2)) ∧ kvs.length ≤ 15 ∧ R kvs := ⟨e, [(Sum.inl i, y)], rfl, by simp, h⟩
theorem rd_sl {r : V → Option Int → Option Int → Hp → VK → Prop} {te : TE} {tl th : TO} (h : te σ H fun x H1 => tl σ H1 fun l H2 => th σ H2 fun u H3 => r x l u H3 Q) : tSl r te tl th σ H Q := h
theorem rd_part {te : TE} {R : Option Int → Hp → Prop} (h : te σ H fun x H1 => ∃ i, x = .int i ∧ R (some i) H1) : tPart te σ H R := h
theorem rd_partI {i : Int} {R : Int → Prop} (h : R i) : ∃ i', V.int i = .int i' ∧ R i' := ⟨i, rfl, h⟩
theorem rd_nopart {R : Option Int → Hp → Prop} (h : R none H) : tNoPart σ H R := h
theorem u_slT {lo hi : Option Int} (ha : SqT K H a xs) (h0 : Q (.ref a) H) (h : ∀ p, H p = none → Q (.ref p) (upd H p (.tup (cutV xs lo hi)))) : rSlU K (.ref a) lo hi H Q := .inr ⟨a, xs, rfl, ha, fun _ => h0, fun _ => h⟩
theorem cut_mem {lo hi : Option Int} {x : V} (h : x ∈ cutV xs lo hi) : x ∈ xs := List.mem_of_mem_drop (List.mem_of_mem_take h)
theorem u_catT {b : Addr} (ha : SqT K H a xs) (hb : SqT K H b ys) (l : xs.length + ys.length ≤ sizeLine) (n1 : ys ≠ []) (h0 : xs = [] → Q (.ref b) H) (h : xs ≠ [] → ∀ p, H p = none → Q (.ref p) (upd H p (.tup (xs ++ ys)))) : rAddU K (.ref a) (.ref b) H Q :=
  .inr (.inr (.inr ⟨a, b, xs, ys, rfl, rfl, ha, hb, l, h0, fun _ z => absurd z n1, fun x _ => h x⟩))
theorem u_repT {i : Int} (ha : SqT K H a xs) (n0 : xs ≠ []) (h1 : 2 ≤ i) (h2 : i ≤ 1000) (l : xs.length ≤ 1000) (h : ∀ p, H p = none → Q (.ref p) (upd H p (.tup (List.replicate i.toNat xs).flatten))) : rMulU K (.ref a) (.int i) H Q :=
  .inr (.inr ⟨a, i, xs, rfl, rfl, ha, n0, h1, h2, l, h⟩)
theorem Lay.same {H0 : Hp} {L : List V} (h : Lay K a H0 n L H) (s : Same H H') : Lay K a H0 n L H' := h.sbx (SB.of_same s) (h.src.same s)
theorem Lay.le {H0 : Hp} {L : List V} (h : Lay K a H0 n L H) (e : n ≤ m) : Lay K a H0 m L H := ⟨h.sb, h.src, fun x hx => (h.dt x hx).le e⟩
theorem Lay.sub {H0 : Hp} {L M : List V} (h : Lay K a H0 n L H) (e : ∀ x ∈ M, x ∈ L) : Lay K a H0 n M H := ⟨h.sb, h.src, fun x hx => h.dt x (e x hx)⟩
theorem SB.fresh {b : Addr} (s : SB a H H') (n : b ≠ a) (h : H' b = none) : H b = none := by
  cases e : H b with
  | none => rfl
  | some o => rw [s b o n e] at h; cases h
theorem Lay.write {H0 : Hp} {L : List V} {D : Addr} {o u : HO} (h : Lay K a H0 n L H) (hD : H0 D = none) (nd : D ≠ a) (e : H D = some o) (hn : noTup o) : Lay K a H0 n L (upd H D u) := ⟨h.sb.upd_new hD, h.src.set nd, fun x hx => (h.dt x hx).mono (Ext.set e hn)⟩
theorem u_slD {lo hi : Option Int} (ha : SqT K H a xs) (hd : ∀ x ∈ xs, Dt K n H x) (hl : xs.length ≤ 1000) (h : ∀ q H', Same H H' → Dt K (n + 1) H' (.ref q) → Q (.ref q) H') : rSlU K (.ref a) lo hi H Q :=
  u_slT ha (h a H (Same.refl H) (Dt.tup hd hl ha)) fun p hp => h p _ (same_new hp _) (Dt.tup (xs := cutV xs lo hi) (fun x hx => (hd x (cut_mem hx)).mono (Ext.new hp)) (Nat.le_trans (cutV_length xs lo hi) hl) (SqT.of upd_same))
theorem u_catD {b : Addr} (ha : SqT K H a xs) (hb : SqT K H b ys) (hd : ∀ x ∈ xs, Dt K n H x) (he : ∀ x ∈ ys, Dt K n H x) (hl : xs.length + ys.length ≤ 1000) (n1 : ys ≠ []) (h : ∀ q H', Same H H' → Dt K (n + 1) H' (.ref q) → Q (.ref q) H') : rAddU K (.ref a) (.ref b) H Q :=
  u_catT ha hb (ll (by omega)) n1 (fun _ => h b H (Same.refl H) (Dt.tup he (by omega) hb)) fun _ p hp => h p _ (same_new hp _) (Dt.tup (xs := xs ++ ys) (fun x hx => (by
    rcases List.mem_append.mp hx with h1 | h1
    · exact (hd x h1).mono (Ext.new hp)
    · exact (he x h1).mono (Ext.new hp))) (by rw [List.length_append]; exact hl) (SqT.of upd_same))
end
end Mine

/-! ### N1 -/
namespace Mine
open PySem PySem.Spec L2
/-- an entry of a run: needed, held, steps -/
structure Ent where
  n : Int
  h : Int
  s : List PyData
/-- some entries side by side, their hill and their valley -/
structure Bk where
  es : List Ent
  H : Int
  V : Int
/-- each entry holds V at least, or one behind it needs H -/
def gd (H V : Int) : List Ent → Prop
  | [] => True
  | e :: r => (V ≤ e.h ∨ ∃ f ∈ r, H ≤ f.n) ∧ gd H V r
theorem gd_app1 {H V : Int} {b : List Ent} (hb : gd H V b) (hf : ∃ f ∈ b, H ≤ f.n) : ∀ a : List Ent, gd H V (a ++ b)
  | [] => hb
  | e :: r => by
    obtain ⟨f, hm, hl⟩ := hf
    exact ⟨.inr ⟨f, List.mem_append_right _ hm, hl⟩, gd_app1 hb ⟨f, hm, hl⟩ r⟩
theorem gd_all {H V : Int} : ∀ b : List Ent, (∀ e ∈ b, V ≤ e.h) → gd H V b
  | [], _ => trivial
  | e :: r, h => ⟨.inl (h e List.mem_cons_self), gd_all r fun x hx => h x (List.mem_cons_of_mem _ hx)⟩
theorem gd_app2 {H V : Int} {b : List Ent} (hb : ∀ e ∈ b, V ≤ e.h) : ∀ {a : List Ent}, gd H V a → gd H V (a ++ b)
  | [], _ => gd_all b hb
  | e :: r, h => ⟨h.1.elim .inl fun ⟨f, hm, hl⟩ => .inr ⟨f, List.mem_append_left _ hm, hl⟩, gd_app2 hb h.2⟩
theorem gd_less {H V W : Int} (hv : W ≤ V) : ∀ {a : List Ent}, gd H V a → gd H W a
  | [], _ => trivial
  | e :: r, h => ⟨h.1.elim (fun x => .inl (Int.le_trans hv x)) .inr, gd_less hv h.2⟩
theorem gd_at {H V : Int} : ∀ {a : List Ent} {k : Nat} {e : Ent}, gd H V a → a[k]? = some e → V ≤ e.h ∨ ∃ (m : Nat) (f : Ent), k < m ∧ a[m]? = some f ∧ H ≤ f.n
  | [], _, _, _, z => by simp at z
  | x :: r, 0, e, h, z => by
    obtain rfl : x = e := by simpa using z
    rcases h.1 with q | ⟨f, hm, hl⟩
    · exact .inl q
    · obtain ⟨m, hm'⟩ := List.getElem?_of_mem hm
      exact .inr ⟨m + 1, f, Nat.succ_pos _, by simpa using hm', hl⟩
  | x :: r, k + 1, e, h, z => by
    rcases gd_at (a := r) (k := k) (e := e) h.2 (by simpa using z) with q | ⟨m, f, h1, h2, h3⟩
    · exact .inl q
    · exact .inr ⟨m + 1, f, by omega, by simpa using h2, h3⟩
structure Bk.ok (b : Bk) : Prop where
  le : ∀ e ∈ b.es, e.n ≤ b.H
  at' : ∃ e ∈ b.es, e.n = b.H
  last : ∃ m e, b.es = m ++ [e] ∧ e.h = b.V
  g : gd b.H b.V b.es
/-- how one block stands ahead of another -/
def RR (b c : Bk) : Prop := c.H < b.H ∧ ∀ e ∈ c.es, b.V < e.h
theorem Bk.ok.vin {b : Bk} (h : b.ok) : ∃ e ∈ b.es, e.h = b.V := by
  obtain ⟨m, e, h1, h2⟩ := h.last
  exact ⟨e, by rw [h1]; simp, h2⟩
theorem RR.val {b c : Bk} (h : RR b c) (hc : c.ok) : b.V < c.V := by
  obtain ⟨e, h1, h2⟩ := hc.vin
  rw [← h2]; exact h.2 e h1
theorem RR.trans {a b c : Bk} (h : RR a b) (k : RR b c) (hb : b.ok) : RR a c :=
  ⟨Int.lt_trans k.1 h.1, fun e he => Int.lt_trans (h.val hb) (k.2 e he)⟩
structure Good (bs : List Bk) : Prop where
  ok : ∀ b ∈ bs, b.ok
  pw : bs.Pairwise RR
theorem Good.nil : Good [] := ⟨fun _ z => (by cases z), List.Pairwise.nil⟩
def fl (bs : List Bk) : List Ent := bs.flatMap Bk.es
theorem fl_append (a b : List Bk) : fl (a ++ b) = fl a ++ fl b := by unfold fl; rw [List.flatMap_append]
theorem fl_one (b : Bk) : fl [b] = b.es := by unfold fl; simp
theorem fl_cons (b : Bk) (r : List Bk) : fl (b :: r) = b.es ++ fl r := by unfold fl; simp
/-- the block that is under way, above the stack bs -/
structure Way (bs : List Bk) (b : Bk) : Prop where
  ok : b.ok
  up : ∃ m e, b.es = m ++ [e] ∧ e.h = b.V ∧ ∀ x ∈ m, ∀ a ∈ bs, a.V < x.h
theorem Way.one (bs : List Bk) (e : Ent) : Way bs ⟨[e], e.n, e.h⟩ :=
  ⟨⟨by simp, by simp, ⟨[], e, rfl, rfl⟩, ⟨.inl (Int.le_refl _), trivial⟩⟩, [], e, rfl, rfl, fun _ z => (by cases z)⟩
theorem Good.init {bs : List Bk} {t : Bk} (h : Good (bs ++ [t])) : Good bs ∧ t.ok ∧ ∀ a ∈ bs, RR a t := by
  obtain ⟨p1, _, p3⟩ := List.pairwise_append.mp h.pw
  exact ⟨⟨fun b hb => h.ok b (List.mem_append_left _ hb), p1⟩, h.ok t (by simp), fun a ha => p3 a ha t (by simp)⟩
theorem Way.join {bs : List Bk} {t b : Bk} (h : Good (bs ++ [t])) (w : Way (bs ++ [t]) b) (c : t.H ≤ b.H ∨ b.V ≤ t.V) : Way bs ⟨t.es ++ b.es, max t.H b.H, b.V⟩ := by
  obtain ⟨g, tk, rt⟩ := h.init
  obtain ⟨m, e, em, eh, hm⟩ := w.up
  have hall : b.V ≤ t.V → ∀ x ∈ b.es, b.V ≤ x.h := fun hv x hx => by
    rw [em] at hx
    rcases List.mem_append.mp hx with hx | hx
    · have := hm x hx t (by simp)
      omega
    · have : x = e := by simpa using hx
      subst this
      omega
  refine ⟨⟨?_, ?_, ⟨t.es ++ m, e, by rw [em, List.append_assoc], eh⟩, ?_⟩, t.es ++ m, e, by rw [em, List.append_assoc], eh, ?_⟩
  · intro x hx
    rcases List.mem_append.mp hx with hx | hx
    · have := tk.le x hx
      show x.n ≤ max t.H b.H
      omega
    · have := w.ok.le x hx
      show x.n ≤ max t.H b.H
      omega
  · by_cases q : t.H ≤ b.H
    · obtain ⟨x, hx, ex⟩ := w.ok.at'
      exact ⟨x, List.mem_append_right _ hx, by show x.n = max t.H b.H; omega⟩
    · obtain ⟨x, hx, ex⟩ := tk.at'
      exact ⟨x, List.mem_append_left _ hx, by show x.n = max t.H b.H; omega⟩
  · show gd (max t.H b.H) b.V (t.es ++ b.es)
    by_cases q : t.H ≤ b.H
    · rw [show max t.H b.H = b.H by omega]
      obtain ⟨x, hx, ex⟩ := w.ok.at'
      exact gd_app1 w.ok.g ⟨x, hx, by omega⟩ _
    · have hv : b.V ≤ t.V := c.resolve_left q
      rw [show max t.H b.H = t.H by omega]
      exact gd_app2 (hall hv) (gd_less hv tk.g)
  · intro x hx a ha
    rcases List.mem_append.mp hx with hx | hx
    · exact (rt a ha).2 x hx
    · exact hm x hx a (List.mem_append_left _ ha)
theorem Good.push {bs : List Bk} {b : Bk} (h : Good bs) (w : Way bs b) (c : ∀ t, bs.getLast? = some t → b.H < t.H ∧ t.V < b.V) : Good (bs ++ [b]) := by
  refine ⟨fun x hx => ?_, List.pairwise_append.mpr ⟨h.pw, List.pairwise_singleton _ _, ?_⟩⟩
  · rcases List.mem_append.mp hx with hx | hx
    · exact h.ok x hx
    · have : x = b := by simpa using hx
      subst this
      exact w.ok
  · intro a ha y hy
    have : y = b := by simpa using hy
    subst this
    rcases List.eq_nil_or_concat bs with rfl | ⟨r, t, rfl⟩
    · cases ha
    rw [List.concat_eq_append] at *
    obtain ⟨c1, c2⟩ := c t (by simp)
    obtain ⟨m, e, em, eh, hm⟩ := w.up
    have rt : RR t y := ⟨c1, fun x hx => by
      rw [em] at hx
      rcases List.mem_append.mp hx with hx | hx
      · exact hm x hx t (by simp)
      · have : x = e := by simpa using hx
        subst this
        omega⟩
    rcases List.mem_append.mp ha with ha | ha
    · exact ((h.init).2.2 a ha).trans rt (h.ok t (by simp))
    · have : a = t := by simpa using ha
      subst this
      exact rt
/-! ## the first block, found by its hill and its valley -/
section
variable {b : Bk} {r : List Bk}
theorem Good.tail (h : Good (b :: r)) : Good r := ⟨fun x hx => h.ok x (List.mem_cons_of_mem _ hx), (List.pairwise_cons.mp h.pw).2⟩
theorem Good.rest (h : Good (b :: r)) : ∀ e ∈ fl r, e.n < b.H ∧ b.V < e.h := fun e he => by
  obtain ⟨c, hc, he⟩ := List.mem_flatMap.mp he
  have rr := (List.pairwise_cons.mp h.pw).1 c hc
  exact ⟨Int.lt_of_le_of_lt ((h.ok c (List.mem_cons_of_mem _ hc)).le e he) rr.1, rr.2 e he⟩
theorem Good.hill (h : Good (b :: r)) {m : Int} (h1 : m ∈ (fl (b :: r)).map Ent.n) (h2 : ∀ y ∈ (fl (b :: r)).map Ent.n, y ≤ m) : m = b.H := by
  have bo := h.ok b List.mem_cons_self
  obtain ⟨e, he, en⟩ := bo.at'
  have q1 : b.H ≤ m := h2 _ (by rw [fl_cons, ← en]; exact List.mem_map_of_mem (List.mem_append_left _ he))
  obtain ⟨f, hf, fn⟩ := List.mem_map.mp h1
  rw [fl_cons] at hf
  rcases List.mem_append.mp hf with hf | hf
  · have := bo.le f hf
    omega
  · have := (h.rest f hf).1
    omega
theorem Good.len (h : Good (b :: r)) : 0 < b.es.length := by
  obtain ⟨m, e, h1, _⟩ := (h.ok b List.mem_cons_self).last
  rw [h1, List.length_append]
  exact Nat.succ_pos _
/-- what is known of the last place of the hill -/
structure Top (b : Bk) (r : List Bk) (t : Nat) : Prop where
  lt : t < (fl (b :: r)).length
  last : ∀ k e, (fl (b :: r))[k]? = some e → e.n = b.H → k ≤ t
  at' : ∃ e, (fl (b :: r))[t]? = some e ∧ e.n = b.H
theorem Good.in_b (h : Good (b :: r)) {k : Nat} {e : Ent} (he : (fl (b :: r))[k]? = some e) : (k < b.es.length ∧ b.es[k]? = some e) ∨ (b.es.length ≤ k ∧ e ∈ fl r) := by
  rw [fl_cons] at he
  rcases Nat.lt_or_ge k b.es.length with q | q
  · rw [List.getElem?_append_left q] at he
    exact .inl ⟨q, he⟩
  · rw [List.getElem?_append_right q] at he
    exact .inr ⟨q, List.mem_of_getElem? he⟩
theorem Top.ltb {t : Nat} (T : Top b r t) (h : Good (b :: r)) : t < b.es.length := by
  obtain ⟨e, he, en⟩ := T.at'
  rcases h.in_b he with q | ⟨_, q⟩
  · exact q.1
  · have := (h.rest e q).1
    omega
theorem Good.endAt (h : Good (b :: r)) : ∃ e, (fl (b :: r))[b.es.length - 1]? = some e ∧ e.h = b.V := by
  obtain ⟨m, e, h1, h2⟩ := (h.ok b List.mem_cons_self).last
  refine ⟨e, ?_, h2⟩
  rw [fl_cons, h1]
  simp
theorem Top.low {t : Nat} (T : Top b r t) (h : Good (b :: r)) {m : Int} (h1 : m ∈ ((fl (b :: r)).drop t).map Ent.h) (h2 : ∀ y ∈ ((fl (b :: r)).drop t).map Ent.h, m ≤ y) : m = b.V := by
  have tb := T.ltb h
  obtain ⟨e, he, eh⟩ := h.endAt
  have q1 : m ≤ b.V := h2 _ (by
    rw [← eh]
    refine List.mem_map_of_mem (List.mem_of_getElem? (i := b.es.length - 1 - t) ?_)
    rw [List.getElem?_drop, show t + (b.es.length - 1 - t) = b.es.length - 1 by omega]
    exact he)
  obtain ⟨f, hf, fh⟩ := List.mem_map.mp h1
  obtain ⟨k, hk⟩ := List.getElem?_of_mem hf
  rw [List.getElem?_drop] at hk
  rcases h.in_b hk with ⟨q, hq⟩ | ⟨q, hq⟩
  · rcases gd_at (h.ok b List.mem_cons_self).g hq with z | ⟨j, g, j1, j2, j3⟩
    · omega
    · exfalso
      have gl := (h.ok b List.mem_cons_self).le g (List.mem_of_getElem? j2)
      have jl : j < b.es.length := by
        rcases Nat.lt_or_ge j b.es.length with w | w
        · exact w
        · rw [List.getElem?_eq_none w] at j2
          cases j2
      have := T.last j g (by rw [fl_cons, List.getElem?_append_left jl]; exact j2) (by omega)
      omega
  · have := (h.rest f hq).2
    omega
theorem Top.stop {t : Nat} (T : Top b r t) (h : Good (b :: r)) {k : Nat} (h1 : ∃ e, (fl (b :: r))[k]? = some e ∧ e.h = b.V) (h2 : ∀ j e, t ≤ j → (fl (b :: r))[j]? = some e → e.h = b.V → j ≤ k) : k = b.es.length - 1 := by
  have tb := T.ltb h
  obtain ⟨e, he, eh⟩ := h.endAt
  have q1 := h2 (b.es.length - 1) e (by omega) he eh
  obtain ⟨f, hf, fh⟩ := h1
  rcases h.in_b hf with ⟨q, hq⟩ | ⟨q, hq⟩
  · omega
  · have := (h.rest f hq).2
    omega
end
end Mine

/-! ### N2 -/
/-! ## places found by a test -/
namespace Mine
/-- the places t + j, j below k, whose entry passes -/
def idx (f : Ent → Bool) (es : List Ent) (t k : Nat) : List Nat := ((List.range k).filter fun j => (es[t + j]?).any f).map (t + ·)
theorem idx_zero (f : Ent → Bool) (es : List Ent) (t : Nat) : idx f es t 0 = [] := rfl
theorem idx_yes {f : Ent → Bool} {es : List Ent} {t k : Nat} {e : Ent} (h : es[t + k]? = some e) (y : f e = true) : idx f es t (k + 1) = idx f es t k ++ [t + k] := by
  have g : (es[t + k]?).any f = true := by rw [h]; exact y
  unfold idx
  rw [List.range_succ, List.filter_append, List.map_append, List.filter_cons, if_pos g] <;> rfl
theorem idx_no {f : Ent → Bool} {es : List Ent} {t k : Nat} {e : Ent} (h : es[t + k]? = some e) (y : f e = false) : idx f es t (k + 1) = idx f es t k := by
  have g : (es[t + k]?).any f = false := by rw [h]; exact y
  unfold idx
  rw [List.range_succ, List.filter_append, List.filter_cons, g]
  simp
theorem idx_len (f : Ent → Bool) (es : List Ent) (t k : Nat) : (idx f es t k).length ≤ k := by
  unfold idx
  rw [List.length_map]
  exact Nat.le_trans (List.length_filter_le _ _) (by rw [List.length_range]; exact Nat.le_refl _)
theorem idx_mem {f : Ent → Bool} {es : List Ent} {t k j : Nat} : j ∈ idx f es t k ↔ t ≤ j ∧ j < t + k ∧ ∃ e, es[j]? = some e ∧ f e = true := by
  unfold idx
  constructor
  · intro h
    obtain ⟨m, hm, rfl⟩ := List.mem_map.mp h
    obtain ⟨h1, h2⟩ := List.mem_filter.mp hm
    have h3 := List.mem_range.mp h1
    rw [Option.any_eq_true] at h2
    exact ⟨by omega, by omega, h2⟩
  · rintro ⟨h1, h2, e, h3, h4⟩
    refine List.mem_map.mpr ⟨j - t, List.mem_filter.mpr ⟨List.mem_range.mpr (by omega), ?_⟩, by omega⟩
    rw [show t + (j - t) = j by omega, h3]
    exact h4
theorem lt_of_get {α : Type} {l : List α} {k : Nat} {e : α} (h : l[k]? = some e) : k < l.length := by
  rcases Nat.lt_or_ge k l.length with z | z
  · exact z
  · rw [List.getElem?_eq_none z] at h
    cases h
section
variable {b : Bk} {r : List Bk}
theorem idx_top (h : Good (b :: r)) {t : Nat} (h1 : t ∈ idx (fun e => decide (e.n = b.H)) (fl (b :: r)) 0 (fl (b :: r)).length) (h2 : ∀ y ∈ idx (fun e => decide (e.n = b.H)) (fl (b :: r)) 0 (fl (b :: r)).length, y ≤ t) : Top b r t := by
  obtain ⟨_, l1, e, l2, l3⟩ := idx_mem.mp h1
  exact ⟨by omega, fun k f hf hk => h2 k (idx_mem.mpr ⟨Nat.zero_le _, by have := lt_of_get hf; omega, f, hf, decide_eq_true hk⟩), e, l2, of_decide_eq_true l3⟩
theorem idx_ne1 (h : Good (b :: r)) : idx (fun e => decide (e.n = b.H)) (fl (b :: r)) 0 (fl (b :: r)).length ≠ [] := by
  obtain ⟨e, he, en⟩ := (h.ok b List.mem_cons_self).at'
  obtain ⟨k, hk⟩ := List.getElem?_of_mem he
  have hk2 : (fl (b :: r))[k]? = some e := by rw [fl_cons, List.getElem?_append_left (lt_of_get hk)]; exact hk
  have z : k ∈ idx (fun e => decide (e.n = b.H)) (fl (b :: r)) 0 (fl (b :: r)).length := idx_mem.mpr ⟨Nat.zero_le _, by have := lt_of_get hk2; omega, e, hk2, decide_eq_true en⟩
  exact List.ne_nil_of_mem z
theorem idx_stop {t : Nat} (T : Top b r t) (h : Good (b :: r)) {k : Nat} (h1 : k ∈ idx (fun e => decide (e.h = b.V)) (fl (b :: r)) t ((fl (b :: r)).length - t)) (h2 : ∀ y ∈ idx (fun e => decide (e.h = b.V)) (fl (b :: r)) t ((fl (b :: r)).length - t), y ≤ k) : k = b.es.length - 1 := by
  obtain ⟨_, l1, e, l2, l3⟩ := idx_mem.mp h1
  refine T.stop h ⟨e, l2, of_decide_eq_true l3⟩ fun j f hj hf hv => h2 j (idx_mem.mpr ⟨hj, by have := lt_of_get hf; omega, f, hf, decide_eq_true hv⟩)
theorem idx_ne2 {t : Nat} (T : Top b r t) (h : Good (b :: r)) : idx (fun e => decide (e.h = b.V)) (fl (b :: r)) t ((fl (b :: r)).length - t) ≠ [] := by
  obtain ⟨e, he, eh⟩ := h.endAt
  have tb := T.ltb h
  have := lt_of_get he
  exact List.ne_nil_of_mem (idx_mem.mpr ⟨by omega, by omega, e, he, decide_eq_true eh⟩)
end
theorem Good.drop {bs : List Bk} (h : Good bs) (i : Nat) : Good (bs.drop i) := ⟨fun b hb => h.ok b (List.mem_of_mem_drop hb), h.pw.sublist (List.drop_sublist i bs)⟩
theorem drop_fl (bs : List Bk) (i : Nat) : (fl bs).drop (fl (bs.take i)).length = fl (bs.drop i) := by
  have e : fl bs = fl (bs.take i) ++ fl (bs.drop i) := by rw [← fl_append, List.take_append_drop]
  rw [e, List.drop_left]
end Mine

/-! ### D1 -/
namespace Mine
open PySem PySem.Spec L2
local macro_rules | `(tactic| walk_at "st") => `(tactic| first
  | ((with_reducible apply rd_var); exact rfl)
  | (with_reducible apply rd_c)
  | (with_reducible apply rd_seq)
  | (with_reducible apply rd_asg)
  | (with_reducible apply rd_gname)
  | (with_reducible apply rd_op)
  | (with_reducible apply rd_cb)
  | (with_reducible apply rd_cons)
  | (with_reducible apply rd_nil)
  | (with_reducible apply rd_if)
  | (with_reducible apply rd_test)
  | (with_reducible apply rd_bl)
  | (with_reducible apply rd_retE)
  | (with_reducible apply rd_ret)
  | (with_reducible apply rd_call)
  | (with_reducible apply rd_tup)
  | (with_reducible apply rd_lst)
  | (with_reducible apply rd_drop)
  | (with_reducible apply rd_next)
  | (with_reducible apply rd_ife)
  | (with_reducible apply rd_gsub)
  | (with_reducible apply rd_par)
  | (with_reducible apply rd_par_end)
  | (with_reducible apply rd_un)
  | (with_reducible apply rd_and)
  | (with_reducible apply rd_or)
  | (with_reducible apply rd_not)
  | (with_reducible apply rd_andV)
  | (with_reducible apply rd_orV)
  | (with_reducible apply rd_notV)
  | (with_reducible apply rd_chain)
  | (with_reducible apply rd_tB)
  | (with_reducible apply rd_brk)
  | (with_reducible apply rd_ct)
  | (with_reducible apply u_add)
  | (with_reducible apply u_sub)
  | (with_reducible apply u_lt)
  | (with_reducible apply u_le)
  | (with_reducible apply u_gt)
  | (with_reducible apply u_ge)
  | (with_reducible apply u_eqI)
  | (with_reducible apply u_eqS)
  | (with_reducible apply u_neI)
  | (with_reducible apply u_int)
  | (with_reducible apply u_intB)
  | (with_reducible apply u_max)
  | (with_reducible apply u_min)
  | (with_reducible apply u_neg)
  | ((with_reducible apply u_mod); focus first | assumption | decide | omega)
  | ((with_reducible apply u_div); focus first | decide | omega | (constructor <;> first | assumption | omega))
  | ((with_reducible apply u_mul); focus first | exact Or.inl (by omega) | exact Or.inr (by omega) | exact Or.inl (by decide) | exact Or.inr (by decide))
  | ((with_reducible apply u_ixL); (focus (first | assumption | exact SqL.of (by assumption) | exact SqL.of upd_same)); exact rfl)
  | ((with_reducible apply u_lenL); focus (first | assumption | exact SqL.of (by assumption) | exact SqL.of upd_same))
  | ((with_reducible apply u_lenT); focus (first | assumption | exact SqT.of (by assumption) | exact SqT.of upd_same))
  | ((with_reducible apply u_setL); (focus (first | assumption | exact upd_same)); exact rfl)
  | (with_reducible apply rd_chain3)
  | (with_reducible apply rd_tru)
  | (with_reducible apply rd_truB)
  | ((with_reducible apply rd_truL); focus (first | assumption | exact SqL.of (by assumption) | exact SqL.of upd_same))
  | (with_reducible apply rd_bm)
  | (with_reducible apply rd_bm0)
  | ((with_reducible apply rd_tyL); focus (first | exact SqL.of (by assumption) | exact SqL.of upd_same))
  | (with_reducible apply u_min3)
  | (with_reducible apply rd_rev)
  | (with_reducible apply rd_iList)
  | (with_reducible apply rd_iTup)
  | (with_reducible apply rd_for)
  | (with_reducible apply rd_rng1)
  | (with_reducible apply rd_rng2)
  | ((with_reducible apply rd_rng1e); (focus omega); (focus omega))
  | ((with_reducible apply rd_rng2e); (focus omega))
  | (with_reducible apply rd_gcons)
  | (with_reducible apply rd_gnil)
  | (with_reducible apply rd_retN)
  | (with_reducible apply g_eqI)
  | (with_reducible apply g_eqS)
  | (with_reducible apply g_neI)
  | (with_reducible apply g_neS)
  | (with_reducible apply g_neB)
  | (with_reducible apply rd_xf)
  | (with_reducible apply rd_raiseE)
  | (with_reducible apply rd_callS)
  | (with_reducible apply u_inD)
  | (with_reducible apply u_notInD)
  | (with_reducible apply u_inS)
  | (with_reducible apply u_notInS)
  | (with_reducible apply rd_iSeq)
  | ((with_reducible apply rd_seqL); (focus first | assumption | exact SqL.of (by assumption) | exact SqL.of upd_same))
  | ((with_reducible apply rd_seqT); (focus first | assumption | exact SqT.of (by assumption) | exact SqT.of upd_same))
  | (with_reducible apply rd_istr)
  | (with_reducible apply rd_istrE)
  | ((with_reducible apply u_isi); (focus (first | exact Or.inl rfl | exact Or.inr (Or.inl rfl) | exact Or.inr (Or.inr (Or.inl rfl)) | exact Or.inr (Or.inr (Or.inr rfl)))); (focus first | assumption | exact Rp.int _ | exact Rp.str _))
  | ((with_reducible apply rd_itL); (focus first | assumption | exact SqL.of (by assumption) | exact SqL.of upd_same))
  | ((with_reducible apply rd_itT); (focus first | assumption | exact SqT.of (by assumption) | exact SqT.of upd_same))
  | (with_reducible apply rd_lc)
  | (with_reducible apply rd_yes)
  | ((with_reducible apply u_pow); (focus (exact ⟨by decide, by decide, by decide⟩)))
  | (with_reducible apply u_mul; focus exact Or.inr cm)
  | (with_reducible apply rd_par3)
  | (with_reducible apply rd_par3_end)
  | ((with_reducible apply rd_aug); exact rfl)
  | (with_reducible apply rd_ipI)
  | (with_reducible apply rd_enA)
  | ((with_reducible apply u_enT); (focus first | assumption | exact SqT.of (by assumption) | exact SqT.of upd_same))
  | ((with_reducible apply u_enL); (focus first | assumption | exact SqL.of (by assumption) | exact SqL.of upd_same))
  | (with_reducible apply rd_zip)
  | (with_reducible apply rd_lc2)
  | ((with_reducible apply rd_gtup); (focus first | assumption | exact SqT.of (by assumption) | exact SqT.of upd_same); (focus rfl))
  | (with_reducible apply rd_dnew)
  | (with_reducible apply rd_din)
  | (with_reducible apply rd_dget)
  | (with_reducible apply rd_dput)
  | (with_reducible apply rd_disp1)
  | (with_reducible apply rd_sl)
  | (with_reducible apply rd_part)
  | (with_reducible apply rd_partI)
  | (with_reducible apply rd_nopart)
  | (with_reducible apply iteT)
  | (with_reducible apply iteF))
local macro_rules | `(tactic| walk_at "go") => `(tactic| repeat (walk_at "st"))
local macro_rules | `(tactic| walk_at "sp") => `(tactic| (first | refine rd_split (fun c => ?_) (fun c => ?_) | refine rd_splitN (fun c => ?_) (fun c => ?_) | refine rd_splitB (fun c => ?_) (fun c => ?_)))
local macro_rules | `(tactic| walk_at "nx") => `(tactic| repeat (first | (with_reducible apply iteF) | (with_reducible apply iteT) | (with_reducible apply rd_next)))

section
variable {P : Program} {w : World} {K : PySem.W.Frag} {mg : Str → Option Value} {base : Heap}
abbrev s_law_take : Stmt := top 6
theorem sc_law_take : FnScope ["source", "top", "digit"] ["source", "top"] (defScope s_law_take) := ⟨rfl, rfl, rfl, by decide +kernel, rfl, by decide +kernel, by decide +kernel⟩
theorem has_take (O : OwnF K mg "_law_take" s_law_take) (B : Bl mg) : HasF P w K mg base CX0 1 "_law_take" ["source", "top"] spTake := by
  refine has0 O sc_law_take (fun _ _ _ _ _ _ us hl => match us, hl with | [_, _], _ => rfl) (fun vs H Q E h => ?_) (fun f cdv A outer s_ H vs Q E hr h => ?_)
  · obtain ⟨a, t, rfl, _⟩ := h
    rfl
  obtain ⟨a, t, rfl, ⟨b, s, hS, hb, hs, hs2⟩, ht, ht2, q⟩ := h
  refine ⟨_, (pss_cons (ps_if (pt_cmpR gtU (pe_ix (kIx K) (pv 0) pe_int (fun _ _ => rfl)) pe_int (nomark _)) (pss_cons (ps_set (i := 2) sc_law_take.nd rfl (by first | exact Or.inl rfl | exact Or.inr rfl) (pe_op modU (pe_callTy intU (by rfl) B.int (by decide +kernel) (pa_cons (pe_ix (kIx K) (pv 0) pe_int (fun _ _ => rfl)) pa_nil)) (pv 1))) (pss_cons (ps_asg (pe_op divU (pe_ix (kIx K) (pv 0) pe_int (fun _ _ => rfl)) (pv 1)) (pg_sub (pv 0) pe_int set_list)) (pss_one (ps_ret (pv 2))))) pss_nil) (pss_cons (ps_asg (pe_op modU (pe_callTy intU (by rfl) B.int (by decide +kernel) (pa_cons (pe_op (kAdd K) (pe_op (kMul K) (pe_ix (kIx K) (pv 0) pe_int (fun _ _ => rfl)) pe_int) pe_int) pa_nil)) pe_int) (pg_sub (pv 0) pe_int set_list)) (pss_one (ps_ret (pe_op modU (pe_callTy intU (by rfl) B.int (by decide +kernel) (pa_cons (pe_op divU (pe_op modU (pe_callTy intU (by rfl) B.int (by decide +kernel) (pa_cons (pe_op (kMul K) (pe_ix (kIx K) (pv 0) pe_int (fun _ _ => rfl)) (pe_ix (kIx K) (pv 0) pe_int (fun _ _ => rfl))) pa_nil)) pe_int) pe_int) pa_nil)) (pv 1)))))), ?_⟩
  refine st0 [some (.ref a), some (.int t), none] rfl ?_
  walk_at "go"
  refine rd_split (fun c => ?_) (fun c => ?_)
  · walk_at "go"
    refine q _ _ SB.upd ⟨b / t, s, upd_same, Int.ediv_nonneg hb (by omega), hs, hs2⟩ (Int.emod_nonneg _ (by omega)) (Int.emod_lt_of_pos _ ht)
  · walk_at "go"
    refine q _ _ SB.upd ⟨b, _, upd_same, hb, Int.emod_nonneg _ (by omega), Int.emod_lt_of_pos _ (by omega)⟩ (Int.emod_nonneg _ (by omega)) (Int.emod_lt_of_pos _ ht)
abbrev s_law_one : Stmt := top 7
theorem sc_law_one : FnScope ["source", "things"] ["source", "things"] (defScope s_law_one) := ⟨rfl, rfl, rfl, by decide +kernel, rfl, by decide +kernel, by decide +kernel⟩
theorem has_one (O : OwnF K mg "_law_one" s_law_one) (B : Bl mg) (h_law_take : HasF P w K mg base CX0 1 "_law_take" ["source", "top"] spTake) : HasF P w K mg base CX0 2 "_law_one" ["source", "things"] (spOne K) := by
  refine has0 O sc_law_one (fun _ _ _ _ _ _ us hl => match us, hl with | [_, _], _ => rfl) (fun vs H Q E h => ?_) (fun f cdv A outer s_ H vs Q E hr h => ?_)
  · obtain ⟨a, p, xs, rfl, _⟩ := h
    rfl
  obtain ⟨a, p, xs, rfl, hS, hX, hn, h0, h1, q⟩ := h
  refine ⟨_, (pss_one (ps_ret (pe_ix (kIx K) (pv 1) (pe_callH h_law_take (hr.mono (by first | decide | omega)) (by rfl) pass0 (pa_cons (pv 0) (pa_cons (pe_callB (kLen K) (by rfl) B.len (by decide +kernel) (pa_cons (pv 1) pa_nil)) pa_nil))) (fun _ _ => rfl)))), ?_⟩
  refine st0 [some (.ref a), some (.ref p)] rfl ?_
  walk_at "go"
  refine use_take hS (by omega) (by omega) fun H' r hs hS' hr0 hr1 => ?_
  obtain ⟨v, e, m⟩ := at_in hr0 hr1
  exact u_ixL (hs.seqL hn hX) e (q _ _ hs hS' m)
abbrev s_law_pool : Stmt := top 5
theorem sc_law_pool : FnScope ["script", "k", "cell", "big", "stirred"] ["script", "k"] (defScope s_law_pool) := ⟨rfl, rfl, rfl, by decide +kernel, rfl, by decide +kernel, by decide +kernel⟩
def spPool (K : PySem.W.Frag) : Sp := fun vs H Q _ => ∃ (a : Addr) (ns : List Int) (k : Int), vs = [.ref a, .int k] ∧ SqL K H a (ns.map V.int) ∧ 0 ≤ k ∧ k < 1000 ∧
  ∀ (H' : Hp) (p : Addr), Same H H' → H p = none → Src H' p → Q (.ref p) H'
theorem has_pool (O : OwnF K mg "_law_pool" s_law_pool) (B : Bl mg) : HasF P w K mg base CX0 1 "_law_pool" ["script", "k"] (spPool K) := by
  refine has0 O sc_law_pool (fun _ _ _ _ _ _ us hl => match us, hl with | [_, _], _ => rfl) (fun vs H Q E h => ?_) (fun f cdv A outer s_ H vs Q E hr h => ?_)
  · obtain ⟨a, ns, k, rfl, _⟩ := h
    rfl
  obtain ⟨a, ns, k, rfl, hL, hk0, hk1, q⟩ := h
  have hl : (ns.map V.int).length = ns.length := List.length_map _
  refine ⟨_, (pss_cons (ps_set (i := 2) sc_law_pool.nd rfl (by first | exact Or.inl rfl | exact Or.inr rfl) pe_int) (pss_cons (ps_if (pt_cmpR ltU (pv 1) (pe_callB (kLen K) (by rfl) B.len (by decide +kernel) (pa_cons (pv 0) pa_nil)) (nomark _)) (pss_one (ps_set (i := 2) sc_law_pool.nd rfl (by first | exact Or.inl rfl | exact Or.inr rfl) (pe_ix (kIx K) (pv 0) (pv 1) (fun _ _ => rfl)))) (pss_one (ps_if (pt_truthK K (pv 0) (by intro _; rfl)) (pss_one (ps_set (i := 2) sc_law_pool.nd rfl (by first | exact Or.inl rfl | exact Or.inr rfl) (pe_ix (kIx K) (pv 0) pe_int (fun _ _ => rfl)))) pss_nil))) (pss_cons (ps_set (i := 3) sc_law_pool.nd rfl (by first | exact Or.inl rfl | exact Or.inr rfl) (pe_callB (max2U rfl) (by rfl) B.max (by decide +kernel) (pa_cons (pe_callTy intU (by rfl) B.int (by decide +kernel) (pa_cons (pv 2) pa_nil)) (pa_cons (pe_callTy intU (by rfl) B.int (by decide +kernel) (pa_cons (pe_op subU (pe_un un_neg pe_int) (pv 2)) pa_nil)) pa_nil)))) (pss_cons (ps_set (i := 4) sc_law_pool.nd rfl (by first | exact Or.inl rfl | exact Or.inr rfl) (pe_op modU (pe_callTy intU (by rfl) B.int (by decide +kernel) (pa_cons (pe_op (kMul K) (pe_op (kAdd K) (pe_op (kAdd K) (pe_op (kAdd K) (pe_op modU (pe_callTy intU (by rfl) B.int (by decide +kernel) (pa_cons (pv 3) pa_nil)) pe_int) (pe_op (kMul K) (pe_op (kMul K) pe_int (pv 1)) (pv 1))) (pe_op (kMul K) pe_int (pv 1))) pe_int) pe_int) pa_nil)) pe_int)) (pss_one (ps_ret (pe_lst (pa_cons (pe_op (kMul K) (pv 3) (pe_callTy intU (by rfl) B.int (by decide +kernel) (pa_cons (pe_cmpR geU (pv 3) (pe_op powU pe_int pe_int) (nomark _)) pa_nil))) (pa_cons (pv 4) pa_nil))))))))), ?_⟩
  refine st0 [some (.ref a), some (.int k), none, none, none] rfl ?_
  walk_at "go"
  rw [hl]
  refine rd_split (fun c => ?_) (fun c => ?_)
  rotate_left
  walk_at "go"
  refine rd_splitB (fun c2 => ?_) (fun c2 => ?_)
  rotate_left 2
  · obtain ⟨n, e⟩ := at_ints (ns := ns) hk0 c
    walk_at "go"
    refine u_ixL hL e ?_
    walk_at "go"
    refine ⟨lk rfl, fun p hp => ?_⟩
    refine q _ p (same_new hp _) hp ⟨_, _, upd_same, ?_, Int.emod_nonneg _ (by omega), Int.emod_lt_of_pos _ (by omega)⟩
    exact Int.mul_nonneg (by split <;> omega) (by split <;> omega)
  · have c3 := isE c2
    obtain ⟨n, e⟩ := at_ints (ns := ns) (i := 0) (by omega) (by omega)
    walk_at "go"
    refine u_ixL hL e ?_
    walk_at "go"
    refine ⟨lk rfl, fun p hp => ?_⟩
    refine q _ p (same_new hp _) hp ⟨_, _, upd_same, ?_, Int.emod_nonneg _ (by omega), Int.emod_lt_of_pos _ (by omega)⟩
    exact Int.mul_nonneg (by split <;> omega) (by split <;> omega)
  · walk_at "go"
    refine ⟨lk rfl, fun p hp => ?_⟩
    refine q _ p (same_new hp _) hp ⟨_, _, upd_same, ?_, Int.emod_nonneg _ (by omega), Int.emod_lt_of_pos _ (by omega)⟩
    exact Int.mul_nonneg (by split <;> omega) (by split <;> omega)
end
end Mine

/-! ### G4 -/
namespace Mine
open PySem PySem.Spec L2
local macro_rules | `(tactic| walk_at "st") => `(tactic| first
  | ((with_reducible apply rd_var); exact rfl)
  | (with_reducible apply rd_c)
  | (with_reducible apply rd_seq)
  | (with_reducible apply rd_asg)
  | (with_reducible apply rd_gname)
  | (with_reducible apply rd_op)
  | (with_reducible apply rd_cb)
  | (with_reducible apply rd_cons)
  | (with_reducible apply rd_nil)
  | (with_reducible apply rd_if)
  | (with_reducible apply rd_test)
  | (with_reducible apply rd_bl)
  | (with_reducible apply rd_retE)
  | (with_reducible apply rd_ret)
  | (with_reducible apply rd_call)
  | (with_reducible apply rd_tup)
  | (with_reducible apply rd_lst)
  | (with_reducible apply rd_drop)
  | (with_reducible apply rd_next)
  | (with_reducible apply rd_ife)
  | (with_reducible apply rd_gsub)
  | (with_reducible apply rd_par)
  | (with_reducible apply rd_par_end)
  | (with_reducible apply rd_un)
  | (with_reducible apply rd_and)
  | (with_reducible apply rd_or)
  | (with_reducible apply rd_not)
  | (with_reducible apply rd_andV)
  | (with_reducible apply rd_orV)
  | (with_reducible apply rd_notV)
  | (with_reducible apply rd_chain)
  | (with_reducible apply rd_tB)
  | (with_reducible apply rd_brk)
  | (with_reducible apply rd_ct)
  | (with_reducible apply u_add)
  | (with_reducible apply u_sub)
  | (with_reducible apply u_lt)
  | (with_reducible apply u_le)
  | (with_reducible apply u_gt)
  | (with_reducible apply u_ge)
  | (with_reducible apply u_eqI)
  | (with_reducible apply u_eqS)
  | (with_reducible apply u_neI)
  | (with_reducible apply u_int)
  | (with_reducible apply u_intB)
  | (with_reducible apply u_max)
  | (with_reducible apply u_min)
  | (with_reducible apply u_neg)
  | ((with_reducible apply u_mod); focus first | assumption | decide | omega)
  | ((with_reducible apply u_div); focus first | decide | omega | (constructor <;> first | assumption | omega))
  | ((with_reducible apply u_mul); focus first | exact Or.inl (by omega) | exact Or.inr (by omega) | exact Or.inl (by decide) | exact Or.inr (by decide))
  | ((with_reducible apply u_ixL); (focus (first | assumption | exact SqL.of (by assumption) | exact SqL.of upd_same)); exact rfl)
  | ((with_reducible apply u_lenL); focus (first | assumption | exact SqL.of (by assumption) | exact SqL.of upd_same))
  | ((with_reducible apply u_lenT); focus (first | assumption | exact SqT.of (by assumption) | exact SqT.of upd_same))
  | ((with_reducible apply u_setL); (focus (first | assumption | exact upd_same)); exact rfl)
  | (with_reducible apply rd_chain3)
  | (with_reducible apply rd_tru)
  | (with_reducible apply rd_truB)
  | ((with_reducible apply rd_truL); focus (first | assumption | exact SqL.of (by assumption) | exact SqL.of upd_same))
  | (with_reducible apply rd_bm)
  | (with_reducible apply rd_bm0)
  | ((with_reducible apply rd_tyL); focus (first | exact SqL.of (by assumption) | exact SqL.of upd_same))
  | (with_reducible apply u_min3)
  | (with_reducible apply rd_rev)
  | (with_reducible apply rd_iList)
  | (with_reducible apply rd_iTup)
  | (with_reducible apply rd_for)
  | (with_reducible apply rd_rng1)
  | (with_reducible apply rd_rng2)
  | ((with_reducible apply rd_rng1e); (focus omega); (focus omega))
  | ((with_reducible apply rd_rng2e); (focus omega))
  | (with_reducible apply rd_gcons)
  | (with_reducible apply rd_gnil)
  | (with_reducible apply rd_retN)
  | (with_reducible apply g_eqI)
  | (with_reducible apply g_eqS)
  | (with_reducible apply g_neI)
  | (with_reducible apply g_neS)
  | (with_reducible apply g_neB)
  | (with_reducible apply rd_xf)
  | (with_reducible apply rd_raiseE)
  | (with_reducible apply rd_callS)
  | (with_reducible apply u_inD)
  | (with_reducible apply u_notInD)
  | (with_reducible apply u_inS)
  | (with_reducible apply u_notInS)
  | (with_reducible apply rd_iSeq)
  | ((with_reducible apply rd_seqL); (focus first | assumption | exact SqL.of (by assumption) | exact SqL.of upd_same))
  | ((with_reducible apply rd_seqT); (focus first | assumption | exact SqT.of (by assumption) | exact SqT.of upd_same))
  | (with_reducible apply rd_istr)
  | (with_reducible apply rd_istrE)
  | ((with_reducible apply u_isi); (focus (first | exact Or.inl rfl | exact Or.inr (Or.inl rfl) | exact Or.inr (Or.inr (Or.inl rfl)) | exact Or.inr (Or.inr (Or.inr rfl)))); (focus first | assumption | exact Rp.int _ | exact Rp.str _))
  | ((with_reducible apply rd_itL); (focus first | assumption | exact SqL.of (by assumption) | exact SqL.of upd_same))
  | ((with_reducible apply rd_itT); (focus first | assumption | exact SqT.of (by assumption) | exact SqT.of upd_same))
  | (with_reducible apply rd_lc)
  | (with_reducible apply rd_yes)
  | ((with_reducible apply u_pow); (focus (exact ⟨by decide, by decide, by decide⟩)))
  | (with_reducible apply u_mul; focus exact Or.inr cm)
  | (with_reducible apply rd_par3)
  | (with_reducible apply rd_par3_end)
  | ((with_reducible apply rd_aug); exact rfl)
  | (with_reducible apply rd_ipI)
  | (with_reducible apply rd_enA)
  | ((with_reducible apply u_enT); (focus first | assumption | exact SqT.of (by assumption) | exact SqT.of upd_same))
  | ((with_reducible apply u_enL); (focus first | assumption | exact SqL.of (by assumption) | exact SqL.of upd_same))
  | (with_reducible apply rd_zip)
  | (with_reducible apply rd_lc2)
  | ((with_reducible apply rd_gtup); (focus first | assumption | exact SqT.of (by assumption) | exact SqT.of upd_same); (focus rfl))
  | (with_reducible apply rd_dnew)
  | (with_reducible apply rd_din)
  | (with_reducible apply rd_dget)
  | (with_reducible apply rd_dput)
  | (with_reducible apply rd_disp1)
  | (with_reducible apply rd_sl)
  | (with_reducible apply rd_part)
  | (with_reducible apply rd_partI)
  | (with_reducible apply rd_nopart)
  | (with_reducible apply iteT)
  | (with_reducible apply iteF))
local macro_rules | `(tactic| walk_at "go") => `(tactic| repeat (walk_at "st"))
local macro_rules | `(tactic| walk_at "sp") => `(tactic| (first | refine rd_split (fun c => ?_) (fun c => ?_) | refine rd_splitN (fun c => ?_) (fun c => ?_) | refine rd_splitB (fun c => ?_) (fun c => ?_)))
local macro_rules | `(tactic| walk_at "nx") => `(tactic| repeat (first | (with_reducible apply iteF) | (with_reducible apply iteT) | (with_reducible apply rd_next)))

section
variable {P : Program} {w : World} {K : PySem.W.Frag} {mg : Str → Option Value} {base : Heap}
def nV (ns : List Nat) : List V := ns.map fun (n : Nat) => V.int (n : Int)
theorem nV_len (l : List Nat) : (nV l).length = l.length := by unfold nV; rw [List.length_map]
theorem nV_app (a b : List Nat) : nV (a ++ b) = nV a ++ nV b := by unfold nV; rw [List.map_append]
theorem SqL.same {K : PySem.W.Frag} {H H' : Hp} {p : Addr} {xs : List V} (h : SqL K H p xs) (s : Same H H') : SqL K H' p xs := by
  rcases h with (h | ⟨o, h⟩) | h
  · exact .inl (.inl (s _ _ h))
  · exact .inl (.inr ⟨o, s _ _ h⟩)
  · exact .inr h
theorem none_ofS {H H' : Hp} {p : Addr} (s : Same H H') (h : H' p = none) : H p = none := by
  cases hh : H p with
  | none => rfl
  | some o => rw [s _ _ hh] at h; cases h
def Ent.py (e : Ent) : PyData := .tuple [.int e.n, .int e.h, .tuple e.s]
theorem Rp.ent {K : PySem.W.Frag} {H : Hp} {v : V} {e : Ent} (r : Rp K H v e.py) : ∃ a b ys, v = .ref a ∧ SqT K H a [.int e.n, .int e.h, .ref b] ∧ SqT K H b ys ∧ Rps K H ys e.s := by
  unfold Ent.py at r
  cases r with
  | @tup a xs ds hs hR =>
    cases hR with
    | cons r1 hR =>
      cases hR with
      | cons r2 hR =>
        cases hR with
        | cons r3 hR =>
          cases hR
          cases r1
          cases r2
          cases r3 with
          | @tup b ys es hb hE => exact ⟨a, b, ys, rfl, hs, hb, hE⟩
theorem Good.card : ∀ {bs : List Bk}, Good bs → bs.length ≤ (fl bs).length
  | [], _ => Nat.le_refl _
  | b :: r, h => by
    have i1 := h.len
    have i2 := h.tail.card
    rw [fl_cons, List.length_append, List.length_cons]
    omega
/-- a block as an entry of a row -/
def seg (b : Bk) : Ent := ⟨b.H, b.V, b.es.flatMap Ent.s⟩
/-- any entries stand in blocks -/
theorem way_all : ∀ (n : Nat) (bs : List Bk) (b : Bk), bs.length ≤ n → Good bs → Way bs b → ∃ cs, Good cs ∧ fl cs = fl bs ++ b.es
  | n, bs, b, hn, hg, hw => by
    rcases List.eq_nil_or_concat bs with rfl | ⟨r, t, rfl⟩
    · exact ⟨[] ++ [b], Good.push hg hw (fun t z => by simp at z), by rw [fl_append, fl_one]⟩
    · rw [List.concat_eq_append] at *
      by_cases c : b.H < t.H ∧ t.V < b.V
      · exact ⟨r ++ [t] ++ [b], Good.push hg hw (fun t' z => by
          have : t = t' := by simpa using z
          subst this
          exact c), by rw [fl_append, fl_one]⟩
      · have hj := Way.join hg hw (by
          by_cases c1 : t.H ≤ b.H
          · exact .inl c1
          · by_cases c2 : b.V ≤ t.V
            · exact .inr c2
            · exact absurd ⟨by omega, by omega⟩ c)
        cases n with
        | zero => simp at hn
        | succ n =>
          obtain ⟨cs, h1, h2⟩ := way_all n r _ (by simpa using hn) hg.init.1 hj
          refine ⟨cs, h1, ?_⟩
          rw [h2, fl_append, fl_one, List.append_assoc]
theorem good_all : ∀ es : List Ent, ∃ bs, Good bs ∧ fl bs = es := by
  have h : ∀ (n : Nat) (es : List Ent), es.length = n → ∃ bs, Good bs ∧ fl bs = es := by
    intro n
    induction n with
    | zero =>
      intro es he
      obtain rfl := List.eq_nil_of_length_eq_zero he
      exact ⟨[], Good.nil, rfl⟩
    | succ n ih =>
      intro es he
      rcases List.eq_nil_or_concat es with rfl | ⟨r, e, rfl⟩
      · simp at he
      · rw [List.concat_eq_append] at *
        obtain ⟨bs, h1, h2⟩ := ih r (by simpa using he)
        obtain ⟨cs, h3, h4⟩ := way_all bs.length bs _ (Nat.le_refl _) h1 (Way.one bs e)
        exact ⟨cs, h3, by rw [h4, h2]⟩
  exact fun es => h es.length es rfl
theorem u_tyLx {K : PySem.W.Frag} : True := trivial
end
end Mine

/-! ### G5 -/
namespace Mine
open PySem PySem.Spec L2
local macro_rules | `(tactic| walk_at "st") => `(tactic| first
  | ((with_reducible apply rd_var); exact rfl)
  | (with_reducible apply rd_c)
  | (with_reducible apply rd_seq)
  | (with_reducible apply rd_asg)
  | (with_reducible apply rd_gname)
  | (with_reducible apply rd_op)
  | (with_reducible apply rd_cb)
  | (with_reducible apply rd_cons)
  | (with_reducible apply rd_nil)
  | (with_reducible apply rd_if)
  | (with_reducible apply rd_test)
  | (with_reducible apply rd_bl)
  | (with_reducible apply rd_retE)
  | (with_reducible apply rd_ret)
  | (with_reducible apply rd_call)
  | (with_reducible apply rd_tup)
  | (with_reducible apply rd_lst)
  | (with_reducible apply rd_drop)
  | (with_reducible apply rd_next)
  | (with_reducible apply rd_ife)
  | (with_reducible apply rd_gsub)
  | (with_reducible apply rd_par)
  | (with_reducible apply rd_par_end)
  | (with_reducible apply rd_un)
  | (with_reducible apply rd_and)
  | (with_reducible apply rd_or)
  | (with_reducible apply rd_not)
  | (with_reducible apply rd_andV)
  | (with_reducible apply rd_orV)
  | (with_reducible apply rd_notV)
  | (with_reducible apply rd_chain)
  | (with_reducible apply rd_tB)
  | (with_reducible apply rd_brk)
  | (with_reducible apply rd_ct)
  | (with_reducible apply u_add)
  | (with_reducible apply u_sub)
  | (with_reducible apply u_lt)
  | (with_reducible apply u_le)
  | (with_reducible apply u_gt)
  | (with_reducible apply u_ge)
  | (with_reducible apply u_eqI)
  | (with_reducible apply u_eqS)
  | (with_reducible apply u_neI)
  | (with_reducible apply u_int)
  | (with_reducible apply u_intB)
  | (with_reducible apply u_max)
  | (with_reducible apply u_min)
  | (with_reducible apply u_neg)
  | ((with_reducible apply u_mod); focus first | assumption | decide | omega)
  | ((with_reducible apply u_div); focus first | decide | omega | (constructor <;> first | assumption | omega))
  | ((with_reducible apply u_mul); focus first | exact Or.inl (by omega) | exact Or.inr (by omega) | exact Or.inl (by decide) | exact Or.inr (by decide))
  | ((with_reducible apply u_ixL); (focus (first | assumption | exact SqL.of (by assumption) | exact SqL.of upd_same)); exact rfl)
  | ((with_reducible apply u_lenL); focus (first | assumption | exact SqL.of (by assumption) | exact SqL.of upd_same))
  | ((with_reducible apply u_lenT); focus (first | assumption | exact SqT.of (by assumption) | exact SqT.of upd_same))
  | ((with_reducible apply u_setL); (focus (first | assumption | exact upd_same)); exact rfl)
  | (with_reducible apply rd_chain3)
  | (with_reducible apply rd_tru)
  | (with_reducible apply rd_truB)
  | ((with_reducible apply rd_truL); focus (first | assumption | exact SqL.of (by assumption) | exact SqL.of upd_same))
  | (with_reducible apply rd_bm)
  | (with_reducible apply rd_bm0)
  | ((with_reducible apply rd_tyL); focus (first | exact SqL.of (by assumption) | exact SqL.of upd_same))
  | (with_reducible apply u_min3)
  | (with_reducible apply rd_rev)
  | (with_reducible apply rd_iList)
  | (with_reducible apply rd_iTup)
  | (with_reducible apply rd_for)
  | (with_reducible apply rd_rng1)
  | (with_reducible apply rd_rng2)
  | ((with_reducible apply rd_rng1e); (focus omega); (focus omega))
  | ((with_reducible apply rd_rng2e); (focus omega))
  | (with_reducible apply rd_gcons)
  | (with_reducible apply rd_gnil)
  | (with_reducible apply rd_retN)
  | (with_reducible apply g_eqI)
  | (with_reducible apply g_eqS)
  | (with_reducible apply g_neI)
  | (with_reducible apply g_neS)
  | (with_reducible apply g_neB)
  | (with_reducible apply rd_xf)
  | (with_reducible apply rd_raiseE)
  | (with_reducible apply rd_callS)
  | (with_reducible apply u_inD)
  | (with_reducible apply u_notInD)
  | (with_reducible apply u_inS)
  | (with_reducible apply u_notInS)
  | (with_reducible apply rd_iSeq)
  | ((with_reducible apply rd_seqL); (focus first | assumption | exact SqL.of (by assumption) | exact SqL.of upd_same))
  | ((with_reducible apply rd_seqT); (focus first | assumption | exact SqT.of (by assumption) | exact SqT.of upd_same))
  | (with_reducible apply rd_istr)
  | (with_reducible apply rd_istrE)
  | ((with_reducible apply u_isi); (focus (first | exact Or.inl rfl | exact Or.inr (Or.inl rfl) | exact Or.inr (Or.inr (Or.inl rfl)) | exact Or.inr (Or.inr (Or.inr rfl)))); (focus first | assumption | exact Rp.int _ | exact Rp.str _))
  | ((with_reducible apply rd_itL); (focus first | assumption | exact SqL.of (by assumption) | exact SqL.of upd_same))
  | ((with_reducible apply rd_itT); (focus first | assumption | exact SqT.of (by assumption) | exact SqT.of upd_same))
  | (with_reducible apply rd_lc)
  | (with_reducible apply rd_yes)
  | ((with_reducible apply u_pow); (focus (exact ⟨by decide, by decide, by decide⟩)))
  | (with_reducible apply u_mul; focus exact Or.inr cm)
  | (with_reducible apply rd_par3)
  | (with_reducible apply rd_par3_end)
  | ((with_reducible apply rd_aug); exact rfl)
  | (with_reducible apply rd_ipI)
  | (with_reducible apply rd_enA)
  | ((with_reducible apply u_enT); (focus first | assumption | exact SqT.of (by assumption) | exact SqT.of upd_same))
  | ((with_reducible apply u_enL); (focus first | assumption | exact SqL.of (by assumption) | exact SqL.of upd_same))
  | (with_reducible apply rd_zip)
  | (with_reducible apply rd_lc2)
  | ((with_reducible apply rd_gtup); (focus first | assumption | exact SqT.of (by assumption) | exact SqT.of upd_same); (focus rfl))
  | (with_reducible apply rd_dnew)
  | (with_reducible apply rd_din)
  | (with_reducible apply rd_dget)
  | (with_reducible apply rd_dput)
  | (with_reducible apply rd_disp1)
  | (with_reducible apply rd_sl)
  | (with_reducible apply rd_part)
  | (with_reducible apply rd_partI)
  | (with_reducible apply rd_nopart)
  | (with_reducible apply iteT)
  | (with_reducible apply iteF))
local macro_rules | `(tactic| walk_at "go") => `(tactic| repeat (walk_at "st"))
local macro_rules | `(tactic| walk_at "sp") => `(tactic| (first | refine rd_split (fun c => ?_) (fun c => ?_) | refine rd_splitN (fun c => ?_) (fun c => ?_) | refine rd_splitB (fun c => ?_) (fun c => ?_)))
local macro_rules | `(tactic| walk_at "nx") => `(tactic| repeat (first | (with_reducible apply iteF) | (with_reducible apply iteT) | (with_reducible apply rd_next)))

section
variable {P : Program} {w : World} {K : PySem.W.Frag} {mg : Str → Option Value} {base : Heap}
structure EntOk (e : Ent) : Prop where
  n : 0 ≤ e.n
  h : 0 ≤ e.h
  s : e.s.length ≤ 2
  i : ∃ l : List Int, e.s = l.map PyData.int
def spRn (K : PySem.W.Frag) : Sp := fun vs H Q _ => ∃ (a : Addr) (m : Int), vs = [.ref a, .int m] ∧ Src H a ∧ 0 ≤ m ∧ m ≤ 40 ∧
  ∀ (H' : Hp) (q : Addr) (xs : List V) (es : List Ent), SB a H H' → Src H' a → SqT K H' q xs → Rps K H' xs (es.map Ent.py) → (∀ e ∈ es, EntOk e) → es.length ≤ 40 → Q (.ref q) H'
theorem use_rn {K : PySem.W.Frag} {a : Addr} {m : Int} {H : Hp} {Q : VK} {E : XK} (h : Src H a) (h0 : 0 ≤ m) (h1 : m ≤ 40) (q : ∀ (H' : Hp) (q : Addr) (xs : List V) (es : List Ent), SB a H H' → Src H' a → SqT K H' q xs → Rps K H' xs (es.map Ent.py) → (∀ e ∈ es, EntOk e) → es.length ≤ 40 → Q (.ref q) H') : spRn K [.ref a, .int m] H Q E := ⟨a, m, rfl, h, h0, h1, q⟩
theorem SB.keep {a : Addr} {H H' : Hp} {p : Addr} (s : SB a H H') (n : p ≠ a) {o : HO} (h : H p = some o) : H' p = some o := s p o n h
abbrev s_law_run : Stmt := top 8
theorem sc_law_run : FnScope ["source", "most", "many", "step", "is_any", "high", "low", "found", "k", "needed", "held", "steps", "j"] ["source", "most"] (defScope s_law_run) := ⟨rfl, rfl, rfl, by decide +kernel, rfl, by decide +kernel, by decide +kernel⟩
theorem has_law_run (O : OwnF K mg "_law_run" s_law_run) (B : Bl mg) (h_law_take : HasF P w K mg base CX0 1 "_law_take" ["source", "top"] spTake) (h_law_one : HasF P w K mg base CX0 2 "_law_one" ["source", "things"] (spOne K)) : HasF P w K mg base CX0 3 "_law_run" ["source", "most"] (spRn K) := by
  refine has0 O sc_law_run (fun _ _ _ _ _ _ us hl => match us, hl with | [_, _], _ => rfl) (fun vs H Q E h => ?_) (fun f cdv A outer s_ H vs Q E hr h => ?_)
  · obtain ⟨a, m, rfl, _⟩ := h
    rfl
  obtain ⟨a, m, rfl, hS, hm0, hm1, q⟩ := h
  refine ⟨_, (pss_cons (ps_par3 (i := 2) (j := 3) (l := 4) (by rfl) sc_law_run.nd rfl rfl rfl (by decide) (by decide) (by decide) rfl rfl rfl (pa_cons (pe_callH h_law_take (hr.mono (by first | decide | omega)) (by rfl) pass0 (pa_cons (pv 0) (pa_cons (pe_op (kAdd K) (pv 1) pe_int) pa_nil))) (pa_cons (pe_callH h_law_one (hr.mono (by first | decide | omega)) (by rfl) pass0 (pa_cons (pv 0) (pa_cons (pe_lst (pa_cons pe_int (pa_cons pe_int (pa_cons pe_int (pa_cons (pe_op powU pe_int pe_int) pa_nil))))) pa_nil))) (pa_cons (pe_cmpR (kEqG K (hU hr)) (pe_callH h_law_take (hr.mono (by first | decide | omega)) (by rfl) pass0 (pa_cons (pv 0) (pa_cons pe_int pa_nil))) pe_int (nomark _)) pa_nil))) (by rfl)) (pss_cons (ps_par3 (i := 5) (j := 6) (l := 7) (by rfl) sc_law_run.nd rfl rfl rfl (by decide) (by decide) (by decide) rfl rfl rfl (pa_cons (pe_op (kAdd K) (pe_op (kAdd K) (pe_op (kMul K) pe_int (pv 2)) pe_int) (pe_callH h_law_take (hr.mono (by first | decide | omega)) (by rfl) pass0 (pa_cons (pv 0) (pa_cons pe_int pa_nil)))) (pa_cons pe_int (pa_cons (pe_lst pa_nil) pa_nil))) (by rfl)) (pss_cons (ps_for PassesOwn.never rfl (pi_range1 (by rfl) B.range (pa_cons (pv 2) pa_nil)) (pg_name (i := 8) sc_law_run.nd rfl (by first | exact Or.inl rfl | exact Or.inr rfl)) (pss_cons (ps_set (i := 5) sc_law_run.nd rfl (by first | exact Or.inl rfl | exact Or.inr rfl) (pe_op subU (pv 5) (pe_callH h_law_take (hr.mono (by first | decide | omega)) (by rfl) pass0 (pa_cons (pv 0) (pa_cons pe_int pa_nil))))) (pss_cons (ps_set (i := 6) sc_law_run.nd rfl (by first | exact Or.inl rfl | exact Or.inr rfl) (pe_op (kAdd K) (pv 6) (pe_callH h_law_take (hr.mono (by first | decide | omega)) (by rfl) pass0 (pa_cons (pv 0) (pa_cons pe_int pa_nil))))) (pss_cons (ps_set (i := 9) sc_law_run.nd rfl (by first | exact Or.inl rfl | exact Or.inr rfl) (pe_op subU (pv 5) (pe_op (kMul K) (pe_callH h_law_take (hr.mono (by first | decide | omega)) (by rfl) pass0 (pa_cons (pv 0) (pa_cons pe_int pa_nil))) (pe_callH h_law_take (hr.mono (by first | decide | omega)) (by rfl) pass0 (pa_cons (pv 0) (pa_cons pe_int pa_nil)))))) (pss_cons (ps_set (i := 10) sc_law_run.nd rfl (by first | exact Or.inl rfl | exact Or.inr rfl) (pe_op (kAdd K) (pv 6) (pe_op (kMul K) (pe_callH h_law_take (hr.mono (by first | decide | omega)) (by rfl) pass0 (pa_cons (pv 0) (pa_cons pe_int pa_nil))) (pe_callH h_law_take (hr.mono (by first | decide | omega)) (by rfl) pass0 (pa_cons (pv 0) (pa_cons pe_int pa_nil)))))) (pss_cons (ps_if (pt_truthK K (pv 4) (by intro _; rfl)) (pss_one (ps_par (i := 9) (j := 10) (by rfl) sc_law_run.nd rfl rfl (by decide) rfl rfl (pa_cons (pe_callH h_law_take (hr.mono (by first | decide | omega)) (by rfl) pass0 (pa_cons (pv 0) (pa_cons pe_int pa_nil))) (pa_cons (pe_callH h_law_take (hr.mono (by first | decide | omega)) (by rfl) pass0 (pa_cons (pv 0) (pa_cons pe_int pa_nil))) pa_nil)) (by rfl))) pss_nil) (pss_cons (ps_set (i := 11) sc_law_run.nd rfl (by first | exact Or.inl rfl | exact Or.inr rfl) (pe_callTy (kTup K) (by rfl) B.tuple (by decide +kernel) (pa_cons (pe_lc (own := [("j", 12)]) (g := gName 12) (tt := tYes) rfl sc_law_run.nd (pi_range1 (by rfl) B.range (pa_cons (pe_callH h_law_take (hr.mono (by first | decide | omega)) (by rfl) pass0 (pa_cons (pv 0) (pa_cons pe_int pa_nil))) pa_nil)) (blkOk_by (own := [("j", 12)]) (N := ["source", "most", "many", "step", "is_any", "high", "low", "found", "k", "needed", "held", "steps", "j"]) (sc := defScope s_law_run) (by decide +kernel)) (fun _ _ _ _ _ => (pg_name (i := 12) sc_law_run.nd rfl (by first | exact Or.inl rfl | exact Or.inr rfl))) (fun _ _ _ _ _ => pts_nil) (fun _ _ _ _ _ => (pe_op (kAdd K) (pe_op (kMul K) pe_int (pv 8)) (pv 12)))) pa_nil))) (pss_one (ps_expr (pe_bmK K PySem.F.plainAttrs_list PySem.F.slot_list_append PySem.F.type_list_append mt_append (pv 7) (pa_cons (pe_tup (pa_cons (pe_op (kMul K) (pv 3) (pv 9)) (pa_cons (pe_op (kMul K) (pv 3) (pv 10)) (pa_cons (pv 11) pa_nil)))) pa_nil))))))))))) (pss_one (ps_ret (pe_callTy (kTup K) (by rfl) B.tuple (by decide +kernel) (pa_cons (pv 7) pa_nil))))))), ?_⟩
  refine st0 [some (.ref a), some (.int m), none, none, none, none, none, none, none, none, none, none, none] rfl ?_
  walk_at "go"
  refine use_take hS (by omega) (by omega) fun H1 r s1 hS1 hr0 hr1 => ?_
  walk_at "go"
  refine ⟨lk rfl, fun p hp => ?_⟩
  walk_at "go"
  refine use_one (xs := [.int 1, .int 1, .int 1, .int (10 ^ (20 : Int).toNat)]) (hS1.new hp) (SqL.of upd_same) (hS1.ne hp) (by simp) (by simp) fun H2 v s2 hS2 hv => ?_
  have sb2 : SB a H H2 := (s1.trans (SB.refl.new hp)).trans s2
  obtain ⟨st, rfl, hst⟩ : ∃ st : Int, v = .int st ∧ 0 ≤ st := by
    have hv' : v = .int 1 ∨ v = .int (10 ^ (20 : Int).toNat) := by simpa using hv
    rcases hv' with rfl | rfl
    · exact ⟨_, rfl, by decide⟩
    · exact ⟨_, rfl, by decide⟩
  walk_at "go"
  refine use_take hS2 (by omega) (by omega) fun H3 r3 s3 hS3 h30 h31 => ?_
  walk_at "go"
  refine use_take hS3 (by omega) (by omega) fun H4 r4 s4 hS4 h40 h41 => ?_
  walk_at "go"
  refine ⟨lk rfl, fun p2 hp2 => ?_⟩
  walk_at "go"
  have hp2H : H p2 = none := (((sb2.trans s3).trans s4)).fresh (hS4.ne hp2) hp2
  have np2 := hS4.ne hp2
  have sb4 := (sb2.trans s3).trans s4
  refine forR (fun i σ H' => ∃ (b : Bool) (hi lo : Int) (ws : List V) (es : List Ent) (o8 o9 o10 o11 : Option V), σ = [some (.ref a), some (.int m), some (.int r), some (.int st), some (.bl b), some (.int hi), some (.int lo), some (.ref p2), o8, o9, o10, o11, none] ∧ SB a H H' ∧ Src H' a ∧ H' p2 = some (.lst ws) ∧ Rps K H' ws (es.map Ent.py) ∧ (∀ e ∈ es, EntOk e) ∧ es.length = i ∧ 4 * r + 6 - 3 * (i : Int) ≤ hi ∧ hi ≤ 4 * r + 14 ∧ 0 ≤ lo ∧ lo ≤ 3 * (i : Int))
    ⟨decide (r3 = 0), 4 * r + 6 + r4, 0, [], [], _, _, _, _, rfl, sb4.new hp2, hS4.new hp2, upd_same, .nil, fun _ z => (by cases z), rfl, by omega, by omega, by omega, by omega⟩ ?_ ?_
  · rintro i σ H' hi' ⟨b, hi, lo, ws, es, o8, o9, o10, o11, rfl, g1, g2, g3, g4, g5, g6, g7, g8, g9', g10⟩
    have lw : ws.length = i := by rw [g4.length, List.length_map]; exact g6
    have hir : (i : Int) < r := by omega
    walk_at "go"
    refine use_take g2 (by omega) (by omega) fun Ha r5 sa hSa h50 h51 => ?_
    walk_at "go"
    refine use_take hSa (by omega) (by omega) fun Hb r6 sb hSb h60 h61 => ?_
    walk_at "go"
    refine use_take hSb (by omega) (by omega) fun Hc r7 sc hSc h70 h71 => ?_
    walk_at "go"
    refine use_take hSc (by omega) (by omega) fun Hd r7b sd hSd h7b0 h7b1 => ?_
    have m1 : 0 ≤ r7 * r7b ∧ r7 * r7b ≤ 5 := by
      rcases (by omega : r7 = 0 ∨ r7 = 1) with z | z <;> rw [z] <;> omega
    walk_at "go"
    refine use_take hSd (by omega) (by omega) fun He r7c se hSe h7c0 h7c1 => ?_
    walk_at "go"
    refine use_take hSe (by omega) (by omega) fun Hf r7d sf hSf h7d0 h7d1 => ?_
    have m2 : 0 ≤ r7c * r7d ∧ r7c * r7d ≤ 4 := by
      rcases (by omega : r7c = 0 ∨ r7c = 1) with z | z <;> rw [z] <;> omega
    have sf' : SB a H' Hf := ((((sa.trans sb).trans sc).trans sd).trans se).trans sf
    have gf := sf'.keep np2 g3
    have gRf := g4.mono (g2.ext (K := K) sf') _ _
    have gSf := g1.trans sf'
    obtain ⟨n1, en1, n1a, n1b⟩ : ∃ n1, hi - r5 - r7 * r7b = n1 ∧ 0 ≤ n1 ∧ n1 ≤ 1000 := ⟨_, rfl, by omega, by omega⟩
    obtain ⟨n2, en2, n2a, n2b⟩ : ∃ n2, lo + r6 + r7c * r7d = n2 ∧ 0 ≤ n2 ∧ n2 ≤ 1000 := ⟨_, rfl, by omega, by omega⟩
    rw [en1]
    walk_at "go"
    rw [en2]
    walk_at "go"
    refine rd_splitB (fun cb => ?_) (fun cb => ?_)
    · walk_at "go"
      refine use_take hSf (by omega) (by omega) fun Hg r9 sg hSg h90 h91 => ?_
      walk_at "go"
      refine use_take hSg (by omega) (by omega) fun Hh r9b sh hSh h9b0 h9b1 => ?_
      have sh' := sg.trans sh
      have gh := sh'.keep np2 gf
      have gRh := gRf.mono (hSf.ext (K := K) sh') _ _
      have gSh := gSf.trans sh'
      walk_at "go"
      refine use_take hSh (by omega) (by omega) fun H8 r8 s8 hS8 h80 h81 => ?_
      walk_at "go"
      intro D hD
      refine lc_range (lo := 0) (n := r8.toNat) (fun j H9 => ∃ ns : List Int, H9 D = some (.lst (ns.map V.int)) ∧ ns.length = j ∧ Same H8 H9) ⟨[], upd_same, rfl, Same.upd_new (Same.refl H8) hD⟩ ?_ ?_
      · rintro j H9 hj ⟨ns, y1, y2, y3⟩
        walk_at "go"
        refine ⟨rfl, ?_⟩
        walk_at "go"
        exact ⟨_, y1, by rw [List.length_map]; exact ls (by omega), ns ++ [10 * (0 + (i : Int)) + (0 + (j : Int))], by rw [upd_same, List.map_append]; rfl, by rw [List.length_append, y2]; rfl, Same.upd_new y3 hD⟩
      rintro H9 ⟨ns, y1, y2, y3⟩
      walk_at "go"
      refine u_tupL (SqL.of y1) fun p6 hp6 => ?_
      walk_at "go"
      have g9 : Same H8 (upd H9 p6 (.tup (ns.map V.int))) := Same.new y3 hp6
      have y4 : SqT K (upd H9 p6 (.tup (ns.map V.int))) p6 (ns.map V.int) := SqT.of upd_same
      have y5 := g9 _ _ (s8.keep np2 gh)
      have y6 := gRh.mono ((hSh.ext (K := K) s8).trans (Ext.of_same g9)) _ _
      have y7 : SB a H (upd H9 p6 (.tup (ns.map V.int))) := (gSh.trans s8).trans (SB.of_same g9)
      have hSA := hS8.same g9
      generalize upd H9 p6 (.tup (ns.map V.int)) = HA at *
      refine rd_tyL (SqL.of y5) ?_
      walk_at "go"
      refine ⟨lk rfl, fun p7 hp7 => ?_⟩
      have n7 : p2 ≠ p7 := ne_of_none y5 hp7
      have y8 : (upd HA p7 (.tup [.int (st * r9), .int (st * r9b), .ref p6])) p2 = some (.lst ws) := by rw [upd_ne n7]; exact y5
      have x8 : Ext K HA (upd (upd HA p7 (.tup [.int (st * r9), .int (st * r9b), .ref p6])) p2 (.lst (ws ++ [.ref p7]))) := (Ext.new hp7).trans (Ext.set y8 trivial)
      walk_at "go"
      refine u_app y8 (ls (by omega)) ?_
      refine ⟨b, hi - r5, lo + r6, ws ++ [.ref p7], es ++ [⟨st * r9, st * r9b, ns.map PyData.int⟩], _, _, _, _, rfl, (y7.new hp7).upd_new hp2H, (hSA.new hp7).set np2, upd_same, ?_, ?_, ?_, by omega, by omega, by omega, by omega⟩
      · rw [List.map_append]
        refine (y6.mono x8 _ _).append (.one (.tup (SqT.of (by rw [upd_ne n7.symm]; exact upd_same)) ?_))
        exact .cons (.int _) (.cons (.int _) (.cons (.tup (x8 _ _ y4) (Rps.ints _)) .nil))
      · intro e he
        rcases List.mem_append.mp he with he | he
        · exact g5 e he
        · obtain rfl : e = ⟨st * r9, st * r9b, ns.map PyData.int⟩ := by simpa using he
          exact ⟨Int.mul_nonneg hst (by omega), Int.mul_nonneg hst (by omega), by show (ns.map PyData.int).length ≤ 2; rw [List.length_map]; omega, ns, rfl⟩
      · rw [List.length_append, g6] <;> rfl
    · walk_at "go"
      refine use_take hSf (by omega) (by omega) fun H8 r8 s8 hS8 h80 h81 => ?_
      walk_at "go"
      intro D hD
      refine lc_range (lo := 0) (n := r8.toNat) (fun j H9 => ∃ ns : List Int, H9 D = some (.lst (ns.map V.int)) ∧ ns.length = j ∧ Same H8 H9) ⟨[], upd_same, rfl, Same.upd_new (Same.refl H8) hD⟩ ?_ ?_
      · rintro j H9 hj ⟨ns, y1, y2, y3⟩
        walk_at "go"
        refine ⟨rfl, ?_⟩
        walk_at "go"
        exact ⟨_, y1, by rw [List.length_map]; exact ls (by omega), ns ++ [10 * (0 + (i : Int)) + (0 + (j : Int))], by rw [upd_same, List.map_append]; rfl, by rw [List.length_append, y2]; rfl, Same.upd_new y3 hD⟩
      rintro H9 ⟨ns, y1, y2, y3⟩
      walk_at "go"
      refine u_tupL (SqL.of y1) fun p6 hp6 => ?_
      walk_at "go"
      have g9 : Same H8 (upd H9 p6 (.tup (ns.map V.int))) := Same.new y3 hp6
      have y4 : SqT K (upd H9 p6 (.tup (ns.map V.int))) p6 (ns.map V.int) := SqT.of upd_same
      have y5 := g9 _ _ (s8.keep np2 gf)
      have y6 := gRf.mono ((hSf.ext (K := K) s8).trans (Ext.of_same g9)) _ _
      have y7 : SB a H (upd H9 p6 (.tup (ns.map V.int))) := (gSf.trans s8).trans (SB.of_same g9)
      have hSA := hS8.same g9
      generalize upd H9 p6 (.tup (ns.map V.int)) = HA at *
      refine rd_tyL (SqL.of y5) ?_
      walk_at "go"
      refine ⟨lk rfl, fun p7 hp7 => ?_⟩
      have n7 : p2 ≠ p7 := ne_of_none y5 hp7
      have y8 : (upd HA p7 (.tup [.int (st * n1), .int (st * n2), .ref p6])) p2 = some (.lst ws) := by rw [upd_ne n7]; exact y5
      have x8 : Ext K HA (upd (upd HA p7 (.tup [.int (st * n1), .int (st * n2), .ref p6])) p2 (.lst (ws ++ [.ref p7]))) := (Ext.new hp7).trans (Ext.set y8 trivial)
      walk_at "go"
      refine u_app y8 (ls (by omega)) ?_
      refine ⟨b, hi - r5, lo + r6, ws ++ [.ref p7], es ++ [⟨st * n1, st * n2, ns.map PyData.int⟩], _, _, _, _, rfl, (y7.new hp7).upd_new hp2H, (hSA.new hp7).set np2, upd_same, ?_, ?_, ?_, by omega, by omega, by omega, by omega⟩
      · rw [List.map_append]
        refine (y6.mono x8 _ _).append (.one (.tup (SqT.of (by rw [upd_ne n7.symm]; exact upd_same)) ?_))
        exact .cons (.int _) (.cons (.int _) (.cons (.tup (x8 _ _ y4) (Rps.ints _)) .nil))
      · intro e he
        rcases List.mem_append.mp he with he | he
        · exact g5 e he
        · obtain rfl : e = ⟨st * n1, st * n2, ns.map PyData.int⟩ := by simpa using he
          exact ⟨Int.mul_nonneg hst (by omega), Int.mul_nonneg hst (by omega), by show (ns.map PyData.int).length ≤ 2; rw [List.length_map]; omega, ns, rfl⟩
      · rw [List.length_append, g6] <;> rfl
  · rintro σ H' ⟨b, hi, lo, ws, es, o8, o9, o10, o11, rfl, g1, g2, g3, g4, g5, g6, g7, g8, g9', g10⟩
    walk_at "go"
    refine u_tupL (SqL.of g3) fun l hl => ?_
    exact q _ l ws es (g1.new hl) (g2.new hl) (SqT.of upd_same) (g4.mono (Ext.new hl) _ _) g5 (by omega)
end
end Mine

/-! ### G6 -/
namespace Mine
open PySem PySem.Spec L2
local macro_rules | `(tactic| walk_at "st") => `(tactic| first
  | ((with_reducible apply rd_var); exact rfl)
  | (with_reducible apply rd_c)
  | (with_reducible apply rd_seq)
  | (with_reducible apply rd_asg)
  | (with_reducible apply rd_gname)
  | (with_reducible apply rd_op)
  | (with_reducible apply rd_cb)
  | (with_reducible apply rd_cons)
  | (with_reducible apply rd_nil)
  | (with_reducible apply rd_if)
  | (with_reducible apply rd_test)
  | (with_reducible apply rd_bl)
  | (with_reducible apply rd_retE)
  | (with_reducible apply rd_ret)
  | (with_reducible apply rd_call)
  | (with_reducible apply rd_tup)
  | (with_reducible apply rd_lst)
  | (with_reducible apply rd_drop)
  | (with_reducible apply rd_next)
  | (with_reducible apply rd_ife)
  | (with_reducible apply rd_gsub)
  | (with_reducible apply rd_par)
  | (with_reducible apply rd_par_end)
  | (with_reducible apply rd_un)
  | (with_reducible apply rd_and)
  | (with_reducible apply rd_or)
  | (with_reducible apply rd_not)
  | (with_reducible apply rd_andV)
  | (with_reducible apply rd_orV)
  | (with_reducible apply rd_notV)
  | (with_reducible apply rd_chain)
  | (with_reducible apply rd_tB)
  | (with_reducible apply rd_brk)
  | (with_reducible apply rd_ct)
  | (with_reducible apply u_add)
  | (with_reducible apply u_sub)
  | (with_reducible apply u_lt)
  | (with_reducible apply u_le)
  | (with_reducible apply u_gt)
  | (with_reducible apply u_ge)
  | (with_reducible apply u_eqI)
  | (with_reducible apply u_eqS)
  | (with_reducible apply u_neI)
  | (with_reducible apply u_int)
  | (with_reducible apply u_intB)
  | (with_reducible apply u_max)
  | (with_reducible apply u_min)
  | (with_reducible apply u_neg)
  | ((with_reducible apply u_mod); focus first | assumption | decide | omega)
  | ((with_reducible apply u_div); focus first | decide | omega | (constructor <;> first | assumption | omega))
  | ((with_reducible apply u_mul); focus first | exact Or.inl (by omega) | exact Or.inr (by omega) | exact Or.inl (by decide) | exact Or.inr (by decide))
  | ((with_reducible apply u_ixL); (focus (first | assumption | exact SqL.of (by assumption) | exact SqL.of upd_same)); exact rfl)
  | ((with_reducible apply u_lenL); focus (first | assumption | exact SqL.of (by assumption) | exact SqL.of upd_same))
  | ((with_reducible apply u_lenT); focus (first | assumption | exact SqT.of (by assumption) | exact SqT.of upd_same))
  | ((with_reducible apply u_setL); (focus (first | assumption | exact upd_same)); exact rfl)
  | (with_reducible apply rd_chain3)
  | (with_reducible apply rd_tru)
  | (with_reducible apply rd_truB)
  | ((with_reducible apply rd_truL); focus (first | assumption | exact SqL.of (by assumption) | exact SqL.of upd_same))
  | (with_reducible apply rd_bm)
  | (with_reducible apply rd_bm0)
  | ((with_reducible apply rd_tyL); focus (first | exact SqL.of (by assumption) | exact SqL.of upd_same))
  | (with_reducible apply u_min3)
  | (with_reducible apply rd_rev)
  | (with_reducible apply rd_iList)
  | (with_reducible apply rd_iTup)
  | (with_reducible apply rd_for)
  | (with_reducible apply rd_rng1)
  | (with_reducible apply rd_rng2)
  | ((with_reducible apply rd_rng1e); (focus omega); (focus omega))
  | ((with_reducible apply rd_rng2e); (focus omega))
  | (with_reducible apply rd_gcons)
  | (with_reducible apply rd_gnil)
  | (with_reducible apply rd_retN)
  | (with_reducible apply g_eqI)
  | (with_reducible apply g_eqS)
  | (with_reducible apply g_neI)
  | (with_reducible apply g_neS)
  | (with_reducible apply g_neB)
  | (with_reducible apply rd_xf)
  | (with_reducible apply rd_raiseE)
  | (with_reducible apply rd_callS)
  | (with_reducible apply u_inD)
  | (with_reducible apply u_notInD)
  | (with_reducible apply u_inS)
  | (with_reducible apply u_notInS)
  | (with_reducible apply rd_iSeq)
  | ((with_reducible apply rd_seqL); (focus first | assumption | exact SqL.of (by assumption) | exact SqL.of upd_same))
  | ((with_reducible apply rd_seqT); (focus first | assumption | exact SqT.of (by assumption) | exact SqT.of upd_same))
  | (with_reducible apply rd_istr)
  | (with_reducible apply rd_istrE)
  | ((with_reducible apply u_isi); (focus (first | exact Or.inl rfl | exact Or.inr (Or.inl rfl) | exact Or.inr (Or.inr (Or.inl rfl)) | exact Or.inr (Or.inr (Or.inr rfl)))); (focus first | assumption | exact Rp.int _ | exact Rp.str _))
  | ((with_reducible apply rd_itL); (focus first | assumption | exact SqL.of (by assumption) | exact SqL.of upd_same))
  | ((with_reducible apply rd_itT); (focus first | assumption | exact SqT.of (by assumption) | exact SqT.of upd_same))
  | (with_reducible apply rd_lc)
  | (with_reducible apply rd_yes)
  | ((with_reducible apply u_pow); (focus (exact ⟨by decide, by decide, by decide⟩)))
  | (with_reducible apply u_mul; focus exact Or.inr cm)
  | (with_reducible apply rd_par3)
  | (with_reducible apply rd_par3_end)
  | ((with_reducible apply rd_aug); exact rfl)
  | (with_reducible apply rd_ipI)
  | (with_reducible apply rd_enA)
  | ((with_reducible apply u_enT); (focus first | assumption | exact SqT.of (by assumption) | exact SqT.of upd_same))
  | ((with_reducible apply u_enL); (focus first | assumption | exact SqL.of (by assumption) | exact SqL.of upd_same))
  | (with_reducible apply rd_zip)
  | (with_reducible apply rd_lc2)
  | ((with_reducible apply rd_gtup); (focus first | assumption | exact SqT.of (by assumption) | exact SqT.of upd_same); (focus rfl))
  | (with_reducible apply rd_dnew)
  | (with_reducible apply rd_din)
  | (with_reducible apply rd_dget)
  | (with_reducible apply rd_dput)
  | (with_reducible apply rd_disp1)
  | (with_reducible apply rd_sl)
  | (with_reducible apply rd_part)
  | (with_reducible apply rd_partI)
  | (with_reducible apply rd_nopart)
  | (with_reducible apply iteT)
  | (with_reducible apply iteF))
local macro_rules | `(tactic| walk_at "go") => `(tactic| repeat (walk_at "st"))
local macro_rules | `(tactic| walk_at "sp") => `(tactic| (first | refine rd_split (fun c => ?_) (fun c => ?_) | refine rd_splitN (fun c => ?_) (fun c => ?_) | refine rd_splitB (fun c => ?_) (fun c => ?_)))
local macro_rules | `(tactic| walk_at "nx") => `(tactic| repeat (first | (with_reducible apply iteF) | (with_reducible apply iteT) | (with_reducible apply rd_next)))

section
variable {P : Program} {w : World} {K : PySem.W.Frag} {mg : Str → Option Value} {base : Heap}
theorem Rps.dropE {K : PySem.W.Frag} {H : Hp} {xs : List V} {es : List Ent} (n : Nat) (r : Rps K H xs (es.map Ent.py)) : Rps K H (xs.drop n) ((es.drop n).map Ent.py) := by rw [List.map_drop]; exact r.drop n
theorem Rps.takeE {K : PySem.W.Frag} {H : Hp} {xs : List V} {es : List Ent} (n : Nat) (r : Rps K H xs (es.map Ent.py)) : Rps K H (xs.take n) ((es.take n).map Ent.py) := by rw [List.map_take]; exact r.take n
theorem Rps.atE {K : PySem.W.Frag} {H : Hp} {xs : List V} {es : List Ent} {k : Nat} {x : V} (r : Rps K H xs (es.map Ent.py)) (h : xs[k]? = some x) : ∃ e, es[k]? = some e ∧ Rp K H x e.py := by
  obtain ⟨d, hd, rd⟩ := r.getV h
  rw [List.getElem?_map, Option.map_eq_some_iff] at hd
  obtain ⟨e, he, rfl⟩ := hd
  exact ⟨e, he, rd⟩
theorem Rps.lenE {K : PySem.W.Frag} {H : Hp} {xs : List V} {es : List Ent} (r : Rps K H xs (es.map Ent.py)) : xs.length = es.length := by rw [r.length, List.length_map]
theorem nV_ints (l : List Nat) : nV l = (l.map fun (n : Nat) => (n : Int)).map V.int := by unfold nV; rw [List.map_map] <;> rfl
theorem nV_snoc (l : List Nat) (t k : Nat) : nV (l ++ [t + k]) = nV l ++ [V.int ((t : Int) + (k : Int))] := by
  unfold nV
  rw [List.map_append]
  simp
def spLh (K : PySem.W.Frag) : Sp := fun vs H Q _ => ∃ (a : Addr) (xs : List V) (bs : List Bk), vs = [.ref a] ∧ SqT K H a xs ∧ Rps K H xs ((fl bs).map Ent.py) ∧ Good bs ∧ (fl bs).length ≤ 1000 ∧ ((fl bs).flatMap Ent.s).length ≤ 100000 ∧
  ∀ (H' : Hp) (p : Addr) (ws : List V), Same H H' → H p = none → H' p = some (.lst ws) → Rps K H' ws ((bs.map seg).map Ent.py) → Q (.ref p) H'
abbrev s_law_hills : Stmt := top 9
theorem sc_law_hills : FnScope ["walk", "found", "at", "turn", "rest", "hill", "step", "top", "k", "low", "end", "steps"] ["walk"] (defScope s_law_hills) := ⟨rfl, rfl, rfl, by decide +kernel, rfl, by decide +kernel, by decide +kernel⟩
theorem has_law_hills (O : OwnF K mg "_law_hills" s_law_hills) (B : Bl mg) : HasF P w K mg base CX0 1 "_law_hills" ["walk"] (spLh K) := by
  refine has0 O sc_law_hills (fun _ _ _ _ _ _ us hl => match us, hl with | [_], _ => rfl) (fun vs H Q E h => ?_) (fun f cdv A outer s_ H vs Q E hr h => ?_)
  · obtain ⟨a, xs, bs, rfl, _⟩ := h
    rfl
  obtain ⟨a, xs, bs, rfl, hs, hR, hG, hl, hb, q⟩ := h
  have lx := hR.lenE
  have lbs := hG.card
  refine ⟨_, (pss_cons (ps_par (i := 1) (j := 2) (by rfl) sc_law_hills.nd rfl rfl (by decide) rfl rfl (pa_cons (pe_lst pa_nil) (pa_cons pe_int pa_nil)) (by rfl)) (pss_cons (ps_for PassesOwn.never rfl (pi_range1 (by rfl) B.range (pa_cons (pe_callB (kLen K) (by rfl) B.len (by decide +kernel) (pa_cons (pv 0) pa_nil)) pa_nil)) (pg_name (i := 3) sc_law_hills.nd rfl (by first | exact Or.inl rfl | exact Or.inr rfl)) (pss_one (ps_if (pt_cmpR ltU (pv 2) (pe_callB (kLen K) (by rfl) B.len (by decide +kernel) (pa_cons (pv 0) pa_nil)) (nomark _)) (pss_cons (ps_set (i := 4) sc_law_hills.nd rfl (by first | exact Or.inl rfl | exact Or.inr rfl) (pe_slice (kSl K) (pv 0) (po_some (pv 2)) po_none)) (pss_cons (ps_set (i := 5) sc_law_hills.nd rfl (by first | exact Or.inl rfl | exact Or.inr rfl) (pe_callB (cr_max rfl) (by rfl) B.max (by decide +kernel) (pa_cons (pe_lc (own := [("step", 6)]) (g := gName 6) (tt := tYes) rfl sc_law_hills.nd (pi_tupK K (pv 4)) (blkOk_by (own := [("step", 6)]) (N := ["walk", "found", "at", "turn", "rest", "hill", "step", "top", "k", "low", "end", "steps"]) (sc := defScope s_law_hills) (by decide +kernel)) (fun _ _ _ _ _ => (pg_name (i := 6) sc_law_hills.nd rfl (by first | exact Or.inl rfl | exact Or.inr rfl))) (fun _ _ _ _ _ => pts_nil) (fun _ _ _ _ _ => (pe_ix (kIx K) (pv 6) pe_int (fun _ _ => rfl)))) pa_nil))) (pss_cons (ps_set (i := 7) sc_law_hills.nd rfl (by first | exact Or.inl rfl | exact Or.inr rfl) (pe_callB (cr_max rfl) (by rfl) B.max (by decide +kernel) (pa_cons (pe_lc (own := [("k", 8)]) (g := gName 8) (tt := _) rfl sc_law_hills.nd (pi_range1 (by rfl) B.range (pa_cons (pe_callB (kLen K) (by rfl) B.len (by decide +kernel) (pa_cons (pv 4) pa_nil)) pa_nil)) (blkOk_by (own := [("k", 8)]) (N := ["walk", "found", "at", "turn", "rest", "hill", "step", "top", "k", "low", "end", "steps"]) (sc := defScope s_law_hills) (by decide +kernel)) (fun _ _ _ _ _ => (pg_name (i := 8) sc_law_hills.nd rfl (by first | exact Or.inl rfl | exact Or.inr rfl))) (fun _ _ _ _ _ => (pts_one (pt_cmpR (kEqG K (hU hr)) (pe_ix (kIx K) (pe_ix (kIx K) (pv 4) (pv 8) (fun _ _ => rfl)) pe_int (fun _ _ => rfl)) (pv 5) (nomark _)))) (fun _ _ _ _ _ => (pv 8))) pa_nil))) (pss_cons (ps_set (i := 9) sc_law_hills.nd rfl (by first | exact Or.inl rfl | exact Or.inr rfl) (pe_callB (cr_min rfl) (by rfl) B.min (by decide +kernel) (pa_cons (pe_lc (own := [("step", 6)]) (g := gName 6) (tt := tYes) rfl sc_law_hills.nd (pi_tupK K (pe_slice (kSl K) (pv 4) (po_some (pv 7)) po_none)) (blkOk_by (own := [("step", 6)]) (N := ["walk", "found", "at", "turn", "rest", "hill", "step", "top", "k", "low", "end", "steps"]) (sc := defScope s_law_hills) (by decide +kernel)) (fun _ _ _ _ _ => (pg_name (i := 6) sc_law_hills.nd rfl (by first | exact Or.inl rfl | exact Or.inr rfl))) (fun _ _ _ _ _ => pts_nil) (fun _ _ _ _ _ => (pe_ix (kIx K) (pv 6) pe_int (fun _ _ => rfl)))) pa_nil))) (pss_cons (ps_set (i := 10) sc_law_hills.nd rfl (by first | exact Or.inl rfl | exact Or.inr rfl) (pe_callB (cr_max rfl) (by rfl) B.max (by decide +kernel) (pa_cons (pe_lc (own := [("k", 8)]) (g := gName 8) (tt := _) rfl sc_law_hills.nd (pi_range2 (by rfl) B.range (pa_cons (pv 7) (pa_cons (pe_callB (kLen K) (by rfl) B.len (by decide +kernel) (pa_cons (pv 4) pa_nil)) pa_nil))) (blkOk_by (own := [("k", 8)]) (N := ["walk", "found", "at", "turn", "rest", "hill", "step", "top", "k", "low", "end", "steps"]) (sc := defScope s_law_hills) (by decide +kernel)) (fun _ _ _ _ _ => (pg_name (i := 8) sc_law_hills.nd rfl (by first | exact Or.inl rfl | exact Or.inr rfl))) (fun _ _ _ _ _ => (pts_one (pt_cmpR (kEqG K (hU hr)) (pe_ix (kIx K) (pe_ix (kIx K) (pv 4) (pv 8) (fun _ _ => rfl)) pe_int (fun _ _ => rfl)) (pv 9) (nomark _)))) (fun _ _ _ _ _ => (pv 8))) pa_nil))) (pss_cons (ps_set (i := 11) sc_law_hills.nd rfl (by first | exact Or.inl rfl | exact Or.inr rfl) (pe_tup pa_nil)) (pss_cons (ps_for PassesOwn.never rfl (pi_tupK K (pe_slice (kSl K) (pv 4) po_none (po_some (pe_op (kAdd K) (pv 10) pe_int)))) (pg_name (i := 6) sc_law_hills.nd rfl (by first | exact Or.inl rfl | exact Or.inr rfl)) (pss_one (ps_set (i := 11) sc_law_hills.nd rfl (by first | exact Or.inl rfl | exact Or.inr rfl) (pe_op (kAdd K) (pv 11) (pe_ix (kIx K) (pv 6) pe_int (fun _ _ => rfl)))))) (pss_cons (ps_expr (pe_bmK K PySem.F.plainAttrs_list PySem.F.slot_list_append PySem.F.type_list_append mt_append (pv 1) (pa_cons (pe_tup (pa_cons (pv 5) (pa_cons (pv 9) (pa_cons (pv 11) pa_nil)))) pa_nil))) (pss_one (ps_aug (i := 2) sc_law_hills.nd rfl (by first | exact Or.inl rfl | exact Or.inr rfl) (pe_op (kAdd K) (pv 10) pe_int) ip_add)))))))))) pss_nil))) (pss_one (ps_ret (pv 1))))), ?_⟩
  refine st0 [some (.ref a), none, none, none, none, none, none, none, none, none, none, none] rfl ?_
  walk_at "go"
  refine ⟨lk rfl, fun p hp => ?_⟩
  have hs0 := Ext.new (K := K) (o := .lst []) hp _ _ hs
  walk_at "go"
  refine forR (fun i σ H' => ∃ (ws : List V) (o3 o4 o5 o6 o7 o9 o10 o11 : Option V), σ = [some (.ref a), some (.ref p), some (.int ((fl (bs.take i)).length : Nat)), o3, o4, o5, o6, o7, none, o9, o10, o11] ∧ Same H H' ∧ H' p = some (.lst ws) ∧ Rps K H' ws (((bs.take i).map seg).map Ent.py))
    ⟨[], _, _, _, _, _, _, _, _, rfl, same_new hp _, upd_same, .nil⟩ ?_ ?_
  · rintro i σ H1 hi ⟨ws, o3, o4, o5, o6, o7, o9, o10, o11, rfl, s1, f1, f2⟩
    have hs1 := Ext.of_same (K := K) s1 _ _ hs
    walk_at "go"
    rcases Nat.lt_or_ge i bs.length with hib | hib
    rotate_left
    · rw [List.take_of_length_le hib] at *
      refine rd_split (fun c => absurd c (by omega)) (fun c => ?_)
      walk_at "go"
      have e2 : bs.take (i + 1) = bs := List.take_of_length_le (by omega)
      rw [e2]
      exact ⟨ws, _, _, _, _, _, _, _, _, rfl, s1, f1, f2⟩
    obtain ⟨b, r, er, eb⟩ : ∃ b r, bs.drop i = b :: r ∧ bs[i]? = some b := ⟨bs[i], bs.drop (i + 1), List.drop_eq_getElem_cons hib, List.getElem?_eq_getElem hib⟩
    have hG' : Good (b :: r) := er ▸ hG.drop i
    have hfl : (fl bs).drop (fl (bs.take i)).length = fl (b :: r) := by rw [drop_fl, er]
    have lrest : (fl (b :: r)).length = (fl bs).length - (fl (bs.take i)).length := by rw [← hfl, List.length_drop]
    have hlen := hG'.len
    have hpos : 0 < (fl (b :: r)).length := by
      rw [fl_cons, List.length_append]
      omega
    refine rd_split (fun c => ?_) (fun c => absurd (show ((fl (bs.take i)).length : Int) < (xs.length : Int) by omega) c)
    walk_at "go"
    refine u_slS hs1 fun q1 H2 s2 hq1 => ?_
    rw [cut_from] at hq1
    have hR2 : Rps K H2 (xs.drop (fl (bs.take i)).length) ((fl (b :: r)).map Ent.py) := by
      rw [← hfl]
      exact (Rps.dropE _ hR).mono (Ext.of_same (s1.trans s2)) _ _
    generalize xs.drop (fl (bs.take i)).length = xr at *
    have lxr := hR2.lenE
    have lfr : (fl (b :: r)).length ≤ 1000 := by omega
    walk_at "go"
    intro D1 hD1
    refine lc_tup (xs := xr) (fun k H' => H' D1 = some (.lst ((((fl (b :: r)).take k).map Ent.n).map V.int)) ∧ Same H2 H') ⟨upd_same, Same.upd_new (Same.refl H2) hD1⟩ ?_ ?_ ?_
    · rintro k H' hk ⟨g1, g2⟩
      exact Ext.of_same g2 _ _ hq1
    · rintro k x H' hx ⟨g1, g2⟩
      obtain ⟨e, he, re⟩ := hR2.atE hx
      obtain ⟨ax, bx, yx, rfl, sx, _⟩ := (re.mono (Ext.of_same g2) _ _).ent
      walk_at "go"
      refine ⟨rfl, ?_⟩
      walk_at "go"
      refine u_ixT sx rfl ?_
      refine ⟨_, g1, ?_, ?_, Same.upd_new g2 hD1⟩
      · rw [List.length_map, List.length_map, List.length_take]
        exact ls (by omega)
      · rw [upd_same, List.take_add_one, he, List.map_append, List.map_append]
        rfl
    rintro H3 ⟨g1, s3⟩
    rw [lxr, List.take_length] at g1
    walk_at "go"
    refine ⟨D1, (fl (b :: r)).map Ent.n, rfl, SqL.of g1, by rw [List.length_map]; exact hpos, fun m hm hle => ?_⟩
    have em := hG'.hill hm hle
    subst em
    have hq3 := Ext.of_same (K := K) s3 _ _ hq1
    walk_at "go"
    intro D2 hD2
    refine lc_range (lo := 0) (n := ((xr.length : Nat) : Int).toNat) (fun k H' => H' D2 = some (.lst (nV (idx (fun e => decide (e.n = b.H)) (fl (b :: r)) 0 k))) ∧ Same H3 H') ⟨upd_same, Same.upd_new (Same.refl H3) hD2⟩ ?_ ?_
    · rintro k H' hk ⟨g1, g2⟩
      have hk' : k < xr.length := by omega
      obtain ⟨x, hx⟩ : ∃ x, xr[k]? = some x := ⟨_, List.getElem?_eq_getElem hk'⟩
      obtain ⟨e, he, re⟩ := hR2.atE hx
      obtain ⟨ax, bx, yx, rfl, sx, _⟩ := (re.mono (Ext.of_same (s3.trans g2)) _ _).ent
      walk_at "go"
      refine ⟨rfl, ?_⟩
      walk_at "go"
      refine u_ixT (Ext.of_same g2 _ _ hq3) (by rw [Int.zero_add]; exact atI_nat hx) ?_
      walk_at "go"
      refine u_ixT sx rfl ?_
      walk_at "go"
      refine rd_split (fun c => ?_) (fun c => ?_)
      · walk_at "go"
        refine ⟨_, g1, ?_, ?_, Same.upd_new g2 hD2⟩
        · unfold nV
          rw [List.length_map]
          exact ls (Nat.le_trans (idx_len _ _ _ _) (by omega))
        · rw [upd_same, idx_yes (by rw [Nat.zero_add]; exact he) (decide_eq_true c), nV_snoc]
          rfl
      · exact ⟨by rw [idx_no (by rw [Nat.zero_add]; exact he) (decide_eq_false c)]; exact g1, g2⟩
    rintro H4 ⟨g1b, s4⟩
    rw [show ((xr.length : Nat) : Int).toNat = (fl (b :: r)).length by omega] at g1b
    walk_at "go"
    refine ⟨D2, (idx (fun e => decide (e.n = b.H)) (fl (b :: r)) 0 (fl (b :: r)).length).map fun (n : Nat) => (n : Int), rfl, SqL.of (by rw [← nV_ints]; exact g1b), ?_, fun m hm hle => ?_⟩
    · rw [List.length_map]
      exact List.length_pos_iff.mpr (idx_ne1 hG')
    obtain ⟨t, ht, rfl⟩ := List.mem_map.mp hm
    have T : Top b r t := idx_top hG' ht (fun y hy => by
      have := hle _ (List.mem_map_of_mem hy)
      omega)
    have tb := T.ltb hG'
    have tl := T.lt
    have hq4 := Ext.of_same (K := K) s4 _ _ hq3
    have s14 := ((s1.trans s2).trans s3).trans s4
    walk_at "go"
    refine u_slS hq4 fun q5 H5 s5 hq5 => ?_
    rw [cut_from] at hq5
    have hR5 : Rps K H5 (xr.drop t) (((fl (b :: r)).drop t).map Ent.py) := (Rps.dropE _ hR2).mono (Ext.of_same ((s3.trans s4).trans s5)) _ _
    have lxt := hR5.lenE
    walk_at "go"
    intro D3 hD3
    refine lc_tup (xs := xr.drop t) (fun k H' => H' D3 = some (.lst (((((fl (b :: r)).drop t).take k).map Ent.h).map V.int)) ∧ Same H5 H') ⟨upd_same, Same.upd_new (Same.refl H5) hD3⟩ ?_ ?_ ?_
    · rintro k H' hk ⟨g1, g2⟩
      exact Ext.of_same g2 _ _ hq5
    · rintro k x H' hx ⟨g1, g2⟩
      obtain ⟨e, he, re⟩ := hR5.atE hx
      obtain ⟨ax, bx, yx, rfl, sx, _⟩ := (re.mono (Ext.of_same g2) _ _).ent
      walk_at "go"
      refine ⟨rfl, ?_⟩
      walk_at "go"
      refine u_ixT sx rfl ?_
      refine ⟨_, g1, ?_, ?_, Same.upd_new g2 hD3⟩
      · rw [List.length_map, List.length_map, List.length_take, List.length_drop]
        exact ls (by omega)
      · rw [upd_same, List.take_add_one, he, List.map_append, List.map_append]
        rfl
    rintro H6 ⟨g1c, s6⟩
    rw [lxt, List.take_length] at g1c
    walk_at "go"
    refine ⟨D3, ((fl (b :: r)).drop t).map Ent.h, rfl, SqL.of g1c, by rw [List.length_map, List.length_drop]; omega, fun m hm2 hle2 => ?_⟩
    have em := T.low hG' hm2 hle2
    subst em
    have hq6 := Ext.of_same (K := K) (s5.trans s6) _ _ hq4
    have hR6 := hR5.mono (Ext.of_same (K := K) s6) _ _
    walk_at "go"
    intro D4 hD4
    refine lc_range (lo := (t : Int)) (n := (((xr.length : Nat) : Int) - (t : Int)).toNat) (fun k H' => H' D4 = some (.lst (nV (idx (fun e => decide (e.h = b.V)) (fl (b :: r)) t k))) ∧ Same H6 H') ⟨upd_same, Same.upd_new (Same.refl H6) hD4⟩ ?_ ?_
    · rintro k H' hk ⟨g1, g2⟩
      have hk' : t + k < xr.length := by omega
      obtain ⟨x, hx⟩ : ∃ x, xr[t + k]? = some x := ⟨_, List.getElem?_eq_getElem hk'⟩
      obtain ⟨e, he, re⟩ := hR2.atE hx
      obtain ⟨ax, bx, yx, rfl, sx, _⟩ := (re.mono (Ext.of_same ((((s3.trans s4).trans s5).trans s6).trans g2)) _ _).ent
      walk_at "go"
      refine ⟨rfl, ?_⟩
      walk_at "go"
      refine u_ixT (Ext.of_same g2 _ _ hq6) (by rw [← Int.natCast_add]; exact atI_nat hx) ?_
      walk_at "go"
      refine u_ixT sx rfl ?_
      walk_at "go"
      refine rd_split (fun c => ?_) (fun c => ?_)
      · walk_at "go"
        refine ⟨_, g1, ?_, ?_, Same.upd_new g2 hD4⟩
        · unfold nV
          rw [List.length_map]
          exact ls (Nat.le_trans (idx_len _ _ _ _) (by omega))
        · rw [upd_same, idx_yes he (decide_eq_true c), nV_snoc]
      · exact ⟨by rw [idx_no he (decide_eq_false c)]; exact g1, g2⟩
    rintro H7 ⟨g1d, s7⟩
    rw [show (((xr.length : Nat) : Int) - (t : Int)).toNat = (fl (b :: r)).length - t by omega] at g1d
    walk_at "go"
    refine ⟨D4, (idx (fun e => decide (e.h = b.V)) (fl (b :: r)) t ((fl (b :: r)).length - t)).map fun (n : Nat) => (n : Int), rfl, SqL.of (by rw [← nV_ints]; exact g1d), ?_, fun m hm3 hle3 => ?_⟩
    · rw [List.length_map]
      exact List.length_pos_iff.mpr (idx_ne2 T hG')
    obtain ⟨z, hz, rfl⟩ := List.mem_map.mp hm3
    have ez := idx_stop T hG' hz (fun y hy => by
      have := hle3 _ (List.mem_map_of_mem hy)
      omega)
    have ez1 : ((z : Nat) : Int) + 1 = ((b.es.length : Nat) : Int) := by omega
    have hq7 := Ext.of_same (K := K) s7 _ _ hq6
    walk_at "go"
    refine ⟨lk rfl, fun p8 hp8 => ?_⟩
    have hq8 := Ext.new (K := K) (o := .tup []) hp8 _ _ hq7
    have sq8 : SqT K (upd H7 p8 (.tup [])) p8 [] := SqT.of upd_same
    have s27 := ((((s2.trans s3).trans s4).trans s5).trans s6).trans s7
    have s18 := Same.new (o := .tup []) (s1.trans s27) hp8
    have sR8 := hR2.mono (Ext.of_same (K := K) (Same.new (o := .tup []) ((((s3.trans s4).trans s5).trans s6).trans s7) hp8)) _ _
    have f18 := Same.new (o := .tup []) s27 hp8 _ _ f1
    have f28 := f2.mono (Ext.of_same (K := K) (Same.new (o := .tup []) s27 hp8)) _ _
    have hbb : (b.es.flatMap Ent.s).length ≤ 100000 := by
      refine Nat.le_trans ?_ hb
      rw [← List.take_append_drop (fl (bs.take i)).length (fl bs), hfl, fl_cons, List.flatMap_append, List.flatMap_append, List.length_append, List.length_append]
      omega
    generalize upd H7 p8 (.tup []) = H8 at *
    walk_at "go"
    rw [ez1]
    refine u_slS hq8 fun q9 H9 s9 hq9 => ?_
    rw [cut_to] at hq9
    have hR9 : Rps K H9 (xr.take b.es.length) (b.es.map Ent.py) := by
      have z1 := (Rps.takeE b.es.length sR8).mono (Ext.of_same (K := K) s9) _ _
      rwa [fl_cons, List.take_left] at z1
    have lx9 := hR9.lenE
    walk_at "go"
    refine forT (xs := xr.take b.es.length) (fun j σ H' => ∃ (q : Addr) (o6 : Option V), σ = [some (.ref a), some (.ref p), some (.int ((fl (bs.take i)).length : Nat)), some (.int (0 + (i : Int))), some (.ref q1), some (.int b.H), o6, some (.int (t : Nat)), none, some (.int b.V), some (.int (z : Nat)), some (.ref q)] ∧ Same H9 H' ∧ ∃ zs, SqT K H' q zs ∧ Rps K H' zs ((b.es.take j).flatMap Ent.s))
      ⟨p8, _, rfl, Same.refl _, [], Ext.of_same s9 _ _ sq8, .nil⟩ ?_ ?_ ?_
    · rintro j σ H' hj ⟨q, o6, rfl, k1, zs, k2, k2R⟩
      exact Ext.of_same k1 _ _ hq9
    · rintro j x σ H' hx ⟨q, o6, rfl, k1, zs, k2, k2R⟩
      obtain ⟨e, he, re⟩ := hR9.atE hx
      obtain ⟨ax, bx, yx, rfl, sx, sb, sbR⟩ := (re.mono (Ext.of_same k1) _ _).ent
      have etk : (b.es.take (j + 1)).flatMap Ent.s = (b.es.take j).flatMap Ent.s ++ e.s := by
        rw [List.take_add_one, he, List.flatMap_append]
        simp
      have hbk : ((b.es.take j).flatMap Ent.s).length + e.s.length ≤ 100000 := by
        rw [← List.length_append, ← etk]
        refine Nat.le_trans ?_ hbb
        have z : b.es.flatMap Ent.s = (b.es.take (j + 1)).flatMap Ent.s ++ (b.es.drop (j + 1)).flatMap Ent.s := by rw [← List.flatMap_append, List.take_append_drop]
        rw [z, List.length_append]
        omega
      walk_at "go"
      refine u_ixT sx rfl ?_
      refine u_catS k2 sb ?_ fun q' H'' s'' hq'' => ?_
      · rw [k2R.length, sbR.length]
        exact ll (by omega)
      walk_at "go"
      exact ⟨q', _, rfl, k1.trans s'', _, hq'', by rw [etk]; exact (k2R.append sbR).mono (Ext.of_same s'') _ _⟩
    · rintro σ H' ⟨q2, o6, rfl, k1, zs, k2, k2R⟩
      rw [lx9, List.take_length] at k2R
      have fp := (s9.trans k1) _ _ f18
      have f2p := f28.mono (Ext.of_same (K := K) (s9.trans k1)) _ _
      have sHp := s18.trans (s9.trans k1)
      have lws : ws.length ≤ 1000 := by
        rw [f2.lenE, List.length_map, List.length_take]
        omega
      walk_at "go"
      refine ⟨lk rfl, fun pa hpa => ?_⟩
      have npa : p ≠ pa := ne_of_none fp hpa
      have fpa : (upd H' pa (.tup [.int b.H, .int b.V, .ref q2])) p = some (.lst ws) := by rw [upd_ne npa]; exact fp
      have xa : Ext K H' (upd (upd H' pa (.tup [.int b.H, .int b.V, .ref q2])) p (.lst (ws ++ [.ref pa]))) := (Ext.new hpa).trans (Ext.set fpa trivial)
      walk_at "go"
      refine u_app fpa (ls (by omega)) ?_
      walk_at "go"
      have eat : ((fl (bs.take i)).length : Int) + ((z : Nat) + 1) = ((fl (bs.take (i + 1))).length : Nat) := by
        rw [ez1, List.take_add_one, eb, fl_append, Option.toList_some, fl_one, List.length_append]
        simp
      rw [eat]
      refine ⟨ws ++ [.ref pa], _, _, _, _, _, _, _, _, rfl, Same.upd_new (Same.new sHp hpa) hp, upd_same, ?_⟩
      rw [List.take_add_one, eb]
      simp only [Option.toList_some, List.map_append, List.map_cons, List.map_nil]
      refine (f2p.mono xa _ _).append (.one (.tup (SqT.of (by rw [upd_ne npa.symm]; exact upd_same)) ?_))
      exact .cons (.int _) (.cons (.int _) (.cons (.tup (xa _ _ k2) (k2R.mono xa _ _)) .nil))
  · rintro σ H' ⟨ws, o3, o4, o5, o6, o7, o9, o10, o11, rfl, s1, f1, f2⟩
    walk_at "go"
    refine q _ p ws s1 hp f1 ?_
    rw [List.take_of_length_le (by omega)] at f2
    exact f2
end
end Mine

/-! ### N4 -/
namespace Mine
open PySem PySem.Spec PyProof.Rows L2
/-- a row's entries, each from its own beginning on -/
def byI : Int → List Ent → List Ent
  | _, [] => []
  | b, e :: r => ⟨e.n - b, e.h - b, e.s⟩ :: byI e.h r
/-- entries put one behind the other -/
def pileI : Int → List Ent → List Ent
  | _, [] => []
  | b, e :: r => ⟨b + e.n, b + e.h, e.s⟩ :: pileI (b + e.h) r
def fallLe (a b : Ent) : Bool := decide (a.h - a.n ≤ b.h - b.n)
def sortE (l : List Ent) : List Ent := l.mergeSort fallLe
def weaveE (rows : List (List Ent)) : List Ent := pileI 0 (sortE (rows.flatMap (byI 0)))
theorem pile_by : ∀ (l : List Ent) (b : Int), pileI b (byI b l) = l
  | [], _ => rfl
  | e :: r, b => by
    show (⟨b + (e.n - b), b + (e.h - b), e.s⟩ : Ent) :: pileI (b + (e.h - b)) (byI e.h r) = e :: r
    rw [show b + (e.n - b) = e.n by omega, show b + (e.h - b) = e.h by omega, pile_by r e.h]
theorem by_pile : ∀ (l : List Ent) (b : Int), byI b (pileI b l) = l
  | [], _ => rfl
  | e :: r, b => by
    show (⟨b + e.n - b, b + e.h - b, e.s⟩ : Ent) :: byI (b + e.h) (pileI (b + e.h) r) = e :: r
    rw [show b + e.n - b = e.n by omega, show b + e.h - b = e.h by omega, by_pile r]
/-- the falls rise -/
def FallS (l : List Ent) : Prop := l.Pairwise fun a b => a.h - a.n ≤ b.h - b.n
theorem by_fall : ∀ (l : List Ent) (b : Int), (byI b l).map (fun e => e.h - e.n) = l.map fun e => e.h - e.n
  | [], _ => rfl
  | e :: r, b => by
    show (e.h - b - (e.n - b)) :: (byI e.h r).map (fun e => e.h - e.n) = _
    rw [by_fall r e.h, show e.h - b - (e.n - b) = e.h - e.n by omega]
    rfl
theorem fallS_map (l : List Ent) : FallS l ↔ (l.map fun e => e.h - e.n).Pairwise fun a b => a ≤ b := by unfold FallS; rw [List.pairwise_map]
theorem FallS.by {l : List Ent} (b : Int) : FallS l ↔ FallS (byI b l) := by rw [fallS_map, fallS_map, by_fall]
theorem fallLe_trans (a b c : Ent) (h : fallLe a b = true) (k : fallLe b c = true) : fallLe a c = true := by
  unfold fallLe at *
  have h := of_decide_eq_true h
  have k := of_decide_eq_true k
  exact decide_eq_true (by omega)
theorem fallLe_total (a b : Ent) : (fallLe a b || fallLe b a) = true := by
  unfold fallLe
  by_cases h : a.h - a.n ≤ b.h - b.n
  · rw [decide_eq_true h]; rfl
  · rw [decide_eq_true (show b.h - b.n ≤ a.h - a.n by omega), Bool.or_true]
theorem sortE_of {l : List Ent} (h : FallS l) : sortE l = l := List.mergeSort_of_pairwise (h.imp fun c => decide_eq_true c)
theorem sortE_fall (l : List Ent) : FallS (sortE l) := (List.pairwise_mergeSort (le := fallLe) fallLe_trans fallLe_total l).imp fun c => of_decide_eq_true c
theorem weave_fall (rows : List (List Ent)) : FallS (weaveE rows) := by
  rw [FallS.by 0]
  unfold weaveE
  rw [by_pile]
  exact sortE_fall _
theorem weave_one {l : List Ent} (h : FallS l) : weaveE [l] = l := by
  unfold weaveE
  rw [List.flatMap_cons, List.flatMap_nil, List.append_nil, sortE_of ((FallS.by 0).mp h), pile_by]
theorem weave_mid {l : List Ent} (h : FallS l) : weaveE [[], l, []] = l := by
  have : [[], l, []].flatMap (byI 0) = byI 0 l := by simp [byI]
  unfold weaveE
  rw [this, sortE_of ((FallS.by 0).mp h), pile_by]
theorem weave_nil : weaveE [] = [] := by unfold weaveE sortE; simp [pileI]
theorem weave_nils : weaveE [[], []] = [] := by unfold weaveE sortE; simp [pileI, byI]
theorem good_fall {bs : List Bk} (h : Good bs) : FallS (bs.map seg) := by
  unfold FallS
  rw [List.pairwise_map]
  refine (List.Pairwise.and_mem.mp h.pw).imp ?_
  rintro a b ⟨ha, hb, r⟩
  have := r.val (h.ok b hb)
  have := r.1
  show a.V - a.H ≤ b.V - b.H
  omega
/-- the last valley -/
def lstV (b : Int) (l : List Ent) : Int := (l.getLast?.map Ent.h).getD b
theorem lstV_snoc (b : Int) (l : List Ent) (e : Ent) : lstV b (l ++ [e]) = e.h := by unfold lstV; simp
theorem byI_snoc : ∀ (l : List Ent) (b : Int) (e : Ent), byI b (l ++ [e]) = byI b l ++ [⟨e.n - lstV b l, e.h - lstV b l, e.s⟩]
  | [], _, _ => rfl
  | x :: r, b, e => by
    show _ :: byI x.h (r ++ [e]) = _ :: (byI x.h r ++ _)
    rw [byI_snoc r x.h e]
    have : lstV b (x :: r) = lstV x.h r := by
      unfold lstV
      cases r with
      | nil => rfl
      | cons y r => rw [List.getLast?_cons_cons, List.getLast?_cons]; rfl
    rw [this]
theorem byI_len : ∀ (l : List Ent) (b : Int), (byI b l).length = l.length
  | [], _ => rfl
  | x :: r, b => by show (byI x.h r).length + 1 = r.length + 1; rw [byI_len r]
def acc (b : Int) (l : List Ent) : Int := l.foldl (fun a e => a + e.h) b
theorem acc_snoc (b : Int) (l : List Ent) (e : Ent) : acc b (l ++ [e]) = acc b l + e.h := by unfold acc; rw [List.foldl_append]; rfl
theorem pileI_snoc : ∀ (l : List Ent) (b : Int) (e : Ent), pileI b (l ++ [e]) = pileI b l ++ [⟨acc b l + e.n, acc b l + e.h, e.s⟩]
  | [], _, _ => rfl
  | x :: r, b, e => by
    show _ :: pileI (b + x.h) (r ++ [e]) = _ :: (pileI (b + x.h) r ++ _)
    rw [pileI_snoc r _ e]
    rfl
theorem pileI_len : ∀ (l : List Ent) (b : Int), (pileI b l).length = l.length
  | [], _ => rfl
  | x :: r, b => by show (pileI _ r).length + 1 = r.length + 1; rw [pileI_len r]
theorem sortE_len (l : List Ent) : (sortE l).length = l.length := List.length_mergeSort l
/-! the law's own weave: by fall, row, place -/
structure Part where
  r : Nat
  k : Nat
  e : Ent
def Part.py (p : Part) : PyData := .tuple [.int (p.e.h - p.e.n), .int (p.r : Int), .int (p.k : Int), .int p.e.n, .int p.e.h, .tuple p.e.s]
def Part.lt (p q : Part) : Prop := p.r < q.r ∨ (p.r = q.r ∧ p.k < q.k)
def pfLe (a b : Part) : Bool := fallLe a.e b.e
theorem lt3 {a b c a' b' c' : Int} (r r' : List PyData) (h : b ≠ b' ∨ c ≠ c') : PySem.W.dataLt (.tuple (.int a :: .int b :: .int c :: r)) (.tuple (.int a' :: .int b' :: .int c' :: r')) = decide (a < a' ∨ (a = a' ∧ (b < b' ∨ (b = b' ∧ c < c')))) := by
  rw [PySem.W.dataLt_tuple, PySem.W.dataLt_cons (x := .int a) (y := .int a') (by simp [PySem.W.alike]), PySem.W.dataLt_cons (x := .int b) (y := .int b') (by simp [PySem.W.alike]), PySem.W.dataLt_cons (x := .int c) (y := .int c') (by simp [PySem.W.alike])]
  simp only [PySem.W.dataLt_int, PyData.eqv, beq_iff_eq]
  by_cases h1 : a = a'
  · rw [if_pos h1]
    by_cases h2 : b = b'
    · have h3 : c ≠ c' := h.resolve_left fun z => z h2
      rw [if_pos h2, if_neg h3]
      by_cases h4 : c < c' <;> simp [h1, h2, h4]
    · rw [if_neg h2]
      by_cases h4 : b < b' <;> simp [h1, h2, h4]
  · rw [if_neg h1]
    by_cases h4 : a < a' <;> simp [h1, h4]
theorem py_lt {p q : Part} (h : p.lt q) : PySem.W.dataLt p.py q.py = decide (p.e.h - p.e.n ≤ q.e.h - q.e.n) ∧ PySem.W.dataLt q.py p.py = decide (q.e.h - q.e.n < p.e.h - p.e.n) := by
  unfold Part.lt at h
  refine ⟨(lt3 _ _ (by omega)).trans (decide_eq_decide.mpr ?_), (lt3 _ _ (by omega)).trans (decide_eq_decide.mpr ?_)⟩
  · constructor <;> intro z <;> omega
  · constructor <;> intro z <;> omega
theorem part_sort {P : List Part} (h : P.Pairwise Part.lt) : (P.map Part.py).mergeSort (PySem.W.dataLe false fun d => d) = (P.mergeSort pfLe).map Part.py := by
  rw [← List.mergeSort_zipIdx (l := P) (le := pfLe)]
  have e : P = P.zipIdx.map (·.1) := by rw [List.zipIdx_map_fst]
  rw [List.map_map]
  rw [List.map_mergeSort (r := List.zipIdxLE pfLe) (s := PySem.W.dataLe false fun d => d) (f := Part.py ∘ fun (x : Part × Nat) => x.1)]
  · rw [← List.map_map, ← e]
  rintro ⟨p, i⟩ hp ⟨q, j⟩ hq
  have hp := List.mem_zipIdx_iff_getElem?.mp hp
  have hq := List.mem_zipIdx_iff_getElem?.mp hq
  simp only at hp hq
  show List.zipIdxLE pfLe (p, i) (q, j) = !(PySem.W.dataLt q.py p.py)
  have lp := (List.getElem?_eq_some_iff.mp hp)
  have lq := (List.getElem?_eq_some_iff.mp hq)
  obtain ⟨lp1, lp2⟩ := lp
  obtain ⟨lq1, lq2⟩ := lq
  unfold List.zipIdxLE pfLe fallLe
  rcases Nat.lt_trichotomy i j with c | c | c
  · have hh := List.pairwise_iff_getElem.mp h i j lp1 lq1 c
    rw [lp2, lq2] at hh
    rw [(py_lt hh).2]
    by_cases z : p.e.h - p.e.n ≤ q.e.h - q.e.n
    · rw [decide_eq_true z, decide_eq_false (show ¬ q.e.h - q.e.n < p.e.h - p.e.n by omega), if_pos rfl]
      rw [decide_eq_true (show i ≤ j by omega)]
      simp
    · rw [decide_eq_false z, decide_eq_true (show q.e.h - q.e.n < p.e.h - p.e.n by omega)]
      simp
  · subst c
    have : p = q := by rw [← lp2, ← lq2]
    subst this
    rw [PySem.W.dataLt_self]
    simp
  · have hh := List.pairwise_iff_getElem.mp h j i lq1 lp1 c
    rw [lp2, lq2] at hh
    rw [(py_lt hh).1]
    by_cases z : q.e.h - q.e.n ≤ p.e.h - p.e.n
    · rw [decide_eq_true z, decide_eq_false (show ¬ i ≤ j by omega)]
      simp
    · rw [decide_eq_false z, decide_eq_true (show p.e.h - p.e.n ≤ q.e.h - q.e.n by omega)]
      simp
def prt (r : Nat) : Nat → List Ent → List Part
  | _, [] => []
  | k, e :: es => ⟨r, k, e⟩ :: prt r (k + 1) es
theorem prt_snoc (r : Nat) : ∀ (es : List Ent) (k : Nat) (e : Ent), prt r k (es ++ [e]) = prt r k es ++ [⟨r, k + es.length, e⟩]
  | [], _, _ => rfl
  | x :: es, k, e => by
    show _ :: prt r (k + 1) (es ++ [e]) = _ :: (prt r (k + 1) es ++ _)
    rw [prt_snoc r es, List.length_cons, show k + 1 + es.length = k + (es.length + 1) by omega]
theorem prt_e (r : Nat) : ∀ (es : List Ent) (k : Nat), (prt r k es).map Part.e = es
  | [], _ => rfl
  | x :: es, k => by show x :: (prt r (k + 1) es).map Part.e = _; rw [prt_e r es]
theorem prt_r (r : Nat) : ∀ (es : List Ent) (k : Nat), ∀ p ∈ prt r k es, p.r = r ∧ k ≤ p.k
  | x :: es, k, p, h => by
    rcases List.mem_cons.mp h with rfl | h
    · exact ⟨rfl, Nat.le_refl _⟩
    · have := prt_r r es (k + 1) p h
      exact ⟨this.1, by omega⟩
theorem prt_lt (r : Nat) : ∀ (es : List Ent) (k : Nat), (prt r k es).Pairwise Part.lt
  | [], _ => .nil
  | x :: es, k => .cons (fun p hp => by
      have := prt_r r es (k + 1) p hp
      exact .inr ⟨this.1.symm, by show k < p.k; omega⟩) (prt_lt r es (k + 1))
def prts : Nat → List (List Ent) → List Part
  | _, [] => []
  | r, row :: rows => prt r 0 (byI 0 row) ++ prts (r + 1) rows
theorem prts_snoc : ∀ (rows : List (List Ent)) (r : Nat) (row : List Ent), prts r (rows ++ [row]) = prts r rows ++ prt (r + rows.length) 0 (byI 0 row)
  | [], r, row => by simp [prts]
  | x :: rows, r, row => by
    show prt r 0 (byI 0 x) ++ prts (r + 1) (rows ++ [row]) = prt r 0 (byI 0 x) ++ prts (r + 1) rows ++ _
    rw [prts_snoc rows, List.append_assoc, List.length_cons, show r + 1 + rows.length = r + (rows.length + 1) by omega]
theorem prts_e : ∀ (rows : List (List Ent)) (r : Nat), (prts r rows).map Part.e = rows.flatMap (byI 0)
  | [], _ => rfl
  | x :: rows, r => by
    show (prt r 0 (byI 0 x) ++ prts (r + 1) rows).map Part.e = _
    rw [List.map_append, prt_e, prts_e rows, List.flatMap_cons]
theorem prts_r : ∀ (rows : List (List Ent)) (r : Nat), ∀ p ∈ prts r rows, r ≤ p.r
  | x :: rows, r, p, h => by
    rcases List.mem_append.mp h with h | h
    · exact Nat.le_of_eq (prt_r r _ 0 p h).1.symm
    · have := prts_r rows (r + 1) p h
      omega
theorem prts_lt : ∀ (rows : List (List Ent)) (r : Nat), (prts r rows).Pairwise Part.lt
  | [], _ => .nil
  | x :: rows, r => List.pairwise_append.mpr ⟨prt_lt r _ 0, prts_lt rows (r + 1), fun p hp q hq => by
      have := prt_r r _ 0 p hp
      have := prts_r rows (r + 1) q hq
      exact .inl (by omega)⟩
/-- the parts in the law's order, and their entries -/
def prtS (rows : List (List Ent)) : List Part := (prts 0 rows).mergeSort pfLe
theorem prtS_e (rows : List (List Ent)) : (prtS rows).map Part.e = sortE (rows.flatMap (byI 0)) := by
  unfold prtS sortE
  rw [List.map_mergeSort (r := pfLe) (s := fallLe) (f := Part.e) (fun a _ b _ => rfl), prts_e]
theorem prtS_py (rows : List (List Ent)) : ((prts 0 rows).map Part.py).mergeSort (PySem.W.dataLe false fun d => d) = (prtS rows).map Part.py := part_sort (prts_lt rows 0)
/-! sorted values still read as their sorted data -/
theorem rps_zip {K : PySem.W.Frag} {H : Hp} {xs : List V} {ds : List PyData} (h : Rps K H xs ds) : ∀ p ∈ xs.zip ds, Rp K H p.1 p.2 := by
  intro p hp
  obtain ⟨i, hi⟩ := List.getElem?_of_mem hp
  rw [List.getElem?_zip_eq_some] at hi
  obtain ⟨d, hd, rd⟩ := h.getV hi.1
  rw [hi.2, Option.some.injEq] at hd
  rw [hd]
  exact rd
theorem rps_of {K : PySem.W.Frag} {H : Hp} : ∀ {ps : List (V × PyData)}, (∀ p ∈ ps, Rp K H p.1 p.2) → Rps K H (ps.map (·.1)) (ps.map (·.2))
  | [], _ => .nil
  | p :: ps, h => .cons (h p List.mem_cons_self) (rps_of fun q hq => h q (List.mem_cons_of_mem _ hq))
theorem byData_rps {K : PySem.W.Frag} {H : Hp} {xs : List V} {ds : List PyData} (h : Rps K H xs ds) : Rps K H (HE.byData xs ds) (ds.mergeSort (PySem.W.dataLe false fun d => d)) := by
  have l := h.length
  have e : ds.mergeSort (PySem.W.dataLe false fun d => d) = ((xs.zip ds).mergeSort (PySem.W.dataLe false fun p => p.2)).map (·.2) := by
    rw [List.map_mergeSort (r := PySem.W.dataLe false fun (p : V × PyData) => p.2) (s := PySem.W.dataLe false fun d => d) (f := fun p : V × PyData => p.2) (fun a _ b _ => rfl), List.map_snd_zip (by omega)]
  rw [e]
  exact rps_of fun p hp => rps_zip h p (List.mem_mergeSort.mp hp)
theorem byFall_rps {K : PySem.W.Frag} {H : Hp} {xs : List V} {es : List Ent} (h : Rps K H xs (es.map Ent.py)) : Rps K H (HE.byFall xs (es.map fun e => e.h - e.n)) ((sortE es).map Ent.py) := by
  have l := h.length; rw [List.length_map] at l
  have e1 : HE.byFall xs (es.map fun e => e.h - e.n) = ((xs.zip es).mergeSort fun a b => fallLe a.2 b.2).map (·.1) := by
    unfold HE.byFall
    rw [List.zip_map_right]
    rw [← List.map_mergeSort (r := fun (a b : V × Ent) => fallLe a.2 b.2) (s := fun (a b : V × Int) => decide (a.2 ≤ b.2)) (f := Prod.map id fun e : Ent => e.h - e.n) (fun a _ b _ => rfl), List.map_map]
    rfl
  have e2 : sortE es = ((xs.zip es).mergeSort fun a b => fallLe a.2 b.2).map (·.2) := by
    unfold sortE
    rw [List.map_mergeSort (r := fun (a b : V × Ent) => fallLe a.2 b.2) (s := fallLe) (f := fun p : V × Ent => p.2) (fun a _ b _ => rfl), List.map_snd_zip (by omega)]
  rw [e1, e2]
  have hz : ∀ p ∈ (xs.zip es).mergeSort fun a b => fallLe a.2 b.2, Rp K H p.1 p.2.py := fun p hp => by
    have hp := List.mem_mergeSort.mp hp
    obtain ⟨i, hi⟩ := List.getElem?_of_mem hp
    rw [List.getElem?_zip_eq_some] at hi
    obtain ⟨d, hd, rd⟩ := h.getV hi.1
    rw [List.getElem?_map, hi.2, Option.map_some, Option.some.injEq] at hd
    rw [hd]
    exact rd
  have := rps_of (K := K) (H := H) (ps := ((xs.zip es).mergeSort fun a b => fallLe a.2 b.2).map fun p => (p.1, p.2.py)) (fun p hp => by
    obtain ⟨q, hq, rfl⟩ := List.mem_map.mp hp
    exact hz q hq)
  rw [List.map_map, List.map_map] at this
  rw [List.map_map]
  exact this
end Mine

/-! ### I0 -/
namespace Mine
open PySem PySem.Spec L2
local macro_rules | `(tactic| walk_at "st") => `(tactic| first
  | ((with_reducible apply rd_var); exact rfl)
  | (with_reducible apply rd_c)
  | (with_reducible apply rd_seq)
  | (with_reducible apply rd_asg)
  | (with_reducible apply rd_gname)
  | (with_reducible apply rd_op)
  | (with_reducible apply rd_cb)
  | (with_reducible apply rd_cons)
  | (with_reducible apply rd_nil)
  | (with_reducible apply rd_if)
  | (with_reducible apply rd_test)
  | (with_reducible apply rd_bl)
  | (with_reducible apply rd_retE)
  | (with_reducible apply rd_ret)
  | (with_reducible apply rd_call)
  | (with_reducible apply rd_tup)
  | (with_reducible apply rd_lst)
  | (with_reducible apply rd_drop)
  | (with_reducible apply rd_next)
  | (with_reducible apply rd_ife)
  | (with_reducible apply rd_gsub)
  | (with_reducible apply rd_par)
  | (with_reducible apply rd_par_end)
  | (with_reducible apply rd_un)
  | (with_reducible apply rd_and)
  | (with_reducible apply rd_or)
  | (with_reducible apply rd_not)
  | (with_reducible apply rd_andV)
  | (with_reducible apply rd_orV)
  | (with_reducible apply rd_notV)
  | (with_reducible apply rd_chain)
  | (with_reducible apply rd_tB)
  | (with_reducible apply rd_brk)
  | (with_reducible apply rd_ct)
  | (with_reducible apply u_add)
  | (with_reducible apply u_sub)
  | (with_reducible apply u_lt)
  | (with_reducible apply u_le)
  | (with_reducible apply u_gt)
  | (with_reducible apply u_ge)
  | (with_reducible apply u_eqI)
  | (with_reducible apply u_eqS)
  | (with_reducible apply u_neI)
  | (with_reducible apply u_int)
  | (with_reducible apply u_intB)
  | (with_reducible apply u_max)
  | (with_reducible apply u_min)
  | (with_reducible apply u_neg)
  | ((with_reducible apply u_mod); focus first | assumption | decide | omega)
  | ((with_reducible apply u_div); focus first | decide | omega | (constructor <;> first | assumption | omega))
  | ((with_reducible apply u_mul); focus first | exact Or.inl (by omega) | exact Or.inr (by omega) | exact Or.inl (by decide) | exact Or.inr (by decide))
  | ((with_reducible apply u_ixL); (focus (first | assumption | exact SqL.of (by assumption) | exact SqL.of upd_same)); exact rfl)
  | ((with_reducible apply u_lenL); focus (first | assumption | exact SqL.of (by assumption) | exact SqL.of upd_same))
  | ((with_reducible apply u_lenT); focus (first | assumption | exact SqT.of (by assumption) | exact SqT.of upd_same))
  | ((with_reducible apply u_setL); (focus (first | assumption | exact upd_same)); exact rfl)
  | (with_reducible apply rd_chain3)
  | (with_reducible apply rd_tru)
  | (with_reducible apply rd_truB)
  | ((with_reducible apply rd_truL); focus (first | assumption | exact SqL.of (by assumption) | exact SqL.of upd_same))
  | (with_reducible apply rd_bm)
  | (with_reducible apply rd_bm0)
  | ((with_reducible apply rd_tyL); focus (first | exact SqL.of (by assumption) | exact SqL.of upd_same))
  | (with_reducible apply u_min3)
  | (with_reducible apply rd_rev)
  | (with_reducible apply rd_iList)
  | (with_reducible apply rd_iTup)
  | (with_reducible apply rd_for)
  | (with_reducible apply rd_rng1)
  | (with_reducible apply rd_rng2)
  | ((with_reducible apply rd_rng1e); (focus omega); (focus omega))
  | ((with_reducible apply rd_rng2e); (focus omega))
  | (with_reducible apply rd_gcons)
  | (with_reducible apply rd_gnil)
  | (with_reducible apply rd_retN)
  | (with_reducible apply g_eqI)
  | (with_reducible apply g_eqS)
  | (with_reducible apply g_neI)
  | (with_reducible apply g_neS)
  | (with_reducible apply g_neB)
  | (with_reducible apply rd_xf)
  | (with_reducible apply rd_raiseE)
  | (with_reducible apply rd_callS)
  | (with_reducible apply u_inD)
  | (with_reducible apply u_notInD)
  | (with_reducible apply u_inS)
  | (with_reducible apply u_notInS)
  | (with_reducible apply rd_iSeq)
  | ((with_reducible apply rd_seqL); (focus first | assumption | exact SqL.of (by assumption) | exact SqL.of upd_same))
  | ((with_reducible apply rd_seqT); (focus first | assumption | exact SqT.of (by assumption) | exact SqT.of upd_same))
  | (with_reducible apply rd_istr)
  | (with_reducible apply rd_istrE)
  | ((with_reducible apply u_isi); (focus (first | exact Or.inl rfl | exact Or.inr (Or.inl rfl) | exact Or.inr (Or.inr (Or.inl rfl)) | exact Or.inr (Or.inr (Or.inr rfl)))); (focus first | assumption | exact Rp.int _ | exact Rp.str _))
  | ((with_reducible apply rd_itL); (focus first | assumption | exact SqL.of (by assumption) | exact SqL.of upd_same))
  | ((with_reducible apply rd_itT); (focus first | assumption | exact SqT.of (by assumption) | exact SqT.of upd_same))
  | (with_reducible apply rd_lc)
  | (with_reducible apply rd_yes)
  | ((with_reducible apply u_pow); (focus (exact ⟨by decide, by decide, by decide⟩)))
  | (with_reducible apply u_mul; focus exact Or.inr cm)
  | (with_reducible apply rd_par3)
  | (with_reducible apply rd_par3_end)
  | ((with_reducible apply rd_aug); exact rfl)
  | (with_reducible apply rd_ipI)
  | (with_reducible apply rd_enA)
  | (with_reducible apply rd_revR)
  | (with_reducible apply rd_rg1)
  | (with_reducible apply rd_rng3)
  | ((with_reducible apply u_enT); (focus first | assumption | exact SqT.of (by assumption) | exact SqT.of upd_same))
  | ((with_reducible apply u_enL); (focus first | assumption | exact SqL.of (by assumption) | exact SqL.of upd_same))
  | (with_reducible apply rd_zip)
  | (with_reducible apply rd_lc2)
  | ((with_reducible apply rd_gtup); (focus first | assumption | exact SqT.of (by assumption) | exact SqT.of upd_same); (focus rfl))
  | (with_reducible apply rd_dnew)
  | (with_reducible apply rd_din)
  | (with_reducible apply rd_dget)
  | (with_reducible apply rd_dput)
  | (with_reducible apply rd_disp1)
  | (with_reducible apply rd_sl)
  | (with_reducible apply rd_part)
  | (with_reducible apply rd_partI)
  | (with_reducible apply rd_nopart)
  | (with_reducible apply u_isB)
  | (with_reducible apply u_repB)
  | (with_reducible apply u_notB)
  | (with_reducible apply rd_dc)
  | (with_reducible apply rd_bmT)
  | (with_reducible apply rd_tupF)
  | ((with_reducible apply rd_tyF); (focus assumption))
  | (with_reducible apply iteT)
  | (with_reducible apply iteF))
local macro_rules | `(tactic| walk_at "go") => `(tactic| repeat (walk_at "st"))
local macro_rules | `(tactic| walk_at "sp") => `(tactic| (first | refine rd_split (fun c => ?_) (fun c => ?_) | refine rd_splitN (fun c => ?_) (fun c => ?_) | refine rd_splitB (fun c => ?_) (fun c => ?_)))
local macro_rules | `(tactic| walk_at "nx") => `(tactic| repeat (first | (with_reducible apply iteF) | (with_reducible apply iteT) | (with_reducible apply rd_next)))

section
variable {P : Program} {w : World} {K : PySem.W.Frag} {mg : Str → Option Value} {base : Heap}
def spBi (K : PySem.W.Frag) : Sp := fun vs H Q _ => ∃ (a : Addr) (xs : List V) (es : List Ent), vs = [.ref a] ∧ SqT K H a xs ∧ Rps K H xs (es.map Ent.py) ∧ es.length ≤ 1000 ∧
  ∀ (H' : Hp) (p : Addr) (ws : List V), Same H H' → H p = none → H' p = some (.lst ws) → Rps K H' ws ((byI 0 es).map Ent.py) → Q (.ref p) H'
theorem take_sn {es : List Ent} {i : Nat} {e : Ent} (h : es[i]? = some e) : es.take (i + 1) = es.take i ++ [e] := by rw [List.take_add_one, h]; rfl
abbrev s_by_itself : Stmt := top 1
theorem sc_by_itself : FnScope ["row", "found", "below", "hill", "valley", "steps"] ["row"] (defScope s_by_itself) := ⟨rfl, rfl, rfl, by decide +kernel, rfl, by decide +kernel, by decide +kernel⟩
theorem has_by_itself (O : OwnF K mg "by_itself" s_by_itself) : HasF P w K mg base CX0 1 "by_itself" ["row"] (spBi K) := by
  refine has0 O sc_by_itself (fun _ _ _ _ _ _ us hl => match us, hl with | [_], _ => rfl) (fun vs H Q E h => ?_) (fun f cdv A outer s_ H vs Q E hr h => ?_)
  · obtain ⟨a, xs, es, rfl, _⟩ := h
    rfl
  obtain ⟨a, xs, es, rfl, hs, hR, hl, q⟩ := h
  have lx := hR.lenE
  refine ⟨_, (pss_cons (ps_set (i := 1) sc_by_itself.nd rfl (by first | exact Or.inl rfl | exact Or.inr rfl) (pe_lst pa_nil)) (pss_cons (ps_set (i := 2) sc_by_itself.nd rfl (by first | exact Or.inl rfl | exact Or.inr rfl) pe_int) (pss_cons (ps_for PassesOwn.never rfl (pi_tupK K (pv 0)) (pg_tupK (n := 3) K rfl (pgs_cons (pg_name (i := 3) sc_by_itself.nd rfl (by first | exact Or.inl rfl | exact Or.inr rfl)) (pgs_cons (pg_name (i := 4) sc_by_itself.nd rfl (by first | exact Or.inl rfl | exact Or.inr rfl)) (pgs_cons (pg_name (i := 5) sc_by_itself.nd rfl (by first | exact Or.inl rfl | exact Or.inr rfl)) pgs_nil)))) (pss_cons (ps_expr (pe_bmK K PySem.F.plainAttrs_list PySem.F.slot_list_append PySem.F.type_list_append mt_append (pv 1) (pa_cons (pe_tup (pa_cons (pe_op subU (pv 3) (pv 2)) (pa_cons (pe_op subU (pv 4) (pv 2)) (pa_cons (pv 5) pa_nil)))) pa_nil))) (pss_one (ps_set (i := 2) sc_by_itself.nd rfl (by first | exact Or.inl rfl | exact Or.inr rfl) (pv 4))))) (pss_one (ps_ret (pv 1)))))), ?_⟩
  refine st0 [some (.ref a), none, none, none, none, none] rfl ?_
  walk_at "go"
  refine ⟨lk rfl, fun p hp => ?_⟩
  have hs0 := Ext.new (K := K) (o := .lst []) hp _ _ hs
  walk_at "go"
  refine forT (fun i σ H' => ∃ (ws : List V) (o3 o4 o5 : Option V), σ = [some (.ref a), some (.ref p), some (.int (lstV 0 (es.take i))), o3, o4, o5] ∧ Same H H' ∧ H' p = some (.lst ws) ∧ Rps K H' ws ((byI 0 (es.take i)).map Ent.py))
    ⟨[], _, _, _, rfl, same_new hp _, upd_same, .nil⟩ (fun i σ H' _ ⟨_, _, _, _, _, s1, _⟩ => Ext.of_same s1 _ _ hs) ?_ ?_
  · rintro i x σ H1 hx ⟨ws, o3, o4, o5, rfl, s1, f1, f2⟩
    obtain ⟨e, he, re⟩ := hR.atE hx
    obtain ⟨ax, bx, yx, rfl, sx, sb, rs⟩ := (re.mono (Ext.of_same s1) _ _).ent
    refine rd_gtup sx rfl ?_
    walk_at "go"
    have lws : ws.length ≤ 1000 := by
      rw [f2.lenE, byI_len, List.length_take]
      omega
    refine ⟨lk rfl, fun pa hpa => ?_⟩
    have npa : p ≠ pa := ne_of_none f1 hpa
    have fpa : (upd H1 pa (.tup [.int (e.n - lstV 0 (es.take i)), .int (e.h - lstV 0 (es.take i)), .ref bx])) p = some (.lst ws) := by rw [upd_ne npa]; exact f1
    have xa : Ext K H1 (upd (upd H1 pa (.tup [.int (e.n - lstV 0 (es.take i)), .int (e.h - lstV 0 (es.take i)), .ref bx])) p (.lst (ws ++ [.ref pa]))) := (Ext.new hpa).trans (Ext.set fpa trivial)
    walk_at "go"
    refine u_app fpa (ls (by omega)) ?_
    walk_at "go"
    refine ⟨ws ++ [.ref pa], _, _, _, by rw [take_sn he, lstV_snoc] <;> rfl, Same.upd_new (Same.new s1 hpa) hp, upd_same, ?_⟩
    rw [take_sn he, byI_snoc, List.map_append]
    refine (f2.mono xa _ _).append (.one (.tup (SqT.of (by rw [upd_ne npa.symm]; exact upd_same)) ?_))
    exact .cons (.int _) (.cons (.int _) (.cons (.tup (xa _ _ sb) (rs.mono xa _ _)) .nil))
  · rintro σ H1 ⟨ws, o3, o4, o5, rfl, s1, f1, f2⟩
    rw [lx, List.take_length] at f2
    walk_at "go"
    exact q _ _ _ s1 hp f1 f2
def spPi (K : PySem.W.Frag) : Sp := fun vs H Q _ => ∃ (a : Addr) (xs : List V) (es : List Ent), vs = [.ref a] ∧ SqL K H a xs ∧ Rps K H xs (es.map Ent.py) ∧ es.length ≤ 1000 ∧
  ∀ (H' : Hp) (p : Addr) (ws : List V), Same H H' → H p = none → SqT K H' p ws → Rps K H' ws ((pileI 0 es).map Ent.py) → Q (.ref p) H'
abbrev s_piled : Stmt := top 2
theorem sc_piled : FnScope ["segments", "found", "below", "hill", "valley", "steps"] ["segments"] (defScope s_piled) := ⟨rfl, rfl, rfl, by decide +kernel, rfl, by decide +kernel, by decide +kernel⟩
theorem has_piled (O : OwnF K mg "piled" s_piled) (B : Bl mg) : HasF P w K mg base CX0 1 "piled" ["segments"] (spPi K) := by
  refine has0 O sc_piled (fun _ _ _ _ _ _ us hl => match us, hl with | [_], _ => rfl) (fun vs H Q E h => ?_) (fun f cdv A outer s_ H vs Q E hr h => ?_)
  · obtain ⟨a, xs, es, rfl, _⟩ := h
    rfl
  obtain ⟨a, xs, es, rfl, hs, hR, hl, q⟩ := h
  have lx := hR.lenE
  refine ⟨_, (pss_cons (ps_set (i := 1) sc_piled.nd rfl (by first | exact Or.inl rfl | exact Or.inr rfl) (pe_lst pa_nil)) (pss_cons (ps_set (i := 2) sc_piled.nd rfl (by first | exact Or.inl rfl | exact Or.inr rfl) pe_int) (pss_cons (ps_for PassesOwn.never rfl (pi_listK K (pv 0)) (pg_tupK (n := 3) K rfl (pgs_cons (pg_name (i := 3) sc_piled.nd rfl (by first | exact Or.inl rfl | exact Or.inr rfl)) (pgs_cons (pg_name (i := 4) sc_piled.nd rfl (by first | exact Or.inl rfl | exact Or.inr rfl)) (pgs_cons (pg_name (i := 5) sc_piled.nd rfl (by first | exact Or.inl rfl | exact Or.inr rfl)) pgs_nil)))) (pss_cons (ps_expr (pe_bmK K PySem.F.plainAttrs_list PySem.F.slot_list_append PySem.F.type_list_append mt_append (pv 1) (pa_cons (pe_tup (pa_cons (pe_op (kAdd K) (pv 2) (pv 3)) (pa_cons (pe_op (kAdd K) (pv 2) (pv 4)) (pa_cons (pv 5) pa_nil)))) pa_nil))) (pss_one (ps_aug (i := 2) sc_piled.nd rfl (by first | exact Or.inl rfl | exact Or.inr rfl) (pv 4) ip_add)))) (pss_one (ps_ret (pe_callTy (kTup K) (by rfl) B.tuple (by decide +kernel) (pa_cons (pv 1) pa_nil))))))), ?_⟩
  refine st0 [some (.ref a), none, none, none, none, none] rfl ?_
  walk_at "go"
  refine ⟨lk rfl, fun p hp => ?_⟩
  have hs0 := SqL.same hs (same_new hp (.lst []))
  walk_at "go"
  refine forL (fun i σ H' => ∃ (ws : List V) (o3 o4 o5 : Option V), σ = [some (.ref a), some (.ref p), some (.int (acc 0 (es.take i))), o3, o4, o5] ∧ Same H H' ∧ H' p = some (.lst ws) ∧ Rps K H' ws ((pileI 0 (es.take i)).map Ent.py))
    ⟨[], _, _, _, rfl, same_new hp _, upd_same, .nil⟩ (fun i σ H' _ ⟨_, _, _, _, _, s1, _⟩ => SqL.same hs s1) ?_ ?_
  · rintro i x σ H1 hx ⟨ws, o3, o4, o5, rfl, s1, f1, f2⟩
    obtain ⟨e, he, re⟩ := hR.atE hx
    obtain ⟨ax, bx, yx, rfl, sx, sb, rs⟩ := (re.mono (Ext.of_same s1) _ _).ent
    refine rd_gtup sx rfl ?_
    walk_at "go"
    have lws : ws.length ≤ 1000 := by
      rw [f2.lenE, pileI_len, List.length_take]
      omega
    refine ⟨lk rfl, fun pa hpa => ?_⟩
    have npa : p ≠ pa := ne_of_none f1 hpa
    have fpa : (upd H1 pa (.tup [.int (acc 0 (es.take i) + e.n), .int (acc 0 (es.take i) + e.h), .ref bx])) p = some (.lst ws) := by rw [upd_ne npa]; exact f1
    have xa : Ext K H1 (upd (upd H1 pa (.tup [.int (acc 0 (es.take i) + e.n), .int (acc 0 (es.take i) + e.h), .ref bx])) p (.lst (ws ++ [.ref pa]))) := (Ext.new hpa).trans (Ext.set fpa trivial)
    walk_at "go"
    refine u_app fpa (ls (by omega)) ?_
    walk_at "go"
    refine ⟨ws ++ [.ref pa], _, _, _, by rw [take_sn he, acc_snoc] <;> rfl, Same.upd_new (Same.new s1 hpa) hp, upd_same, ?_⟩
    rw [take_sn he, pileI_snoc, List.map_append]
    refine (f2.mono xa _ _).append (.one (.tup (SqT.of (by rw [upd_ne npa.symm]; exact upd_same)) ?_))
    exact .cons (.int _) (.cons (.int _) (.cons (.tup (xa _ _ sb) (rs.mono xa _ _)) .nil))
  · rintro σ H1 ⟨ws, o3, o4, o5, rfl, s1, f1, f2⟩
    rw [lx, List.take_length] at f2
    walk_at "go"
    refine u_tupL (SqL.of f1) fun p6 hp6 => ?_
    exact q _ _ _ (Same.new s1 hp6) (none_ofS s1 hp6) (SqT.of upd_same) (f2.mono (Ext.new hp6) _ _)
end
end Mine

/-! ### I1 -/
namespace Mine
open PySem PySem.Spec L2
local macro_rules | `(tactic| walk_at "st") => `(tactic| first
  | ((with_reducible apply rd_var); exact rfl)
  | (with_reducible apply rd_c)
  | (with_reducible apply rd_seq)
  | (with_reducible apply rd_asg)
  | (with_reducible apply rd_gname)
  | (with_reducible apply rd_op)
  | (with_reducible apply rd_cb)
  | (with_reducible apply rd_cons)
  | (with_reducible apply rd_nil)
  | (with_reducible apply rd_if)
  | (with_reducible apply rd_test)
  | (with_reducible apply rd_bl)
  | (with_reducible apply rd_retE)
  | (with_reducible apply rd_ret)
  | (with_reducible apply rd_call)
  | (with_reducible apply rd_tup)
  | (with_reducible apply rd_lst)
  | (with_reducible apply rd_drop)
  | (with_reducible apply rd_next)
  | (with_reducible apply rd_ife)
  | (with_reducible apply rd_gsub)
  | (with_reducible apply rd_par)
  | (with_reducible apply rd_par_end)
  | (with_reducible apply rd_un)
  | (with_reducible apply rd_and)
  | (with_reducible apply rd_or)
  | (with_reducible apply rd_not)
  | (with_reducible apply rd_andV)
  | (with_reducible apply rd_orV)
  | (with_reducible apply rd_notV)
  | (with_reducible apply rd_chain)
  | (with_reducible apply rd_tB)
  | (with_reducible apply rd_brk)
  | (with_reducible apply rd_ct)
  | (with_reducible apply u_add)
  | (with_reducible apply u_sub)
  | (with_reducible apply u_lt)
  | (with_reducible apply u_le)
  | (with_reducible apply u_gt)
  | (with_reducible apply u_ge)
  | (with_reducible apply u_eqI)
  | (with_reducible apply u_eqS)
  | (with_reducible apply u_neI)
  | (with_reducible apply u_int)
  | (with_reducible apply u_intB)
  | (with_reducible apply u_max)
  | (with_reducible apply u_min)
  | (with_reducible apply u_neg)
  | ((with_reducible apply u_mod); focus first | assumption | decide | omega)
  | ((with_reducible apply u_div); focus first | decide | omega | (constructor <;> first | assumption | omega))
  | ((with_reducible apply u_mul); focus first | exact Or.inl (by omega) | exact Or.inr (by omega) | exact Or.inl (by decide) | exact Or.inr (by decide))
  | ((with_reducible apply u_ixL); (focus (first | assumption | exact SqL.of (by assumption) | exact SqL.of upd_same)); exact rfl)
  | ((with_reducible apply u_lenL); focus (first | assumption | exact SqL.of (by assumption) | exact SqL.of upd_same))
  | ((with_reducible apply u_lenT); focus (first | assumption | exact SqT.of (by assumption) | exact SqT.of upd_same))
  | ((with_reducible apply u_setL); (focus (first | assumption | exact upd_same)); exact rfl)
  | (with_reducible apply rd_chain3)
  | (with_reducible apply rd_tru)
  | (with_reducible apply rd_truB)
  | ((with_reducible apply rd_truL); focus (first | assumption | exact SqL.of (by assumption) | exact SqL.of upd_same))
  | (with_reducible apply rd_bm)
  | (with_reducible apply rd_bm0)
  | ((with_reducible apply rd_tyL); focus (first | exact SqL.of (by assumption) | exact SqL.of upd_same))
  | (with_reducible apply u_min3)
  | (with_reducible apply rd_rev)
  | (with_reducible apply rd_iList)
  | (with_reducible apply rd_iTup)
  | (with_reducible apply rd_for)
  | (with_reducible apply rd_rng1)
  | (with_reducible apply rd_rng2)
  | ((with_reducible apply rd_rng1e); (focus omega); (focus omega))
  | ((with_reducible apply rd_rng2e); (focus omega))
  | (with_reducible apply rd_gcons)
  | (with_reducible apply rd_gnil)
  | (with_reducible apply rd_retN)
  | (with_reducible apply g_eqI)
  | (with_reducible apply g_eqS)
  | (with_reducible apply g_neI)
  | (with_reducible apply g_neS)
  | (with_reducible apply g_neB)
  | (with_reducible apply rd_xf)
  | (with_reducible apply rd_raiseE)
  | (with_reducible apply rd_callS)
  | (with_reducible apply u_inD)
  | (with_reducible apply u_notInD)
  | (with_reducible apply u_inS)
  | (with_reducible apply u_notInS)
  | (with_reducible apply rd_iSeq)
  | ((with_reducible apply rd_seqL); (focus first | assumption | exact SqL.of (by assumption) | exact SqL.of upd_same))
  | ((with_reducible apply rd_seqT); (focus first | assumption | exact SqT.of (by assumption) | exact SqT.of upd_same))
  | (with_reducible apply rd_istr)
  | (with_reducible apply rd_istrE)
  | ((with_reducible apply u_isi); (focus (first | exact Or.inl rfl | exact Or.inr (Or.inl rfl) | exact Or.inr (Or.inr (Or.inl rfl)) | exact Or.inr (Or.inr (Or.inr rfl)))); (focus first | assumption | exact Rp.int _ | exact Rp.str _))
  | ((with_reducible apply rd_itL); (focus first | assumption | exact SqL.of (by assumption) | exact SqL.of upd_same))
  | ((with_reducible apply rd_itT); (focus first | assumption | exact SqT.of (by assumption) | exact SqT.of upd_same))
  | (with_reducible apply rd_lc)
  | (with_reducible apply rd_yes)
  | ((with_reducible apply u_pow); (focus (exact ⟨by decide, by decide, by decide⟩)))
  | (with_reducible apply u_mul; focus exact Or.inr cm)
  | (with_reducible apply rd_par3)
  | (with_reducible apply rd_par3_end)
  | ((with_reducible apply rd_aug); exact rfl)
  | (with_reducible apply rd_ipI)
  | (with_reducible apply rd_enA)
  | (with_reducible apply rd_revR)
  | (with_reducible apply rd_rg1)
  | (with_reducible apply rd_rng3)
  | ((with_reducible apply u_enT); (focus first | assumption | exact SqT.of (by assumption) | exact SqT.of upd_same))
  | ((with_reducible apply u_enL); (focus first | assumption | exact SqL.of (by assumption) | exact SqL.of upd_same))
  | (with_reducible apply rd_zip)
  | (with_reducible apply rd_lc2)
  | ((with_reducible apply rd_gtup); (focus first | assumption | exact SqT.of (by assumption) | exact SqT.of upd_same); (focus rfl))
  | (with_reducible apply rd_dnew)
  | (with_reducible apply rd_din)
  | (with_reducible apply rd_dget)
  | (with_reducible apply rd_dput)
  | (with_reducible apply rd_disp1)
  | (with_reducible apply rd_sl)
  | (with_reducible apply rd_part)
  | (with_reducible apply rd_partI)
  | (with_reducible apply rd_nopart)
  | (with_reducible apply u_isB)
  | (with_reducible apply u_repB)
  | (with_reducible apply u_notB)
  | (with_reducible apply rd_dc)
  | (with_reducible apply rd_bmT)
  | (with_reducible apply rd_tupF)
  | ((with_reducible apply rd_tyF); (focus assumption))
  | (with_reducible apply iteT)
  | (with_reducible apply iteF))
local macro_rules | `(tactic| walk_at "go") => `(tactic| repeat (walk_at "st"))
local macro_rules | `(tactic| walk_at "sp") => `(tactic| (first | refine rd_split (fun c => ?_) (fun c => ?_) | refine rd_splitN (fun c => ?_) (fun c => ?_) | refine rd_splitB (fun c => ?_) (fun c => ?_)))
local macro_rules | `(tactic| walk_at "nx") => `(tactic| repeat (first | (with_reducible apply iteF) | (with_reducible apply iteT) | (with_reducible apply rd_next)))

section
variable {P : Program} {w : World} {K : PySem.W.Frag} {mg : Str → Option Value} {base : Heap}
theorem rdp {k : Nat} {A : Around} (r : Room k A) : A.depth < recursionLimit := by have := r.dp; omega
theorem kSortD {X : Cx} (K : PySem.W.Frag) (hu : X.A.units + 200 < cLine) (h : X.K = K := by rfl) : CallR X (.builtin "sorted") (HE.rSortD K) := by subst h; exact HE.cr_sortD hu
theorem rd_sortF {T : List (Addr × Str)} {K : PySem.W.Frag} {te : TE} {σ : L2.St} {H : Hp} {Q : VK} (h : te σ H fun x H1 => LamX.Tabs T H1 ∧ ∃ (p : Addr) (xs : List V) (ks : List Int), x = .ref p ∧ SqL K H1 p xs ∧ HE.SegK K H1 xs ks ∧ ∀ (H2 : Hp) (D : Addr), LamX.ExtN H1 H2 → LamX.Tabs T H2 → H2 D = none → Q (.ref D) (upd H2 D (.lst (HE.byFall xs ks)))) : HE.tSortF T K te σ H Q := h
theorem lcGL {H : Hp} {K : PySem.W.Frag} {a : Addr} {xs : List V} {σ : L2.St} {g : TG} {tt : TT} {vs : List Nat} {Qd : Hp → Prop} {BB : (Hp → Prop) → L2.St → Hp → Prop} (Pv : Nat → Hp → Prop) (h0 : Pv 0 H) (hl : ∀ i H, i ≤ xs.length → Pv i H → SqL K H a xs)
    (hs : ∀ i x H, xs[i]? = some x → Pv i H → g x (wipe σ vs) H fun σ2 H2 => wipe σ2 vs = wipe σ vs ∧ tt σ2 H2 fun b H3 => if b = true then BB (Pv (i + 1)) σ2 H3 else Pv (i + 1) H3) (hd : ∀ H, Pv xs.length H → Qd H) :
    ∃ W : Nat → Nat → Hp → Prop, (∃ m, W 0 m H) ∧ ∀ i m H, W i m H →
      ((Itl K a).stop i H ∧ Qd H) ∨ ((Itl K a).go i H ∧ ∃ Nx : Hp → Prop, (∀ H', Nx H' → ∃ m', m' < m ∧ W (i + 1) m' H') ∧ ∀ x H', (Itl K a).yld i H x H' → g x (wipe σ vs) H' fun σ2 H2 => wipe σ2 vs = wipe σ vs ∧ tt σ2 H2 fun b H3 =>
        if b = true then BB Nx σ2 H3 else Nx H3) := by
  refine ⟨fun i m H => m = xs.length - i ∧ i ≤ xs.length ∧ Pv i H, ⟨xs.length, by simp, Nat.zero_le _, h0⟩, ?_⟩
  rintro i m H ⟨rfl, hi, pv⟩
  have sq := hl i H hi pv
  rcases Nat.lt_or_ge i xs.length with hlt | hlt
  · refine .inr ⟨⟨xs, _, sq, List.getElem?_eq_getElem hlt⟩, Pv (i + 1), fun H' p' => ⟨xs.length - (i + 1), by omega, rfl, hlt, p'⟩, fun x H' y => ?_⟩
    obtain ⟨e1, e2⟩ := y
    subst e1
    exact hs i x _ (e2 xs sq) pv
  · obtain rfl : i = xs.length := by omega
    exact .inl ⟨⟨xs, sq, Nat.le_refl _⟩, hd H pv⟩
theorem Ext.ofN {K : PySem.W.Frag} {H H' : Hp} (e : LamX.ExtN H H') : Ext K H H' := fun _ _ => HE.ExtN.sqT e
theorem tabs_same {T : List (Addr × Str)} {H H' : Hp} (t : LamX.Tabs T H) (s : Same H H') : LamX.Tabs T H' := fun p hp => (t p hp).ext s
def rowPy (es : List Ent) : PyData := .tuple (es.map Ent.py)
theorem Rps.row {K : PySem.W.Frag} {H : Hp} {xs : List V} {rows : List (List Ent)} {i : Nat} {x : V} (r : Rps K H xs (rows.map rowPy)) (h : xs[i]? = some x) : ∃ (es : List Ent) (a : Addr) (ys : List V), rows[i]? = some es ∧ x = .ref a ∧ SqT K H a ys ∧ Rps K H ys (es.map Ent.py) := by
  obtain ⟨d, hd, rd⟩ := r.getV h
  rw [List.getElem?_map, Option.map_eq_some_iff] at hd
  obtain ⟨es, he, rfl⟩ := hd
  unfold rowPy at rd
  cases rd with
  | @tup a ys ds hs hR => exact ⟨es, a, ys, he, rfl, hs, hR⟩
theorem segK_of {K : PySem.W.Frag} {H : Hp} {xs : List V} {es : List Ent} (r : Rps K H xs (es.map Ent.py)) : HE.SegK K H xs (es.map fun e => e.h - e.n) := by
  refine ⟨by rw [r.lenE, List.length_map], fun i v hv => ?_⟩
  obtain ⟨e, he, re⟩ := r.atE hv
  obtain ⟨a, b, ys, rfl, hs, _⟩ := re.ent
  exact ⟨a, e.n, e.h, _, rfl, hs, by rw [List.getElem?_map, he]; rfl⟩
def spWv (TT : List (Addr × Str)) (K : PySem.W.Frag) : Sp := fun vs H Q _ => LamX.Tabs TT H ∧ ∃ (a : Addr) (xs : List V) (rows : List (List Ent)), vs = [.ref a] ∧ SqT K H a xs ∧ Rps K H xs (rows.map rowPy) ∧ rows.length ≤ 1000 ∧ (rows.flatMap id).length ≤ 1000 ∧
  ∀ (H' : Hp) (q : Addr) (ws : List V), LamX.ExtN H H' → LamX.Tabs TT H' → SqT K H' q ws → Rps K H' ws ((weaveE rows).map Ent.py) → Q (.ref q) H'
theorem flat_by (rows : List (List Ent)) : (rows.flatMap (byI 0)).length = (rows.flatMap id).length := by
  induction rows with
  | nil => rfl
  | cons r rows ih => rw [List.flatMap_cons, List.flatMap_cons, List.length_append, List.length_append, ih, byI_len]; rfl
theorem flat_take (rows : List (List Ent)) {i : Nat} {es : List Ent} (h : rows[i]? = some es) : (rows.take (i + 1)).flatMap (byI 0) = (rows.take i).flatMap (byI 0) ++ byI 0 es := by
  rw [List.take_add_one, h, List.flatMap_append, Option.toList_some, List.flatMap_cons, List.flatMap_nil, List.append_nil]
theorem flat_le (rows : List (List Ent)) {i : Nat} {es : List Ent} (h : rows[i]? = some es) : ((rows.take i).flatMap (byI 0)).length + es.length ≤ (rows.flatMap id).length := by
  rw [← flat_by, ← byI_len es 0, ← List.length_append, ← flat_take rows h]
  have z : rows.flatMap (byI 0) = (rows.take (i + 1)).flatMap (byI 0) ++ (rows.drop (i + 1)).flatMap (byI 0) := by rw [← List.flatMap_append, List.take_append_drop]
  rw [z, List.length_append]
  omega
abbrev s_weave : Stmt := top 3
theorem sc_weave : FnScope ["rows", "segments", "row", "segment"] ["rows"] (defScope s_weave) := ⟨rfl, rfl, rfl, by decide +kernel, rfl, by decide +kernel, by decide +kernel⟩
theorem has_weave {cW tP : Addr} (O : OwnC K mg "weave" s_weave cW) (BSo : mg "sorted" = none) (h_by_itself : HasF P w K mg base CX0 1 "by_itself" ["row"] (spBi K)) (h_piled : HasF P w K mg base CX0 1 "piled" ["segments"] (spPi K)) (TB : LamX.TabB base mg cW tP) (TT : List (Addr × Str)) (hTT : TT = [(tP, ("weave" : Str) ++ (".<locals>." : Str) ++ ("<lambda>" : Str))]) : HasF P w K mg base CX0 2 "weave" ["rows"] (spWv TT K) := by
  refine has0C O sc_weave (fun _ _ _ _ _ _ us hl => match us, hl with | [_], _ => rfl) (fun vs H Q E h => ?_) (fun f A outer s_ H vs Q E hr h => ?_)
  · obtain ⟨_, a, xs, rows, rfl, _⟩ := h
    rfl
  obtain ⟨hT, a, xs, rows, rfl, hs, hR, hl, hf, q⟩ := h
  subst hTT
  have lx : xs.length = rows.length := by rw [hR.length, List.length_map]
  refine ⟨_, (pss_cons (ps_setLc2 (i := 1) (own := [("row", 2), ("segment", 3)]) (g := gName 2) (tt := tYes) (g1 := gName 3) (tt1 := tYes) (vs1 := [3]) rfl sc_weave.nd rfl rfl (sw_true rfl rfl rfl (by decide +kernel)) (pi_tupK K (pv 0)) (blkOk_by (own := [("row", 2), ("segment", 3)]) (N := ["rows", "segments", "row", "segment"]) (sc := defScope s_weave) (by decide +kernel)) (by decide) (fun _ _ _ _ _ => (pg_name (i := 2) sc_weave.nd rfl (by first | exact Or.inl rfl | exact Or.inr rfl))) (fun _ _ _ _ _ => pts_nil) (fun _ _ _ _ _ => (pi_listK K (pe_callH h_by_itself (hr.mono (by first | decide | omega)) (by rfl) pass0 (pa_cons (pv 2) pa_nil)))) (fun _ _ _ _ _ => (pg_name (i := 3) sc_weave.nd rfl (by first | exact Or.inl rfl | exact Or.inr rfl))) (fun _ _ _ _ _ => pts_nil) (fun _ _ _ _ _ => (pv 3))) (pss_one (ps_ret (pe_callH h_piled (hr.mono (by first | decide | omega)) (by rfl) pass0 (pa_cons (HE.pe_sortF (T := [(tP, ("weave" : Str) ++ (".<locals>." : Str) ++ ("<lambda>" : Str))]) (by rfl) BSo (pv 1) TB rfl (List.mem_singleton.mpr rfl) (fun p hp _ => by rw [List.mem_singleton.mp hp]; rfl) (rdp hr) (hU hr) rfl rfl (fun y hy hz => by simp [Scope.names] at hy; subst hy; cases hz) (fun _ _ _ _ _ => rfl) rfl rfl rfl rfl (by decide)) pa_nil))))), ?_⟩
  refine st0 [some (.ref a), none, none, none] rfl ?_
  have hsx := hs
  generalize hTT : [(tP, ("weave" : Str) ++ (".<locals>." : Str) ++ ("<lambda>" : Str))] = TT at *
  walk_at "go"
  intro D hD
  refine lcG (xs := xs) (fun i H' => ∃ ws : List V, H' D = some (.lst ws) ∧ Same H H' ∧ Rps K H' ws (((rows.take i).flatMap (byI 0)).map Ent.py)) ⟨[], upd_same, same_new hD _, .nil⟩ ?_ ?_ ?_
  · rintro i H' hi ⟨ws, f1, f2, f3⟩
    exact Ext.of_same f2 _ _ hs
  · rintro i x H1 hx ⟨ws, f1, f2, f3⟩
    obtain ⟨es, ax, ys, he, rfl, sx0, sr0⟩ := hR.row hx
    have sx := Ext.of_same (K := K) f2 _ _ sx0
    have sr := sr0.mono (Ext.of_same (K := K) f2) _ _
    have fl := flat_le rows he
    walk_at "go"
    refine ⟨rfl, ?_⟩
    walk_at "go"
    refine ⟨ax, ys, es, rfl, sx, sr, by omega, fun H2 p2 zs s2 n2 g1 g2 => ?_⟩
    have npD : D ≠ p2 := ne_of_none f1 n2
    have hz := g2.lenE
    rw [byI_len] at hz
    walk_at "go"
    refine lcGL (xs := zs) (fun j H' => ∃ us : List V, H' D = some (.lst us) ∧ Same H H' ∧ H' p2 = some (.lst zs) ∧ Rps K H' us (((rows.take i).flatMap (byI 0) ++ (byI 0 es).take j).map Ent.py) ∧ Rps K H' zs ((byI 0 es).map Ent.py)) ⟨ws, s2 _ _ f1, f2.trans s2, g1, by rw [List.take_zero, List.append_nil]; exact f3.mono (Ext.of_same s2) _ _, g2⟩ ?_ ?_ ?_
    · rintro j H' hj ⟨us, k1, k2, k3, k4, k5⟩
      exact SqL.of k3
    · rintro j x H' hx ⟨us, k1, k2, k3, k4, k5⟩
      obtain ⟨e, he', re⟩ := k5.atE hx
      walk_at "go"
      refine ⟨rfl, ?_⟩
      walk_at "go"
      have ex : Ext K H' (upd H' D (.lst (us ++ [x]))) := Ext.set k1 trivial
      have lu := k4.lenE
      rw [List.length_append, List.length_take, byI_len] at lu
      refine ⟨us, k1, ls (by omega), us ++ [x], upd_same, Same.upd_new k2 hD, by rw [upd_ne npD.symm]; exact k3, ?_, k5.mono ex _ _⟩
      rw [take_sn he', ← List.append_assoc, List.map_append]
      exact (k4.mono ex _ _).append (.one (re.mono ex _ _))
    · rintro H' ⟨us, k1, k2, k3, k4, k5⟩
      rw [hz, ← byI_len es 0, List.take_length] at k4
      exact ⟨us, k1, k2, by rw [flat_take rows he]; exact k4⟩
  · rintro H1 ⟨ws, f1, f2, f3⟩
    rw [lx, List.take_length] at f3
    have hT1 := tabs_same hT f2
    have lw := f3.lenE
    rw [flat_by] at lw
    walk_at "go"
    refine rd_sortF ?_
    walk_at "go"
    refine ⟨hT1, D, ws, _, rfl, SqL.of f1, segK_of f3, fun H2 D2 e2 t2 hD2 => ?_⟩
    have g2 := (f3.mono (Ext.ofN e2) _ _).mono (Ext.new (o := .lst (HE.byFall ws ((List.flatMap (byI 0) rows).map fun e => e.h - e.n))) hD2) _ _
    walk_at "go"
    refine ⟨D2, _, sortE (rows.flatMap (byI 0)), rfl, SqL.of upd_same, byFall_rps g2, by rw [sortE_len, flat_by]; exact hf, fun H3 p3 vs3 s3 _ k1 k2 => ?_⟩
    refine q H3 p3 vs3 ?_ ?_ k1 k2
    · exact ((LamX.ExtN.of f2).trans e2).trans (.of ((Same.new (o := .lst _) (Same.refl H2) hD2).trans s3))
    · exact tabs_same (tabs_same t2 (same_new hD2 _)) s3
end
end Mine

/-! ### I2 -/
namespace Mine
open PySem PySem.Spec L2
local macro_rules | `(tactic| walk_at "st") => `(tactic| first
  | ((with_reducible apply rd_var); exact rfl)
  | (with_reducible apply rd_c)
  | (with_reducible apply rd_seq)
  | (with_reducible apply rd_asg)
  | (with_reducible apply rd_gname)
  | (with_reducible apply rd_op)
  | (with_reducible apply rd_cb)
  | (with_reducible apply rd_cons)
  | (with_reducible apply rd_nil)
  | (with_reducible apply rd_if)
  | (with_reducible apply rd_test)
  | (with_reducible apply rd_bl)
  | (with_reducible apply rd_retE)
  | (with_reducible apply rd_ret)
  | (with_reducible apply rd_call)
  | (with_reducible apply rd_tup)
  | (with_reducible apply rd_lst)
  | (with_reducible apply rd_drop)
  | (with_reducible apply rd_next)
  | (with_reducible apply rd_ife)
  | (with_reducible apply rd_gsub)
  | (with_reducible apply rd_par)
  | (with_reducible apply rd_par_end)
  | (with_reducible apply rd_un)
  | (with_reducible apply rd_and)
  | (with_reducible apply rd_or)
  | (with_reducible apply rd_not)
  | (with_reducible apply rd_andV)
  | (with_reducible apply rd_orV)
  | (with_reducible apply rd_notV)
  | (with_reducible apply rd_chain)
  | (with_reducible apply rd_tB)
  | (with_reducible apply rd_brk)
  | (with_reducible apply rd_ct)
  | (with_reducible apply u_add)
  | (with_reducible apply u_sub)
  | (with_reducible apply u_lt)
  | (with_reducible apply u_le)
  | (with_reducible apply u_gt)
  | (with_reducible apply u_ge)
  | (with_reducible apply u_eqI)
  | (with_reducible apply u_eqS)
  | (with_reducible apply u_neI)
  | (with_reducible apply u_int)
  | (with_reducible apply u_intB)
  | (with_reducible apply u_max)
  | (with_reducible apply u_min)
  | (with_reducible apply u_neg)
  | ((with_reducible apply u_mod); focus first | assumption | decide | omega)
  | ((with_reducible apply u_div); focus first | decide | omega | (constructor <;> first | assumption | omega))
  | ((with_reducible apply u_mul); focus first | exact Or.inl (by omega) | exact Or.inr (by omega) | exact Or.inl (by decide) | exact Or.inr (by decide))
  | ((with_reducible apply u_ixL); (focus (first | assumption | exact SqL.of (by assumption) | exact SqL.of upd_same)); exact rfl)
  | ((with_reducible apply u_lenL); focus (first | assumption | exact SqL.of (by assumption) | exact SqL.of upd_same))
  | ((with_reducible apply u_lenT); focus (first | assumption | exact SqT.of (by assumption) | exact SqT.of upd_same))
  | ((with_reducible apply u_setL); (focus (first | assumption | exact upd_same)); exact rfl)
  | (with_reducible apply rd_chain3)
  | (with_reducible apply rd_tru)
  | (with_reducible apply rd_truB)
  | ((with_reducible apply rd_truL); focus (first | assumption | exact SqL.of (by assumption) | exact SqL.of upd_same))
  | (with_reducible apply rd_bm)
  | (with_reducible apply rd_bm0)
  | ((with_reducible apply rd_tyL); focus (first | exact SqL.of (by assumption) | exact SqL.of upd_same))
  | (with_reducible apply u_min3)
  | (with_reducible apply rd_rev)
  | (with_reducible apply rd_iList)
  | (with_reducible apply rd_iTup)
  | (with_reducible apply rd_for)
  | (with_reducible apply rd_rng1)
  | (with_reducible apply rd_rng2)
  | ((with_reducible apply rd_rng1e); (focus omega); (focus omega))
  | ((with_reducible apply rd_rng2e); (focus omega))
  | (with_reducible apply rd_gcons)
  | (with_reducible apply rd_gnil)
  | (with_reducible apply rd_retN)
  | (with_reducible apply g_eqI)
  | (with_reducible apply g_eqS)
  | (with_reducible apply g_neI)
  | (with_reducible apply g_neS)
  | (with_reducible apply g_neB)
  | (with_reducible apply rd_xf)
  | (with_reducible apply rd_raiseE)
  | (with_reducible apply rd_callS)
  | (with_reducible apply u_inD)
  | (with_reducible apply u_notInD)
  | (with_reducible apply u_inS)
  | (with_reducible apply u_notInS)
  | (with_reducible apply rd_iSeq)
  | ((with_reducible apply rd_seqL); (focus first | assumption | exact SqL.of (by assumption) | exact SqL.of upd_same))
  | ((with_reducible apply rd_seqT); (focus first | assumption | exact SqT.of (by assumption) | exact SqT.of upd_same))
  | (with_reducible apply rd_istr)
  | (with_reducible apply rd_istrE)
  | ((with_reducible apply u_isi); (focus (first | exact Or.inl rfl | exact Or.inr (Or.inl rfl) | exact Or.inr (Or.inr (Or.inl rfl)) | exact Or.inr (Or.inr (Or.inr rfl)))); (focus first | assumption | exact Rp.int _ | exact Rp.str _))
  | ((with_reducible apply rd_itL); (focus first | assumption | exact SqL.of (by assumption) | exact SqL.of upd_same))
  | ((with_reducible apply rd_itT); (focus first | assumption | exact SqT.of (by assumption) | exact SqT.of upd_same))
  | (with_reducible apply rd_lc)
  | (with_reducible apply rd_yes)
  | ((with_reducible apply u_pow); (focus (exact ⟨by decide, by decide, by decide⟩)))
  | (with_reducible apply u_mul; focus exact Or.inr cm)
  | (with_reducible apply rd_par3)
  | (with_reducible apply rd_par3_end)
  | ((with_reducible apply rd_aug); exact rfl)
  | (with_reducible apply rd_ipI)
  | (with_reducible apply rd_enA)
  | (with_reducible apply rd_revR)
  | (with_reducible apply rd_rg1)
  | (with_reducible apply rd_rng3)
  | ((with_reducible apply u_enT); (focus first | assumption | exact SqT.of (by assumption) | exact SqT.of upd_same))
  | ((with_reducible apply u_enL); (focus first | assumption | exact SqL.of (by assumption) | exact SqL.of upd_same))
  | (with_reducible apply rd_zip)
  | (with_reducible apply rd_lc2)
  | ((with_reducible apply rd_gtup); (focus first | assumption | exact SqT.of (by assumption) | exact SqT.of upd_same); (focus rfl))
  | (with_reducible apply rd_dnew)
  | (with_reducible apply rd_din)
  | (with_reducible apply rd_dget)
  | (with_reducible apply rd_dput)
  | (with_reducible apply rd_disp1)
  | (with_reducible apply rd_sl)
  | (with_reducible apply rd_part)
  | (with_reducible apply rd_partI)
  | (with_reducible apply rd_nopart)
  | (with_reducible apply u_isB)
  | (with_reducible apply u_repB)
  | (with_reducible apply u_notB)
  | (with_reducible apply rd_dc)
  | (with_reducible apply rd_bmT)
  | (with_reducible apply rd_tupF)
  | ((with_reducible apply rd_tyF); (focus assumption))
  | (with_reducible apply iteT)
  | (with_reducible apply iteF))
local macro_rules | `(tactic| walk_at "go") => `(tactic| repeat (walk_at "st"))
local macro_rules | `(tactic| walk_at "sp") => `(tactic| (first | refine rd_split (fun c => ?_) (fun c => ?_) | refine rd_splitN (fun c => ?_) (fun c => ?_) | refine rd_splitB (fun c => ?_) (fun c => ?_)))
local macro_rules | `(tactic| walk_at "nx") => `(tactic| repeat (first | (with_reducible apply iteF) | (with_reducible apply iteT) | (with_reducible apply rd_next)))

section
variable {P : Program} {w : World} {K : PySem.W.Frag} {mg : Str → Option Value} {base : Heap}
def intS (e : Ent) : Prop := ∃ l : List Int, e.s = l.map PyData.int ∧ l.length ≤ 1000
def intR (rows : List (List Ent)) : Prop := ∀ es ∈ rows, ∀ e ∈ es, intS e
def spWo (K : PySem.W.Frag) : Sp := fun vs H Q _ => ∃ (a : Addr) (xs : List V) (rows : List (List Ent)), vs = [.ref a] ∧ SqL K H a xs ∧ Rps K H xs (rows.map rowPy) ∧ rows.length ≤ 1000 ∧ (rows.flatMap id).length ≤ 1000 ∧ intR rows ∧
  ∀ (H' : Hp) (p : Addr) (ws : List V), Same H H' → H p = none → H' p = some (.lst ws) → Rps K H' ws ((weaveE rows).map Ent.py) → Q (.ref p) H'
theorem byI_s : ∀ (l : List Ent) (b : Int) (e : Ent), e ∈ byI b l → ∃ f ∈ l, e.s = f.s
  | x :: r, b, e, h => by
    rcases List.mem_cons.mp h with rfl | h
    · exact ⟨x, List.mem_cons_self, rfl⟩
    · obtain ⟨f, hf, ef⟩ := byI_s r _ e h
      exact ⟨f, List.mem_cons_of_mem _ hf, ef⟩
theorem part_int {rows : List (List Ent)} (h : intR rows) : ∀ p ∈ prts 0 rows, intS p.e := by
  intro p hp
  have : p.e ∈ rows.flatMap (byI 0) := by rw [← prts_e rows 0]; exact List.mem_map_of_mem hp
  obtain ⟨es, he, hm⟩ := List.mem_flatMap.mp this
  obtain ⟨f, hf, ef⟩ := byI_s _ _ _ hm
  obtain ⟨l, hl, hk⟩ := h es he f hf
  exact ⟨l, ef.trans hl, hk⟩
theorem part_alike {p q : Part} (hp : intS p.e) (hq : intS q.e) : PySem.W.alike p.py q.py = true := by
  obtain ⟨l, hl, _⟩ := hp
  obtain ⟨m, hm, _⟩ := hq
  unfold Part.py
  rw [hl, hm]
  simp [PySem.W.alike, PySem.W.alikeAll, PySem.W.alike_ints]
theorem part_depth {p : Part} (hp : intS p.e) : p.py.depth ≤ 60 := by
  obtain ⟨l, hl, _⟩ := hp
  unfold Part.py
  rw [hl]
  simp [PyData.depth, PyData.depthAll, PySem.W.depth_ints]
theorem prts_len (rows : List (List Ent)) : (prts 0 rows).length = (rows.flatMap id).length := by
  rw [← flat_by, ← prts_e rows 0, List.length_map]
theorem Rp.part {K : PySem.W.Frag} {H : Hp} {v : V} {p : Part} (r : Rp K H v p.py) : ∃ a b ys, v = .ref a ∧ SqT K H a [.int (p.e.h - p.e.n), .int (p.r : Int), .int (p.k : Int), .int p.e.n, .int p.e.h, .ref b] ∧ SqT K H b ys ∧ Rps K H ys p.e.s := by
  unfold Part.py at r
  cases r with
  | @tup a xs ds hs hR =>
    cases hR with
    | cons r1 hR =>
      cases hR with
      | cons r2 hR =>
        cases hR with
        | cons r3 hR =>
          cases hR with
          | cons r4 hR =>
            cases hR with
            | cons r5 hR =>
              cases hR with
              | cons r6 hR =>
                cases hR
                cases r1
                cases r2
                cases r3
                cases r4
                cases r5
                cases r6 with
                | @tup b ys es hb hE => exact ⟨a, b, ys, rfl, hs, hb, hE⟩
theorem prts_take {rows : List (List Ent)} {i : Nat} {es : List Ent} (h : rows[i]? = some es) : prts 0 (rows.take (i + 1)) = prts 0 (rows.take i) ++ prt i 0 (byI 0 es) := by
  have hi : i < rows.length := (List.getElem?_eq_some_iff.mp h).1
  rw [List.take_add_one, h, Option.toList_some, prts_snoc, List.length_take, Nat.min_eq_left (by omega), Nat.zero_add]
abbrev s_law_woven : Stmt := top 10
theorem sc_law_woven : FnScope ["rows", "parts", "r", "before", "k", "hill", "low", "steps", "found", "held", "fall"] ["rows"] (defScope s_law_woven) := ⟨rfl, rfl, rfl, by decide +kernel, rfl, by decide +kernel, by decide +kernel⟩
theorem has_law_woven (O : OwnF K mg "_law_woven" s_law_woven) (B : Bl mg) (BSo : mg "sorted" = none) : HasF P w K mg base CX0 1 "_law_woven" ["rows"] (spWo K) := by
  refine has0 O sc_law_woven (fun _ _ _ _ _ _ us hl => match us, hl with | [_], _ => rfl) (fun vs H Q E h => ?_) (fun f cdv A outer s_ H vs Q E hr h => ?_)
  · obtain ⟨a, xs, rows, rfl, _⟩ := h
    rfl
  obtain ⟨a, xs, rows, rfl, hs, hR, hl, hf, hI, q⟩ := h
  have lx : xs.length = rows.length := by rw [hR.length, List.length_map]
  refine ⟨_, (pss_cons (ps_set (i := 1) sc_law_woven.nd rfl (by first | exact Or.inl rfl | exact Or.inr rfl) (pe_lst pa_nil)) (pss_cons (ps_for PassesOwn.never rfl (pi_range1 (by rfl) B.range (pa_cons (pe_callB (kLen K) (by rfl) B.len (by decide +kernel) (pa_cons (pv 0) pa_nil)) pa_nil)) (pg_name (i := 2) sc_law_woven.nd rfl (by first | exact Or.inl rfl | exact Or.inr rfl)) (pss_cons (ps_set (i := 3) sc_law_woven.nd rfl (by first | exact Or.inl rfl | exact Or.inr rfl) pe_int) (pss_one (ps_for PassesOwn.never rfl (pi_range1 (by rfl) B.range (pa_cons (pe_callB (kLen K) (by rfl) B.len (by decide +kernel) (pa_cons (pe_ix (kIx K) (pv 0) (pv 2) (fun _ _ => rfl)) pa_nil)) pa_nil)) (pg_name (i := 4) sc_law_woven.nd rfl (by first | exact Or.inl rfl | exact Or.inr rfl)) (pss_cons (ps_asg (pe_ix (kIx K) (pe_ix (kIx K) (pv 0) (pv 2) (fun _ _ => rfl)) (pv 4) (fun _ _ => rfl)) (pg_tupK (n := 3) K rfl (pgs_cons (pg_name (i := 5) sc_law_woven.nd rfl (by first | exact Or.inl rfl | exact Or.inr rfl)) (pgs_cons (pg_name (i := 6) sc_law_woven.nd rfl (by first | exact Or.inl rfl | exact Or.inr rfl)) (pgs_cons (pg_name (i := 7) sc_law_woven.nd rfl (by first | exact Or.inl rfl | exact Or.inr rfl)) pgs_nil))))) (pss_cons (ps_expr (pe_bmK K PySem.F.plainAttrs_list PySem.F.slot_list_append PySem.F.type_list_append mt_append (pv 1) (pa_cons (pe_tup (pa_cons (pe_op subU (pv 6) (pv 5)) (pa_cons (pv 2) (pa_cons (pv 4) (pa_cons (pe_op subU (pv 5) (pv 3)) (pa_cons (pe_op subU (pv 6) (pv 3)) (pa_cons (pv 7) pa_nil))))))) pa_nil))) (pss_one (ps_set (i := 3) sc_law_woven.nd rfl (by first | exact Or.inl rfl | exact Or.inr rfl) (pv 6))))))))) (pss_cons (ps_par (i := 8) (j := 9) (by rfl) sc_law_woven.nd rfl rfl (by decide) rfl rfl (pa_cons (pe_lst pa_nil) (pa_cons pe_int pa_nil)) (by rfl)) (pss_cons (ps_for PassesOwn.never rfl (pi_listK K (pe_callB (kSortD K (hU hr)) (by rfl) BSo (by decide +kernel) (pa_cons (pv 1) pa_nil))) (pg_tupK (n := 6) K rfl (pgs_cons (pg_name (i := 10) sc_law_woven.nd rfl (by first | exact Or.inl rfl | exact Or.inr rfl)) (pgs_cons (pg_name (i := 2) sc_law_woven.nd rfl (by first | exact Or.inl rfl | exact Or.inr rfl)) (pgs_cons (pg_name (i := 4) sc_law_woven.nd rfl (by first | exact Or.inl rfl | exact Or.inr rfl)) (pgs_cons (pg_name (i := 5) sc_law_woven.nd rfl (by first | exact Or.inl rfl | exact Or.inr rfl)) (pgs_cons (pg_name (i := 6) sc_law_woven.nd rfl (by first | exact Or.inl rfl | exact Or.inr rfl)) (pgs_cons (pg_name (i := 7) sc_law_woven.nd rfl (by first | exact Or.inl rfl | exact Or.inr rfl)) pgs_nil))))))) (pss_cons (ps_expr (pe_bmK K PySem.F.plainAttrs_list PySem.F.slot_list_append PySem.F.type_list_append mt_append (pv 8) (pa_cons (pe_tup (pa_cons (pe_op (kAdd K) (pv 9) (pv 5)) (pa_cons (pe_op (kAdd K) (pv 9) (pv 6)) (pa_cons (pv 7) pa_nil)))) pa_nil))) (pss_one (ps_aug (i := 9) sc_law_woven.nd rfl (by first | exact Or.inl rfl | exact Or.inr rfl) (pv 6) ip_add)))) (pss_one (ps_ret (pv 8))))))), ?_⟩
  refine st0 [some (.ref a), none, none, none, none, none, none, none, none, none, none] rfl ?_
  walk_at "go"
  refine ⟨lk rfl, fun p hp => ?_⟩
  have hs0 := SqL.same hs (same_new hp (.lst []))
  walk_at "go"
  refine forR (fun i σ H' => ∃ (ws : List V) (o2 o3 o4 o5 o6 o7 : Option V), σ = [some (.ref a), some (.ref p), o2, o3, o4, o5, o6, o7, none, none, none] ∧ Same H H' ∧ H' p = some (.lst ws) ∧ Rps K H' ws ((prts 0 (rows.take i)).map Part.py))
    ⟨[], _, _, _, _, _, _, rfl, same_new hp _, upd_same, .nil⟩ ?_ ?_
  · rintro i σ H1 hi ⟨ws, o2, o3, o4, o5, o6, o7, rfl, s1, f1, f2⟩
    have hi' : i < xs.length := by omega
    obtain ⟨x, hx⟩ : ∃ x, xs[i]? = some x := ⟨_, List.getElem?_eq_getElem hi'⟩
    obtain ⟨es, ax, ys, he, rfl, sx0, sr0⟩ := hR.row hx
    have hs1 := SqL.same hs s1
    have sx := Ext.of_same (K := K) s1 _ _ sx0
    have sr := sr0.mono (Ext.of_same (K := K) s1) _ _
    have fl := flat_le rows he
    have ly := sr.lenE
    have lw0 := f2.length
    rw [List.length_map, prts_len] at lw0
    have fb := flat_by (rows.take i)
    have le1 : es.length ≤ 1000 := by omega
    walk_at "go"
    refine u_ixL hs1 (by rw [Int.zero_add]; exact atI_nat hx) ?_
    walk_at "go"
    refine forR (fun k σ H' => ∃ (us : List V) (o4 o5 o6 o7 : Option V), σ = [some (.ref a), some (.ref p), some (.int (0 + (i : Int))), some (.int (lstV 0 (es.take k))), o4, o5, o6, o7, none, none, none] ∧ Same H H' ∧ H' p = some (.lst us) ∧ Rps K H' us ((prts 0 (rows.take i) ++ prt i 0 (byI 0 (es.take k))).map Part.py))
      ⟨ws, _, _, _, _, rfl, s1, f1, by rw [List.take_zero]; simpa [byI, prt] using f2⟩ ?_ ?_
    · rintro k σ H2 hk ⟨us, o4, o5, o6, o7, rfl, s2, g1, g2⟩
      have hk' : k < ys.length := by omega
      obtain ⟨y, hy⟩ : ∃ y, ys[k]? = some y := ⟨_, List.getElem?_eq_getElem hk'⟩
      obtain ⟨e, he2, re⟩ := sr0.atE hy
      obtain ⟨ay, by_, zs, rfl, sy, sb, rs⟩ := (re.mono (Ext.of_same s2) _ _).ent
      have hs2 := SqL.same hs s2
      have sx2 := Ext.of_same (K := K) s2 _ _ sx0
      have lu := g2.length
      rw [List.length_map, List.length_append, prts_len] at lu
      have lp : (prt i 0 (byI 0 (es.take k))).length ≤ es.length := by
        have := congrArg List.length (prt_e i (byI 0 (es.take k)) 0)
        rw [List.length_map, byI_len, List.length_take] at this
        omega
      walk_at "go"
      refine u_ixL hs2 (by rw [Int.zero_add]; exact atI_nat hx) ?_
      walk_at "go"
      refine u_ixT sx2 (by rw [Int.zero_add]; exact atI_nat hy) ?_
      walk_at "go"
      refine ⟨lk rfl, fun pa hpa => ?_⟩
      have npa : p ≠ pa := ne_of_none g1 hpa
      have ey : [V.int (e.h - e.n), V.int (0 + (i : Int)), V.int (0 + (k : Int)), V.int (e.n - lstV 0 (es.take k)), V.int (e.h - lstV 0 (es.take k)), V.ref by_] = [V.int (e.h - lstV 0 (es.take k) - (e.n - lstV 0 (es.take k))), V.int (i : Int), V.int (k : Int), V.int (e.n - lstV 0 (es.take k)), V.int (e.h - lstV 0 (es.take k)), V.ref by_] := by
        rw [Int.zero_add, Int.zero_add, show e.h - lstV 0 (es.take k) - (e.n - lstV 0 (es.take k)) = e.h - e.n by omega]
      rw [ey]
      have fpa : (upd H2 pa (.tup [V.int (e.h - lstV 0 (es.take k) - (e.n - lstV 0 (es.take k))), V.int (i : Int), V.int (k : Int), V.int (e.n - lstV 0 (es.take k)), V.int (e.h - lstV 0 (es.take k)), V.ref by_])) p = some (.lst us) := by rw [upd_ne npa]; exact g1
      have xa : Ext K H2 (upd (upd H2 pa (.tup [V.int (e.h - lstV 0 (es.take k) - (e.n - lstV 0 (es.take k))), V.int (i : Int), V.int (k : Int), V.int (e.n - lstV 0 (es.take k)), V.int (e.h - lstV 0 (es.take k)), V.ref by_])) p (.lst (us ++ [.ref pa]))) := (Ext.new hpa).trans (Ext.set fpa trivial)
      walk_at "go"
      refine u_app fpa (ls (by omega)) ?_
      walk_at "go"
      refine ⟨us ++ [.ref pa], _, _, _, _, by rw [take_sn he2, lstV_snoc] <;> rfl, Same.upd_new (Same.new s2 hpa) hp, upd_same, ?_⟩
      rw [take_sn he2, byI_snoc, prt_snoc, ← List.append_assoc, List.map_append, show 0 + (byI 0 (es.take k)).length = k by rw [byI_len, List.length_take]; omega]
      refine (g2.mono xa _ _).append (.one (.tup (SqT.of (by rw [upd_ne npa.symm]; exact upd_same)) ?_))
      exact .cons (.int _) (.cons (.int _) (.cons (.int _) (.cons (.int _) (.cons (.int _) (.cons (.tup (xa _ _ sb) (rs.mono xa _ _)) .nil)))))
    · rintro σ H2 ⟨us, o4, o5, o6, o7, rfl, s2, g1, g2⟩
      rw [show (((ys.length : Nat) : Int)).toNat = es.length by omega, List.take_length] at g2
      walk_at "go"
      exact ⟨us, _, _, _, _, _, _, rfl, s2, g1, by rw [prts_take he]; exact g2⟩
  · rintro σ H1 ⟨ws, o2, o3, o4, o5, o6, o7, rfl, s1, f1, f2⟩
    rw [show ((xs.length : Nat) : Int).toNat = rows.length by omega, List.take_length] at f2
    have lw := f2.length
    have hpi := part_int hI
    walk_at "go"
    refine ⟨lk rfl, fun p8 hp8 => ?_⟩
    have np8 : p ≠ p8 := ne_of_none f1 hp8
    have f1' : (upd H1 p8 (.lst [])) p = some (.lst ws) := by rw [upd_ne np8]; exact f1
    have f2' := f2.mono (Ext.new (o := .lst []) hp8) _ _
    walk_at "go"
    refine ⟨p, ws, (prts 0 rows).map Part.py, rfl, SqL.of f1', Rps.dp _ _ f2', lw, ?_, .inl ?_, ?_, fun D hD => ?_⟩
    · intro d hd d' hd'
      obtain ⟨x, hx, rfl⟩ := List.mem_map.mp hd
      obtain ⟨y, hy, rfl⟩ := List.mem_map.mp hd'
      exact part_alike (hpi x hx) (hpi y hy)
    · intro d hd
      obtain ⟨x, hx, rfl⟩ := List.mem_map.mp hd
      exact ⟨_, _, rfl⟩
    · intro d hd
      obtain ⟨x, hx, rfl⟩ := List.mem_map.mp hd
      exact part_depth (hpi x hx)
    have nD8 : p8 ≠ D := ne_of_none upd_same hD
    have k1 := byData_rps (f2'.mono (Ext.new (o := .lst (HE.byData ws ((prts 0 rows).map Part.py))) hD) _ _)
    rw [prtS_py] at k1
    have s3 : Same H (upd (upd H1 p8 (.lst [])) D (.lst (HE.byData ws ((prts 0 rows).map Part.py)))) := Same.new (Same.new s1 hp8) hD
    generalize HE.byData ws ((prts 0 rows).map Part.py) = ys at *
    have gD : (upd (upd H1 p8 (.lst [])) D (.lst ys)) D = some (.lst ys) := upd_same
    have g8 : (upd (upd H1 p8 (.lst [])) D (.lst ys)) p8 = some (.lst []) := by rw [upd_ne nD8, upd_same]
    have np8' : H p8 = none := none_ofS s1 hp8
    generalize upd (upd H1 p8 (.lst [])) D (.lst ys) = H4 at *
    have es_ := prtS_e rows
    generalize prtS rows = ps at *
    have lps : ps.length = (rows.flatMap id).length := by
      have := congrArg List.length es_
      rwa [List.length_map, sortE_len, flat_by] at this
    have lyp := k1.length
    rw [List.length_map] at lyp
    have sD := SqL.of (K := K) gD
    walk_at "go"
    refine forL (fun j σ H' => ∃ (us : List V) (o2 o4 o5 o6 o7 o10 : Option V), σ = [some (.ref a), some (.ref p), o2, o3, o4, o5, o6, o7, some (.ref p8), some (.int (acc 0 ((ps.take j).map Part.e))), o10] ∧ Same H H' ∧ H' p8 = some (.lst us) ∧ H' D = some (.lst ys) ∧ Rps K H' ys (ps.map Part.py) ∧ Rps K H' us ((pileI 0 ((ps.take j).map Part.e)).map Ent.py))
      ⟨[], _, _, _, _, _, _, rfl, s3, g8, gD, k1, .nil⟩ (fun j σ H' _ ⟨_, _, _, _, _, _, _, _, _, _, z, _⟩ => SqL.of z) ?_ ?_
    · rintro j x σ H5 hx ⟨us, o2, o4, o5, o6, o7, o10, rfl, s5, h1, h2, h3, h4⟩
      obtain ⟨d, hd, rd⟩ := h3.getV hx
      rw [List.getElem?_map, Option.map_eq_some_iff] at hd
      obtain ⟨pt, hpt, rfl⟩ := hd
      obtain ⟨ay, by_, zs, rfl, sy, sb, rs⟩ := rd.part
      have lu := h4.lenE
      rw [pileI_len, List.length_map, List.length_take] at lu
      refine rd_gtup sy rfl ?_
      walk_at "go"
      refine ⟨lk rfl, fun pa hpa => ?_⟩
      have npa : p8 ≠ pa := ne_of_none h1 hpa
      have npD : D ≠ pa := ne_of_none h2 hpa
      have fpa : (upd H5 pa (.tup [.int (acc 0 ((ps.take j).map Part.e) + pt.e.n), .int (acc 0 ((ps.take j).map Part.e) + pt.e.h), .ref by_])) p8 = some (.lst us) := by rw [upd_ne npa]; exact h1
      have xa : Ext K H5 (upd (upd H5 pa (.tup [.int (acc 0 ((ps.take j).map Part.e) + pt.e.n), .int (acc 0 ((ps.take j).map Part.e) + pt.e.h), .ref by_])) p8 (.lst (us ++ [.ref pa]))) := (Ext.new hpa).trans (Ext.set fpa trivial)
      walk_at "go"
      refine u_app fpa (ls (by omega)) ?_
      walk_at "go"
      have et : (ps.take (j + 1)).map Part.e = (ps.take j).map Part.e ++ [pt.e] := by rw [List.take_add_one, hpt, List.map_append] <;> rfl
      refine ⟨us ++ [.ref pa], _, _, _, _, _, _, by rw [et, acc_snoc] <;> rfl, Same.upd_new (Same.new s5 hpa) np8', upd_same, by rw [upd_ne nD8.symm, upd_ne npD]; exact h2, h3.mono xa _ _, ?_⟩
      rw [et, pileI_snoc, List.map_append]
      refine (h4.mono xa _ _).append (.one (.tup (SqT.of (by rw [upd_ne npa.symm]; exact upd_same)) ?_))
      exact .cons (.int _) (.cons (.int _) (.cons (.tup (xa _ _ sb) (rs.mono xa _ _)) .nil))
    · rintro σ H5 ⟨us, o2, o4, o5, o6, o7, o10, rfl, s5, h1, h2, h3, h4⟩
      rw [lyp, List.take_length, es_] at h4
      walk_at "go"
      exact q _ _ _ s5 np8' h1 h4
end
end Mine

/-! ### I3 -/
namespace Mine
open PySem PySem.Spec L2
local macro_rules | `(tactic| walk_at "st") => `(tactic| first
  | ((with_reducible apply rd_var); exact rfl)
  | (with_reducible apply rd_c)
  | (with_reducible apply rd_seq)
  | (with_reducible apply rd_asg)
  | (with_reducible apply rd_gname)
  | (with_reducible apply rd_op)
  | (with_reducible apply rd_cb)
  | (with_reducible apply rd_cons)
  | (with_reducible apply rd_nil)
  | (with_reducible apply rd_if)
  | (with_reducible apply rd_test)
  | (with_reducible apply rd_bl)
  | (with_reducible apply rd_retE)
  | (with_reducible apply rd_ret)
  | (with_reducible apply rd_call)
  | (with_reducible apply rd_tup)
  | (with_reducible apply rd_lst)
  | (with_reducible apply rd_drop)
  | (with_reducible apply rd_next)
  | (with_reducible apply rd_ife)
  | (with_reducible apply rd_gsub)
  | (with_reducible apply rd_par)
  | (with_reducible apply rd_par_end)
  | (with_reducible apply rd_un)
  | (with_reducible apply rd_and)
  | (with_reducible apply rd_or)
  | (with_reducible apply rd_not)
  | (with_reducible apply rd_andV)
  | (with_reducible apply rd_orV)
  | (with_reducible apply rd_notV)
  | (with_reducible apply rd_chain)
  | (with_reducible apply rd_tB)
  | (with_reducible apply rd_brk)
  | (with_reducible apply rd_ct)
  | (with_reducible apply u_add)
  | (with_reducible apply u_sub)
  | (with_reducible apply u_lt)
  | (with_reducible apply u_le)
  | (with_reducible apply u_gt)
  | (with_reducible apply u_ge)
  | (with_reducible apply u_eqI)
  | (with_reducible apply u_eqS)
  | (with_reducible apply u_neI)
  | (with_reducible apply u_int)
  | (with_reducible apply u_intB)
  | (with_reducible apply u_max)
  | (with_reducible apply u_min)
  | (with_reducible apply u_neg)
  | ((with_reducible apply u_mod); focus first | assumption | decide | omega)
  | ((with_reducible apply u_div); focus first | decide | omega | (constructor <;> first | assumption | omega))
  | ((with_reducible apply u_mul); focus first | exact Or.inl (by omega) | exact Or.inr (by omega) | exact Or.inl (by decide) | exact Or.inr (by decide))
  | ((with_reducible apply u_ixL); (focus (first | assumption | exact SqL.of (by assumption) | exact SqL.of upd_same)); exact rfl)
  | ((with_reducible apply u_lenL); focus (first | assumption | exact SqL.of (by assumption) | exact SqL.of upd_same))
  | ((with_reducible apply u_lenT); focus (first | assumption | exact SqT.of (by assumption) | exact SqT.of upd_same))
  | ((with_reducible apply u_setL); (focus (first | assumption | exact upd_same)); exact rfl)
  | (with_reducible apply rd_chain3)
  | (with_reducible apply rd_tru)
  | (with_reducible apply rd_truB)
  | ((with_reducible apply rd_truL); focus (first | assumption | exact SqL.of (by assumption) | exact SqL.of upd_same))
  | (with_reducible apply rd_bm)
  | (with_reducible apply rd_bm0)
  | ((with_reducible apply rd_tyL); focus (first | exact SqL.of (by assumption) | exact SqL.of upd_same))
  | (with_reducible apply u_min3)
  | (with_reducible apply rd_rev)
  | (with_reducible apply rd_iList)
  | (with_reducible apply rd_iTup)
  | (with_reducible apply rd_for)
  | (with_reducible apply rd_rng1)
  | (with_reducible apply rd_rng2)
  | ((with_reducible apply rd_rng1e); (focus omega); (focus omega))
  | ((with_reducible apply rd_rng2e); (focus omega))
  | (with_reducible apply rd_gcons)
  | (with_reducible apply rd_gnil)
  | (with_reducible apply rd_retN)
  | (with_reducible apply g_eqI)
  | (with_reducible apply g_eqS)
  | (with_reducible apply g_neI)
  | (with_reducible apply g_neS)
  | (with_reducible apply g_neB)
  | (with_reducible apply rd_xf)
  | (with_reducible apply rd_raiseE)
  | (with_reducible apply rd_callS)
  | (with_reducible apply u_inD)
  | (with_reducible apply u_notInD)
  | (with_reducible apply u_inS)
  | (with_reducible apply u_notInS)
  | (with_reducible apply rd_iSeq)
  | ((with_reducible apply rd_seqL); (focus first | assumption | exact SqL.of (by assumption) | exact SqL.of upd_same))
  | ((with_reducible apply rd_seqT); (focus first | assumption | exact SqT.of (by assumption) | exact SqT.of upd_same))
  | (with_reducible apply rd_istr)
  | (with_reducible apply rd_istrE)
  | ((with_reducible apply u_isi); (focus (first | exact Or.inl rfl | exact Or.inr (Or.inl rfl) | exact Or.inr (Or.inr (Or.inl rfl)) | exact Or.inr (Or.inr (Or.inr rfl)))); (focus first | assumption | exact Rp.int _ | exact Rp.str _))
  | ((with_reducible apply rd_itL); (focus first | assumption | exact SqL.of (by assumption) | exact SqL.of upd_same))
  | ((with_reducible apply rd_itT); (focus first | assumption | exact SqT.of (by assumption) | exact SqT.of upd_same))
  | (with_reducible apply rd_lc)
  | (with_reducible apply rd_yes)
  | ((with_reducible apply u_pow); (focus (exact ⟨by decide, by decide, by decide⟩)))
  | (with_reducible apply u_mul; focus exact Or.inr cm)
  | (with_reducible apply rd_par3)
  | (with_reducible apply rd_par3_end)
  | ((with_reducible apply rd_aug); exact rfl)
  | (with_reducible apply rd_ipI)
  | (with_reducible apply rd_enA)
  | (with_reducible apply rd_revR)
  | (with_reducible apply rd_rg1)
  | (with_reducible apply rd_rng3)
  | ((with_reducible apply u_enT); (focus first | assumption | exact SqT.of (by assumption) | exact SqT.of upd_same))
  | ((with_reducible apply u_enL); (focus first | assumption | exact SqL.of (by assumption) | exact SqL.of upd_same))
  | (with_reducible apply rd_zip)
  | (with_reducible apply rd_lc2)
  | ((with_reducible apply rd_gtup); (focus first | assumption | exact SqT.of (by assumption) | exact SqT.of upd_same); (focus rfl))
  | (with_reducible apply rd_dnew)
  | (with_reducible apply rd_din)
  | (with_reducible apply rd_dget)
  | (with_reducible apply rd_dput)
  | (with_reducible apply rd_disp1)
  | (with_reducible apply rd_sl)
  | (with_reducible apply rd_part)
  | (with_reducible apply rd_partI)
  | (with_reducible apply rd_nopart)
  | (with_reducible apply u_isB)
  | (with_reducible apply u_repB)
  | (with_reducible apply u_notB)
  | (with_reducible apply rd_dc)
  | (with_reducible apply rd_bmT)
  | (with_reducible apply rd_tupF)
  | ((with_reducible apply rd_tyF); (focus assumption))
  | (with_reducible apply iteT)
  | (with_reducible apply iteF))
local macro_rules | `(tactic| walk_at "go") => `(tactic| repeat (walk_at "st"))
local macro_rules | `(tactic| walk_at "sp") => `(tactic| (first | refine rd_split (fun c => ?_) (fun c => ?_) | refine rd_splitN (fun c => ?_) (fun c => ?_) | refine rd_splitB (fun c => ?_) (fun c => ?_)))
local macro_rules | `(tactic| walk_at "nx") => `(tactic| repeat (first | (with_reducible apply iteF) | (with_reducible apply iteT) | (with_reducible apply rd_next)))

section
variable {P : Program} {w : World} {K : PySem.W.Frag} {mg : Str → Option Value} {base : Heap}
theorem shareH {P G : Hp → Prop} {T : Prop} (main : ∀ H, P H → G H) (h : (∀ H, P H → G H) → T) : T := h main
theorem seq_on {K : PySem.W.Frag} {H H2 H3 : Hp} {a p : Addr} {xs : List V} (h : SqL K H a xs) (s : Same H H2) (hp : H p = none) (t : SB p H2 H3) : SqL K H3 a xs := by
  rcases h with (h | ⟨o, h⟩) | h
  · exact .inl (.inl (t _ _ (ne_of_none h hp) (s _ _ h)))
  · exact .inl (.inr ⟨o, t _ _ (ne_of_none h hp) (s _ _ h)⟩)
  · exact .inr h
theorem tabs_sb {T : List (Addr × Str)} {H H' : Hp} {a : Addr} (t : LamX.Tabs T H) (h : Src H a) (s : SB a H H') : LamX.Tabs T H' := fun p hp => by
  obtain ⟨ps, h1, h2, h3⟩ := t p hp
  obtain ⟨b, c, hs, _⟩ := h
  refine ⟨ps, s _ _ (fun e => by rw [e, hs] at h1; cases h1) h1, h2, fun pos cv hc => ?_⟩
  obtain ⟨d, e1, e2⟩ := h3 pos cv hc
  refine ⟨d, e1, s _ _ (fun e => ?_) e2⟩
  rw [e, hs] at e2
  unfold LamX.CodeO at e2
  cases e2
structure RowOk (es : List Ent) : Prop where
  f : FallS es
  i : ∀ e ∈ es, intS e
  l : es.length ≤ 400
theorem pileI_s : ∀ (l : List Ent) (b : Int) (e : Ent), e ∈ pileI b l → ∃ f ∈ l, e.s = f.s
  | x :: r, b, e, h => by
    rcases List.mem_cons.mp h with rfl | h
    · exact ⟨x, List.mem_cons_self, rfl⟩
    · obtain ⟨f, hf, ef⟩ := pileI_s r _ e h
      exact ⟨f, List.mem_cons_of_mem _ hf, ef⟩
theorem weave_s {rows : List (List Ent)} (h : intR rows) : ∀ e ∈ weaveE rows, intS e := by
  intro e he
  obtain ⟨f, hf, ef⟩ := pileI_s _ _ _ he
  have hf := List.mem_mergeSort.mp hf
  obtain ⟨es, h1, h2⟩ := List.mem_flatMap.mp hf
  obtain ⟨g, hg, eg⟩ := byI_s _ _ _ h2
  obtain ⟨l, hl, hk⟩ := h es h1 g hg
  exact ⟨l, (ef.trans eg).trans hl, hk⟩
theorem weave_len (rows : List (List Ent)) : (weaveE rows).length = (rows.flatMap id).length := by unfold weaveE; rw [pileI_len, sortE_len, flat_by]
theorem ints_dats : ∀ l : List Int, dats (l.map PyData.int)
  | [] => trivial
  | _ :: l => ⟨trivial, ints_dats l⟩
theorem ent_dat {e : Ent} (h : intS e) : dat e.py ∧ e.py.depth ≤ 2 := by
  obtain ⟨l, hl, hk⟩ := h
  unfold Ent.py
  rw [hl]
  refine ⟨⟨by simp, trivial, trivial, ⟨by rw [List.length_map]; exact hk, ints_dats l⟩, trivial⟩, ?_⟩
  simp [PyData.depth, PyData.depthAll, PySem.W.depth_ints]
theorem ents_dats : ∀ {es : List Ent}, (∀ e ∈ es, intS e) → dats (es.map Ent.py) ∧ PyData.depthAll (es.map Ent.py) ≤ 2
  | [], _ => ⟨trivial, by simp [PyData.depthAll]⟩
  | e :: es, h => by
    obtain ⟨a, b⟩ := ent_dat (h e List.mem_cons_self)
    obtain ⟨c, d⟩ := ents_dats (es := es) fun x hx => h x (List.mem_cons_of_mem _ hx)
    refine ⟨⟨a, c⟩, ?_⟩
    show PyData.depthAll (e.py :: es.map Ent.py) ≤ 2
    simp only [PyData.depthAll]
    omega
theorem ne_rows {K : PySem.W.Frag} {H : Hp} {x y : V} {es : List Ent} {Q : VK} (h1 : Rp K H x (rowPy es)) (h2 : Rp K H y (rowPy es)) (hi : ∀ e ∈ es, intS e) (hl : es.length ≤ 1000) (h : Q (.bl false) H) : rNeG K x y H Q := by
  obtain ⟨a, b⟩ := ents_dats hi
  have hD : dat (rowPy es) := by
    show dat (.tuple (es.map Ent.py))
    simp only [dat, List.length_map]
    exact ⟨hl, a⟩
  refine g_neD (Rp.dp _ _ h1) (Rp.dp _ _ h2) (dat_lay _ hD) (dat_lay _ hD) (Nat.le_trans (Nat.min_le_left _ _) ?_) ?_
  · unfold rowPy
    simp only [PyData.depth]
    omega
  · rw [eqv_same _ hD]
    exact h
theorem use_wv {TT : List (Addr × Str)} {K : PySem.W.Frag} {a : Addr} {xs : List V} {rows : List (List Ent)} {H : Hp} {Q : VK} {E : XK} (hT : LamX.Tabs TT H) (hs : SqT K H a xs) (hR : Rps K H xs (rows.map rowPy)) (hl : rows.length ≤ 1000) (hf : (rows.flatMap id).length ≤ 1000)
    (q : ∀ (H' : Hp) (v : Addr), LamX.ExtN H H' → LamX.Tabs TT H' → Rp K H' (.ref v) (rowPy (weaveE rows)) → Q (.ref v) H') : spWv TT K [.ref a] H Q E :=
  ⟨hT, a, xs, rows, rfl, hs, hR, hl, hf, fun H' v ws e t s r => q H' v e t (.tup s r)⟩
theorem use_wo {K : PySem.W.Frag} {a : Addr} {xs : List V} {rows : List (List Ent)} {H : Hp} {Q : VK} {E : XK} (hs : SqL K H a xs) (hR : Rps K H xs (rows.map rowPy)) (hl : rows.length ≤ 1000) (hf : (rows.flatMap id).length ≤ 1000) (hI : intR rows)
    (q : ∀ (H' : Hp) (p : Addr) (ws : List V), Same H H' → H' p = some (.lst ws) → Rps K H' ws ((weaveE rows).map Ent.py) → Q (.ref p) H') : spWo K [.ref a] H Q E :=
  ⟨a, xs, rows, rfl, hs, hR, hl, hf, hI, fun H' p ws e _ f r => q H' p ws e f r⟩
theorem flat_card {n : Nat} : ∀ {rows : List (List Ent)}, (∀ es ∈ rows, es.length ≤ n) → (rows.flatMap id).length ≤ rows.length * n
  | [], _ => by simp
  | r :: rows, h => by
    have := flat_card (rows := rows) fun x hx => h x (List.mem_cons_of_mem _ hx)
    have := h r List.mem_cons_self
    rw [List.flatMap_cons, List.length_append, List.length_cons, Nat.succ_mul]
    show r.length + _ ≤ _
    omega
theorem seg_ok {es : List Ent} {bs : List Bk} (hG : Good bs) (hf : fl bs = es) (hE : ∀ e ∈ es, EntOk e) (hl : es.length ≤ 40) : (∀ e ∈ bs.map seg, intS e) ∧ FallS (bs.map seg) ∧ (bs.map seg).length ≤ 40 ∧ ((fl bs).flatMap Ent.s).length ≤ 80 := by
  have cnt : ∀ l : List Ent, (∀ e ∈ l, EntOk e) → (l.flatMap Ent.s).length ≤ 2 * l.length := by
    intro l
    induction l with
    | nil => intro _; simp
    | cons x r ih =>
      intro h
      have h1 := (h x List.mem_cons_self).s
      have h2 := ih fun y hy => h y (List.mem_cons_of_mem _ hy)
      rw [List.flatMap_cons, List.length_append, List.length_cons]
      omega
  have int : ∀ l : List Ent, (∀ e ∈ l, EntOk e) → ∃ m : List Int, l.flatMap Ent.s = m.map PyData.int := by
    intro l
    induction l with
    | nil => intro _; exact ⟨[], rfl⟩
    | cons x r ih =>
      intro h
      obtain ⟨m1, h1⟩ := (h x List.mem_cons_self).i
      obtain ⟨m2, h2⟩ := ih fun y hy => h y (List.mem_cons_of_mem _ hy)
      exact ⟨m1 ++ m2, by rw [List.flatMap_cons, h1, h2, List.map_append]⟩
  refine ⟨fun e he => ?_, good_fall hG, ?_, ?_⟩
  · obtain ⟨b, hb, rfl⟩ := List.mem_map.mp he
    have sub : ∀ e ∈ b.es, e ∈ fl bs := fun e he => List.mem_flatMap.mpr ⟨b, hb, he⟩
    have hB : ∀ e ∈ b.es, EntOk e := fun e he => hE e (hf ▸ sub e he)
    obtain ⟨m, hm⟩ := int b.es hB
    have lb : b.es.length ≤ (fl bs).length := by
      obtain ⟨i, hi⟩ := List.getElem?_of_mem hb
      have e1 : fl bs = fl (bs.take i) ++ fl (bs.drop i) := by rw [← fl_append, List.take_append_drop]
      have hi' : i < bs.length := (List.getElem?_eq_some_iff.mp hi).1
      have e2 : bs.drop i = b :: bs.drop (i + 1) := by
        rw [List.drop_eq_getElem_cons hi']
        rw [List.getElem?_eq_getElem hi', Option.some.injEq] at hi
        rw [hi]
      rw [e1, e2, fl_cons, List.length_append, List.length_append]
      omega
    refine ⟨m, hm, ?_⟩
    have c := cnt b.es hB
    rw [hm, List.length_map] at c
    rw [hf] at lb
    omega
  · rw [List.length_map]
    have := hG.card
    rw [hf] at this
    omega
  · have := cnt (fl bs) (hf ▸ hE)
    rw [hf] at *
    omega
end
section
variable {P : Program} {w : World} {K : PySem.W.Frag} {mg : Str → Option Value} {base : Heap}
end
end Mine

/-! ### I4 -/
namespace Mine
open PySem PySem.Spec L2
local macro_rules | `(tactic| walk_at "st") => `(tactic| first
  | ((with_reducible apply rd_var); exact rfl)
  | (with_reducible apply rd_c)
  | (with_reducible apply rd_seq)
  | (with_reducible apply rd_asg)
  | (with_reducible apply rd_gname)
  | (with_reducible apply rd_op)
  | (with_reducible apply rd_cb)
  | (with_reducible apply rd_cons)
  | (with_reducible apply rd_nil)
  | (with_reducible apply rd_if)
  | (with_reducible apply rd_test)
  | (with_reducible apply rd_bl)
  | (with_reducible apply rd_retE)
  | (with_reducible apply rd_ret)
  | (with_reducible apply rd_call)
  | (with_reducible apply rd_tup)
  | (with_reducible apply rd_lst)
  | (with_reducible apply rd_drop)
  | (with_reducible apply rd_next)
  | (with_reducible apply rd_ife)
  | (with_reducible apply rd_gsub)
  | (with_reducible apply rd_par)
  | (with_reducible apply rd_par_end)
  | (with_reducible apply rd_un)
  | (with_reducible apply rd_and)
  | (with_reducible apply rd_or)
  | (with_reducible apply rd_not)
  | (with_reducible apply rd_andV)
  | (with_reducible apply rd_orV)
  | (with_reducible apply rd_notV)
  | (with_reducible apply rd_chain)
  | (with_reducible apply rd_tB)
  | (with_reducible apply rd_brk)
  | (with_reducible apply rd_ct)
  | (with_reducible apply u_add)
  | (with_reducible apply u_sub)
  | (with_reducible apply u_lt)
  | (with_reducible apply u_le)
  | (with_reducible apply u_gt)
  | (with_reducible apply u_ge)
  | (with_reducible apply u_eqI)
  | (with_reducible apply u_eqS)
  | (with_reducible apply u_neI)
  | (with_reducible apply u_int)
  | (with_reducible apply u_intB)
  | (with_reducible apply u_max)
  | (with_reducible apply u_min)
  | (with_reducible apply u_neg)
  | ((with_reducible apply u_mod); focus first | assumption | decide | omega)
  | ((with_reducible apply u_div); focus first | decide | omega | (constructor <;> first | assumption | omega))
  | ((with_reducible apply u_mul); focus first | exact Or.inl (by omega) | exact Or.inr (by omega) | exact Or.inl (by decide) | exact Or.inr (by decide))
  | ((with_reducible apply u_ixL); (focus (first | assumption | exact SqL.of (by assumption) | exact SqL.of upd_same)); exact rfl)
  | ((with_reducible apply u_lenL); focus (first | assumption | exact SqL.of (by assumption) | exact SqL.of upd_same))
  | ((with_reducible apply u_lenT); focus (first | assumption | exact SqT.of (by assumption) | exact SqT.of upd_same))
  | ((with_reducible apply u_setL); (focus (first | assumption | exact upd_same)); exact rfl)
  | (with_reducible apply rd_chain3)
  | (with_reducible apply rd_tru)
  | (with_reducible apply rd_truB)
  | ((with_reducible apply rd_truL); focus (first | assumption | exact SqL.of (by assumption) | exact SqL.of upd_same))
  | (with_reducible apply rd_bm)
  | (with_reducible apply rd_bm0)
  | ((with_reducible apply rd_tyL); focus (first | exact SqL.of (by assumption) | exact SqL.of upd_same))
  | (with_reducible apply u_min3)
  | (with_reducible apply rd_rev)
  | (with_reducible apply rd_iList)
  | (with_reducible apply rd_iTup)
  | (with_reducible apply rd_for)
  | (with_reducible apply rd_rng1)
  | (with_reducible apply rd_rng2)
  | ((with_reducible apply rd_rng1e); (focus omega); (focus omega))
  | ((with_reducible apply rd_rng2e); (focus omega))
  | (with_reducible apply rd_gcons)
  | (with_reducible apply rd_gnil)
  | (with_reducible apply rd_retN)
  | (with_reducible apply g_eqI)
  | (with_reducible apply g_eqS)
  | (with_reducible apply g_neI)
  | (with_reducible apply g_neS)
  | (with_reducible apply g_neB)
  | (with_reducible apply rd_xf)
  | (with_reducible apply rd_raiseE)
  | (with_reducible apply rd_callS)
  | (with_reducible apply u_inD)
  | (with_reducible apply u_notInD)
  | (with_reducible apply u_inS)
  | (with_reducible apply u_notInS)
  | (with_reducible apply rd_iSeq)
  | ((with_reducible apply rd_seqL); (focus first | assumption | exact SqL.of (by assumption) | exact SqL.of upd_same))
  | ((with_reducible apply rd_seqT); (focus first | assumption | exact SqT.of (by assumption) | exact SqT.of upd_same))
  | (with_reducible apply rd_istr)
  | (with_reducible apply rd_istrE)
  | ((with_reducible apply u_isi); (focus (first | exact Or.inl rfl | exact Or.inr (Or.inl rfl) | exact Or.inr (Or.inr (Or.inl rfl)) | exact Or.inr (Or.inr (Or.inr rfl)))); (focus first | assumption | exact Rp.int _ | exact Rp.str _))
  | ((with_reducible apply rd_itL); (focus first | assumption | exact SqL.of (by assumption) | exact SqL.of upd_same))
  | ((with_reducible apply rd_itT); (focus first | assumption | exact SqT.of (by assumption) | exact SqT.of upd_same))
  | (with_reducible apply rd_lc)
  | (with_reducible apply rd_yes)
  | ((with_reducible apply u_pow); (focus (exact ⟨by decide, by decide, by decide⟩)))
  | (with_reducible apply u_mul; focus exact Or.inr cm)
  | (with_reducible apply rd_par3)
  | (with_reducible apply rd_par3_end)
  | ((with_reducible apply rd_aug); exact rfl)
  | (with_reducible apply rd_ipI)
  | (with_reducible apply rd_enA)
  | (with_reducible apply rd_revR)
  | (with_reducible apply rd_rg1)
  | (with_reducible apply rd_rng3)
  | ((with_reducible apply u_enT); (focus first | assumption | exact SqT.of (by assumption) | exact SqT.of upd_same))
  | ((with_reducible apply u_enL); (focus first | assumption | exact SqL.of (by assumption) | exact SqL.of upd_same))
  | (with_reducible apply rd_zip)
  | (with_reducible apply rd_lc2)
  | ((with_reducible apply rd_gtup); (focus first | assumption | exact SqT.of (by assumption) | exact SqT.of upd_same); (focus rfl))
  | (with_reducible apply rd_dnew)
  | (with_reducible apply rd_din)
  | (with_reducible apply rd_dget)
  | (with_reducible apply rd_dput)
  | (with_reducible apply rd_disp1)
  | (with_reducible apply rd_sl)
  | (with_reducible apply rd_part)
  | (with_reducible apply rd_partI)
  | (with_reducible apply rd_nopart)
  | (with_reducible apply u_isB)
  | (with_reducible apply u_repB)
  | (with_reducible apply u_notB)
  | (with_reducible apply rd_dc)
  | (with_reducible apply rd_bmT)
  | (with_reducible apply rd_tupF)
  | ((with_reducible apply rd_tyF); (focus assumption))
  | (with_reducible apply iteT)
  | (with_reducible apply iteF))
local macro_rules | `(tactic| walk_at "go") => `(tactic| repeat (walk_at "st"))
local macro_rules | `(tactic| walk_at "sp") => `(tactic| (first | refine rd_split (fun c => ?_) (fun c => ?_) | refine rd_splitN (fun c => ?_) (fun c => ?_) | refine rd_splitB (fun c => ?_) (fun c => ?_)))
local macro_rules | `(tactic| walk_at "nx") => `(tactic| repeat (first | (with_reducible apply iteF) | (with_reducible apply iteT) | (with_reducible apply rd_next)))

section
variable {P : Program} {w : World} {K : PySem.W.Frag} {mg : Str → Option Value} {base : Heap}
/-- what is known behind the draws of a turn -/
def Rw (TT : List (Addr × Str)) (K : PySem.W.Frag) (a D : Addr) (ns : List Int) (H : Hp) : Prop := SqL K H a (ns.map V.int) ∧ LamX.Tabs TT H ∧ ∃ (ws : List V) (rows : List (List Ent)), H D = some (.lst ws) ∧ Rps K H ws (rows.map rowPy) ∧ (∀ es ∈ rows, RowOk es ∧ es.length ≤ 40) ∧ rows.length ≤ 6
def spLaw (TT : List (Addr × Str)) (K : PySem.W.Frag) : Sp := fun vs H Q _ => LamX.Tabs TT H ∧ ∃ (a : Addr) (ns : List Int), vs = [.ref a] ∧ SqL K H a (ns.map V.int) ∧ ns.length ≤ 63 ∧ ∀ H', Q (.bl true) H'
/-- what stays known to the end of a turn -/
structure Kn (TT : List (Addr × Str)) (K : PySem.W.Frag) (a D pt : Addr) (ns : List Int) (ws : List V) (rows : List (List Ent)) (due : List Ent) (H : Hp) : Prop where
  l : SqL K H a (ns.map V.int)
  t : LamX.Tabs TT H
  f : H D = some (.lst ws)
  r : Rps K H ws (rows.map rowPy)
  d : Rp K H (.ref pt) (rowPy due)
theorem Kn.mono {TT : List (Addr × Str)} {K : PySem.W.Frag} {a D pt : Addr} {ns : List Int} {ws : List V} {rows : List (List Ent)} {due : List Ent} {H H' : Hp} (k : Kn TT K a D pt ns ws rows due H) (e : LamX.ExtN H H') (t : LamX.Tabs TT H') : Kn TT K a D pt ns ws rows due H' :=
  ⟨HE.ExtN.sqL e k.l, t, e _ _ k.f (fun _ z => by cases z), k.r.mono (Ext.ofN e) _ _, k.d.mono (Ext.ofN e) _ _⟩
theorem Kn.same {TT : List (Addr × Str)} {K : PySem.W.Frag} {a D pt : Addr} {ns : List Int} {ws : List V} {rows : List (List Ent)} {due : List Ent} {H H' : Hp} (k : Kn TT K a D pt ns ws rows due H) (e : Same H H') : Kn TT K a D pt ns ws rows due H' := k.mono (.of e) (tabs_same k.t e)
theorem nil_row {K : PySem.W.Frag} {H : Hp} {p : Addr} (h : H p = some (.tup [])) : Rp K H (.ref p) (rowPy []) := .tup (SqT.of h) .nil
theorem Rps.at0 {K : PySem.W.Frag} {H : Hp} {xs : List V} {rows : List (List Ent)} {i : Nat} {x : V} (r : Rps K H xs (rows.map rowPy)) (h : xs[i]? = some x) : ∃ es, rows[i]? = some es ∧ Rp K H x (rowPy es) := by
  obtain ⟨d, hd, rd⟩ := r.getV h
  rw [List.getElem?_map, Option.map_eq_some_iff] at hd
  obtain ⟨es, he, rfl⟩ := hd
  exact ⟨es, he, rd⟩
abbrev s_law : Stmt := top 11
theorem sc_law : FnScope ["script", "turn", "source", "rows", "k", "due", "row"] ["script"] (defScope s_law) := ⟨rfl, rfl, rfl, by decide +kernel, rfl, by decide +kernel, by decide +kernel⟩
theorem ok_law {f : Addr} {fd : FuncData} {TT : List (Addr × Str)} (F : Fun K "law" "law" s_law f fd) (B : Bl mg) (h_law_pool : HasF P w K mg base CX0 1 "_law_pool" ["script", "k"] (spPool K)) (h_law_take : HasF P w K mg base CX0 1 "_law_take" ["source", "top"] spTake) (h_law_one : HasF P w K mg base CX0 2 "_law_one" ["source", "things"] (spOne K)) (h_law_run : HasF P w K mg base CX0 3 "_law_run" ["source", "most"] (spRn K)) (h_law_hills : HasF P w K mg base CX0 1 "_law_hills" ["walk"] (spLh K)) (h_law_woven : HasF P w K mg base CX0 1 "_law_woven" ["rows"] (spWo K)) (h_weave : HasF P w K mg base CX0 2 "weave" ["rows"] (spWv TT K)) : FnOk P w K mg base CX0 7 f fd ["script"] (spLaw TT K) := by
  refine F.ok sc_law (fun vs H Q E h => ?_) (fun cdv A outer s_ H vs Q E hr h => ?_)
  · obtain ⟨_, a, ns, rfl, _⟩ := h
    rfl
  obtain ⟨hT, a, ns, rfl, hL, h63, q⟩ := h
  refine ⟨_, (pss_cons (ps_for PassesOwn.never rfl (pi_range1 (by rfl) B.range (pa_cons pe_int pa_nil)) (pg_name (i := 1) sc_law.nd rfl (by first | exact Or.inl rfl | exact Or.inr rfl)) (pss_cons (ps_set (i := 2) sc_law.nd rfl (by first | exact Or.inl rfl | exact Or.inr rfl) (pe_callH h_law_pool (hr.mono (by first | decide | omega)) (by rfl) pass0 (pa_cons (pv 0) (pa_cons (pv 1) pa_nil)))) (pss_cons (ps_setLc (i := 3) (own := [("k", 4)]) (g := gName 4) (tt := tYes) rfl sc_law.nd rfl rfl (sw_true rfl rfl rfl (by decide +kernel)) (pi_range1 (by rfl) B.range (pa_cons (pe_callH h_law_take (hr.mono (by first | decide | omega)) (by rfl) pass0 (pa_cons (pv 2) (pa_cons pe_int pa_nil))) pa_nil)) (blkOk_by (own := [("k", 4)]) (N := ["script", "turn", "source", "rows", "k", "due", "row"]) (sc := defScope s_law) (by decide +kernel)) (fun _ _ _ _ _ => (pg_name (i := 4) sc_law.nd rfl (by first | exact Or.inl rfl | exact Or.inr rfl))) (fun _ _ _ _ _ => pts_nil) (fun _ _ _ _ _ => (pe_callTy (kTup K) (by rfl) B.tuple (by decide +kernel) (pa_cons (pe_callH h_law_hills (hr.mono (by first | decide | omega)) (by rfl) pass0 (pa_cons (pe_callH h_law_run (hr.mono (by first | decide | omega)) (by rfl) pass0 (pa_cons (pv 2) (pa_cons pe_int pa_nil))) pa_nil)) pa_nil)))) (pss_cons (ps_if (PW.pt (pw_and (pt_truthK K (pv 3) (by intro _; rfl)) (pw_and1 (pt_cmpR (kEqG K (hU hr)) (pe_callH h_law_take (hr.mono (by first | decide | omega)) (by rfl) pass0 (pa_cons (pv 2) (pa_cons pe_int pa_nil))) pe_int (nomark _))))) (pss_one (ps_expr (pe_bmK K PySem.F.plainAttrs_list PySem.F.slot_list_append PySem.F.type_list_append mt_append (pv 3) (pa_cons (pe_callH h_law_one (hr.mono (by first | decide | omega)) (by rfl) pass0 (pa_cons (pv 2) (pa_cons (pv 3) pa_nil))) pa_nil)))) pss_nil) (pss_cons (ps_set (i := 5) sc_law.nd rfl (by first | exact Or.inl rfl | exact Or.inr rfl) (pe_callTy (kTup K) (by rfl) B.tuple (by decide +kernel) (pa_cons (pe_callH h_law_woven (hr.mono (by first | decide | omega)) (by rfl) pass0 (pa_cons (pv 3) pa_nil)) pa_nil))) (pss_cons (ps_if (PW.pt (pw_or (pt_cmpR (kNeG K (hU hr)) (pe_callH h_weave (hr.mono (by first | decide | omega)) (by rfl) pass0 (pa_cons (pe_callTy (kTup K) (by rfl) B.tuple (by decide +kernel) (pa_cons (pv 3) pa_nil)) pa_nil)) (pv 5) (nomark _)) (pw_or (pt_cmpR (kNeG K (hU hr)) (pe_callH h_weave (hr.mono (by first | decide | omega)) (by rfl) pass0 (pa_cons (pe_tup pa_nil) pa_nil)) (pe_tup pa_nil) (nomark _)) (pw_or1 (pt_cmpR (kNeG K (hU hr)) (pe_callH h_weave (hr.mono (by first | decide | omega)) (by rfl) pass0 (pa_cons (pe_tup (pa_cons (pe_tup pa_nil) (pa_cons (pe_tup pa_nil) pa_nil))) pa_nil)) (pe_tup pa_nil) (nomark _)))))) (pss_one (ps_ret pe_bl)) pss_nil) (pss_cons (ps_for PassesOwn.never rfl (pi_listK K (pv 3)) (pg_name (i := 6) sc_law.nd rfl (by first | exact Or.inl rfl | exact Or.inr rfl)) (pss_one (ps_if (PW.pt (pw_or (pt_cmpR (kNeG K (hU hr)) (pe_callH h_weave (hr.mono (by first | decide | omega)) (by rfl) pass0 (pa_cons (pe_tup (pa_cons (pv 6) pa_nil)) pa_nil)) (pv 6) (nomark _)) (pw_or1 (pt_cmpR (kNeG K (hU hr)) (pe_callH h_weave (hr.mono (by first | decide | omega)) (by rfl) pass0 (pa_cons (pe_tup (pa_cons (pe_tup pa_nil) (pa_cons (pv 6) (pa_cons (pe_tup pa_nil) pa_nil)))) pa_nil)) (pv 6) (nomark _))))) (pss_one (ps_ret pe_bl)) pss_nil))) (pss_cons (ps_if (PW.pt (pw_or (pt_cmpR (kNeG K (hU hr)) (pe_callH h_weave (hr.mono (by first | decide | omega)) (by rfl) pass0 (pa_cons (pe_tup (pa_cons (pv 5) pa_nil)) pa_nil)) (pv 5) (nomark _)) (pw_or1 (pt_cmpR (kNeG K (hU hr)) (pe_callH h_weave (hr.mono (by first | decide | omega)) (by rfl) pass0 (pa_cons (pe_tup (pa_cons (pv 5) (pa_cons (pv 5) pa_nil))) pa_nil)) (pe_callTy (kTup K) (by rfl) B.tuple (by decide +kernel) (pa_cons (pe_callH h_law_woven (hr.mono (by first | decide | omega)) (by rfl) pass0 (pa_cons (pe_lst (pa_cons (pv 5) (pa_cons (pv 5) pa_nil))) pa_nil)) pa_nil)) (nomark _))))) (pss_one (ps_ret pe_bl)) pss_nil) (pss_one (ps_if (PW.pt (pw_and (pt_truthK K (pv 3) (by intro _; rfl)) (pw_and1 (pt_cmpR (kNeG K (hU hr)) (pe_callH h_weave (hr.mono (by first | decide | omega)) (by rfl) pass0 (pa_cons (pe_tup (pa_cons (pe_ix (kIx K) (pv 3) pe_int (fun _ _ => rfl)) (pa_cons (pv 5) pa_nil))) pa_nil)) (pe_callTy (kTup K) (by rfl) B.tuple (by decide +kernel) (pa_cons (pe_callH h_law_woven (hr.mono (by first | decide | omega)) (by rfl) pass0 (pa_cons (pe_lst (pa_cons (pe_ix (kIx K) (pv 3) pe_int (fun _ _ => rfl)) (pa_cons (pv 5) pa_nil))) pa_nil)) pa_nil)) (nomark _))))) (pss_one (ps_ret pe_bl)) pss_nil)))))))))) (pss_one (ps_ret pe_bl))), ?_⟩
  refine st0 [some (.ref a), none, none, none, none, none, none] rfl ?_
  walk_at "go"
  refine forR (fun i σ H' => ∃ (o1 o2 o3 o4 o5 o6 : Option V), σ = [some (.ref a), o1, o2, o3, o4, o5, o6] ∧ SqL K H' a (ns.map V.int) ∧ LamX.Tabs TT H') ⟨_, _, _, _, _, _, rfl, hL, hT⟩ ?_ ?_
  rotate_left
  · rintro σ H' ⟨o1, o2, o3, o4, o5, o6, rfl, hL', _⟩
    walk_at "go"
    exact q _
  rintro i σ H1 hi ⟨o1, o2, o3, o4, o5, o6, rfl, hL', hT'⟩
  walk_at "go"
  refine ⟨a, ns, _, rfl, hL', by omega, by omega, fun H2 p s2 hp hS => ?_⟩
  walk_at "go"
  refine use_take hS (by omega) (by omega) fun H3 r s3 hS3 hr0 hr1 => ?_
  walk_at "go"
  intro D hD
  have nD : D ≠ p := hS3.ne hD
  refine lc_range (lo := 0) (n := r.toNat) (fun k H' => ∃ (ws : List V) (rows : List (List Ent)), H' D = some (.lst ws) ∧ Rps K H' ws (rows.map rowPy) ∧ (∀ es ∈ rows, RowOk es ∧ es.length ≤ 40) ∧ rows.length = k ∧ SB p H2 H' ∧ Src H' p) ⟨[], [], upd_same, .nil, fun _ z => (by cases z), rfl, s3.new hD, hS3.new hD⟩ ?_ ?_
  · rintro k H4 hk ⟨ws, rows, g1, g2, g3, g4, g5, g6⟩
    walk_at "go"
    refine ⟨rfl, ?_⟩
    walk_at "go"
    refine use_rn g6 (by omega) (by omega) fun H5 qx xs es s5 hS5 hxs hR hE hl => ?_
    obtain ⟨bs, hG, hf⟩ := good_all es
    obtain ⟨o1, o2, o3, o4⟩ := seg_ok hG hf hE hl
    walk_at "go"
    refine ⟨qx, xs, bs, rfl, hxs, by rw [hf]; exact hR, hG, by rw [hf]; omega, by omega, fun H6 p6 ws6 s6 n6 f6 r6 => ?_⟩
    walk_at "go"
    refine u_tupL (SqL.of f6) fun pt hpt => ?_
    have s7 : SB p H4 (upd H6 pt (.tup ws6)) := s5.trans (SB.of_same (Same.new s6 hpt))
    have e7 : Ext K H4 (upd H6 pt (.tup ws6)) := g6.ext s7
    have hS7 : Src (upd H6 pt (.tup ws6)) p := (hS5.same s6).new hpt
    have h7 : (upd H6 pt (.tup ws6)) D = some (.lst ws) := s7 _ _ nD g1
    have r7 : Rp K (upd H6 pt (.tup ws6)) (.ref pt) (rowPy (bs.map seg)) := .tup (SqT.of upd_same) (r6.mono (Ext.new hpt) _ _)
    generalize upd H6 pt (.tup ws6) = H7 at *
    have lw := g2.length
    rw [List.length_map, g4] at lw
    have x8 : Ext K H7 (upd H7 D (.lst (ws ++ [.ref pt]))) := Ext.set h7 trivial
    refine ⟨ws, h7, ls (by omega), ws ++ [.ref pt], rows ++ [bs.map seg], upd_same, ?_, ?_, by rw [List.length_append, g4]; rfl, (g5.trans s7).upd_new (s3.fresh nD hD), hS7.set nD⟩
    · rw [List.map_append]
      exact ((g2.mono e7 _ _).mono x8 _ _).append (.one (r7.mono x8 _ _))
    · intro es' hes
      rcases List.mem_append.mp hes with z | z
      · exact g3 _ z
      · obtain rfl : es' = bs.map seg := by simpa using z
        exact ⟨⟨o2, o1, by omega⟩, o3⟩
  rintro H4 ⟨ws, rows, g1, g2, g3, g4, g5, g6⟩
  have hrl : rows.length ≤ 5 := by omega
  have lw := g2.length
  rw [List.length_map] at lw
  have rw4 : ∀ (H' : Hp), SB p H4 H' → Src H' p → SqL K H' a (ns.map V.int) ∧ LamX.Tabs TT H' := fun H' s h => ⟨seq_on hL' s2 hp (g5.trans s), tabs_sb (tabs_same hT' s2) hS (g5.trans s)⟩
  walk_at "go"
  apply shareH (P := Rw TT K a D ns)
  case h =>
    intro key
    walk_at "go"
    cases hws : ws with
    | nil =>
      refine iteF ?_
      walk_at "nx"
      exact key H4 ⟨(rw4 H4 SB.refl g6).1, (rw4 H4 SB.refl g6).2, ws, rows, g1, g2, g3, by omega⟩
    | cons w0 wr =>
      refine iteT ?_
      walk_at "go"
      refine use_take g6 (by omega) (by omega) fun H5 r5 s5 hS5 h50 h51 => ?_
      have k1 := s5 _ _ nD g1
      have k2 := g2.mono (g6.ext s5) _ _
      walk_at "go"
      refine rd_split (fun c => ?_) (fun c => ?_)
      · walk_at "go"
        refine use_one hS5 (SqL.of k1) nD (by rw [hws]; exact Nat.succ_pos _) (by omega) fun H6 v s6 hS6 hv => ?_
        have k3 := s6 _ _ nD k1
        have k4 := k2.mono (hS5.ext s6) _ _
        obtain ⟨iv, hiv⟩ := List.getElem?_of_mem hv
        obtain ⟨d, hd, rd⟩ := k4.getV hiv
        rw [List.getElem?_map, Option.map_eq_some_iff] at hd
        obtain ⟨es, he, rfl⟩ := hd
        walk_at "go"
        refine u_app k3 (ls (by omega)) ?_
        have x8 : Ext K H6 (upd H6 D (.lst (ws ++ [v]))) := Ext.set k3 trivial
        have k5 := (k4.mono x8 _ _).append (.one (rd.mono x8 _ _))
        have k6 : (upd H6 D (.lst (ws ++ [v]))) D = some (.lst (ws ++ [v])) := upd_same
        have s7 : SB p H2 (upd H6 D (.lst (ws ++ [v]))) := (g5.trans (s5.trans s6)).upd_new (s3.fresh nD hD)
        generalize hx7 : upd H6 D (.lst (ws ++ [v])) = H7 at *
        refine key H7 ⟨seq_on hL' s2 hp s7, tabs_sb (tabs_same hT' s2) hS s7, ws ++ [v], rows ++ [es], k6, by rw [List.map_append]; exact k5, ?_, by rw [List.length_append]; exact Nat.succ_le_succ hrl⟩
        intro es' hes
        rcases List.mem_append.mp hes with z | z
        · exact g3 _ z
        · obtain rfl : es' = es := by simpa using z
          exact g3 _ (List.mem_of_getElem? he)
      · walk_at "nx"
        exact key H5 ⟨(rw4 H5 s5 hS5).1, (rw4 H5 s5 hS5).2, ws, rows, k1, k2, g3, by omega⟩
  case main =>
    rintro H5 ⟨hL5, hT5, wt, rt, f1, f2, f3, f4⟩
    have hI : intR rt := fun es he => (f3 es he).1.i
    have hfl := flat_card (n := 40) (rows := rt) fun es he => (f3 es he).2
    have hfl2 : (rt.flatMap id).length ≤ 240 := Nat.le_trans hfl (by omega)
    walk_at "go"
    refine use_wo (SqL.of f1) f2 (by omega) (by omega) hI fun H6 pd wd s6 g1 g2 => ?_
    walk_at "go"
    refine u_tupL (SqL.of g1) fun pt hpt => ?_
    have s7 : Same H5 (upd H6 pt (.tup wd)) := Same.new s6 hpt
    have kn : Kn TT K a D pt ns wt rt (weaveE rt) (upd H6 pt (.tup wd)) := ⟨SqL.same hL5 s7, tabs_same hT5 s7, s7 _ _ f1, f2.mono (Ext.of_same s7) _ _, .tup (SqT.of upd_same) (g2.mono (Ext.new hpt) _ _)⟩
    have ld : (weaveE rt).length ≤ 240 := by rw [weave_len]; omega
    have id_ := weave_s hI
    have fd_ := weave_fall rt
    clear s6 g1 g2 s7 hpt f1 f2 hL5 hT5
    generalize upd H6 pt (.tup wd) = H7 at *
    walk_at "go"
    refine u_tupL (SqL.of kn.f) fun p2 hp2 => ?_
    have k2 := kn.same (same_new hp2 (.tup wt))
    have m2 : SqT K (upd H7 p2 (.tup wt)) p2 wt := SqT.of upd_same
    clear kn hp2
    generalize upd H7 p2 (.tup wt) = H8 at *
    walk_at "go"
    refine use_wv k2.t m2 k2.r (by omega) (by omega) fun H9 v9 e9 t9 r9 => ?_
    have k9 := k2.mono e9 t9
    clear k2 m2 e9 t9
    walk_at "go"
    refine ne_rows r9 k9.d id_ (by omega) ?_
    refine ⟨false, rfl, ?_⟩
    refine iteF ?_
    clear r9
    walk_at "go"
    refine ⟨lk rfl, fun q1 hq1 => ?_⟩
    have k10 := k9.same (same_new hq1 (.tup []))
    have m10 : SqT K (upd H9 q1 (.tup [])) q1 [] := SqT.of upd_same
    generalize upd H9 q1 (.tup []) = H10 at *
    walk_at "go"
    refine use_wv (rows := []) k10.t m10 .nil (by simp) (by simp) fun H11 v11 e11 t11 r11 => ?_
    have k11 := k10.mono e11 t11
    clear k9 k10 m10 e11 t11 hq1
    walk_at "go"
    refine ⟨lk rfl, fun q2 hq2 => ?_⟩
    have k12 := k11.same (same_new hq2 (.tup []))
    have r12 := r11.mono (Ext.new (o := .tup []) hq2) _ _
    have m12 : (upd H11 q2 (.tup [])) q2 = some (.tup []) := upd_same
    generalize upd H11 q2 (.tup []) = H12 at *
    walk_at "go"
    rw [weave_nil] at r12
    refine ne_rows r12 (nil_row m12) (fun _ z => by cases z) (by simp) ?_
    refine ⟨false, rfl, ?_⟩
    refine iteF ?_
    clear k11 r11 r12 m12 hq2
    walk_at "go"
    refine ⟨lk rfl, fun q1 hq1 => ?_⟩
    have k13 := k12.same (same_new hq1 (.tup []))
    have m13 : (upd H12 q1 (.tup [])) q1 = some (.tup []) := upd_same
    generalize upd H12 q1 (.tup []) = H13 at *
    walk_at "go"
    refine ⟨lk rfl, fun q2 hq2 => ?_⟩
    have k14 := k13.same (same_new hq2 (.tup []))
    have m14 : (upd H13 q2 (.tup [])) q2 = some (.tup []) := upd_same
    have m14' := (same_new hq2 (.tup [])) _ _ m13
    generalize upd H13 q2 (.tup []) = H14 at *
    walk_at "go"
    refine ⟨lk rfl, fun q3 hq3 => ?_⟩
    have k15 := k14.same (same_new hq3 (.tup [.ref q1, .ref q2]))
    have m15 : SqT K (upd H14 q3 (.tup [.ref q1, .ref q2])) q3 [.ref q1, .ref q2] := SqT.of upd_same
    have m15a := (same_new hq3 (.tup [.ref q1, .ref q2])) _ _ m14
    have m15b := (same_new hq3 (.tup [.ref q1, .ref q2])) _ _ m14'
    generalize upd H14 q3 (.tup [.ref q1, .ref q2]) = H15 at *
    walk_at "go"
    refine use_wv (rows := [[], []]) k15.t m15 (.cons (nil_row m15b) (.one (nil_row m15a))) (by simp) (by simp) fun H16 v16 e16 t16 r16 => ?_
    have k16 := k15.mono e16 t16
    clear k12 k13 k14 k15 m13 m14 m14' m15 m15a m15b e16 t16 hq1 hq2 hq3
    walk_at "go"
    refine ⟨lk rfl, fun q2 hq2 => ?_⟩
    have k17 := k16.same (same_new hq2 (.tup []))
    have r17 := r16.mono (Ext.new (o := .tup []) hq2) _ _
    have m17 : (upd H16 q2 (.tup [])) q2 = some (.tup []) := upd_same
    generalize upd H16 q2 (.tup []) = H17 at *
    walk_at "go"
    rw [weave_nils] at r17
    refine ne_rows r17 (nil_row m17) (fun _ z => by cases z) (by simp) ?_
    refine ⟨false, rfl, ?_⟩
    refine iteF ?_
    clear k16 r16 r17 m17 hq2
    have hD17 := SqL.of (K := K) k17.f
    walk_at "go"
    refine forL (xs := wt) (fun n σ H' => ∃ o4 o6 : Option V, σ = [some (.ref a), some (.int (0 + (i : Int))), some (.ref p), some (.ref D), o4, some (.ref pt), o6] ∧ Kn TT K a D pt ns wt rt (weaveE rt) H') ⟨_, _, rfl, k17⟩ (fun n σ H' _ ⟨_, _, _, z⟩ => SqL.of z.f) ?_ ?_
    · rintro n x σ H' hx ⟨o4, o6, rfl, kn⟩
      obtain ⟨es, he, re⟩ := kn.r.at0 hx
      have hes := f3 es (List.mem_of_getElem? he)
      walk_at "go"
      refine ⟨lk rfl, fun q1 hq1 => ?_⟩
      have k18 := kn.same (same_new hq1 (.tup [x]))
      have m18 : SqT K (upd H' q1 (.tup [x])) q1 [x] := SqT.of upd_same
      have r18 := re.mono (Ext.new (o := .tup [x]) hq1) _ _
      generalize upd H' q1 (.tup [x]) = H18 at *
      walk_at "go"
      refine use_wv (rows := [es]) k18.t m18 (.one r18) (by simp) (by simp; omega) fun H19 v19 e19 t19 r19 => ?_
      have k19 := k18.mono e19 t19
      have r19' := r18.mono (Ext.ofN e19) _ _
      rw [weave_one hes.1.f] at r19
      clear kn re k18 m18 r18 e19 t19 hq1
      walk_at "go"
      refine ne_rows r19 r19' hes.1.i (by omega) ?_
      refine ⟨false, rfl, ?_⟩
      refine iteF ?_
      clear r19
      walk_at "go"
      refine ⟨lk rfl, fun q1 hq1 => ?_⟩
      have k20 := k19.same (same_new hq1 (.tup []))
      have m20 : (upd H19 q1 (.tup [])) q1 = some (.tup []) := upd_same
      have r20 := r19'.mono (Ext.new (o := .tup []) hq1) _ _
      generalize upd H19 q1 (.tup []) = H20 at *
      walk_at "go"
      refine ⟨lk rfl, fun q2 hq2 => ?_⟩
      have k21 := k20.same (same_new hq2 (.tup []))
      have m21 : (upd H20 q2 (.tup [])) q2 = some (.tup []) := upd_same
      have m21' := (same_new hq2 (.tup [])) _ _ m20
      have r21 := r20.mono (Ext.new (o := .tup []) hq2) _ _
      generalize upd H20 q2 (.tup []) = H21 at *
      walk_at "go"
      refine ⟨lk rfl, fun q3 hq3 => ?_⟩
      have k22 := k21.same (same_new hq3 (.tup [.ref q1, x, .ref q2]))
      have m22 : SqT K (upd H21 q3 (.tup [.ref q1, x, .ref q2])) q3 [.ref q1, x, .ref q2] := SqT.of upd_same
      have m22a := (same_new hq3 (.tup [.ref q1, x, .ref q2])) _ _ m21
      have m22b := (same_new hq3 (.tup [.ref q1, x, .ref q2])) _ _ m21'
      have r22 := r21.mono (Ext.new (o := .tup [.ref q1, x, .ref q2]) hq3) _ _
      generalize upd H21 q3 (.tup [.ref q1, x, .ref q2]) = H22 at *
      walk_at "go"
      refine use_wv (rows := [[], es, []]) k22.t m22 (.cons (nil_row m22b) (.cons r22 (.one (nil_row m22a)))) (by simp) (by simp; omega) fun H23 v23 e23 t23 r23 => ?_
      have k23 := k22.mono e23 t23
      have r23' := r22.mono (Ext.ofN e23) _ _
      rw [weave_mid hes.1.f] at r23
      walk_at "go"
      refine ne_rows r23 r23' hes.1.i (by omega) ?_
      refine ⟨false, rfl, ?_⟩
      refine iteF ?_
      walk_at "go"
      exact ⟨_, _, rfl, k23⟩
    rintro σ H18 ⟨o4, o6, rfl, k18⟩
    walk_at "go"
    refine ⟨lk rfl, fun q1 hq1 => ?_⟩
    have k19 := k18.same (same_new hq1 (.tup [.ref pt]))
    have m19 : SqT K (upd H18 q1 (.tup [.ref pt])) q1 [.ref pt] := SqT.of upd_same
    generalize upd H18 q1 (.tup [.ref pt]) = H19 at *
    walk_at "go"
    refine use_wv (rows := [weaveE rt]) k19.t m19 (.one k19.d) (by simp) (by simp; omega) fun H20 v20 e20 t20 r20 => ?_
    have k20 := k19.mono e20 t20
    rw [weave_one fd_] at r20
    clear k17 k18 k19 m19 e20 t20 hq1
    walk_at "go"
    refine ne_rows r20 k20.d id_ (by omega) ?_
    refine ⟨false, rfl, ?_⟩
    refine iteF ?_
    clear r20
    walk_at "go"
    refine ⟨lk rfl, fun q1 hq1 => ?_⟩
    have k21 := k20.same (same_new hq1 (.tup [.ref pt, .ref pt]))
    have m21 : SqT K (upd H20 q1 (.tup [.ref pt, .ref pt])) q1 [.ref pt, .ref pt] := SqT.of upd_same
    generalize upd H20 q1 (.tup [.ref pt, .ref pt]) = H21 at *
    walk_at "go"
    refine use_wv (rows := [weaveE rt, weaveE rt]) k21.t m21 (.cons k21.d (.one k21.d)) (by simp) (by simp; omega) fun H22 v22 e22 t22 r22 => ?_
    have k22 := k21.mono e22 t22
    clear k20 k21 m21 e22 t22 hq1
    walk_at "go"
    refine ⟨lk rfl, fun q2 hq2 => ?_⟩
    have k23 := k22.same (same_new hq2 (.lst [.ref pt, .ref pt]))
    have m23 : SqL K (upd H22 q2 (.lst [.ref pt, .ref pt])) q2 [.ref pt, .ref pt] := SqL.of upd_same
    have r23 := r22.mono (Ext.new (o := .lst [.ref pt, .ref pt]) hq2) _ _
    generalize upd H22 q2 (.lst [.ref pt, .ref pt]) = H23 at *
    walk_at "go"
    have hI2 : intR [weaveE rt, weaveE rt] := fun es he => by
      have : es = weaveE rt := by simpa using he
      rw [this]
      exact id_
    refine use_wo (rows := [weaveE rt, weaveE rt]) m23 (.cons k23.d (.one k23.d)) (by simp) (by simp; omega) hI2 fun H24 q4 w4 s4 f24 r24 => ?_
    have k24 := k23.same s4
    have r24' := r23.mono (Ext.of_same s4) _ _
    clear k22 k23 m23 r22 r23 s4 hq2
    walk_at "go"
    refine u_tupL (SqL.of f24) fun p5 hp5 => ?_
    have k25 := k24.same (same_new hp5 (.tup w4))
    have r25 := r24'.mono (Ext.new (o := .tup w4) hp5) _ _
    have m25 : Rp K (upd H24 p5 (.tup w4)) (.ref p5) (rowPy (weaveE [weaveE rt, weaveE rt])) := .tup (SqT.of upd_same) (r24.mono (Ext.new hp5) _ _)
    generalize upd H24 p5 (.tup w4) = H25 at *
    refine ne_rows r25 m25 (weave_s hI2) (by rw [weave_len]; simp; omega) ?_
    refine ⟨false, rfl, ?_⟩
    refine iteF ?_
    clear k24 r24 r24' r25 m25 f24 hp5
    have hD25 := SqL.of (K := K) k25.f
    walk_at "go"
    cases hwt : wt with
    | nil =>
      refine iteF ?_
      refine iteF ?_
      walk_at "go"
      exact ⟨_, _, _, _, _, _, rfl, k25.l, k25.t⟩
    | cons w0 wr =>
      refine iteT ?_
      rw [hwt] at k25 hD25
      have h0 : (w0 :: wr)[0]? = some w0 := rfl
      obtain ⟨es, he, re⟩ := k25.r.at0 h0
      have hes := f3 es (List.mem_of_getElem? he)
      walk_at "go"
      refine u_ixL hD25 (atI_nat h0) ?_
      walk_at "go"
      refine ⟨lk rfl, fun q1 hq1 => ?_⟩
      have k26 := k25.same (same_new hq1 (.tup [w0, .ref pt]))
      have m26 : SqT K (upd H25 q1 (.tup [w0, .ref pt])) q1 [w0, .ref pt] := SqT.of upd_same
      have r26 := re.mono (Ext.new (o := .tup [w0, .ref pt]) hq1) _ _
      generalize upd H25 q1 (.tup [w0, .ref pt]) = H26 at *
      walk_at "go"
      refine use_wv (rows := [es, weaveE rt]) k26.t m26 (.cons r26 (.one k26.d)) (by simp) (by simp; omega) fun H27 v27 e27 t27 r27 => ?_
      have k27 := k26.mono e27 t27
      have r27' := r26.mono (Ext.ofN e27) _ _
      clear k25 k26 m26 r26 e27 t27 hq1 re hD25
      have hD27 := SqL.of (K := K) k27.f
      walk_at "go"
      refine u_ixL hD27 (atI_nat h0) ?_
      walk_at "go"
      refine ⟨lk rfl, fun q2 hq2 => ?_⟩
      have k28 := k27.same (same_new hq2 (.lst [w0, .ref pt]))
      have m28 : SqL K (upd H27 q2 (.lst [w0, .ref pt])) q2 [w0, .ref pt] := SqL.of upd_same
      have r28 := r27.mono (Ext.new (o := .lst [w0, .ref pt]) hq2) _ _
      have r28' := r27'.mono (Ext.new (o := .lst [w0, .ref pt]) hq2) _ _
      generalize upd H27 q2 (.lst [w0, .ref pt]) = H28 at *
      walk_at "go"
      have hI3 : intR [es, weaveE rt] := fun e2 he2 => by
        have : e2 = es ∨ e2 = weaveE rt := by simpa using he2
        rcases this with rfl | rfl
        · exact hes.1.i
        · exact id_
      refine use_wo (rows := [es, weaveE rt]) m28 (.cons r28' (.one k28.d)) (by simp) (by simp; omega) hI3 fun H29 q4 w4 s4 f29 r29 => ?_
      have k29 := k28.same s4
      have r29' := r28.mono (Ext.of_same s4) _ _
      clear k27 k28 m28 r27 r28 r28' s4 hq2
      walk_at "go"
      refine u_tupL (SqL.of f29) fun p5 hp5 => ?_
      have k30 := k29.same (same_new hp5 (.tup w4))
      have r30 := r29'.mono (Ext.new (o := .tup w4) hp5) _ _
      have m30 : Rp K (upd H29 p5 (.tup w4)) (.ref p5) (rowPy (weaveE [es, weaveE rt])) := .tup (SqT.of upd_same) (r29.mono (Ext.new hp5) _ _)
      generalize upd H29 p5 (.tup w4) = H30 at *
      refine ne_rows r30 m30 (weave_s hI3) (by rw [weave_len]; simp; omega) ?_
      refine ⟨false, rfl, ?_⟩
      refine iteF ?_
      walk_at "go"
      exact ⟨_, _, _, _, _, _, rfl, k30.l, k30.t⟩
end
end Mine

/-! ### F1 -/
namespace Mine
open PySem PySem.Spec L2
/-! ## facts of the written part, made ready -/
section
variable {K : PySem.W.Frag} {h : Heap} {mg : Str → Option Value}
theorem ownF_mk {x : Str} {st : Stmt} {f : Addr} {oc : Value} {od an : Option Addr} {osl : Array (Option Value)} {kV doc pm cdv ct : Value} (X : K.In h) (G : h.Ns mainGlobals mg) (a : PySem.W.nsIn K mainGlobals x = some (some (.ref f)))
    (l : K.lookup f = some ⟨oc, od, .func (PySem.W.fnOf x x (defArgs st) (defBody st) (defScope st) .none kV doc pm an cdv ct), osl⟩)
    (c : PySem.W.codeIn K cdv x = true) (k : PySem.W.keepIn K (.ref f) = true) : OwnF K mg x st := ⟨f, _, fun_mk (st := st) l c k, PySem.W.mg_of X G a⟩
theorem int_mk {x : Str} {i : Int} {t : Tok} (X : K.In h) (G : h.Ns mainGlobals mg) (a : PySem.W.nsIn K mainGlobals x = some (some (.int i t))) : ∃ t, mg x = some (.int i t) := ⟨t, PySem.W.mg_of X G a⟩
theorem str_mk {x z : Str} {t : Tok} (X : K.In h) (G : h.Ns mainGlobals mg) (a : PySem.W.nsIn K mainGlobals x = some (some (.str z t))) : ∃ t, mg x = some (.str z t) := ⟨t, PySem.W.mg_of X G a⟩
/-! the two tables -/
def entB (e : DictEntry) : Option (Str × Addr) := match e.key, e.val with
  | .str x _, .ref b => some (x, b)
  | _, _ => none
def tabG (L : List (Str × Addr)) (z : Str) : Option Value := (L.find? fun p => p.1 == z).map fun p => .ref p.2
theorem ents_find {z : Str} : ∀ {es : List DictEntry} {L : List (Str × Addr)}, es.map entB = L.map some → (es.find? (·.key.isStr z)).map (·.val) = tabG L z ∧ es.any (·.refKey) = false
  | [], [], _ => ⟨rfl, rfl⟩
  | [], _ :: _, h => by simp at h
  | _ :: _, [], h => by simp at h
  | e :: es, p :: L, h => by
    rw [List.map_cons, List.map_cons] at h
    injection h with h1 h2
    obtain ⟨i1, i2⟩ := ents_find (z := z) h2
    obtain ⟨x, b⟩ := p
    have hk : ∃ t, e.key = .str x t ∧ e.val = .ref b := by
      unfold entB at h1
      split at h1
      · rename_i x' t' b' e1 e2
        cases h1
        exact ⟨t', e1, e2⟩
      · cases h1
    obtain ⟨t, k1, k2⟩ := hk
    have e3 : e.key.isStr z = (x == z) := by rw [k1] <;> rfl
    refine ⟨?_, ?_⟩
    · unfold tabG at i1 ⊢
      rw [List.find?_cons, List.find?_cons, e3]
      cases hx : (x == z) with
      | true => simp only [Option.map_some, k2]
      | false => exact i1
    · rw [List.any_cons, i2, Bool.or_false]
      unfold DictEntry.refKey
      rw [k1] <;> rfl
theorem tab_mk {w : World} {x : Str} {a : Addr} {es : Array DictEntry} {n : Nat} {L : List (Str × Addr)} (X : K.In h) (G : h.Ns mainGlobals mg) (e : PySem.W.nsIn K mainGlobals x = some (some (.ref a))) (l : K.lookup a = some ⟨.type "dict", none, .dict es n, #[]⟩)
    (lit : PySem.W.KeysLit w.params es.toList) (low : (a == sysModules) = false) (hL : es.toList.map entB = L.map some) : Tab w K mg x a (tabG L) := by
  refine ⟨PySem.W.mg_of X G e, ⟨es, n, l, lit, low⟩, fun z => ?_⟩
  obtain ⟨f1, f2⟩ := ents_find (z := z) hL
  unfold PySem.W.nsIn
  rw [l]
  simp only
  rw [← f1]
  cases hf : es.toList.find? (·.key.isStr z) with
  | some e => rfl
  | none => simp only [f2]; rfl
/-! the errors -/
theorem exm_mk {C S : Addr} {b : Bool} (h1 : PySem.W.subIn K (.ref S) (.type "BaseException") = some true) (h2 : PySem.W.isClsIn K S = true) (h3 : PySem.W.typeIn K (.ref S) = some (.type "type")) (h4 : PySem.W.subIn K (.ref C) (.ref S) = some b) :
    PySem.W.exmOne K (.ref C) (.ref S) = some b := by
  have e1 : (PySem.W.subIn K (.ref S) (.type "BaseException") == some true) = true := by rw [h1] <;> rfl
  have e2 : ((PySem.W.clsIn K S).isSome && PySem.W.typeIn K (.ref S) == some (.type "type")) = true := by
    have h2' : (PySem.W.clsIn K S).isSome = true := h2
    rw [h2', h3] <;> rfl
  show (if (PySem.W.subIn K (.ref S) (.type "BaseException") == some true) = true then (if ((PySem.W.clsIn K S).isSome && PySem.W.typeIn K (.ref S) == some (.type "type")) = true then PySem.W.subIn K (.ref C) (.ref S) else none) else none) = some b
  rw [if_pos e1, if_pos e2]
  exact h4
theorem errC_mk {x : Str} {C fI N : Addr} {nm q : Str} {bs bm : List Value} {sn : List Str} {sub : List Value} {ab : Bool} {col : Option Bool} {dd : Option Addr} {m0 m1 m2 m3 m5 : Option Value} (X : K.In h) (G : h.Ns mainGlobals mg)
    (aC : PySem.W.nsIn K mainGlobals x = some (some (.ref C))) (xL : K.lookup C = some (excClassObj nm q C N bs bm true sn sub ab col dd m0 m1 m2 m3 m5 "ValueError.__new__")) (bmB : PySem.HandSPX.refsVE bm = true)
    (sa : PySem.W.findIn K (.ref C) "__setattr__" = some (some (.builtin "object.__setattr__"))) (ga : PySem.W.findIn K (.ref C) "__getattribute__" = some (some (.builtin "BaseException.__getattribute__"))) (gg : PySem.W.findIn K (.ref C) "__getattr__" = some none) (nb : PySem.W.findIn K (.ref C) "what" = some none)
    (iC : PySem.W.findIn K (.ref C) "__init__" = some (some (.ref fI))) (kC : PySem.W.keepIn K (.ref C) = true) (eC : PySem.W.subIn K (.ref C) (.type "BaseException") = some true) (tC : PySem.W.typeIn K (.ref C) = some (.type "type")) (hC : PySem.W.hasDictIn K C = true) : ErrC K mg fI x C :=
  ⟨PySem.W.mg_of X G aC, ⟨⟨nm, q, N, bs, bm, sn, sub, ab, col, dd, m0, m1, m2, m3, m5, xL, bmB⟩, sa, eC, tC, kC⟩, nb, iC, ⟨ga, gg, eC, hC⟩⟩
end
end Mine

/-! ### F2 -/
namespace Mine
open PySem PySem.Spec L2
section
variable {P : Program} {w : World} {K : PySem.W.Frag} {mg : Str → Option Value} {base : Heap}
/-- the defs -/
structure Own (K : PySem.W.Frag) (mg : Str → Option Value) : Prop where
  o0 : OwnF K mg "_law_pool" s_law_pool
  o1 : OwnF K mg "_law_take" s_law_take
  o2 : OwnF K mg "_law_one" s_law_one
  o3 : OwnF K mg "_law_run" s_law_run
  o4 : OwnF K mg "_law_hills" s_law_hills
  o5 : OwnF K mg "by_itself" s_by_itself
  o6 : OwnF K mg "piled" s_piled
  o8 : OwnF K mg "_law_woven" s_law_woven
theorem ownC_mk {K : PySem.W.Frag} {h : Heap} {mg : Str → Option Value} {x : Str} {st : Stmt} {f c : Addr} {oc : Value} {od an : Option Addr} {osl : Array (Option Value)} {kV doc pm ct : Value} (X : K.In h) (G : h.Ns mainGlobals mg) (a : PySem.W.nsIn K mainGlobals x = some (some (.ref f)))
    (l : K.lookup f = some ⟨oc, od, .func (PySem.W.fnOf x x (defArgs st) (defBody st) (defScope st) .none kV doc pm an (.ref c) ct), osl⟩)
    (hc : PySem.W.codeIn K (.ref c) x = true) (k : PySem.W.keepIn K (.ref f) = true) : OwnC K mg x st c := ⟨f, oc, od, kV, doc, pm, an, ct, osl, l, hc, k, PySem.W.mg_of X G a⟩
theorem fin_mk {l : PySem.W.OpenLaw} {w : World} {K : PySem.W.Frag} {h : Heap} {mg : Str → Option Value} {fa f3 cW tP  : Addr}  (X : K.In h) (G : h.Ns mainGlobals mg) (hfa : mg "law" = some (.ref fa)) {oc3 : Value} {od3 an3 : Option Addr} {sl3 : Array (Option Value)} {kV3 dc3 pm3 cd3 ct3 : Value}
    (a3 : PySem.W.nsIn K mainGlobals "law" = some (some (.ref f3))) (l3 : K.lookup f3 = some ⟨oc3, od3, .func (PySem.W.fnOf "law" "law" (defArgs s_law) (defBody s_law) (defScope s_law) .none kV3 dc3 pm3 an3 cd3 ct3), sl3⟩) (c3 : PySem.W.codeIn K cd3 "law" = true) (k3 : PySem.W.keepIn K (.ref f3) = true)
    (B : Bl mg) (BSo : mg "sorted" = none) (OP : Own K mg) (OC : OwnC K mg "weave" s_weave cW) (hT : h.get? tP = some { cls := .none, data := .fields #[] }) (nT : K.lookup tP = none) (C : PySem.W.CodeHd h cW tP) :
    LamX.LawAtS l w K CX0 7 63 "script" mg fa h := by
  have e := hfa.symm.trans (PySem.W.mg_of X G a3)
  cases e
  refine ⟨PySem.W.fnOf "law" "law" (defArgs s_law) (defBody s_law) (defScope s_law) .none kV3 dc3 pm3 an3 cd3 ct3, [(cW, tP)], spLaw [(tP, ("weave" : Str) ++ (".<locals>." : Str) ++ ("<lambda>" : Str))] K, fun p hp => by rw [List.mem_singleton.mp hp]; exact hT, fun p hp => by rw [List.mem_singleton.mp hp]; exact nT, fun p hp => by rw [List.mem_singleton.mp hp]; exact C, fun s v => .of_eq rfl, fun H a ns hl _ hp hS => ⟨fun p hp2 => by rw [List.mem_singleton.mp hp2]; exact LamX.TabS.nil (hp (cW, tP) (List.mem_singleton.mpr rfl)), a, ns, rfl, hS, hl, fun _ => rfl⟩, fun base _ _ hTB => ?_⟩
  have TB := hTB (cW, tP) (List.mem_singleton.mpr rfl)
  have m1 := has_pool (P := l.prog) (w := w) (base := base) OP.o0 B
  have m2 := has_take (P := l.prog) (w := w) (base := base) OP.o1 B
  have m3 := has_one OP.o2 B m2
  have m4 := has_law_run OP.o3 B m2 m3
  have m5 := has_law_hills (P := l.prog) (w := w) (base := base) OP.o4 B
  have m6 := has_by_itself (P := l.prog) (w := w) (base := base) OP.o5
  have m7 := has_piled (P := l.prog) (w := w) (base := base) OP.o6 B
  have m8 := has_weave OC BSo m6 m7 TB _ (rfl : [(tP, ("weave" : Str) ++ (".<locals>." : Str) ++ ("<lambda>" : Str))] = _)
  have m9 := has_law_woven (P := l.prog) (w := w) (base := base) OP.o8 B BSo
  exact ok_law (fun_mk (st := s_law) l3 c3 k3) B m1 m2 m3 m4 m5 m9 m8
end
end Mine

/-! ### E1 -/
open PySem PySem.W PyProof.Rows
set_option maxRecDepth 100000 in
set_option maxHeartbeats 0 in
theorem PySem.Challenge.cw_hillrooms_k14_rows_woven_holds : PySem.Challenge.rw_hillrooms_k14_rows_woven.Holds := by
  w_on; o_law; k_head; (case hw => w_witness2)
  k_fill
  refine LamX.walk_ofTs (l := PySem.Challenge.rw_hillrooms_k14_rows_woven) (n := 63) (k := 7) (x := "script") (CX := fun _ => L2.CX0) rfl (by decide) rfl ⟨rfl, by decide, by decide⟩ (fun w h Y => PySem.W.km_in_of Y) ?F (fun _ _ _ _ _ z => z)
  case F =>
    intro w mg fa h Y KX G hmg
    have B : Mine.Bl mg := by
      refine' ⟨PySem.W.mg_none_of KX G ?z0, PySem.W.mg_none_of KX G ?z1, PySem.W.mg_none_of KX G ?z2, PySem.W.mg_none_of KX G ?z3, PySem.W.mg_none_of KX G ?z4, PySem.W.mg_none_of KX G ?z5, PySem.W.mg_none_of KX G ?z6, PySem.W.mg_none_of KX G ?z7, PySem.W.mg_none_of KX G ?z8, PySem.W.mg_none_of KX G ?z9, PySem.W.mg_none_of KX G ?z10, PySem.W.mg_none_of KX G ?z11, PySem.W.mg_none_of KX G ?z12⟩
      (case z0 => k_is); (case z1 => k_is); (case z2 => k_is); (case z3 => k_is); (case z4 => k_is); (case z5 => k_is); (case z6 => k_is); (case z7 => k_is); (case z8 => k_is); (case z9 => k_is); (case z10 => k_is); (case z11 => k_is); (case z12 => k_is)
    have BSo : mg "sorted" = none := by
      refine' PySem.W.mg_none_of KX G ?z0
      (case z0 => k_is)
    have OP : Mine.Own (L2.KOf KX) mg := by
      dsimp only [L2.KOf]
      refine' ⟨Mine.ownF_mk KX G ?a0 ?l0 ?c0 ?k0, Mine.ownF_mk KX G ?a1 ?l1 ?c1 ?k1, Mine.ownF_mk KX G ?a2 ?l2 ?c2 ?k2, Mine.ownF_mk KX G ?a3 ?l3 ?c3 ?k3, Mine.ownF_mk KX G ?a4 ?l4 ?c4 ?k4, Mine.ownF_mk KX G ?a5 ?l5 ?c5 ?k5, Mine.ownF_mk KX G ?a6 ?l6 ?c6 ?k6, Mine.ownF_mk KX G ?a8 ?l8 ?c8 ?k8⟩
      (case a0 => k_is); (case l0 => k_is); (case c0 => k_is); (case k0 => k_is)
      (case a1 => k_is); (case l1 => k_is); (case c1 => k_is); (case k1 => k_is)
      (case a2 => k_is); (case l2 => k_is); (case c2 => k_is); (case k2 => k_is)
      (case a3 => k_is); (case l3 => k_is); (case c3 => k_is); (case k3 => k_is)
      (case a4 => k_is); (case l4 => k_is); (case c4 => k_is); (case k4 => k_is)
      (case a5 => k_is); (case l5 => k_is); (case c5 => k_is); (case k5 => k_is)
      (case a6 => k_is); (case l6 => k_is); (case c6 => k_is); (case k6 => k_is)
      (case a8 => k_is); (case l8 => k_is); (case c8 => k_is); (case k8 => k_is)
    have hT := PySem.W.km_tabs_of Y
    have OCe : ∃ cW, Mine.OwnC (L2.KOf KX) mg "weave" Mine.s_weave cW ∧ ∃ tP, PySem.W.CodeHd h cW tP ∧ h.get? tP = some { cls := .none, data := .fields #[] } ∧ List.lookup tP (L2.KOf KX) = none := by
      dsimp only [L2.KOf]
      refine' ⟨_, Mine.ownC_mk KX G ?a0 ?l0 ?c0 ?k0, _, PySem.W.codeHd_of_K KX ?h0, hT _ List.mem_cons_self, ?n0⟩
      (case a0 => k_is); (case l0 => k_is); (case c0 => k_is); (case k0 => k_is); (case h0 => kernel_rfl); (case n0 => kernel_rfl)
    obtain ⟨cW, OC, tP, C, hTP, nT⟩ := OCe
    refine' Mine.fin_mk KX G hmg ?a ?l ?c ?k B BSo OP OC hTP nT C
    (case a => k_is); (case l => k_is); (case c => k_is); (case k => k_is)
