import PyProof.Rows.All
import Wide.All
import OpenK.AllK
import Wide.FinOn
import HandS.ForMost
import HandS.Codes
import HandS.Flow
import HandS.Style
import HandS.StrMore
import HandS.IsInst
import HandS.TupAny
import HandS.EndBits
import HandS.Exc
import HandS.ExcInit
import HandS.ExcField
import HandS.WordsExc
import HandS.ExcIs
import PySem.Challenge.RW_digitwise_k01_refused_texts
set_option Elab.async false
set_option linter.all false
set_option maxRecDepth 100000
set_option maxHeartbeats 4000000
namespace Dw
open PySem PySem.Spec PyProof.Rows L2 SX

theorem hu64 {A : Around} {k : Nat} (hr : Room k A) : A.units + 64 < cLine := hr.units
section
variable {X : Cx} {k j : Nat} {x : Str} {sp : Sp} {dvs : List V} {p pos : Pos}
theorem pe_c0 (c : C8.Cal X.prog X.w X.K X.mg X.base k x sp dvs) (hr : Room j X.A) (hk : k ≤ j) (hg : Gl X x)
    (hdb : (x == ("__debug__" : Str)) = false := by decide) :
    PE X (.Call (.Name x p) [] [] pos) (tCall sp dvs C8.E0 tNil) := by
  obtain ⟨f, fd, ps, ds, F, hm, kp, b, d⟩ := c.ex
  exact pe_call0 F (hr.mono hk) hg hm kp b d C8.pass0 hdb
end
theorem same_upd {H : Hp} {p : Addr} {o : HO} (h : H p = none) : Same H (upd H p o) := fun b x e => by
  rw [upd_ne (ne_of_none e h)]
  exact e
/-- all but what stands at p is as it was -/
def But (p : Addr) (H H' : Hp) : Prop := ∀ b o, b ≠ p → H b = some o → H' b = some o
theorem But.refl (p : Addr) (H : Hp) : But p H H := fun _ _ _ h => h
theorem But.trans {p : Addr} {H H1 H2 : Hp} (a : But p H H1) (b : But p H1 H2) : But p H H2 := fun c o n h => b c o n (a c o n h)
theorem But.of {p : Addr} {H H' : Hp} (a : Same H H') : But p H H' := fun b o _ h => a b o h
theorem But.upd {p : Addr} {H : Hp} {o : HO} : But p H (upd H p o) := fun b _ n h => by
  rw [upd_ne n]
  exact h
theorem But.list {p a : Addr} {H H' : Hp} {K : PySem.W.Frag} {xs : List V} (e : But p H H') (n : a ≠ p) (h : SqL K H a xs) : SqL K H' a xs := by
  rcases h with (h | ⟨o, h⟩) | h
  · exact .inl (.inl (e _ _ n h))
  · exact .inl (.inr ⟨o, e _ _ n h⟩)
  · exact .inr h
/-- the pool of drawn numbers at p, over the copied script at q -/
def Pool (H : Hp) (p q : Addr) (ns : List Int) : Prop := p ≠ q ∧ H q = some (.lst (ns.map V.int)) ∧ ∃ a k : Int, H p = some (.lst [.int a, .ref q, .int k]) ∧ 0 ≤ a ∧ -1 ≤ k
theorem Pool.same {H H' : Hp} {p q : Addr} {ns : List Int} (h : Pool H p q ns) (e : Same H H') : Pool H' p q ns := by
  obtain ⟨n, hq, a, k, hp, h0, h1⟩ := h
  exact ⟨n, e _ _ hq, a, k, e _ _ hp, h0, h1⟩

example : True := by trivial
end Dw
namespace Dw
open PySem PySem.Spec PyProof.Rows L2 SX
section
variable {CX : CXT} {P : Program} {w : World} {K : PySem.W.Frag} {mg : Str → Option Value} {base : Heap} {N : List Str} {qual : Str} {scope : Scope} {f : Addr} {cd : Value} {A : Around} {outer : List Env} {s : Shared} {H : Hp} {E : XK}
theorem cxOf_K : (cxOf CX P w K mg base N qual scope f cd A outer s H E).K = K := rfl
theorem cxOf_w : (cxOf CX P w K mg base N qual scope f cd A outer s H E).w = w := rfl
theorem cxOf_prog : (cxOf CX P w K mg base N qual scope f cd A outer s H E).prog = P := rfl
end
end Dw
namespace Dw
open PySem PySem.Spec PyProof.Rows L2 SX
theorem at_ints {ns : List Int} {k : Int} (h0 : 0 ≤ k) (h1 : k < (ns.length : Int)) : atI (ns.map V.int) k = some (.int (ns.getD k.toNat 0)) := by
  obtain ⟨n, rfl⟩ : ∃ n : Nat, k = (n : Int) := ⟨k.toNat, by omega⟩
  have h2 : n < ns.length := by omega
  refine atI_nat ?_
  rw [List.getElem?_map, Int.toNat_natCast, List.getD_eq_getElem?_getD, List.getElem?_eq_getElem h2]
  rfl
end Dw
namespace Dw
open PySem PySem.Spec PyProof.Rows L2 SX
/-- a text times an int -/
theorem op_mul_str {X : Cx} : OpR X (binaryOp .Mult) (fun x y H Q => ∃ (z : Str) (k : Int), x = .str z ∧ y = .int k ∧ MulOk z k ∧ Q (.str (Txt.mul z k)) H) := by
  intro pins s σ H x y v u Q I rx ry h
  obtain ⟨z, k, rfl, rfl, hz, q⟩ := h
  obtain ⟨t, rfl⟩ := rx
  obtain ⟨t', rfl⟩ := ry
  exact SB.mul hz (fun t' tk => ⟨.str (Txt.mul z k), H, I.tok _, ⟨_, rfl⟩, q⟩)
def rMulS : R2 := fun x y H Q => ∃ (z : Str) (k : Int), x = .str z ∧ y = .int k ∧ MulOk z k ∧ Q (.str (Txt.mul z k)) H
theorem op_mulS {X : Cx} : OpR X (binaryOp .Mult) rMulS := op_mul_str
/-! loops and comprehensions, folded -/
def ForJ (J : It) (g : TG) (tb : TS) (D : Ends) (σ : L2.St) (H : Hp) : Prop := ∃ W : Nat → Nat → L2.St → Hp → Prop, (∃ m, W 0 m σ H) ∧ ∀ i m σ H, W i m σ H →
  (J.stop i H ∧ D.nx σ H) ∨ (J.go i H ∧ ∃ N : L2.St → Hp → Prop, (∀ σ' H', N σ' H' → ∃ m', m' < m ∧ W (i + 1) m' σ' H') ∧ ∀ x H', J.yld i H x H' → g x σ H' fun σ2 H2 => tb { D with nx := N, ct := N, bk := D.nx } σ2 H2)
theorem tFor_eq (wi : TI) (g : TG) (tb : TS) (D : Ends) (σ : L2.St) (H : Hp) : tFor wi g tb D σ H = wi σ H fun J H1 => ForJ J g tb D σ H1 := rfl
def LcJ (J : It) (g : TG) (tt : TT) (te : TE) (vs : List Nat) (D : Addr) (σ : L2.St) (H1 : Hp) (Qd : Hp → Prop) : Prop := ∃ W : Nat → Nat → Hp → Prop, (∃ m, W 0 m (upd H1 D (.lst []))) ∧ ∀ i m H, W i m H →
  (J.stop i H ∧ Qd H) ∨ (J.go i H ∧ ∃ Nx : Hp → Prop, (∀ H', Nx H' → ∃ m', m' < m ∧ W (i + 1) m' H') ∧ ∀ x H', J.yld i H x H' → g x (wipe σ vs) H' fun σ2 H2 => wipe σ2 vs = wipe σ vs ∧ tt σ2 H2 fun b H3 =>
    if b = true then te σ2 H3 fun y H4 => ∃ acc, H4 D = some (.lst acc) ∧ acc.length < sizeLine ∧ Nx (upd H4 D (.lst (acc ++ [y]))) else Nx H3)
theorem tLc_eq (wi : TI) (g : TG) (tt : TT) (te : TE) (vs : List Nat) (σ : L2.St) (H : Hp) (Q : VK) : tLc wi g tt te vs σ H Q = wi σ H fun J H1 => ∀ D, H1 D = none → LcJ J g tt te vs D σ H1 fun H2 => Q (.ref D) H2 := rfl
/-! texts as lists of codes -/
def cs (s : String) : List Nat := (Str.ofString s).cps.toList
theorem ofStr_S (s : String) : Str.ofString s = S (cs s) := (S_tl _).symm
theorem one_S (c : Nat) : (⟨#[c]⟩ : Str) = S [c] := rfl
theorem S_iff (a b : List Nat) : (S a = S b) = (a = b) := propext ⟨S_inj, fun e => by rw [e]⟩
theorem S_cps (a : List Nat) : (S a).cps.toList = a := rfl
theorem len_S (a : List Nat) : (S a).length = a.length := S_len a
theorem at_mem {α : Type} {xs : List α} {i : Int} (h0 : 0 ≤ i) (h1 : i < (xs.length : Int)) : ∃ v, atI xs i = some v ∧ v ∈ xs := by
  obtain ⟨n, rfl⟩ : ∃ n : Nat, i = (n : Int) := ⟨i.toNat, by omega⟩
  have h2 : n < xs.length := by omega
  exact ⟨xs[n], atI_nat (List.getElem?_eq_getElem h2), List.getElem_mem h2⟩
def LOW : List Nat := cs "abcdefghijklmnopqrstuvwxyz"
def UPP : List Nat := cs "ABCDEFGHIJKLMNOPQRSTUVWXYZ"
def DIG : List Nat := cs "0123456789"
def RESW : List String := ["all", "def", "pow", "some", "told"]
def RES : List (List Nat) := RESW.map cs
def SGNW : List String := ["<=>", "=>", "->", "<=", ">=", "!=", "=", "<", ">", "+", "-", "*", "~", "&", "|", "(", ")", "[", "]", "{", "}", ",", ":", ";"]
def SGN : List (List Nat) := SGNW.map cs
def vS (l : List Nat) : V := .str (S l)
/-- a good name, a good word -/
structure GName (l : List Nat) : Prop where
  hd : ∃ c r, l = c :: r ∧ c ∈ LOW
  all : ∀ c ∈ l, c ∈ LOW ++ DIG
  le : l.length ≤ 12
  nr : l ∉ RES
structure GWord (l : List Nat) : Prop where
  hd : ∃ c r, l = c :: r ∧ c ∈ UPP
  all : ∀ c ∈ l, c ∈ UPP ++ DIG
  le : l.length ≤ 12
def NMS : List String := ["x", "y", "z", "alls", "v0", "v1", "po", "defx"]
instance (l : List Nat) : Decidable (∃ c r, l = c :: r ∧ c ∈ LOW) := match l with
  | [] => isFalse (by rintro ⟨_, _, h, _⟩; cases h)
  | c :: r => if h : c ∈ LOW then isTrue ⟨c, r, rfl, h⟩ else isFalse (by rintro ⟨_, _, e, h'⟩; cases e; exact h h')
theorem nms_ok : ∀ s ∈ NMS, (∃ c r, cs s = c :: r ∧ c ∈ LOW) ∧ (∀ c ∈ cs s, c ∈ LOW ++ DIG) ∧ (cs s).length ≤ 12 := by decide +kernel
theorem low_len : LOW.length = 26 := by decide +kernel
theorem lowdig_len : (LOW ++ DIG).length = 36 := by decide +kernel
theorem upp_len : UPP.length = 26 := by decide +kernel
theorem uppdig_len : (UPP ++ DIG).length = 36 := by decide +kernel
theorem res_len : ∀ l ∈ RES, l.length ≤ 4 := by decide +kernel
theorem res0 : ∀ l ∈ RES, l ++ cs "0" ∉ RES := by decide +kernel
/-- a drawn name is made good -/
theorem gname_of {l : List Nat} (hd : ∃ c r, l = c :: r ∧ c ∈ LOW) (all : ∀ c ∈ l, c ∈ LOW ++ DIG) (le : l.length ≤ 12) : (l ∈ RES → GName (l ++ cs "0")) ∧ (l ∉ RES → GName l) := by
  refine ⟨fun h => ⟨?_, ?_, ?_, res0 l h⟩, fun h => ⟨hd, all, le, h⟩⟩
  · obtain ⟨c, r, rfl, hc⟩ := hd
    exact ⟨c, r ++ cs "0", rfl, hc⟩
  · intro c hc
    rcases List.mem_append.mp hc with h1 | h1
    · exact all c h1
    · have : ∀ c ∈ cs "0", c ∈ LOW ++ DIG := by decide +kernel
      exact this c h1
  · rw [List.length_append]
    have := res_len l h
    have : (cs "0").length = 1 := by decide +kernel
    omega
end Dw
namespace Dw
open PySem PySem.Spec PyProof.Rows L2 SX
theorem eqV_S (a b : List Nat) : eqV (.str (S a)) (.str (S b)) = decide (a = b) := by
  show (S a == S b) = _
  exact S_beq_eq
theorem inV_S (l : List Nat) : ∀ L : List (List Nat), inV (.str (S l)) (L.map vS) = decide (l ∈ L)
  | [] => by simp [inV]
  | a :: L => by
    have ih := inV_S l L
    unfold inV at ih ⊢
    rw [List.map_cons, List.any_cons, ih]
    show (eqV (.str (S a)) (.str (S l)) || _) = _
    rw [eqV_S]
    by_cases h : a = l
    · subst h; simp
    · have h' : ¬ l = a := fun e => h e.symm
      simp [h, h']
theorem flat_S : ∀ L : List (List Nat), (L.map vS).all flatV = true
  | [] => rfl
  | a :: L => by
    rw [List.map_cons, List.all_cons, flat_S L]
    rfl
theorem small {n : Nat} (h : n ≤ 10000) : n ≤ sizeLine := Nat.le_trans h (by decide)
theorem smallt {n : Nat} (h : n ≤ 10000) : n < sizeLine := Nat.lt_of_le_of_lt h (by decide)
end Dw
namespace Dw
open PySem PySem.Spec PyProof.Rows L2 SX
def SPS : List String := ["", " ", "\n", "  \n ", " ", ""]
theorem sps_ok : ∀ s ∈ SPS, (∀ c ∈ cs s, c = 32 ∨ c = 10) ∧ (cs s).length ≤ 4 := by decide +kernel
def pfx (s t : List Nat) : Bool := t.take s.length == s
def isAN (c : Nat) : Bool := Unicode.isAlnum c
/-- the two pieces need a space between them -/
def joins (a b : List Nat) : Bool := (isAN (a.getLast?.getD 0) && isAN (b.head?.getD 0)) || SGN.any fun s => decide (a.length < s.length) && pfx a s && pfx s (a ++ b)
end Dw
namespace Dw
open PySem PySem.Spec PyProof.Rows L2 SX
theorem pfx_iff {s t : List Nat} : pfx s t = true ↔ ∃ r, t = s ++ r := by
  unfold pfx
  rw [beq_iff_eq]
  constructor
  · intro h
    exact ⟨t.drop s.length, by have := List.take_append_drop s.length t; rw [h] at this; exact this.symm⟩
  · rintro ⟨r, rfl⟩
    simp
theorem pfx_le {s t : List Nat} (h : pfx s t = true) : s.length ≤ t.length := by
  obtain ⟨r, rfl⟩ := pfx_iff.mp h
  rw [List.length_append]; omega
theorem subAt_S (a b : List Nat) (i : Nat) : Builtin.Str.subAt (S a) (S b) i = pfx b (a.drop i) := by
  rw [StrLaws.subAt_eq]
  show ((a.drop i).take (S b).length == b) = _
  rw [S_len]
  rfl
theorem sw_S (a b : List Nat) : Txt.startswith (S a) (S b) = pfx b a := by
  unfold Txt.startswith
  rw [subAt_S, S_len, S_len, List.drop_zero]
  cases h : pfx b a
  · simp
  · have := pfx_le h
    simp [this]
theorem sw3_S (a b : List Nat) (i : Nat) (hi : i ≤ a.length) : Txt.startswith3 (S a) (S b) (i : Int) = pfx b (a.drop i) := by
  unfold Txt.startswith3
  have e : fromIndex (S a).length (i : Int) = i := by
    unfold fromIndex
    rw [if_neg (by omega)]
    omega
  rw [e, subAt_S, S_len, S_len]
  cases h : pfx b (a.drop i)
  · simp
  · have := pfx_le h
    rw [List.length_drop] at this
    have h2 : i + b.length ≤ a.length := by omega
    simp [h2]
theorem an_S (c : Nat) : Txt.isalnum (S [c]) = isAN c := by
  unfold Txt.isalnum isAN
  show (decide ((S [c]).length > 0) && (#[c] : Array Nat).all Unicode.isAlnum) = _
  simp [Str.length]
end Dw
namespace Dw
theorem sgn_len : ∀ s ∈ SGN, s.length ≤ 3 := by decide +kernel
end Dw
namespace Dw
open PySem PySem.Spec PyProof.Rows L2 SX
abbrev TRow := List Nat × List Nat
def flat (rows : List TRow) : List Nat := rows.flatMap fun x => x.1 ++ x.2
def places (n : Nat) : List TRow → List V
  | [] => []
  | x :: r => .int (n : Nat) :: places (n + x.1.length + x.2.length) r
theorem flat_snoc (rows : List TRow) (x : TRow) : flat (rows ++ [x]) = flat rows ++ x.1 ++ x.2 := by
  simp [flat]
theorem flat_cons (rows : List TRow) (x : TRow) : flat (x :: rows) = x.1 ++ (x.2 ++ flat rows) := by
  simp [flat]
theorem places_snoc : ∀ (n : Nat) (rows : List TRow) (x : TRow), places n (rows ++ [x]) = places n rows ++ [.int ((n + (flat rows).length : Nat) : Int)]
  | n, [], x => by simp [places, flat]
  | n, y :: r, x => by
    show V.int _ :: places (n + y.1.length + y.2.length) (r ++ [x]) = _
    rw [places_snoc]
    show _ = V.int _ :: (places (n + y.1.length + y.2.length) r ++ _)
    rw [flat_cons, List.length_append, List.length_append]
    rw [show n + y.1.length + y.2.length + (flat r).length = n + (y.1.length + (y.2.length + (flat r).length)) by omega]
theorem places_len : ∀ (n : Nat) (rows : List TRow), (places n rows).length = rows.length
  | _, [] => rfl
  | n, y :: r => by
    show (places _ r).length + 1 = r.length + 1
    rw [places_len]
def Blank (l : List Nat) : Prop := (∀ c ∈ l, c = 32 ∨ c = 10) ∧ l.length ≤ 4
/-- where two parts join, a space stands between them -/
def Sepd (rows : List TRow) : Prop := ∀ (k : Nat) (x y : TRow), rows[k]? = some x → rows[k + 1]? = some y → joins x.1 y.1 = true → x.2 ≠ []
theorem flat_len : ∀ (rows : List TRow), (∀ x ∈ rows, x.1.length ≤ 100 ∧ x.2.length ≤ 4) → (flat rows).length ≤ 104 * rows.length
  | [], _ => by simp [flat]
  | x :: r, h => by
    have ih := flat_len r fun y hy => h y (List.mem_cons_of_mem _ hy)
    have h1 := h x List.mem_cons_self
    rw [flat_cons, List.length_append, List.length_append, List.length_cons]
    omega
theorem snoc_of {l : List Nat} (h : l ≠ []) : ∃ (a' : List Nat) (x : Nat), l = a' ++ [x] := ⟨l.dropLast, l.getLast h, (List.dropLast_concat_getLast h).symm⟩
theorem cons_of {l : List Nat} (h : l ≠ []) : ∃ (y : Nat) (b' : List Nat), l = y :: b' := by
  cases l with
  | nil => exact absurd rfl h
  | cons y r => exact ⟨y, r, rfl⟩
theorem at_map {α : Type} {f : α → V} {L : List α} {i : Nat} {a : α} (h : L[i]? = some a) : atI (L.map f) (i : Int) = some (f a) := atI_nat (by rw [List.getElem?_map, h]; rfl)
end Dw
namespace Dw
open PySem PySem.Spec PyProof.Rows L2 SX
theorem Pool.ne {H : Hp} {p q t : Addr} {ns : List Int} (h : Pool H p q ns) (ht : H t = none) : t ≠ p := by
  obtain ⟨_, _, _, _, hp, _⟩ := h
  exact (ne_of_none hp ht).symm
theorem But.free {H H1 : Hp} {p q t : Addr} {ns : List Int} (hB : But p H H1) (hP : Pool H1 p q ns) (ht : H1 t = none) : H t = none := by
  cases e : H t with
  | none => rfl
  | some o =>
    have := hB t o (hP.ne ht) e
    rw [ht] at this
    cases this
end Dw
namespace Dw
open PySem PySem.Spec PyProof.Rows L2 SX
theorem tyL {K : PySem.W.Frag} {H : Hp} {a : Addr} {xs : List V} (h : H a = some (.lst xs)) : tyV K "list" (.ref a) H := .inl ⟨rfl, _, SqL.of h⟩
theorem tyV_str {K : PySem.W.Frag} {H : Hp} {z : Str} : tyV K "str" (.str z) H = True := propext ⟨fun _ => trivial, fun _ => rfl⟩
theorem But.new {p t : Addr} {H H1 : Hp} {o : HO} (hB : But p H H1) (ht : H t = none) : But p H (L2.upd H1 t o) := fun b u n h => by
  rw [upd_ne (ne_of_none h ht)]
  exact hB b u n h
theorem Pool.set {p q t : Addr} {H : Hp} {ns : List Int} {o : HO} (h : Pool H p q ns) (h1 : t ≠ p) (h2 : t ≠ q) : Pool (L2.upd H t o) p q ns := by
  obtain ⟨n, hq, a, k, hp, h0, hk⟩ := h
  exact ⟨n, by rw [upd_ne h2.symm]; exact hq, a, k, by rw [upd_ne h1.symm]; exact hp, h0, hk⟩
theorem Pool.neq {H : Hp} {p q t : Addr} {ns : List Int} (h : Pool H p q ns) (ht : H t = none) : t ≠ q := by
  obtain ⟨_, hq, _⟩ := h
  exact (ne_of_none hq ht).symm
end Dw
namespace Dw
open PySem PySem.Spec PyProof.Rows L2 SX
def num (n : Nat) : List Nat := cs (toString (n : Int))
/-- a piece of a text, the kind and the value of its token -/
inductive Piece : List Nat → List Nat → V → Prop
  | res {l : List Nat} (h : l ∈ RES) : Piece l (cs "reserved") (.str (S l))
  | name {l : List Nat} (h : GName l) : Piece l (cs "name") (.str (S l))
  | word {l : List Nat} (h : GWord l) : Piece l (cs "word") (.str (S l))
  | num (n : Nat) (h : n < 256) : Piece (num n) (cs "number") (.int (n : Int))
  | sign {l : List Nat} (h : l ∈ SGN) : Piece l (cs "sign") (.str (S l))
end Dw
namespace Dw
open PySem PySem.Spec PyProof.Rows L2 SX
theorem But.upd2 {p t : Addr} {H H1 : Hp} {o : HO} (hB : But p H H1) (ht : H1 t = none) : But p H (L2.upd H1 t o) := hB.trans (But.of (same_upd ht))
end Dw
namespace Dw
open PySem PySem.Spec PyProof.Rows L2 SX
/-! loops by a word, what follows a turn left open -/
theorem while_up {c : TT} {tb : TS} {D : Ends} {σ : L2.St} {H : Hp} (W : Nat → L2.St → Hp → Prop) (h0 : ∃ m, W m σ H)
    (hs : ∀ m σ H (N : L2.St → Hp → Prop), W m σ H → (∀ m' σ' H', m' < m → W m' σ' H' → N σ' H') → c σ H fun b H1 => if b = true then tb { D with nx := N, ct := N, bk := D.nx } σ H1 else D.nx σ H1)
    (mono : ∀ σ H Q Q', (∀ b H1, Q b H1 → Q' b H1) → c σ H Q → c σ H Q') : tWhile c tb D σ H := by
  refine ⟨W, h0, fun m σ H hw => ?_⟩
  refine mono σ H _ _ (fun b H1 q => ?_) (hs m σ H (fun σ' H' => ∃ m', m' < m ∧ W m' σ' H') hw (fun m' σ' H' h1 h2 => ⟨m', h1, h2⟩))
  cases b with
  | true => exact ⟨_, fun σ' H' h => h, q⟩
  | false => exact q
theorem for_listN {K : PySem.W.Frag} {a : Addr} {xs : List V} {g : TG} {tb : TS} {D : Ends} {σ : L2.St} {H : Hp} (Pv : Nat → L2.St → Hp → Prop) (h0 : Pv 0 σ H) (hl : ∀ i σ H, i ≤ xs.length → Pv i σ H → SqL K H a xs)
    (hs : ∀ i x σ H (N : L2.St → Hp → Prop), xs[i]? = some x → Pv i σ H → (∀ σ' H', Pv (i + 1) σ' H' → N σ' H') → g x σ H fun σ2 H2 => tb { D with nx := N, ct := N, bk := D.nx } σ2 H2) (hd : ∀ σ H, Pv xs.length σ H → D.nx σ H) :
    ForJ (Itl K a) g tb D σ H := for_list Pv h0 hl (fun i x σ H hx hp => hs i x σ H (Pv (i + 1)) hx hp (fun _ _ h => h)) hd
theorem for_tupN {K : PySem.W.Frag} {a : Addr} {xs : List V} {g : TG} {tb : TS} {D : Ends} {σ : L2.St} {H : Hp} (Pv : Nat → L2.St → Hp → Prop) (h0 : Pv 0 σ H) (hl : ∀ i σ H, i ≤ xs.length → Pv i σ H → SqT K H a xs)
    (hs : ∀ i x σ H (N : L2.St → Hp → Prop), xs[i]? = some x → Pv i σ H → (∀ σ' H', Pv (i + 1) σ' H' → N σ' H') → g x σ H fun σ2 H2 => tb { D with nx := N, ct := N, bk := D.nx } σ2 H2) (hd : ∀ σ H, Pv xs.length σ H → D.nx σ H) :
    ForJ (Itt K a) g tb D σ H := for_tup Pv h0 hl (fun i x σ H hx hp => hs i x σ H (Pv (i + 1)) hx hp (fun _ _ h => h)) hd
theorem for_rangeN {lo : Int} {n : Nat} {g : TG} {tb : TS} {D : Ends} {σ : L2.St} {H : Hp} (Pv : Nat → L2.St → Hp → Prop) (h0 : Pv 0 σ H)
    (hs : ∀ i σ H (N : L2.St → Hp → Prop), i < n → Pv i σ H → (∀ σ' H', Pv (i + 1) σ' H' → N σ' H') → g (.int (lo + i)) σ H fun σ2 H2 => tb { D with nx := N, ct := N, bk := D.nx } σ2 H2) (hd : ∀ σ H, Pv n σ H → D.nx σ H) :
    ForJ (Itr lo n) g tb D σ H := for_range Pv h0 (fun i σ H hx hp => hs i σ H (Pv (i + 1)) hx hp (fun _ _ h => h)) hd
theorem lc_listN {K : PySem.W.Frag} {a : Addr} {xs : List V} {g : TG} {tt : TT} {te : TE} {vs : List Nat} {σ : L2.St} {H1 : Hp} {D : Addr} {Qd : Hp → Prop} (Pv : Nat → Hp → Prop) (h0 : Pv 0 (upd H1 D (.lst []))) (hl : ∀ i H, i ≤ xs.length → Pv i H → SqL K H a xs)
    (hs : ∀ i x H (N : Hp → Prop), xs[i]? = some x → Pv i H → (∀ H', Pv (i + 1) H' → N H') → g x (wipe σ vs) H fun σ2 H2 => wipe σ2 vs = wipe σ vs ∧ tt σ2 H2 fun b H3 =>
      if b = true then te σ2 H3 fun y H4 => ∃ acc, H4 D = some (.lst acc) ∧ acc.length < sizeLine ∧ N (upd H4 D (.lst (acc ++ [y]))) else N H3) (hd : ∀ H, Pv xs.length H → Qd H) :
    LcJ (Itl K a) g tt te vs D σ H1 Qd := lc_list Pv h0 hl (fun i x H hx hp => hs i x H (Pv (i + 1)) hx hp (fun _ h => h)) hd
theorem lc_tupN {K : PySem.W.Frag} {a : Addr} {xs : List V} {g : TG} {tt : TT} {te : TE} {vs : List Nat} {σ : L2.St} {H1 : Hp} {D : Addr} {Qd : Hp → Prop} (Pv : Nat → Hp → Prop) (h0 : Pv 0 (upd H1 D (.lst []))) (hl : ∀ i H, i ≤ xs.length → Pv i H → SqT K H a xs)
    (hs : ∀ i x H (N : Hp → Prop), xs[i]? = some x → Pv i H → (∀ H', Pv (i + 1) H' → N H') → g x (wipe σ vs) H fun σ2 H2 => wipe σ2 vs = wipe σ vs ∧ tt σ2 H2 fun b H3 =>
      if b = true then te σ2 H3 fun y H4 => ∃ acc, H4 D = some (.lst acc) ∧ acc.length < sizeLine ∧ N (upd H4 D (.lst (acc ++ [y]))) else N H3) (hd : ∀ H, Pv xs.length H → Qd H) :
    LcJ (Itt K a) g tt te vs D σ H1 Qd := lc_tup Pv h0 hl (fun i x H hx hp => hs i x H (Pv (i + 1)) hx hp (fun _ h => h)) hd
theorem lc_rangeN {lo : Int} {n : Nat} {g : TG} {tt : TT} {te : TE} {vs : List Nat} {σ : L2.St} {H1 : Hp} {D : Addr} {Qd : Hp → Prop} (Pv : Nat → Hp → Prop) (h0 : Pv 0 (upd H1 D (.lst [])))
    (hs : ∀ i H (N : Hp → Prop), i < n → Pv i H → (∀ H', Pv (i + 1) H' → N H') → g (.int (lo + i)) (wipe σ vs) H fun σ2 H2 => wipe σ2 vs = wipe σ vs ∧ tt σ2 H2 fun b H3 =>
      if b = true then te σ2 H3 fun y H4 => ∃ acc, H4 D = some (.lst acc) ∧ acc.length < sizeLine ∧ N (upd H4 D (.lst (acc ++ [y]))) else N H3) (hd : ∀ H, Pv n H → Qd H) :
    LcJ (Itr lo n) g tt te vs D σ H1 Qd := lc_range Pv h0 (fun i H hx hp => hs i H (Pv (i + 1)) hx hp (fun _ h => h)) hd
theorem cut_by {t u : TS} {D : Ends} {σ : L2.St} {H : Hp} (M : L2.St → Hp → Prop) (h1 : ∀ N : L2.St → Hp → Prop, (∀ σ' H', M σ' H' → N σ' H') → t { D with nx := N } σ H) (h2 : ∀ σ' H', M σ' H' → u D σ' H') : C8.tCut t u D σ H :=
  ⟨M, h1 M (fun _ _ h => h), h2⟩
/-! signs at the head of what is left -/
def hdIn (ch : List Nat) : List Nat → Bool
  | [] => false
  | c :: _ => decide (c ∈ ch)
theorem run_split (ch : List Nat) : ∀ l : List Nat, ∃ a b, l = a ++ b ∧ (∀ c ∈ a, c ∈ ch) ∧ hdIn ch b = false
  | [] => ⟨[], [], rfl, (fun _ h => nomatch h), rfl⟩
  | c :: r => by
    by_cases h : c ∈ ch
    · obtain ⟨a, b, rfl, h1, h2⟩ := run_split ch r
      refine ⟨c :: a, b, rfl, fun d hd => ?_, h2⟩
      rcases List.mem_cons.mp hd with e | e
      · rw [e]; exact h
      · exact h1 d e
    · exact ⟨[], c :: r, rfl, (fun _ h => nomatch h), decide_eq_false h⟩
theorem at_app {pre : List Nat} {c : Nat} {r : List Nat} : atI (pre ++ c :: r) ((pre.length : Nat) : Int) = some c := by
  refine atI_nat ?_
  rw [List.getElem?_append_right (Nat.le_refl _), Nat.sub_self]
  rfl
theorem cut_mid (pre l rest : List Nat) : Txt.slice (S (pre ++ (l ++ rest))) (some ((pre.length : Nat) : Int)) (some ((pre.length + l.length : Nat) : Int)) = S l := by
  rw [← C8.cutS_slice]
  unfold cutS
  rw [HT.sIx_nat, HT.sIx_nat, len_S, S_cps]
  have e1 : min pre.length (pre ++ (l ++ rest)).length = pre.length := by
    rw [List.length_append]; omega
  have e2 : min (pre.length + l.length) (pre ++ (l ++ rest)).length = pre.length + l.length := by
    rw [List.length_append, List.length_append]; omega
  rw [e1, e2, List.drop_left, Nat.add_sub_cancel_left, List.take_left]
end Dw
namespace Dw
open PySem PySem.Spec PyProof.Rows L2 SX
def NxW (W : Nat → L2.St → Hp → Prop) (m : Nat) (tb : TS) (D : Ends) (σ : L2.St) (H1 : Hp) : Prop := ∃ N : L2.St → Hp → Prop, (∀ σ' H', N σ' H' → ∃ m', m' < m ∧ W m' σ' H') ∧ tb { D with nx := N, ct := N, bk := D.nx } σ H1
theorem nxw_of {W : Nat → L2.St → Hp → Prop} {m : Nat} {tb : TS} {D : Ends} {σ : L2.St} {H1 : Hp} (h : ∀ N : L2.St → Hp → Prop, (∀ m' σ' H', m' < m → W m' σ' H' → N σ' H') → tb { D with nx := N, ct := N, bk := D.nx } σ H1) : NxW W m tb D σ H1 :=
  ⟨_, fun _ _ h => h, h (fun σ' H' => ∃ m', m' < m ∧ W m' σ' H') fun m' σ' H' h1 h2 => ⟨m', h1, h2⟩⟩
theorem while_W {c : TT} {tb : TS} {D : Ends} {σ : L2.St} {H : Hp} (W : Nat → L2.St → Hp → Prop) (h0 : ∃ m, W m σ H)
    (hs : ∀ m σ H, W m σ H → c σ H fun b H1 => if b = true then NxW W m tb D σ H1 else D.nx σ H1) : tWhile c tb D σ H := ⟨W, h0, hs⟩
end Dw
namespace Dw
open PySem PySem.Spec PyProof.Rows L2 SX
/-- a run of these signs and figures, a sign first, of at most 12 -/
def run (ch l : List Nat) : Bool := decide (1 ≤ l.length) && decide (l.length ≤ 12) && hdIn ch l && l.all fun c => decide (c ∈ ch ++ DIG)
/-- a value that is no text -/
inductive NoStr (H : Hp) : V → Prop
  | non : NoStr H .non
  | int (i : Int) : NoStr H (.int i)
  | bl (b : Bool) : NoStr H (.bl b)
  | tup {a : Addr} {xs : List V} (h : H a = some (.tup xs)) : NoStr H (.ref a)
theorem kit_str {K : PySem.W.Frag} : PySem.W.kitOne K (.type "str") (.type "str") = some true := kit_ty (by decide +kernel)
theorem NoStr.ty {K : PySem.W.Frag} {H : Hp} {v : V} (h : NoStr H v) : ∃ t, TyX K H v t ∧ PySem.W.kitOne K t (.type "str") = some false := by
  cases h with
  | non => exact ⟨_, .base .non, kit_ty (by decide +kernel)⟩
  | int i => exact ⟨_, .base (.int i), kit_ty (by decide +kernel)⟩
  | bl b => exact ⟨_, .base (.bl b), kit_ty (by decide +kernel)⟩
  | tup h => exact ⟨_, .base (.tup h), kit_ty (by decide +kernel)⟩
theorem gname_iff {l : List Nat} : (run LOW l && !decide (l ∈ RES)) = true ↔ GName l := by
  unfold run
  constructor
  · intro h
    simp only [Bool.and_eq_true, decide_eq_true_eq, List.all_eq_true, Bool.not_eq_true', decide_eq_false_iff_not] at h
    obtain ⟨⟨⟨⟨h1, h2⟩, h3⟩, h4⟩, h5⟩ := h
    refine ⟨?_, h4, h2, h5⟩
    cases l with
    | nil => exact absurd h1 (by decide)
    | cons c r => exact ⟨c, r, rfl, of_decide_eq_true h3⟩
  · rintro ⟨⟨c, r, rfl, hc⟩, h2, h3, h4⟩
    simp only [Bool.and_eq_true, decide_eq_true_eq, List.all_eq_true, Bool.not_eq_true', decide_eq_false_iff_not]
    exact ⟨⟨⟨⟨by simp, h3⟩, decide_eq_true hc⟩, h2⟩, h4⟩
end Dw
namespace Dw
open PySem PySem.Spec PyProof.Rows L2 SX
structure After (l rest : List Nat) : Prop where
  an : ∀ x, l.getLast? = some x → isAN x = true → ∀ y r, rest = y :: r → isAN y = false
  sg : ∀ s ∈ SGN, l.length < s.length → pfx l s = true → pfx s (l ++ rest) = false
theorem an_ld : ∀ c ∈ LOW ++ DIG, isAN c = true := by decide +kernel
theorem an_ud : ∀ c ∈ UPP ++ DIG, isAN c = true := by decide +kernel
theorem After.hd {l rest ch : List Nat} (h : After l rest) (hne : l ≠ []) (al : ∀ c ∈ l, isAN c = true) (hch : ∀ c ∈ ch, isAN c = true) : hdIn ch rest = false := by
  cases rest with
  | nil => rfl
  | cons y r =>
    have h1 := h.an _ (List.getLast?_eq_some_getLast hne) (al _ (List.getLast_mem hne)) y r rfl
    refine decide_eq_false fun hy => ?_
    rw [hch y hy] at h1
    cases h1
theorem res_ok : ∀ l ∈ RES, (∃ c r, l = c :: r ∧ c ∈ LOW) ∧ (∀ c ∈ l, c ∈ LOW ++ DIG) ∧ l.length ≤ 12 := by decide +kernel
theorem sgn_ok : ∀ l ∈ SGN, l ≠ [] ∧ hdIn LOW l = false ∧ hdIn UPP l = false ∧ hdIn DIG l = false ∧ hdIn [32, 10] l = false := by decide +kernel
theorem low_ok : ∀ c ∈ LOW, c ≠ 32 ∧ c ≠ 10 := by decide +kernel
theorem upp_ok : ∀ c ∈ UPP, c ∉ LOW ∧ c ≠ 32 ∧ c ≠ 10 := by decide +kernel
theorem dig_ok : ∀ c ∈ DIG, c ∉ LOW ∧ c ∉ UPP ∧ c ≠ 32 ∧ c ≠ 10 := by decide +kernel
theorem num_ok : ∀ n : Nat, n < 256 → num n ≠ [] ∧ (∀ c ∈ num n, c ∈ DIG) ∧ (num n).length ≤ 3 ∧ ((num n).head? = some 48 → (num n).length = 1) ∧ (num n).all (fun c => decide (48 ≤ c) && decide (c ≤ 57)) = true ∧ NumText.digitsVal (num n) = n := by decide +kernel
/-- a sign stands ahead of the signs that it begins with -/
theorem sgn_first : ∀ (i j : Fin 24), i < j → pfx (SGN.getD i []) (SGN.getD j []) = false := by decide +kernel
theorem num_int {n : Nat} (h : n < 256) : intText? (S (num n)) = some (n : Int) := by
  obtain ⟨h1, h2, h3, h4, h5, h6⟩ := num_ok n h
  rw [int_S h5 h1 (by omega), h6]
end Dw
namespace Dw
open PySem PySem.Spec PyProof.Rows L2 SX
theorem sgn_len24 : SGN.length = 24 := by decide +kernel
theorem sgn_before {i j : Nat} {s l : List Nat} (h : i < j) (hi : SGN[i]? = some s) (hj : SGN[j]? = some l) : pfx s l = false := by
  have h1 : j < 24 := by
    have := (List.getElem?_eq_some_iff.mp hj).1
    rw [sgn_len24] at this
    exact this
  have := sgn_first ⟨i, by omega⟩ ⟨j, h1⟩ h
  rw [List.getD_eq_getElem?_getD, List.getD_eq_getElem?_getD] at this
  rw [show SGN[(⟨i, by omega⟩ : Fin 24).val]? = some s from hi, show SGN[(⟨j, h1⟩ : Fin 24).val]? = some l from hj] at this
  exact this
theorem pfx_short {s l r : List Nat} (h : pfx s (l ++ r) = true) (hl : s.length ≤ l.length) : pfx s l = true := by
  unfold pfx at h ⊢
  rw [List.take_append_of_le_length hl] at h
  exact h
theorem pfx_two {s l r : List Nat} (h : pfx s (l ++ r) = true) (hl : l.length ≤ s.length) : pfx l s = true := by
  unfold pfx at h ⊢
  rw [beq_iff_eq] at h ⊢
  rw [← h, List.take_take, Nat.min_eq_left hl, List.take_left]
end Dw
namespace Dw
open PySem PySem.Spec PyProof.Rows L2 SX
/-- a piece, the space behind it, its token's kind and value -/
structure Itm where
  l : List Nat
  sp : List Nat
  k : List Nat
  v : V
def irow (x : Itm) : TRow := (x.l, x.sp)
abbrev iflat (r : List Itm) : List Nat := flat (r.map irow)
def Goods : List Itm → Prop
  | [] => True
  | x :: r => Piece x.l x.k x.v ∧ Blank x.sp ∧ After x.l (x.sp ++ iflat r) ∧ Goods r
theorem iflat_cons (x : Itm) (r : List Itm) : iflat (x :: r) = x.l ++ (x.sp ++ iflat r) := flat_cons _ _
/-- the tokens of these items stand at these places -/
def Toks (H : Hp) : Nat → List Itm → List Addr → Prop
  | _, [], [] => True
  | n, x :: r, a :: as => H a = some (.tup [.str (S x.k), x.v, .int (n : Nat)]) ∧ Toks H (n + x.l.length + x.sp.length) r as
  | _, _, _ => False
theorem Toks.same {H H' : Hp} (e : Same H H') : ∀ {n : Nat} {r : List Itm} {as : List Addr}, Toks H n r as → Toks H' n r as
  | _, [], [], _ => trivial
  | _, x :: r, a :: as, h => ⟨e _ _ h.1, Toks.same e h.2⟩
  | _, [], _ :: _, h => h.elim
  | _, _ :: _, [], h => h.elim
theorem Toks.but {p : Addr} {H H' : Hp} (e : But p H H') (hp : ∀ xs, H p ≠ some (.tup xs)) : ∀ {n : Nat} {r : List Itm} {as : List Addr}, Toks H n r as → Toks H' n r as
  | _, [], [], _ => trivial
  | _, x :: r, a :: as, h => ⟨e _ _ (fun q => hp _ (q ▸ h.1)) h.1, Toks.but e hp h.2⟩
  | _, [], _ :: _, h => h.elim
  | _, _ :: _, [], h => h.elim
theorem Toks.len {H : Hp} : ∀ {n : Nat} {r : List Itm} {as : List Addr}, Toks H n r as → as.length = r.length
  | _, [], [], _ => rfl
  | _, x :: r, a :: as, h => congrArg (· + 1) (Toks.len h.2)
  | _, [], _ :: _, h => h.elim
  | _, _ :: _, [], h => h.elim
theorem Toks.snoc {H : Hp} {x : Itm} {a : Addr} : ∀ {n : Nat} {r : List Itm} {as : List Addr}, Toks H n r as → H a = some (.tup [.str (S x.k), x.v, .int ((n + (iflat r).length : Nat) : Int)]) → Toks H n (r ++ [x]) (as ++ [a])
  | _, [], [], _, h => ⟨h, trivial⟩
  | n, y :: r, b :: as, h, h2 => ⟨h.1, Toks.snoc h.2 (by
      rw [iflat_cons, List.length_append, List.length_append] at h2
      rw [show n + y.l.length + y.sp.length + (iflat r).length = n + (y.l.length + (y.sp.length + (iflat r).length)) by omega]
      exact h2)⟩
  | _, [], _ :: _, h, _ => h.elim
  | _, _ :: _, [], h, _ => h.elim
theorem Goods.append : ∀ {a b : List Itm}, Goods (a ++ b) → Goods b
  | [], _, h => h
  | _ :: a, _, h => Goods.append (a := a) h.2.2.2
theorem piece_hd {l k : List Nat} {v : V} (h : Piece l k v) : ∃ c r, l = c :: r ∧ c ≠ 32 ∧ c ≠ 10 := by
  cases h with
  | res h =>
    obtain ⟨⟨c, r, e, hc⟩, _⟩ := res_ok l h
    exact ⟨c, r, e, low_ok c hc⟩
  | name h =>
    obtain ⟨c, r, e, hc⟩ := h.hd
    exact ⟨c, r, e, low_ok c hc⟩
  | word h =>
    obtain ⟨c, r, e, hc⟩ := h.hd
    exact ⟨c, r, e, (upp_ok c hc).2⟩
  | num n h =>
    obtain ⟨n1, n2, _⟩ := num_ok n h
    obtain ⟨c, r, e⟩ := cons_of n1
    exact ⟨c, r, e, (dig_ok c (n2 c (by rw [e]; exact List.mem_cons_self))).2.2⟩
  | sign h =>
    obtain ⟨n1, _, _, _, n5⟩ := sgn_ok l h
    obtain ⟨c, r, e⟩ := cons_of n1
    rw [e] at n5
    have : c ∉ [32, 10] := of_decide_eq_false n5
    simp at this
    exact ⟨c, r, e, this⟩
theorem piece_len {l k : List Nat} {v : V} (h : Piece l k v) : l.length ≤ 12 := by
  cases h with
  | res h => exact (res_ok l h).2.2
  | name h => exact h.le
  | word h => exact h.le
  | num n h => have := (num_ok n h).2.2.1; omega
  | sign h => have := sgn_len l h; omega
end Dw
namespace Dw
open PySem PySem.Spec PyProof.Rows L2 SX
theorem Same.new {H H1 : Hp} {t : Addr} {o : HO} (e : Same H H1) (ht : H t = none) : Same H (L2.upd H1 t o) := fun b u h => by
  rw [upd_ne (ne_of_none h ht)]
  exact e b u h
end Dw
namespace Dw
open PySem PySem.Spec PyProof.Rows L2 SX
/-! the tokens as data -/
inductive TV : V → PyData → Prop
  | str (z : Str) : TV (.str z) (.str z)
  | int (i : Int) : TV (.int i) (.int i)
def vD : V → PyData
  | .str z => .str z
  | .int i => .int i
  | _ => .none
theorem piece_vD {l k : List Nat} {v : V} (h : Piece l k v) : TV v (vD v) := by
  cases h <;> constructor
def tokD (n : Nat) (x : Itm) : PyData := .tuple [.str (S x.k), vD x.v, .int (n : Nat)]
def toksD : Nat → List Itm → List PyData
  | _, [] => []
  | n, x :: r => tokD n x :: toksD (n + x.l.length + x.sp.length) r
theorem vD_depth (v : V) : (vD v).depth = 0 := by
  cases v <;> simp [vD, PyData.depth]
theorem ok_S {l : List Nat} (h : ∀ c ∈ l, c < 128) : PyData.strOk (S l) = true := by
  unfold PyData.strOk
  rw [← Array.all_toList]
  exact List.all_eq_true.mpr fun c hc => decide_eq_true (Nat.lt_trans (h c hc) (by decide))
theorem ld_128 : ∀ c ∈ LOW ++ DIG, c < 128 := by decide +kernel
theorem ud_128 : ∀ c ∈ UPP ++ DIG, c < 128 := by decide +kernel
theorem sgn_128 : ∀ s ∈ SGN, ∀ c ∈ s, c < 128 := by decide +kernel
theorem kinds_128 : ∀ s ∈ (["reserved", "name", "word", "number", "sign"] : List String), ∀ c ∈ cs s, c < 128 := by decide +kernel
structure LayI (x : Itm) : Prop where
  k : PyData.strOk (S x.k) = true
  v : (vD x.v).canLay0 = true
theorem piece_lay {l k : List Nat} {v : V} (h : Piece l k v) : PyData.strOk (S k) = true ∧ (vD v).canLay0 = true := by
  cases h with
  | res h => exact ⟨ok_S (kinds_128 "reserved" (by simp)), by simp only [vD, PyData.canLay0]; exact ok_S fun c hc => ld_128 c ((res_ok l h).2.1 c hc)⟩
  | name h => exact ⟨ok_S (kinds_128 "name" (by simp)), by simp only [vD, PyData.canLay0]; exact ok_S fun c hc => ld_128 c (h.all c hc)⟩
  | word h => exact ⟨ok_S (kinds_128 "word" (by simp)), by simp only [vD, PyData.canLay0]; exact ok_S fun c hc => ud_128 c (h.all c hc)⟩
  | num n h => exact ⟨ok_S (kinds_128 "number" (by simp)), by simp only [vD, PyData.canLay0]⟩
  | sign h => exact ⟨ok_S (kinds_128 "sign" (by simp)), by simp only [vD, PyData.canLay0]; exact ok_S fun c hc => sgn_128 l h c hc⟩
theorem toksD_lay : ∀ (n : Nat) (r : List Itm), (∀ x ∈ r, LayI x) → PyData.canLayAll0 (toksD n r) = true
  | _, [], _ => by simp [toksD, PyData.canLayAll0]
  | n, x :: r, h => by
    have h1 := h x List.mem_cons_self
    simp [toksD, tokD, PyData.canLayAll0, PyData.canLay0, h1.k, h1.v, toksD_lay _ r fun y hy => h y (List.mem_cons_of_mem _ hy)]
theorem toksD_depth : ∀ (n : Nat) (r : List Itm), PyData.depthAll (toksD n r) ≤ 1
  | _, [] => by simp [toksD, PyData.depthAll]
  | n, x :: r => by
    have h1 := toksD_depth (n + x.l.length + x.sp.length) r
    simp only [toksD, tokD, PyData.depthAll, PyData.depth, vD_depth x.v]
    omega
theorem toksD_shaped (n : Nat) (r : List Itm) (h : ∀ x ∈ r, LayI x) : SeqAt.shaped (.list (toksD n r)) = true := by
  have h1 := toksD_depth n r
  have h2 : PyData.depth (.list (toksD n r)) ≤ 64 := by
    simp only [PyData.depth]
    omega
  show (PyData.canLay0 (.list (toksD n r)) && decide (PyData.depth (.list (toksD n r)) ≤ 64)) = true
  rw [Bool.and_eq_true]
  exact ⟨by simp only [PyData.canLay0]; exact toksD_lay n r h, decide_eq_true h2⟩
theorem shaped_refl {d : PyData} (h : SeqAt.shaped d = true) : PyData.eqv d d = true := SeqAt.eqv_refl d (SeqAt.canLay_of_shaped h)
theorem toks_dp {K : PySem.W.Frag} {H : Hp} : ∀ {n : Nat} {r : List Itm} {as : List Addr}, (∀ x ∈ r, TV x.v (vD x.v)) → Toks H n r as → DpAll K H (as.map V.ref) (toksD n r)
  | _, [], [], _, _ => .nil
  | n, x :: r, a :: as, hv, h => by
    refine .cons (.tup (SqT.of h.1) (.cons (.str _) (.cons ?_ (.cons (.int _) .nil)))) (toks_dp (fun y hy => hv y (List.mem_cons_of_mem _ hy)) h.2)
    have := hv x List.mem_cons_self
    generalize vD x.v = d at this
    cases hx : x.v <;> rw [hx] at this <;> cases this
    · exact .int _
    · exact .str _
  | _, [], _ :: _, _, h => h.elim
  | _, _ :: _, [], _, h => h.elim
theorem strs_lay : ∀ L : List (List Nat), (∀ l ∈ L, ∀ c ∈ l, c < 128) → PyData.canLayAll0 (L.map fun l => .str (S l)) = true
  | [], _ => by simp [PyData.canLayAll0]
  | l :: L, h => by simp [PyData.canLayAll0, PyData.canLay0, ok_S (h l List.mem_cons_self), strs_lay L fun m hm => h m (List.mem_cons_of_mem _ hm)]
theorem strs_depth : ∀ L : List (List Nat), PyData.depthAll (L.map fun l => .str (S l)) = 0
  | [] => by simp [PyData.depthAll]
  | l :: L => by simp [PyData.depthAll, PyData.depth, strs_depth L]
theorem strs_shaped (L : List (List Nat)) (h : ∀ l ∈ L, ∀ c ∈ l, c < 128) : SeqAt.shaped (.list (L.map fun l => .str (S l))) = true := by
  simp [SeqAt.shaped, PyData.canLay0, PyData.depth, strs_lay L h, strs_depth]
theorem res_128 : ∀ s ∈ RES, ∀ c ∈ s, c < 128 := by decide +kernel
theorem strs_dp {K : PySem.W.Frag} {H : Hp} : ∀ L : List (List Nat), DpAll K H (L.map vS) (L.map fun l => .str (S l))
  | [] => .nil
  | _ :: L => .cons (.str _) (strs_dp L)
/-! pieces as they stand -/
structure Pc where
  r : Addr
  t : Addr
  l : List Nat
  k : List Nat
  v : V
def PcsAt (H : Hp) (ps : List Pc) : Prop := ∀ x ∈ ps, Piece x.l x.k x.v ∧ H x.r = some (.lst [.str (S x.l), .ref x.t]) ∧ H x.t = some (.tup [.str (S x.k), x.v])
theorem PcsAt.same {H H' : Hp} {ps : List Pc} (h : PcsAt H ps) (e : Same H H') : PcsAt H' ps := fun x hx => ⟨(h x hx).1, e _ _ (h x hx).2.1, e _ _ (h x hx).2.2⟩
/-- at p stands none of the pieces' objects -/
theorem PcsAt.but {H H' : Hp} {p : Addr} {ps : List Pc} (h : PcsAt H ps) (e : But p H H') (h1 : ∀ l t, H p ≠ some (.lst [.str l, .ref t])) (h2 : ∀ xs, H p ≠ some (.tup xs)) : PcsAt H' ps := fun x hx =>
  ⟨(h x hx).1, e _ _ (fun q => h1 _ _ (q ▸ (h x hx).2.1)) (h x hx).2.1, e _ _ (fun q => h2 _ (q ▸ (h x hx).2.2)) (h x hx).2.2⟩
theorem PcsAt.pool {H H' : Hp} {p q : Addr} {ns : List Int} {ps : List Pc} (h : PcsAt H ps) (hP : Pool H p q ns) (e : But p H H') : PcsAt H' ps := by
  obtain ⟨_, _, a, k, hp, _⟩ := hP
  refine h.but e (fun l t e2 => ?_) (fun xs e2 => ?_)
  · rw [hp] at e2
    cases e2
  · rw [hp] at e2
    cases e2
theorem Toks.pool {H H' : Hp} {p q : Addr} {ns : List Int} {n : Nat} {r : List Itm} {as : List Addr} (h : Toks H n r as) (hP : Pool H p q ns) (e : But p H H') : Toks H' n r as := by
  obtain ⟨_, _, a, k, hp, _⟩ := hP
  refine h.but e (fun xs e2 => ?_)
  rw [hp] at e2
  cases e2
/-! what stands behind a piece -/
def mkI : List Pc → List TRow → List Itm
  | x :: ps, y :: rs => ⟨x.l, y.2, x.k, x.v⟩ :: mkI ps rs
  | _, _ => []
theorem mkI_rows : ∀ (ps : List Pc) (rows : List TRow), rows.map (·.1) = ps.map (·.l) → (mkI ps rows).map irow = rows
  | [], [], _ => rfl
  | x :: ps, y :: rs, h => by
    rw [List.map_cons, List.map_cons] at h
    obtain ⟨h1, h2⟩ := List.cons.inj h
    show irow _ :: (mkI ps rs).map irow = y :: rs
    rw [mkI_rows ps rs h2]
    show ((x.l, y.2) : TRow) :: rs = y :: rs
    rw [← h1]
  | [], _ :: _, h => by cases h
  | _ :: _, [], h => by cases h
theorem mkI_len : ∀ (ps : List Pc) (rows : List TRow), rows.map (·.1) = ps.map (·.l) → (mkI ps rows).length = ps.length
  | [], [], _ => rfl
  | x :: ps, y :: rs, h => by
    rw [List.map_cons, List.map_cons] at h
    exact congrArg (· + 1) (mkI_len ps rs (List.cons.inj h).2)
  | [], _ :: _, h => by cases h
  | _ :: _, [], h => by cases h
theorem mkI_get : ∀ (ps : List Pc) (rows : List TRow) (i : Nat) (x : Pc) (y : TRow), ps[i]? = some x → rows[i]? = some y → (mkI ps rows)[i]? = some ⟨x.l, y.2, x.k, x.v⟩
  | [], _, _, _, _, h, _ => by simp at h
  | _ :: _, [], _, _, _, _, h => by simp at h
  | a :: ps, b :: rs, 0, x, y, h1, h2 => by
    obtain rfl := Option.some.inj h1
    obtain rfl := Option.some.inj h2
    rfl
  | a :: ps, b :: rs, i + 1, x, y, h1, h2 => mkI_get ps rs i x y h1 h2
theorem an_sp : isAN 32 = false ∧ isAN 10 = false := by decide +kernel
theorem sgn_nosp : ∀ s ∈ SGN, ∀ c ∈ s, c ≠ 32 ∧ c ≠ 10 := by decide +kernel
theorem sgn_take : ∀ s ∈ SGN, s.length = 3 → s.take 2 ∈ SGN := by decide +kernel
theorem piece_ne {l k : List Nat} {v : V} (h : Piece l k v) : l ≠ [] := by
  obtain ⟨c, r, e, _⟩ := piece_hd h
  rw [e]
  exact List.cons_ne_nil _ _
theorem joins_no {a b : List Nat} (h : joins a b = false) : (isAN (a.getLast?.getD 0) && isAN (b.head?.getD 0)) = false ∧ ∀ s ∈ SGN, (decide (a.length < s.length) && pfx a s && pfx s (a ++ b)) = false := by
  unfold joins at h
  rw [Bool.or_eq_false_iff, List.any_eq_false] at h
  exact ⟨h.1, fun s hs => Bool.eq_false_iff.mpr (h.2 s hs)⟩
theorem after_of {l sp rest : List Nat} (hb : ∀ c ∈ sp, c = 32 ∨ c = 10) (hr : sp = [] → rest ≠ [] → ∃ b tl, rest = b ++ tl ∧ b ≠ [] ∧ l ≠ [] ∧ joins l b = false) : After l (sp ++ rest) := by
  constructor
  · intro x hx hax y r hy
    cases sp with
    | cons c sp' =>
      obtain rfl : c = y := (List.cons.inj hy).1
      rcases hb c List.mem_cons_self with e | e
      · rw [e]; exact an_sp.1
      · rw [e]; exact an_sp.2
    | nil =>
      rw [List.nil_append] at hy
      obtain ⟨b, tl, e, hbn, _, hj⟩ := hr rfl (by rw [hy]; exact List.cons_ne_nil _ _)
      obtain ⟨c, b', rfl⟩ := cons_of hbn
      rw [e] at hy
      obtain rfl : c = y := (List.cons.inj hy).1
      have h1 := (joins_no hj).1
      rw [hx] at h1
      simpa [hax] using h1
  · intro s hs hlt hp
    cases hc : pfx s (l ++ (sp ++ rest)) with
    | false => rfl
    | true =>
      exfalso
      have hs3 := sgn_len s hs
      obtain ⟨u, hu⟩ := pfx_iff.mp hp
      have hune : u ≠ [] := fun e => by rw [hu, e, List.append_nil] at hlt; exact Nat.lt_irrefl _ hlt
      obtain ⟨w, hw⟩ := pfx_iff.mp hc
      rw [hu, List.append_assoc] at hw
      have hw2 := List.append_cancel_left hw
      obtain ⟨d, u', rfl⟩ := cons_of hune
      cases sp with
      | cons c sp' =>
        have e : c = d := (List.cons.inj hw2).1
        have h1 := sgn_nosp s hs d (by rw [hu]; simp)
        rcases hb c List.mem_cons_self with e2 | e2
        · exact h1.1 (by rw [← e, e2])
        · exact h1.2 (by rw [← e, e2])
      | nil =>
        rw [List.nil_append] at hw2 hc
        obtain ⟨b, tl, e, hbn, hln, hj⟩ := hr rfl (by rw [hw2]; exact List.cons_ne_nil _ _)
        have hno := (joins_no hj).2
        by_cases hle : s.length ≤ (l ++ b).length
        · have h3 := hno s hs
          rw [decide_eq_true hlt, hp] at h3
          rw [e, ← List.append_assoc] at hc
          rw [pfx_short hc hle] at h3
          cases h3
        · have l1 : 1 ≤ l.length := List.length_pos_iff.mpr hln
          have b1 : 1 ≤ b.length := List.length_pos_iff.mpr hbn
          rw [List.length_append] at hle
          have hs3' : s.length = 3 := by omega
          have hll : l.length = 1 := by omega
          have hbb : b.length = 1 := by omega
          have ht := sgn_take s hs hs3'
          have et : s.take 2 = l ++ b := by
            rw [e, ← List.append_assoc] at hc
            obtain ⟨w2, hw3⟩ := pfx_iff.mp hc
            have : (l ++ b ++ tl).take 2 = l ++ b := by
              rw [List.take_append_of_le_length (by rw [List.length_append]; omega), List.take_of_length_le (by rw [List.length_append]; omega)]
            rw [← this, hw3, List.take_append_of_le_length (by omega)]
          have h3 := hno _ ht
          rw [et] at h3
          have e1 : decide (l.length < (l ++ b).length) = true := decide_eq_true (by rw [List.length_append]; omega)
          have e2 : pfx l (l ++ b) = true := pfx_iff.mpr ⟨b, rfl⟩
          have e3 : pfx (l ++ b) (l ++ b) = true := pfx_iff.mpr ⟨[], by simp⟩
          rw [e1, e2, e3] at h3
          cases h3
theorem goods_of : ∀ (ps : List Pc) (rows : List TRow), rows.map (·.1) = ps.map (·.l) → (∀ x ∈ rows, Blank x.2) → Sepd rows → (∀ x ∈ ps, Piece x.l x.k x.v) → Goods (mkI ps rows)
  | [], [], _, _, _, _ => trivial
  | x :: ps, y :: rs, h, hb, hs, hp => by
    have h0 := h
    rw [List.map_cons, List.map_cons] at h
    obtain ⟨h1, h2⟩ := List.cons.inj h
    refine ⟨hp x List.mem_cons_self, hb y List.mem_cons_self, ?_, goods_of ps rs h2 (fun z hz => hb z (List.mem_cons_of_mem _ hz)) (fun k a b ha hb' => hs (k + 1) a b ha hb') (fun z hz => hp z (List.mem_cons_of_mem _ hz))⟩
    show After x.l (y.2 ++ flat ((mkI ps rs).map irow))
    rw [mkI_rows ps rs h2]
    refine after_of (hb y List.mem_cons_self).1 (fun hsp hne => ?_)
    cases rs with
    | nil => exact absurd rfl hne
    | cons z rs' =>
      cases ps with
      | nil => cases h2
      | cons w ps' =>
        have hw : z.1 = w.l := (List.cons.inj h2).1
        refine ⟨z.1, z.2 ++ flat rs', flat_cons _ _, by rw [hw]; exact piece_ne (hp w (by simp)), piece_ne (hp x (by simp)), ?_⟩
        cases hj : joins x.l z.1 with
        | false => rfl
        | true => exact absurd hsp (hs 0 y z rfl rfl (by rw [h1]; exact hj))
  | [], _ :: _, h, _, _, _ => by cases h
  | _ :: _, [], h, _, _, _ => by cases h
theorem places_get : ∀ (n : Nat) (rows : List TRow) (i : Nat), i < rows.length → (places n rows)[i]? = some (.int ((n + (flat (rows.take i)).length : Nat) : Int))
  | n, y :: r, 0, _ => by simp [places, flat]
  | n, y :: r, i + 1, h => by
    show (places (n + y.1.length + y.2.length) r)[i]? = _
    rw [places_get _ r i (Nat.lt_of_succ_lt_succ h), List.take_succ_cons, flat_cons, List.length_append, List.length_append]
    rw [show n + y.1.length + y.2.length + (flat (r.take i)).length = n + (y.1.length + (y.2.length + (flat (r.take i)).length)) by omega]
theorem goods_mem : ∀ {is : List Itm}, Goods is → ∀ x ∈ is, Piece x.l x.k x.v
  | [], _, _, h => nomatch h
  | y :: r, g, x, h => by
    rcases List.mem_cons.mp h with e | e
    · rw [e]; exact g.1
    · exact goods_mem g.2.2.2 x e
end Dw
namespace Dw
open PySem PySem.Spec PyProof.Rows L2 SX
/-! rules that name the written part K itself (for a comprehension's block) -/
section
variable {X : Cx} (K : PySem.W.Frag)
theorem ixL (h : X.K = K := by rfl) : IxR X (rIxL K) := h ▸ ix_list
theorem ixT (h : X.K = K := by rfl) : IxR X (rIxT K) := h ▸ ix_tup
def rLen (K : PySem.W.Frag) : List V → Hp → VK → Prop := fun xs H Q => ∃ p ys, xs = [.ref p] ∧ (SqL K H p ys ∨ SqT K H p ys) ∧ Q (.int ys.length) H
theorem lenS (h : X.K = K := by rfl) : CallR X (.builtin "len") (rLen K) := h ▸ call_len_seq
theorem inQ (h : X.K = K := by rfl) : OpR X (compareOp .In) (rIn K false) := h ▸ op_in_seq
theorem notInQ (h : X.K = K := by rfl) : OpR X (compareOp .NotIn) (rIn K true) := h ▸ op_notIn_seq
theorem catA (h : X.K = K := by rfl) : OpR X (binaryOp .Add) (rCatA K) := h ▸ op_catA
theorem eqDK (hu : X.A.units + 64 < cLine) (h : X.K = K := by rfl) : OpR X (compareOp .Eq) (rEqD K) := h ▸ op_eqD hu
theorem neDK (hu : X.A.units + 64 < cLine) (h : X.K = K := by rfl) : OpR X (compareOp .NotEq) (rNeD K) := h ▸ op_neD hu
def rListOf (K : PySem.W.Frag) : List V → Hp → VK → Prop := fun xs H Q => ∃ p ys, xs = [.ref p] ∧ (SqL K H p ys ∨ SqT K H p ys) ∧ ∀ l, H l = none → Q (.ref l) (upd H l (.lst ys))
theorem listOf (h : X.K = K := by rfl) : CallR X (.type "list") (rListOf K) := h ▸ call_list_of
def rTupOf (K : PySem.W.Frag) : List V → Hp → VK → Prop := fun xs H Q => ∃ p ys, xs = [.ref p] ∧ ((SqL K H p ys ∧ ∀ l, H l = none → Q (.ref l) (upd H l (.tup ys))) ∨ (SqT K H p ys ∧ Q (.ref p) H))
theorem tupOf (h : X.K = K := by rfl) : CallR X (.type "tuple") (rTupOf K) := h ▸ call_tuple_of
theorem isiK (h : X.K = K := by rfl) : CallR X (.builtin "isinstance") (rIsi K) := h ▸ call_isi
end
end Dw
namespace Dw
open PySem PySem.Spec PyProof.Rows L2 SX
theorem isi_of {K : PySem.W.Frag} {H : Hp} {Q : VK} {x : V} {t : Value} {c : String} {b : Bool} (ty : TyX K H x t) (k : PySem.W.kitOne K t (.type c) = some b) (q : Q (.bl b) H) : rIsi K [x, .ty c] H Q := ⟨x, .ty c, t, .type c, b, rfl, .ty _, ty, k, q⟩
end Dw
namespace Dw
open PySem PySem.Spec PyProof.Rows L2 SX
theorem Toks.get {H : Hp} : ∀ {n : Nat} {r : List Itm} {as : List Addr} {i : Nat} {x : Itm}, Toks H n r as → r[i]? = some x → ∃ (a : Addr) (m : Nat), as[i]? = some a ∧ H a = some (.tup [.str (S x.k), x.v, .int (m : Nat)])
  | _, [], [], _, _, _, h => by simp at h
  | n, y :: r, a :: as, 0, x, h, e => by
    obtain rfl := Option.some.inj e
    exact ⟨a, n, rfl, h.1⟩
  | n, y :: r, a :: as, i + 1, x, h, e => by
    obtain ⟨b, m, h1, h2⟩ := Toks.get (r := r) (i := i) (x := x) h.2 (by simpa using e)
    exact ⟨b, m, by simpa using h1, h2⟩
  | _, [], _ :: _, _, _, h, _ => h.elim
  | _, _ :: _, [], _, _, h, _ => h.elim
theorem run_no {l : List Nat} (h : hdIn LOW l = false) : (run LOW l && !decide (l ∈ RES)) = false := by
  unfold run
  rw [h]
  simp
theorem kinds_ne : cs "reserved" ≠ cs "name" ∧ cs "word" ≠ cs "name" ∧ cs "number" ≠ cs "name" ∧ cs "sign" ≠ cs "name" := by decide +kernel
theorem piece_name {l k : List Nat} {v : V} (h : Piece l k v) : (run LOW l && !decide (l ∈ RES)) = decide (k = cs "name") := by
  cases h with
  | res h =>
    rw [decide_eq_true h, decide_eq_false kinds_ne.1]
    simp
  | name h => rw [gname_iff.mpr h, decide_eq_true rfl]
  | word h =>
    obtain ⟨c, r, e, hc⟩ := h.hd
    rw [decide_eq_false kinds_ne.2.1, run_no]
    rw [e]
    exact decide_eq_false (upp_ok c hc).1
  | num n h =>
    obtain ⟨n1, n2, _⟩ := num_ok n h
    obtain ⟨c, r, e⟩ := cons_of n1
    rw [decide_eq_false kinds_ne.2.2.1, run_no]
    rw [e]
    exact decide_eq_false (dig_ok c (n2 c (by rw [e]; exact List.mem_cons_self))).1
  | sign h =>
    rw [decide_eq_false kinds_ne.2.2.2, run_no (sgn_ok l h).2.1]
theorem tv_bool {K : PySem.W.Frag} {H : Hp} {v : V} {d : PyData} (h : TV v d) : ∃ t, TyX K H v t ∧ PySem.W.kitOne K t (.type "bool") = some false := by
  cases h with
  | str z => exact ⟨_, .base (.str _), kit_ty (by decide +kernel)⟩
  | int i => exact ⟨_, .base (.int _), kit_ty (by decide +kernel)⟩
theorem kit_list {K : PySem.W.Frag} : PySem.W.kitOne K (.type "list") (.type "list") = some true := kit_ty (by decide +kernel)
/-- no names -/
def OTH : List (List Nat) := [cs "", cs "1a", List.replicate 13 97, cs "a b", cs "aB", cs "A", cs "a_"]
theorem oth_no : ∀ l ∈ OTH, (run LOW l && !decide (l ∈ RES)) = false ∧ l.length ≤ 1000 := by decide +kernel
theorem mul_a : Txt.mul (S (cs "a")) 13 = S (List.replicate 13 97) := by decide +kernel
theorem mul_z : Txt.mul (S (cs "z")) 12 = S (List.replicate 12 122) := by decide +kernel
theorem run_z : (run LOW (List.replicate 12 122) && !decide (List.replicate 12 122 ∈ RES)) = true := by decide +kernel
end Dw
namespace Dw
open PySem PySem.Spec PyProof.Rows L2 SX
/-! bad pieces -/
def BADC : List Nat := cs "!\"#$'./?@\\^_`"
inductive Bad : List Nat → Prop
  | char {c : Nat} (h : c ∈ BADC) : Bad [c]
  | longN {l : List Nat} (h0 : hdIn LOW l = true) (h1 : ∀ c ∈ l, c ∈ LOW ++ DIG) (h2 : 12 < l.length) (h3 : l.length ≤ 20) : Bad l
  | longW {l : List Nat} (h0 : hdIn UPP l = true) (h1 : ∀ c ∈ l, c ∈ UPP ++ DIG) (h2 : 12 < l.length) (h3 : l.length ≤ 20) : Bad l
  | mixN {a b : List Nat} (h0 : hdIn LOW a = true) (h1 : ∀ c ∈ a, c ∈ LOW ++ DIG) (h2 : hdIn UPP b = true) (h3 : a.length ≤ 10) (h4 : b.length ≤ 10) (h5 : ∀ c ∈ b, isAN c = true) : Bad (a ++ b)
  | mixW {a b : List Nat} (h0 : hdIn UPP a = true) (h1 : ∀ c ∈ a, c ∈ UPP ++ DIG) (h2 : hdIn LOW b = true) (h3 : a.length ≤ 10) (h4 : b.length ≤ 10) (h5 : ∀ c ∈ b, isAN c = true) : Bad (a ++ b)
  | zeros {l : List Nat} (h0 : l.head? = some 48) (h1 : ∀ c ∈ l, c ∈ DIG) (h2 : 1 < l.length) (h3 : l.length ≤ 30) : Bad l
  | big {l : List Nat} (h0 : l ≠ []) (h1 : ∀ c ∈ l, c ∈ DIG) (h2 : l.length ≤ 30) (n : Nat) (h3 : intText? (S l) = some (n : Int)) (h4 : 255 < n) : Bad l
  | letr {a b : List Nat} (h0 : a ≠ []) (h1 : ∀ c ∈ a, c ∈ DIG) (h2 : hdIn (LOW ++ UPP) b = true) (h3 : a.length ≤ 10) (h4 : b.length ≤ 10) (h5 : ∀ c ∈ b, isAN c = true) : Bad (a ++ b)
end Dw
namespace Dw
open PySem PySem.Spec PyProof.Rows L2
/-! try with several clauses, each with a name: «except A as e: .. except B as e: ..» -/
abbrev Clause := Value × Nat × (Addr → Value → Option Addr → TS)
/-- the ends of a suite whose name is unbound behind it -/
def unb (i : Nat) (D : Ends) : Ends := { nx := fun σ H => D.nx (σ.set i none) H, rt := D.rt, bk := fun σ H => D.bk (σ.set i none) H, ct := fun σ H => D.ct (σ.set i none) H }
def wNamed (K : PySem.W.Frag) (Wo : WX) (D : Ends) : List Clause → WX
  | [] => Wo
  | (c, i, ts) :: rest => fun cls d σ H => ∃ b, PySem.W.exmOne K cls c = some b ∧
      (b = true → ∀ a, H a = none → ts a cls d (unb i D) (σ.set i (some (.ref a))) H) ∧ (b = false → wNamed K Wo D rest cls d σ H)
inductive Named (X : Cx) : List ExceptHandler → List Clause → Prop
  | none : Named X [] []
  | more {x n : Str} {c : Value} {i : Nat} {ts : Addr → Value → Option Addr → TS} {st : Stmt} {sts : List Stmt} {p p' : Pos} {hs : List ExceptHandler} {l : List Clause}
      (nm : Names X x c) (at_i : X.N[i]? = some n) (loc : X.env.kindOf n = some .local)
      (su : ∀ (a : Addr) (oe : Obj) (cls : Value) (d : Option Addr) (pn : List (Addr × Obj)), Zc cls d oe → (∃ vs, oe.data = .fields vs) → PSs (X.suite a ((a, oe) :: pn)) (st :: sts) (ts a cls d))
      (rest : Named X hs l) : Named X (.ExceptHandler (some (.Name x p)) (some n) (st :: sts) p' :: hs) ((c, i, ts) :: l)
section
variable {X : Cx} {D : Ends} {Wo : WX}
/-- what the catching frame knows of the exception at a -/
structure Got (X : Cx) (pins : List (Addr × Obj)) (σ : L2.St) (H : Hp) (a : Addr) (cls : Value) (d : Option Addr) (B : Heap) (sI s' : Shared) (h : Heap) : Prop where
  J : Inv X pins σ H sI
  nb : ∀ b o, sI.heap.get? b = some o → b ∉ frs X.stack → B.get? b = some o
  up : sI.heap.UpToSlots h
  fl : HandSPX.FlyingZ B (X.env :: X.outer) a (Zc cls d) h
  na : H a = none
  os : s'.os = sI.os
  ag : AllBare s'.gens
  nL : a ≠ X.env.locals
  nF : a ∉ X.fs
theorem named_run {pins : List (Addr × Obj)} {σ : L2.St} {H : Hp} {a : Addr} {cls : Value} {d : Option Addr} {B : Heap} {sI s' : Shared} {h : Heap}
    (hst : X.stack = X.env :: X.outer) (hfm : X.env.frame = some X.env.locals) (hN : X.N.Nodup) (tk : Takes X Wo) (ok : X.Ok)
    (G : Got X pins σ H a cls d B sI s' h) : ∀ {hs : List ExceptHandler} {l : List Clause}, Named X hs l → wNamed X.K Wo D l cls d σ H →
    wpAny (model X.prog X.w) X.A (handleBy (.ref a) X.env hs) (SP X pins D) X.xe { s' with heap := h } := by
  intro hs l nmd
  have J3 : Inv X pins σ H { s' with heap := h } := G.J.landed G.nb G.fl.1 G.up G.os G.ag
  induction nmd with
  | none =>
    intro w
    refine wpAny_handleBy_nil ?_
    obtain ⟨_, _, _, oe, vs, T, oT, us, he, hz, hd, h1, _⟩ := id G.fl
    unfold PySem.passOn
    have nz : ¬ ((Value.ref T == Value.none) = true) := by simp
    have out : wpAny (model X.prog X.w) X.A (setFlight (.ref a) X.env.frame)
        (fun _ s4 => wpAny (model X.prog X.w) X.A (throw (.ref a) : Sem Flow) (SP X pins D) X.xe s4) X.xe { s' with heap := h } := by
      rw [hfm]
      refine HandSPX.setFlight_upZ G.fl fun h4 held up4 => wpAny_throw (tk _ _ ?_)
      have sky : Sky B X.stack a (Zc cls d) X.env.locals h4 := .inr (.inr (by rw [hst]; exact held))
      exact ⟨a, B, sI, pins, σ, H, cls, d, rfl, G.J, G.nb, G.up.trans up4, sky, G.na, G.os, G.ag, w⟩
    refine wpAny_bind (wpAny_field he hd h1 ?_)
    rw [if_neg nz]
    first | exact wpAny_bind (wpAny_pure (wpAny_bind out)) | exact wpAny_bind out
  | @more x n c i ts st sts p p' hs2 l2 nm at_i loc su rest ih =>
    rintro ⟨b, hb, yes, no⟩
    obtain ⟨oe, vs, he, hz, hd⟩ := G.fl.there
    have S3 := J3.suite he hd G.na G.nL G.nF
    have typ : PySem.W.Looks (model X.prog X.w) h (typeOf (.ref a)) cls := fun A Q E s k q => wpAny_typeOf_ref (k _ _ he) (by rw [hz.1]; exact q)
    have look := PySem.W.exm_one (M := model X.prog X.w) J3.kIn typ hb
    refine wpAny_handleBy_cons (codeAny_handlers_test ?_) (by intro q; cases q)
    have name : ∀ {Q : Value → Shared → Prop} {E : Value → Shared → Prop}, Q c { s' with heap := h } →
        wpAny (model X.prog X.w) (X.A.mark (some (.ref a))) (eval (.Name x p) X.env) Q E { s' with heap := h } := by
      intro Q E q
      obtain ⟨g1, g2, g3 | ⟨g3, g4, g5⟩⟩ := nm
      · exact ld_glob (X := X.suite a ((a, oe) :: (X.pn ++ pins))) S3 g1 g3 q g2
      · exact ld_blt (X := X.suite a ((a, oe) :: (X.pn ++ pins))) S3 g1 g3 g4 q g5 g2
    refine name (look.here ?_)
    cases b with
    | false =>
      show wpAny _ X.A (handleBy (.ref a) X.env hs2) _ _ _
      exact ih (no rfl)
    | true =>
      refine codeAny_handlers_suite_as (HandSPX.lands_againZ G.fl fun h4 fl4 up4 => ?_)
      have J4 : Inv X pins σ H { s' with heap := h4 } := G.J.landed G.nb fl4.1 (G.up.trans up4) G.os G.ag
      obtain ⟨oe4, vs4, he4, hz4, hd4⟩ := fl4.there
      have S4 := J4.suite he4 hd4 G.na G.nL G.nF
      refine store_ok (X := X.suite a ((a, oe4) :: (X.pn ++ pins))) (v := .ref a) S4 hN at_i (.inl loc) rfl (fun s5 S5 => ?_) (.inr loc)
      refine wpAny_mono ((su a oe4 cls d (X.pn ++ pins) hz4 ⟨_, hd4⟩).run [] s5 _ H (unb i D) S5 (yes rfl a G.na)) (fun f s6 done => ?_) (fun _ _ z => False.elim z)
      have behind : ∀ {σ6 : L2.St} {H6 : Hp} {Q : Shared → Prop}, Inv (X.suite a ((a, oe4) :: (X.pn ++ pins))) [] σ6 H6 s6 → (∀ s7, Inv X pins (σ6.set i none) H6 s7 → Q s7) →
          wpAny (model X.prog X.w) X.A (do bindName X.env n .none; unbindBehindTheSuite X.env n p') (fun _ s7 => Q s7) X.xe s6 :=
        fun {σ6 H6 Q} S6 hq => gone_ok (S6.unsuite ok) hN at_i loc hq
      cases f with
      | ret u => obtain ⟨v6, σ6, H6, S6, r6, q6⟩ := done; exact behind S6 fun s7 J7 => ⟨_, _, _, J7, r6, q6⟩
      | next => obtain ⟨σ6, H6, S6, q6⟩ := done; exact behind S6 fun s7 J7 => ⟨_, _, J7, q6⟩
      | brk => obtain ⟨σ6, H6, S6, q6⟩ := done; exact behind S6 fun s7 J7 => ⟨_, _, J7, q6⟩
      | cont => obtain ⟨σ6, H6, S6, q6⟩ := done; exact behind S6 fun s7 J7 => ⟨_, _, J7, q6⟩
variable {body : List Stmt} {hd0 : ExceptHandler} {hds : List ExceptHandler} {l : List Clause} {pos : Pos} {tb : WX → TS}
theorem ps_try_named (hst : X.stack = X.env :: X.outer) (hfm : X.env.frame = some X.env.locals) (hN : X.N.Nodup) (tk : Takes X Wo)
    (hb : ∀ (W : WX) (pn : List (Addr × Obj)) (xe : Value → Shared → Prop), Takes (X.tr pn xe) W → PassesOwn (model X.prog X.w) X.A X.env xe → PSs (X.tr pn xe) body (tb W))
    (hh : Named X (hd0 :: hds) l) : PS X (.Try body (hd0 :: hds) [] [] pos) (fun D σ H => tb (wNamed X.K Wo D l) D σ H) := by
  refine ⟨fun pins s σ H D I q0 => wpAny_Try_except ?_⟩
  have ok := I.ok
  have hfr : X.A.frames = some (X.env :: X.outer) := by rw [ok.frames, hst]
  let xe : Value → Shared → Prop := fun e s₁ => wpAny (model X.prog X.w) X.A (noteFrame e X.env)
    (fun _ s₂ => wpAny (model X.prog X.w) X.A (setFlight e none) (fun _ s₃ => wpAny (model X.prog X.w) X.A (handleBy e X.env (hd0 :: hds)) (SP X pins D) X.xe s₃) X.xe s₂) X.xe s₁
  have takes : Takes (X.tr (X.pn ++ pins) xe) (wNamed X.K Wo D l) := by
    rintro u s' ⟨a, B, sI, pins', σ', H', cls, d, rfl, J', nb, up, sky, na, os, ag, w⟩
    have J : Inv X pins σ' H' sI := J'.ofTry ok
    have sky' : Sky B (X.env :: X.outer) a (Zc cls d) X.env.locals s'.heap := by rw [← hst]; exact sky
    show wpAny (model X.prog X.w) X.A (noteFrame (.ref a) X.env) _ _ _
    refine Sky.land Zc.steady hfr hfm sky' fun h3 fl3 up3 => ?_
    obtain ⟨oe3, vs3, he3, _, hd3⟩ := fl3.there
    have far : a ∉ frs (X.env :: X.outer) := fun hm => by
      obtain ⟨_, o', e', hnf⟩ := fl3.2.2.1.mem hm
      rw [he3] at e'
      cases e'
      exact hnf _ hd3
    refine named_run hst hfm hN tk ok ⟨J, nb, up.trans up3, fl3, na, os, ag, fun z => ?_, fun hm => ?_⟩ hh w
    · exact far (List.mem_filterMap.mpr ⟨X.env, List.mem_cons_self, by rw [hfm, z]⟩)
    · obtain ⟨e, he, q⟩ := List.mem_filterMap.mp hm
      exact far (List.mem_filterMap.mpr ⟨e, List.mem_cons_of_mem _ he, q⟩)
  refine wpAny_mono ((hb _ (X.pn ++ pins) xe takes PassesOwn.looking).run [] s σ H D (I.toTry _) q0) (fun f s1 done => ?_) (fun _ _ z => z)
  cases f with
  | ret u => obtain ⟨v, σ', H', J', r, q⟩ := done; exact ⟨v, σ', H', J'.ofTry ok, r, q⟩
  | next => obtain ⟨σ', H', J', q⟩ := done; exact wpAny_execs_nil ⟨σ', H', J'.ofTry ok, q⟩
  | brk => obtain ⟨σ', H', J', q⟩ := done; exact ⟨σ', H', J'.ofTry ok, q⟩
  | cont => obtain ⟨σ', H', J', q⟩ := done; exact ⟨σ', H', J'.ofTry ok, q⟩
end
end Dw
namespace Dw
open PySem PySem.Spec PyProof.Rows L2 SX
/-! own exceptions with one field -/
def sp_init (C : Addr) (f : Str) : Sp := fun vs H Q _ => ∃ (a : Addr) (v : V), vs = [.ref a, v] ∧ H a = some (exo a C none) ∧ ∀ dx, H dx = none → dx ≠ a → Q .non (upd (upd H dx (exd dx [(f, v)])) a (exo a C (some dx)))
/-- a class of own exceptions whose __init__ stores its one argument -/
structure ExF (P : Program) (w : World) (K : PySem.W.Frag) (mg : Str → Option Value) (base : Heap) (x : Str) (C : Addr) (f : Str) : Prop where
  T : OexC K C
  g : mg x = some (.ref C)
  xf : XfC K C
  nof : PySem.W.findIn K (.ref C) f = some none
  ini : ∃ (fI : Addr) (fd : FuncData), PySem.W.findIn K (.ref C) "__init__" = some (some (.ref fI)) ∧ PySem.W.typeIn K (.ref fI) = some (.type "function") ∧ FnOk P w K mg base C8.CX0 1 fI fd ["self", f] (sp_init C f) ∧ Binds K fd ["self", f] []
section
variable {X : Cx} {x f : Str} {C : Addr} {k : Nat} {e : Expr} {ta : TA} {p pos : Pos}
theorem pmk_ex (F : ExF X.prog X.w X.K X.mg X.base x C f) (hr : Room k X.A) (hk : 2 ≤ k) (hg : Gl X x) (ha : PA X [e] ta)
    (hdb : (x == ("__debug__" : Str)) = false := by decide) (he : starEach (e :: []) X.env = (false, eval e X.env) :: starEach [] X.env := by rfl) (hpl : (backTo pos (starEach [] X.env)).any (·.1) = false := by rfl) :
    PMk X (.Call (.Name x p) [e] [] pos) (tMkO C (sp_init C f) [] ta) := by
  obtain ⟨fI, fd, h1, h2, h3, h4⟩ := F.ini
  exact pmk_oex F.T h1 h2 h3 (hr.mono hk) h4 .nil C8.pass0 hg F.g ha hdb he hpl
end
theorem raise_ok {C : Addr} {f : Str} {v : V} {H : Hp} {E : XK} (ok : ∀ d H', Same H H' → H d = none → H' d = some (.xd [(f, v)]) → E (.ref C) (some d) H') {a : Addr} (ha : H a = none) :
    sp_init C f [.ref a, v] (upd H a (exo a C none)) (fun v H2 => v = .non ∧ ∃ (d : Addr) (fs : List (Str × V)), H2 a = some (exo a C (some d)) ∧ H2 d = some (exd d fs) ∧ H d = none ∧ E (.ref C) (some d) (upd (del H2 a) d (.xd fs))) (fun _ _ _ => False) := by
  refine ⟨a, v, rfl, upd_same, fun dx hd hne => ⟨rfl, dx, [(f, v)], upd_same, ?_, ?_, ?_⟩⟩
  · rw [upd_ne hne, upd_same]
  · rw [upd_ne hne] at hd
    exact hd
  · have hd0 : H dx = none := by
      rw [upd_ne hne] at hd
      exact hd
    refine ok dx _ (fun b o hb => ?_) hd0 upd_same
    have h1 : b ≠ dx := ne_of_none hb hd0
    have h2 : b ≠ a := ne_of_none hb ha
    rw [upd_ne h1, del_ne h2, upd_ne h2, upd_ne h1, upd_ne h2]
    exact hb
theorem exm_of {K : PySem.W.Frag} {S C : Addr} {b : Bool} (h1 : PySem.W.subIn K (.ref C) (.type "BaseException") = some true) (h2 : PySem.W.isClsIn K C = true) (h3 : PySem.W.typeIn K (.ref C) = some (.type "type")) (h4 : PySem.W.subIn K (.ref S) (.ref C) = some b) :
    PySem.W.exmOne K (.ref S) (.ref C) = some b := by
  have e1 : (PySem.W.subIn K (.ref C) (.type "BaseException") == some true) = true := by rw [h1]; rfl
  have h2' : (PySem.W.clsIn K C).isSome = true := h2
  have e2 : ((PySem.W.clsIn K C).isSome && PySem.W.typeIn K (.ref C) == some (.type "type")) = true := by
    rw [h2', h3]; rfl
  unfold PySem.W.exmOne
  rw [if_pos e1]
  unfold PySem.W.kitCls
  first
    | rw [if_pos e2, h4]
    | simp only [e2, h4, if_true]
/-! defs that may raise -/
structure CalX (P : Program) (w : World) (K : PySem.W.Frag) (mg : Str → Option Value) (base : Heap) (k : Nat) (x : Str) (sp : Sp) : Prop where
  ex : ∃ (f : Addr) (fd : FuncData) (ps : List Str), FnOk P w K mg base (L2.CX P w) k f fd ps sp ∧ mg x = some (.ref f) ∧ PySem.W.keepIn K (.ref f) = true ∧ Binds K fd ps []
section
variable {P : Program} {w : World} {K : PySem.W.Frag} {mg : Str → Option Value} {base : Heap}
theorem calX0 {x : Str} {st : Stmt} {f : Addr} {fd : FuncData} {N ps : List Str} {k : Nat} {sp : Sp} (F : C8.Def K mg x st f fd) (b : Binds K fd ps []) (S : FnScope N ps (C8.fnScope st)) (len : ∀ vs H Q E, sp vs H Q E → vs.length = ps.length)
    (hbody : ∀ (cdv : Value) (A : Around) (outer : List Env) (s : Shared) (H : Hp) (vs : List V) (Q : VK) (E : XK), Room k (A.deeper (envOfC x (C8.fnScope st) s.heap.objs.size f cdv)) → sp vs H Q E →
      ∃ t, PSs (cxOf (L2.CX P w) P w K mg base N x (C8.fnScope st) f cdv A outer s H E) (C8.fnBody st) t ∧ t { nx := fun _ H' => Q .non H', rt := Q } (start N vs) H) : CalX P w K mg base (k + 1) x sp := by
  refine ⟨f, fd, ps, ?_, F.mgf, F.kp, b⟩
  obtain ⟨oc, od, dV, kV, doc, pm, an, cdv, ct, osl, rfl, lk, hcd⟩ := F.fn.ex
  exact fn_of lk hcd S len fun A outer s H vs Q E hr hsp => hbody cdv A outer s H vs Q E hr hsp
end
section
variable {X : Cx} {k j : Nat} {x : Str} {sp : Sp} {p pos : Pos} {e : Expr} {es : List Expr} {t : TA}
/-- its call in a def that lets the same out -/
theorem pe_cx {E : XK} (c : CalX X.prog X.w X.K X.mg X.base k x sp) (hr : Room j X.A) (hk : k ≤ j) (hx : Passes (L2.CX X.prog X.w) X E) (hg : Gl X x) (ha : PA X (e :: es) t)
    (hdb : (x == ("__debug__" : Str)) = false := by decide) (he : starEach (e :: es) X.env = (false, eval e X.env) :: starEach es X.env := by rfl) (hpl : (backTo pos (starEach es X.env)).any (·.1) = false := by rfl) :
    PE X (.Call (.Name x p) (e :: es) [] pos) (tCall sp [] E t) := by
  obtain ⟨f, fd, ps, F, hm, kp, b⟩ := c.ex
  exact pe_call F (hr.mono hk) hg hm kp b .nil hx ha hdb he hpl
/-- its call in a try -/
theorem pe_cs {W : WX} (c : CalX X.prog X.w X.K X.mg X.base k x sp) (hr : Room j X.A) (hk : k ≤ j) (tk : Takes X W) (hg : Gl X x) (ha : PA X (e :: es) t)
    (hdb : (x == ("__debug__" : Str)) = false := by decide) (he : starEach (e :: es) X.env = (false, eval e X.env) :: starEach es X.env := by rfl) (hpl : (backTo pos (starEach es X.env)).any (·.1) = false := by rfl) :
    PE X (.Call (.Name x p) (e :: es) [] pos) (tCallS sp (WE W) t) := by
  obtain ⟨f, fd, ps, F, hm, kp, b⟩ := c.ex
  exact pe_callS F (hr.mono hk) hg hm kp b (fun σ => passAt tk σ) ha hdb he hpl
end
end Dw
namespace Dw
open PySem PySem.Spec PyProof.Rows L2 SX
/-- an own error of class C with this field is let out -/
def Rz (C : Addr) (f : Str) (v : V) (H : Hp) (E : XK) : Prop := ∀ d H', Same H H' → H d = none → H' d = some (.xd [(f, v)]) → E (.ref C) (some d) H'
theorem Rz.same {C : Addr} {f : Str} {v : V} {H H1 : Hp} {E : XK} (h : Rz C f v H E) (e : Same H H1) : Rz C f v H1 E := fun d H' s n x => h d H' (e.trans s) (e.free n) x
theorem raise_rz {C : Addr} {f : Str} {v : V} {H : Hp} {E : XK} (ok : Rz C f v H E) {a : Addr} (ha : H a = none) :
    sp_init C f [.ref a, v] (upd H a (exo a C none)) (fun v H2 => v = .non ∧ ∃ d : Addr, H2 a = some (exo a C (some d)) ∧ ∃ fs : List (Str × V), H2 d = some (exd d fs) ∧ H d = none ∧ E (.ref C) (some d) (upd (del H2 a) d (.xd fs))) (fun _ _ _ => False) := by
  obtain ⟨a1, v1, h1, h2, h3⟩ := raise_ok ok ha
  refine ⟨a1, v1, h1, h2, fun dx hd hne => ?_⟩
  obtain ⟨h4, d, fs, h5, h6, h7, h8⟩ := h3 dx hd hne
  exact ⟨h4, d, h5, fs, h6, h7, h8⟩
theorem hdIn_app {ch a b : List Nat} (h : hdIn ch a = true) : hdIn ch (a ++ b) = true := by
  cases a with
  | nil => cases h
  | cons c r => exact h
theorem hdIn_no {ch ch' a b : List Nat} (h : hdIn ch a = true) (d : ∀ c ∈ ch, c ∉ ch') : hdIn ch' (a ++ b) = false := by
  cases a with
  | nil => cases h
  | cons c r => exact decide_eq_false (d c (of_decide_eq_true h))
end Dw
namespace Dw
open PySem PySem.Spec PyProof.Rows L2 SX
theorem badc_ok : ∀ c ∈ BADC, c ∉ LOW ∧ c ∉ UPP ∧ c ∉ DIG ∧ c ≠ 32 ∧ c ≠ 10 ∧ ∀ s ∈ SGN, s.head? = some c → s = [33, 61] := by decide +kernel
theorem ul_no : ∀ c ∈ UPP, c ∉ LOW ++ DIG := by decide +kernel
theorem lu_no : ∀ c ∈ LOW, c ∉ UPP ++ DIG := by decide +kernel
theorem lud_no : ∀ c ∈ LOW ++ UPP, c ∉ DIG := by decide +kernel
theorem bad_hd {l : List Nat} (h : Bad l) : ∃ c r, l = c :: r ∧ c ≠ 32 ∧ c ≠ 10 := by
  have pick : ∀ {ch a : List Nat}, hdIn ch a = true → ∃ c r, a = c :: r ∧ c ∈ ch := fun {ch a} h => by
    cases a with
    | nil => cases h
    | cons c r => exact ⟨c, r, rfl, of_decide_eq_true h⟩
  cases h with
  | char h => exact ⟨_, [], rfl, (badc_ok _ h).2.2.2.1, (badc_ok _ h).2.2.2.2.1⟩
  | longN h0 h1 h2 h3 => obtain ⟨c, r, e, hc⟩ := pick h0; exact ⟨c, r, e, low_ok c hc⟩
  | longW h0 h1 h2 h3 => obtain ⟨c, r, e, hc⟩ := pick h0; exact ⟨c, r, e, (upp_ok c hc).2⟩
  | mixN h0 h1 h2 h3 h4 h5 => obtain ⟨c, r, e, hc⟩ := pick h0; exact ⟨c, _, by rw [e]; rfl, low_ok c hc⟩
  | mixW h0 h1 h2 h3 h4 h5 => obtain ⟨c, r, e, hc⟩ := pick h0; exact ⟨c, _, by rw [e]; rfl, (upp_ok c hc).2⟩
  | zeros h0 h1 h2 h3 =>
    cases l with
    | nil => cases h0
    | cons c r => exact ⟨c, r, rfl, (dig_ok c (h1 c List.mem_cons_self)).2.2⟩
  | big h0 h1 h2 n h3 h4 =>
    obtain ⟨c, r, e⟩ := cons_of h0
    exact ⟨c, r, e, (dig_ok c (h1 c (by rw [e]; exact List.mem_cons_self))).2.2⟩
  | letr h0 h1 h2 h3 h4 h5 =>
    obtain ⟨c, r, e⟩ := cons_of h0
    exact ⟨c, _, by rw [e]; rfl, (dig_ok c (h1 c (by rw [e]; exact List.mem_cons_self))).2.2⟩
theorem bad_len {l : List Nat} (h : Bad l) : l.length ≤ 30 := by
  cases h with
  | char h => exact (show 1 ≤ 30 by decide)
  | longN h0 h1 h2 h3 => omega
  | longW h0 h1 h2 h3 => omega
  | mixN h0 h1 h2 h3 h4 h5 => rw [List.length_append]; omega
  | mixW h0 h1 h2 h3 h4 h5 => rw [List.length_append]; omega
  | zeros h0 h1 h2 h3 => exact h3
  | big h0 h1 h2 n h3 h4 => exact h2
  | letr h0 h1 h2 h3 h4 h5 => rw [List.length_append]; omega
theorem char_no {c : Nat} {rest : List Nat} (h : c ∈ BADC) (h61 : hdIn [61] rest = false) : ∀ s ∈ SGN, pfx s ([c] ++ rest) = false := by
  intro s hs
  cases hp : pfx s ([c] ++ rest) with
  | false => rfl
  | true =>
    exfalso
    obtain ⟨r, hr⟩ := pfx_iff.mp hp
    obtain ⟨c', s', e⟩ := cons_of (sgn_ok s hs).1
    rw [e] at hr
    have hc : c = c' := (List.cons.inj hr).1
    have := (badc_ok c h).2.2.2.2.2 s hs (by rw [e, hc]; rfl)
    rw [this] at e
    obtain ⟨e1, e2⟩ := List.cons.inj e
    have h2 : rest = s' ++ r := (List.cons.inj hr).2
    rw [← e2] at h2
    rw [h2] at h61
    have h3 : hdIn [61] ([61] ++ r) = true := by
      show decide (61 ∈ [61]) = true
      decide
    rw [h3] at h61
    cases h61
end Dw
namespace Dw
open PySem PySem.Spec PyProof.Rows L2 SX
def GoodsT (tl : List Nat) : List Itm → Prop
  | [] => True
  | x :: r => Piece x.l x.k x.v ∧ Blank x.sp ∧ After x.l (x.sp ++ (iflat r ++ tl)) ∧ GoodsT tl r
theorem GoodsT.append {tl : List Nat} : ∀ {a b : List Itm}, GoodsT tl (a ++ b) → GoodsT tl b
  | [], _, h => h
  | _ :: a, _, h => GoodsT.append (a := a) h.2.2.2
end Dw
namespace Dw
open PySem PySem.Spec PyProof.Rows L2 SX
theorem fold_rep (c : Nat) : ∀ (n : Nat) (a : Array Nat), (List.replicate n #[c]).foldl (· ++ ·) a = a ++ (List.replicate n c).toArray
  | 0, a => by simp
  | n + 1, a => by
    rw [List.replicate_succ, List.foldl_cons, fold_rep c n, List.replicate_succ, Array.append_assoc]
    congr 1
    simp
theorem mul_S (c n : Nat) : Txt.mul (S [c]) ((n : Nat) : Int) = S (List.replicate n c) := by
  unfold Txt.mul
  by_cases h : n = 0
  · subst h
    rfl
  · rw [if_neg (by omega)]
    by_cases h1 : n = 1
    · subst h1
      rfl
    · have e : (((n : Nat) : Int) == 1 || (S [c]).length == 0) = false := by
        rw [len_S]
        simp
        omega
      rw [if_neg (by rw [e]; exact Bool.false_ne_true), Int.toNat_natCast]
      show (⟨(List.replicate n #[c]).foldl (· ++ ·) #[]⟩ : Str) = ⟨(List.replicate n c).toArray⟩
      rw [fold_rep]
      simp
theorem mulOk_S (c n : Nat) (h : n ≤ 10000) : MulOk (S [c]) ((n : Nat) : Int) := mulOk_of 1 10000 (by rw [len_S]; exact Nat.le_refl 1) (by omega) (by omega) (by decide) (by decide)
theorem num_eq (n : Nat) : num n = TL.numL n := TL.tl_num n
theorem dig_in : ∀ c : Nat, 48 ≤ c → c ≤ 57 → c ∈ DIG := by
  intro c h1 h2
  have : ∀ k : Fin 10, 48 + k.val ∈ DIG := by decide +kernel
  have := this ⟨c - 48, by omega⟩
  rw [show 48 + (c - 48) = c by omega] at this
  exact this
theorem num_big {n : Nat} (h : n < 10 ^ 9) : num n ≠ [] ∧ (∀ c ∈ num n, c ∈ DIG) ∧ (num n).length ≤ 9 ∧ intText? (S (num n)) = some (n : Int) := by
  have h1 : (TL.numL n).length ≤ 9 := TL.numL_len (by decide) h
  refine ⟨?_, ?_, ?_, ?_⟩
  · rw [num_eq]; exact TL.numL_ne n
  · intro c hc
    rw [num_eq] at hc
    have := TL.numL_digits n c hc
    exact dig_in c this.1 this.2
  · rw [num_eq]; exact h1
  · rw [num_eq, ← num_S]
    exact TL.int_num (by omega)
theorem log_small {n : Nat} (h : n < 10 ^ 9) : ((n : Nat) : Int).natAbs.log2 < 1920 := by
  rw [Int.natAbs_natCast]
  by_cases h0 : n = 0
  · subst h0; decide
  · exact Nat.lt_of_lt_of_le ((Nat.log2_lt h0).mpr (show n < 2 ^ 30 by omega)) (by decide)
theorem lu_up : ∀ s ∈ ["a", "x9", "Z", "all"], hdIn (LOW ++ UPP) (cs s) = true ∧ (cs s).length ≤ 10 ∧ ∀ c ∈ cs s, isAN c = true := by decide +kernel
theorem mixed_bad : Bad (cs "aB") ∧ Bad (cs "Ab") ∧ Bad (cs "x1Y") ∧ Bad (cs "TX0y") := by
  refine ⟨.mixN (a := cs "a") (b := cs "B") ?_ ?_ ?_ ?_ ?_ ?_, .mixW (a := cs "A") (b := cs "b") ?_ ?_ ?_ ?_ ?_ ?_, .mixN (a := cs "x1") (b := cs "Y") ?_ ?_ ?_ ?_ ?_ ?_, .mixW (a := cs "TX0") (b := cs "y") ?_ ?_ ?_ ?_ ?_ ?_⟩ <;> decide +kernel
theorem long_bad {k : Nat} (h1 : 12 ≤ k) (h2 : k ≤ 16) : Bad (cs "a" ++ List.replicate k 57) ∧ Bad (cs "Z" ++ List.replicate k 57) := by
  have e1 : cs "a" = [97] := by decide +kernel
  have e2 : cs "Z" = [90] := by decide +kernel
  rw [e1, e2]
  have a1 : (97 : Nat) ∈ LOW := by decide +kernel
  have a2 : (90 : Nat) ∈ UPP := by decide +kernel
  refine ⟨.longN (show decide ((97 : Nat) ∈ LOW) = true from decide_eq_true a1) ?_ ?_ ?_, .longW (show decide ((90 : Nat) ∈ UPP) = true from decide_eq_true a2) ?_ ?_ ?_⟩
  · intro c hc
    rcases List.mem_cons.mp hc with e | e
    · rw [e]; decide +kernel
    · rw [(List.mem_replicate.mp e).2]; decide +kernel
  · simp; omega
  · simp; omega
  · intro c hc
    rcases List.mem_cons.mp hc with e | e
    · rw [e]; decide +kernel
    · rw [(List.mem_replicate.mp e).2]; decide +kernel
  · simp; omega
  · simp; omega
theorem zeros_bad {k n : Nat} (h1 : 1 ≤ k) (h2 : k ≤ 3) (hn : n < 10 ^ 9) : Bad (List.replicate k 48 ++ num n) := by
  obtain ⟨n1, n2, n3, _⟩ := num_big hn
  have hp : 0 < (num n).length := List.length_pos_iff.mpr n1
  refine .zeros ?_ ?_ ?_ ?_
  · obtain ⟨k', rfl⟩ : ∃ k', k = k' + 1 := ⟨k - 1, by omega⟩
    rfl
  · intro c hc
    rcases List.mem_append.mp hc with e | e
    · rw [(List.mem_replicate.mp e).2]; decide +kernel
    · exact n2 c e
  · rw [List.length_append, List.length_replicate]; omega
  · rw [List.length_append, List.length_replicate]; omega
theorem big_bad {n : Nat} (h : 255 < n) (hn : n < 10 ^ 9) : Bad (num n) := by
  obtain ⟨n1, n2, n3, n4⟩ := num_big hn
  exact .big n1 n2 (by omega) n n4 h
theorem letr_bad {n : Nat} (hn : n < 10 ^ 9) {s : String} (hs : s ∈ ["a", "x9", "Z", "all"]) : Bad (num n ++ cs s) := by
  obtain ⟨n1, n2, n3, _⟩ := num_big hn
  obtain ⟨s1, s2, s3⟩ := lu_up s hs
  exact .letr n1 n2 s1 (by omega) s2 s3
theorem bad_lt {l : List Nat} (h : Bad l) : l ≠ [] ∧ l.length ≤ 100 := by
  obtain ⟨c, r, e, _⟩ := bad_hd h
  exact ⟨by rw [e]; exact List.cons_ne_nil _ _, by have := bad_len h; omega⟩
end Dw
namespace Dw
open PySem PySem.Spec PyProof.Rows L2 SX
theorem flat_append (a b : List TRow) : flat (a ++ b) = flat a ++ flat b := by simp [flat]
theorem sepd_tail {x : TRow} {rs : List TRow} (h : Sepd (x :: rs)) : Sepd rs := fun k a b ha hb => h (k + 1) a b ha hb
theorem sepd_drop : ∀ {a b : List TRow}, Sepd (a ++ b) → Sepd b
  | [], _, h => h
  | _ :: a, _, h => sepd_drop (a := a) (sepd_tail h)
theorem after_row {x : TRow} {rs : List TRow} (h : Sepd (x :: rs)) (hb : Blank x.2) (hx : x.1 ≠ []) (hr : ∀ y ∈ rs, y.1 ≠ []) : After x.1 (x.2 ++ flat rs) := by
  refine after_of hb.1 (fun hsp hne => ?_)
  cases rs with
  | nil => exact absurd rfl hne
  | cons z rs' =>
    refine ⟨z.1, z.2 ++ flat rs', flat_cons _ _, hr z List.mem_cons_self, hx, ?_⟩
    cases hj : joins x.1 z.1 with
    | false => rfl
    | true => exact absurd hsp (h 0 x z rfl rfl hj)
theorem goodsT_of : ∀ (rg rest : List TRow), (∀ x ∈ rg, ∃ k v, Piece x.1 k v) → (∀ x ∈ rg, Blank x.2) → (∀ x ∈ rest, x.1 ≠ []) → Sepd (rg ++ rest) → ∃ is : List Itm, is.map irow = rg ∧ GoodsT (flat rest) is
  | [], _, _, _, _, _ => ⟨[], rfl, trivial⟩
  | x :: rg, rest, hp, hb, hr, hs => by
    obtain ⟨is, h1, h2⟩ := goodsT_of rg rest (fun y hy => hp y (List.mem_cons_of_mem _ hy)) (fun y hy => hb y (List.mem_cons_of_mem _ hy)) hr (sepd_tail hs)
    obtain ⟨k, v, hk⟩ := hp x List.mem_cons_self
    refine ⟨⟨x.1, x.2, k, v⟩ :: is, by rw [List.map_cons, h1]; rfl, hk, hb x List.mem_cons_self, ?_, h2⟩
    show After x.1 (x.2 ++ (flat (is.map irow) ++ flat rest))
    rw [h1, ← flat_append]
    refine after_row hs (hb x List.mem_cons_self) (piece_ne hk) (fun y hy => ?_)
    rcases List.mem_append.mp hy with h | h
    · obtain ⟨k', v', hk'⟩ := hp y (List.mem_cons_of_mem _ h)
      exact piece_ne hk'
    · exact hr y h
theorem head_no {sp : List Nat} {rm : List TRow} (hb : Blank sp) (hm : ∀ y ∈ rm, y.1 ≠ [] ∧ hdIn [61] y.1 = false) : hdIn [61] (sp ++ flat rm) = false := by
  cases sp with
  | cons c r =>
    refine decide_eq_false fun h => ?_
    rw [List.mem_singleton.mp h] at hb
    rcases hb.1 61 List.mem_cons_self with e | e <;> cases e
  | nil =>
    cases rm with
    | nil => rfl
    | cons y r =>
      obtain ⟨h1, h2⟩ := hm y List.mem_cons_self
      rw [List.nil_append, flat_cons]
      obtain ⟨c, l, e⟩ := cons_of h1
      rw [e] at h2 ⊢
      exact h2
theorem name_61 {l : List Nat} (h : GName l) : l ≠ [] ∧ hdIn [61] l = false ∧ l.length ≤ 100 := by
  obtain ⟨c, r, e, hc⟩ := h.hd
  refine ⟨by rw [e]; exact List.cons_ne_nil _ _, ?_, by have := h.le; omega⟩
  rw [e]
  refine decide_eq_false fun h61 => ?_
  rw [List.mem_singleton.mp h61] at hc
  have : (61 : Nat) ∉ LOW := by decide +kernel
  exact this hc
theorem more_61 : ∀ s ∈ ["(", "07"], cs s ≠ [] ∧ hdIn [61] (cs s) = false ∧ (cs s).length ≤ 100 := by decide +kernel
theorem pair_shaped (s : List Nat) (i : Int) (h : ∀ c ∈ s, c < 128) : SeqAt.shaped (.tuple [.str (S s), .int i]) = true := by
  simp [SeqAt.shaped, PyData.canLay0, PyData.canLayAll0, PyData.depth, PyData.depthAll, ok_S h]
theorem pair_shapedS (s t : List Nat) (h : ∀ c ∈ s, c < 128) (h2 : ∀ c ∈ t, c < 128) : SeqAt.shaped (.tuple [.str (S s), .str (S t)]) = true := by
  simp [SeqAt.shaped, PyData.canLay0, PyData.canLayAll0, PyData.depth, PyData.depthAll, ok_S h, ok_S h2]
theorem kinds2_128 : ∀ s ∈ (["fine", "oversized", "text", "malformed", "limit"] : List String), ∀ c ∈ cs s, c < 128 := by decide +kernel
theorem sgn_in : cs ";" ∈ SGN ∧ cs "(" ∈ SGN ∧ cs "<=" ∈ SGN := by decide +kernel
end Dw
namespace K01
open PySem PySem.Spec PyProof.Rows L2 SX Dw
def topS (i : Nat) : Stmt := PySem.Challenge.pw_digitwise_k01_refused_texts.main.body.getD i (.Pass ⟨0, 0, 0, 0⟩)
abbrev s_tokens : Stmt := topS 13
abbrev N_tokens : List Str := ["text", "found", "at", "kind", "value", "end"]
theorem sc_tokens : FnScope N_tokens ["text"] (C8.fnScope s_tokens) := C8.fnScope_by (by decide +kernel)
abbrev s_token_at : Stmt := topS 14
abbrev N_token_at : List Str := ["text", "at"]
theorem sc_token_at : FnScope N_token_at ["text", "at"] (C8.fnScope s_token_at) := C8.fnScope_by (by decide +kernel)
abbrev s_name_at : Stmt := topS 15
abbrev N_name_at : List Str := ["text", "at", "end", "value", "kind"]
theorem sc_name_at : FnScope N_name_at ["text", "at"] (C8.fnScope s_name_at) := C8.fnScope_by (by decide +kernel)
abbrev s_word_at : Stmt := topS 16
abbrev N_word_at : List Str := ["text", "at", "end"]
theorem sc_word_at : FnScope N_word_at ["text", "at"] (C8.fnScope s_word_at) := C8.fnScope_by (by decide +kernel)
abbrev s_number_at : Stmt := topS 17
abbrev N_number_at : List Str := ["text", "at", "end", "leading_zero"]
theorem sc_number_at : FnScope N_number_at ["text", "at"] (C8.fnScope s_number_at) := C8.fnScope_by (by decide +kernel)
abbrev s_sign_at : Stmt := topS 18
abbrev N_sign_at : List Str := ["text", "at", "sign"]
theorem sc_sign_at : FnScope N_sign_at ["text", "at"] (C8.fnScope s_sign_at) := C8.fnScope_by (by decide +kernel)
abbrev s_run_end : Stmt := topS 19
abbrev N_run_end : List Str := ["text", "at", "characters"]
theorem sc_run_end : FnScope N_run_end ["text", "at", "characters"] (C8.fnScope s_run_end) := C8.fnScope_by (by decide +kernel)
abbrev s_stands_at : Stmt := topS 20
abbrev N_stands_at : List Str := ["text", "at", "characters"]
theorem sc_stands_at : FnScope N_stands_at ["text", "at", "characters"] (C8.fnScope s_stands_at) := C8.fnScope_by (by decide +kernel)
abbrev s__law_wide : Stmt := topS 22
abbrev N__law_wide : List Str := ["script", "k", "cell", "mixed"]
theorem sc__law_wide : FnScope N__law_wide ["script", "k"] (C8.fnScope s__law_wide) := C8.fnScope_by (by decide +kernel)
abbrev s__law_take : Stmt := topS 23
abbrev N__law_take : List Str := ["pool", "most", "taken"]
theorem sc__law_take : FnScope N__law_take ["pool", "most"] (C8.fnScope s__law_take) := C8.fnScope_by (by decide +kernel)
abbrev s__law_pool : Stmt := topS 24
abbrev N__law_pool : List Str := ["script"]
theorem sc__law_pool : FnScope N__law_pool ["script"] (C8.fnScope s__law_pool) := C8.fnScope_by (by decide +kernel)
abbrev s__law_reserved : Stmt := topS 25
abbrev N__law_reserved : List Str := []
theorem sc__law_reserved : FnScope N__law_reserved [] (C8.fnScope s__law_reserved) := C8.fnScope_by (by decide +kernel)
abbrev s__law_signs : Stmt := topS 26
abbrev N__law_signs : List Str := ["first"]
theorem sc__law_signs : FnScope N__law_signs [] (C8.fnScope s__law_signs) := C8.fnScope_by (by decide +kernel)
abbrev s__law_name : Stmt := topS 27
abbrev N__law_name : List Str := ["pool", "letters", "name", "k"]
theorem sc__law_name : FnScope N__law_name ["pool"] (C8.fnScope s__law_name) := C8.fnScope_by (by decide +kernel)
abbrev s__law_word : Stmt := topS 28
abbrev N__law_word : List Str := ["pool", "letters", "name", "k"]
theorem sc__law_word : FnScope N__law_word ["pool"] (C8.fnScope s__law_word) := C8.fnScope_by (by decide +kernel)
abbrev s__law_joins : Stmt := topS 29
abbrev N__law_joins : List Str := ["left", "right", "sign"]
theorem sc__law_joins : FnScope N__law_joins ["left", "right"] (C8.fnScope s__law_joins) := C8.fnScope_by (by decide +kernel)
abbrev s__law_space : Stmt := topS 30
abbrev N__law_space : List Str := ["pool", "needed", "space"]
theorem sc__law_space : FnScope N__law_space ["pool", "needed"] (C8.fnScope s__law_space) := C8.fnScope_by (by decide +kernel)
abbrev s__law_text : Stmt := topS 31
abbrev N__law_text : List Str := ["pool", "parts", "text", "places", "k"]
theorem sc__law_text : FnScope N__law_text ["pool", "parts"] (C8.fnScope s__law_text) := C8.fnScope_by (by decide +kernel)
abbrev s__law_bad : Stmt := topS 32
abbrev N__law_bad : List Str := ["pool", "choice"]
theorem sc__law_bad : FnScope N__law_bad ["pool"] (C8.fnScope s__law_bad) := C8.fnScope_by (by decide +kernel)
abbrev s__law_told : Stmt := topS 33
abbrev N__law_told : List Str := ["text", "e"]
theorem sc__law_told : FnScope N__law_told ["text"] (C8.fnScope s__law_told) := C8.fnScope_by (by decide +kernel)
abbrev s_law : Stmt := topS 34
abbrev N_law : List Str := ["script", "pool", "size", "due", "parts", "k", "bad", "text", "told"]
theorem sc_law : FnScope N_law ["script"] (C8.fnScope s_law) := C8.fnScope_by (by decide +kernel)
local macro_rules | `(tactic| walk_at "rd") => `(tactic| simp only [tSeq, tNext, tAsg, gName, tRet, tRetN, tIfS, tDrop, tVar, tC, tOp, tUn, tTest, tCB, tCons, tNil, tB, tAnd, tOr, tNot, tAndV, tOrV, tNotV, tIf, tCall, tTup, tLst, tSl, tPart, tNoPart, tM0, tM1, tBM, tChain, tBreak, tCont, tNever, tAug, ipI, tPar, tyV_str,
  tFor_eq, tLc_eq, tMkO, tYes, wipe, ofStr_S, S_cat, one_S, len_S, S_iff, S_cps, Int.zero_add, gNil, gCons, gTup, gSub, iRng1, iRng2, iList, iTup, iStr, rI0, rI, rU, rEq, rNe, rIxL, rIxT, rIxS, rLen, rListOf, rTupOf, rNotB, rIsB, rMulS, rIn, rCat, rAppend, rCatA, rEqD, rNeD, C8.rSlX, L2.start, cxOf_K, cxOf_w, cxOf_prog,
  List.map_cons, List.map_nil, List.length_cons, List.length_nil, List.replicate, List.cons_append, List.nil_append, Nat.reduceAdd, Nat.reduceSub, Nat.zero_add, List.append_nil,
  List.set_cons_zero, List.set_cons_succ, List.getElem?_cons_zero, List.getElem?_cons_succ, Option.some.injEq, V.int.injEq, V.bl.injEq, V.ref.injEq, V.str.injEq, V.ty.injEq, List.cons.injEq, and_true, true_and, reduceCtorEq, false_and, exists_false, or_false, false_or, exists_eq_left, exists_eq_left', exists_eq', sw_S, an_S, exists_and_left, exists_const, exists_eq, decide_eq_true_eq, Bool.false_eq_true, if_true, if_false, Bool.not_eq_true', decide_eq_false_iff_not, Bool.not_true, Bool.not_false, ite_not, scal, and_false])
section
variable {P : Program} {w : World} {K : PySem.W.Frag} {mg : Str → Option Value} {base : Heap}
def sp_wide (K : PySem.W.Frag) : Sp := fun vs H Q _ => ∃ (q : Addr) (ns : List Int) (k : Int), vs = [.ref q, .int k] ∧ SqL K H q (ns.map V.int) ∧ 0 ≤ k ∧ ∀ r : Int, 0 ≤ r → Q (.int r) H
theorem c__law_wide {f : Addr} {fd : FuncData} (D : C8.Def K mg "_law_wide" s__law_wide f fd) (b : Binds K fd ["script", "k"] []) (z_len : mg "len" = none) (z_abs : mg "abs" = none) (z_int : mg "int" = none) : C8.Cal P w K mg base 1 "_law_wide" (sp_wide K) [] := by
  refine C8.cal0 D b .nil sc__law_wide (fun vs H Q E h => ?_) (fun cdv A outer s H vs Q E hr h => ?_)
  · obtain ⟨_, _, _, rfl, _⟩ := h
    rfl
  · obtain ⟨q, ns, k, rfl, hS, hk, ok⟩ := h
    refine ⟨_, (pss_cons (ps_set (i := 2) sc__law_wide.nd rfl (by first | exact Or.inl rfl | exact Or.inr rfl) pe_int) (C8.pss_cut (ps_if (pt_cmpR (op_lt) (pv 1) (pe_callB (lenS K) (by rfl) z_len PySem.boot_len (pa_cons (pv 0) pa_nil)) (nomark _)) (pss_one (ps_set (i := 2) sc__law_wide.nd rfl (by first | exact Or.inl rfl | exact Or.inr rfl) (pe_callB call_abs (by rfl) z_abs (by decide +kernel) (pa_cons (pe_ix (ixL K) (pv 0) (pv 1) (fun _ _ => rfl)) pa_nil)))) pss_nil) (pss_cons (ps_if (pt_cmpR (op_ge) (pv 2) pe_int (nomark _)) (pss_one (ps_ret (pv 2))) pss_nil) (pss_cons (ps_set (i := 3) sc__law_wide.nd rfl (by first | exact Or.inl rfl | exact Or.inr rfl) (pe_op op_mod (pe_callTy call_int1 (by rfl) z_int (by decide +kernel) (pa_cons (pe_op op_add (pe_op op_mul (pe_op op_add (pv 2) pe_int) pe_int) (pe_op op_mul (pe_op op_add (pv 1) pe_int) pe_int)) pa_nil)) pe_int)) (pss_one (ps_ret (pe_op op_mod (pe_callTy call_int1 (by rfl) z_int (by decide +kernel) (pa_cons (pe_op op_add (pe_op op_mul (pv 3) pe_int) (pe_op op_fdiv (pv 3) pe_int)) pa_nil)) pe_int))))))), ?_⟩
    walk_at "rd"
    obtain ⟨M, hM⟩ : ∃ M : L2.St → Hp → Prop, M = fun σ' H' => ∃ c : Int, 0 ≤ c ∧ σ' = [some (.ref q), some (.int k), some (.int c), none] ∧ H' = H := ⟨_, rfl⟩
    refine ⟨M, ?_, fun σ' H' hm => ?_⟩
    · walk_at "rd"
      refine ⟨_, .inl hS, ite2 (fun h1 => ?_) (fun h1 => ?_)⟩
      · rw [List.length_map] at h1
        refine ⟨_, hS, .int (ns.getD k.toNat 0), at_ints hk h1, ns.getD k.toNat 0, rfl, ?_⟩
        rw [hM]
        exact ⟨_, by split <;> omega, rfl, rfl⟩
      · rw [hM]
        exact ⟨0, Int.le_refl 0, rfl, rfl⟩
    · rw [hM] at hm
      obtain ⟨c, hc, rfl, rfl⟩ := hm
      walk_at "rd"
      refine ite2 (fun _ => ok c hc) (fun _ => ⟨.inr ⟨by decide, by decide⟩, .inr ⟨by decide, by decide⟩, by decide, .inr ⟨by decide, by decide⟩, ⟨by decide, by decide⟩, by decide, ok _ ?_⟩)
      exact Int.emod_nonneg _ (by decide)

def sp_take : Sp := fun vs H Q _ => ∃ (p q : Addr) (ns : List Int) (m : Int), vs = [.ref p, .int m] ∧ Pool H p q ns ∧ 0 < m ∧ m < 1073741824 ∧ ∀ (r : Int) H', 0 ≤ r → r < m → But p H H' → Pool H' p q ns → Q (.int r) H'
theorem c__law_take {f : Addr} {fd : FuncData} (D : C8.Def K mg "_law_take" s__law_take f fd) (b : Binds K fd ["pool", "most"] []) (z_int : mg "int" = none) (c__law_wide : C8.Cal P w K mg base 1 "_law_wide" (sp_wide K) []) : C8.Cal P w K mg base 2 "_law_take" sp_take [] := by
  refine C8.cal0 D b .nil sc__law_take (fun vs H Q E h => ?_) (fun cdv A outer s H vs Q E hr h => ?_)
  · obtain ⟨_, _, _, _, rfl, _⟩ := h
    rfl
  · obtain ⟨p, q, ns, m, rfl, ⟨hne, hq, a, k, hp, ha, hk⟩, hm0, hm1, ok⟩ := h
    refine ⟨_, (C8.pss_cut (ps_if (pt_cmpR (op_lt) (pe_ix (ixL K) (pv 0) pe_int (fun _ _ => rfl)) pe_int (nomark _)) (pss_cons (ps_asg (pe_op op_add (pe_ix (ixL K) (pv 0) pe_int (fun _ _ => rfl)) pe_int) (pg_sub (pv 0) pe_int set_list)) (pss_one (ps_asg (C8.pe_c c__law_wide hr (by decide) (by rfl) (pa_cons (pe_ix (ixL K) (pv 0) pe_int (fun _ _ => rfl)) (pa_cons (pe_ix (ixL K) (pv 0) pe_int (fun _ _ => rfl)) pa_nil))) (pg_sub (pv 0) pe_int set_list)))) pss_nil) (pss_cons (ps_set (i := 2) sc__law_take.nd rfl (by first | exact Or.inl rfl | exact Or.inr rfl) (pe_op op_mod (pe_callTy call_int1 (by rfl) z_int (by decide +kernel) (pa_cons (pe_ix (ixL K) (pv 0) pe_int (fun _ _ => rfl)) pa_nil)) (pv 1))) (pss_cons (ps_asg (pe_op op_fdiv (pe_ix (ixL K) (pv 0) pe_int (fun _ _ => rfl)) (pv 1)) (pg_sub (pv 0) pe_int set_list)) (pss_one (ps_ret (pv 2)))))), ?_⟩
    walk_at "rd"
    obtain ⟨M, hM⟩ : ∃ M : L2.St → Hp → Prop, M = fun σ' H' => But p H H' ∧ (∃ a k : Int, H' p = some (.lst [.int a, .ref q, .int k]) ∧ 0 ≤ a ∧ -1 ≤ k) ∧ σ' = [some (.ref p), some (.int m), none] := ⟨_, rfl⟩
    refine ⟨M, ?_, fun σ' H' hm => ?_⟩
    · walk_at "rd"
      refine ⟨_, SqL.of hp, _, rfl, ?_⟩
      walk_at "rd"
      refine ite2 (fun h1 => ?_) (fun h1 => ?_)
      · refine ⟨_, SqL.of hp, _, rfl, ?_⟩
        walk_at "rd"
        refine ⟨_, _, _, _, rfl, rfl, hp, rfl, ?_⟩
        refine ⟨_, SqL.of upd_same, _, rfl, _, SqL.of upd_same, _, rfl, ?_⟩
        have e2 : (upd H p (.lst ([V.int a, V.ref q, V.int k].set 2 (V.int (k + 1))))) q = some (.lst (ns.map V.int)) := by
          rw [upd_ne hne.symm]
          exact hq
        refine ⟨q, ns, k + 1, rfl, SqL.of e2, by omega, fun r hr0 => ?_⟩
        refine ⟨_, _, _, _, rfl, rfl, upd_same, rfl, ?_⟩
        rw [hM]
        exact ⟨But.upd.trans But.upd, ⟨r, k + 1, upd_same, hr0, by omega⟩, rfl⟩
      · rw [hM]
        exact ⟨But.refl _ _, ⟨a, k, hp, ha, hk⟩, rfl⟩
    · rw [hM] at hm
      obtain ⟨hB, ⟨a1, k1, hp1, ha1, hk1⟩, rfl⟩ := hm
      walk_at "rd"
      refine ⟨_, SqL.of hp1, _, rfl, ?_⟩
      walk_at "rd"
      refine ⟨hm0, _, SqL.of hp1, _, rfl, ?_⟩
      walk_at "rd"
      refine ⟨⟨hm0, hm1⟩, _, _, _, _, rfl, rfl, hp1, rfl, ?_⟩
      refine ok _ _ (Int.emod_nonneg _ (by omega)) (Int.emod_lt_of_pos _ hm0) (hB.trans But.upd) ⟨hne, ?_, a1 / m, k1, upd_same, Int.ediv_nonneg ha1 (by omega), hk1⟩
      rw [upd_ne hne.symm]
      exact hB _ _ hne.symm hq

def sp_pool (K : PySem.W.Frag) : Sp := fun vs H Q _ => ∃ (a : Addr) (ns : List Int), vs = [.ref a] ∧ SqL K H a (ns.map V.int) ∧ ∀ p q H', Same H H' → H p = none → H q = none → Pool H' p q ns → Q (.ref p) H'
theorem c__law_pool {f : Addr} {fd : FuncData} (D : C8.Def K mg "_law_pool" s__law_pool f fd) (b : Binds K fd ["script"] []) (z_list : mg "list" = none) : C8.Cal P w K mg base 1 "_law_pool" (sp_pool K) [] := by
  refine C8.cal0 D b .nil sc__law_pool (fun vs H Q E h => ?_) (fun cdv A outer s H vs Q E hr h => ?_)
  · obtain ⟨_, _, rfl, _⟩ := h
    rfl
  · obtain ⟨a, ns, rfl, hS, ok⟩ := h
    refine ⟨_, (pss_one (ps_ret (pe_lst (pa_cons pe_int (pa_cons (pe_callTy (listOf K) (by rfl) z_list (by decide +kernel) (pa_cons (pv 0) pa_nil)) (pa_cons (pe_un un_neg pe_int) pa_nil)))))), ?_⟩
    walk_at "rd"
    refine ⟨_, .inl hS, fun q hq => ⟨by show 3 ≤ sizeLine; decide, fun p hp => ?_⟩⟩
    have hne : p ≠ q := fun e => by
      subst e
      rw [upd_same] at hp
      cases hp
    have hp0 : H p = none := by
      rw [upd_ne hne] at hp
      exact hp
    refine ok p q _ ((same_upd hq).trans (same_upd hp)) hp0 hq ⟨hne, ?_, 0, -1, upd_same, by decide, by decide⟩
    rw [upd_ne hne.symm, upd_same]
/-- a written list, an item of it drawn -/
theorem menu {H : Hp} {p q l : Addr} {ns : List Int} {xs : List V} {Q : VK} {E : XK} (hP : Pool H p q ns) (hl : H l = none) (m : Int) (hm : m = xs.length) (hm0 : 0 < m) (hm1 : m < 1073741824) (ok : ∀ v H', v ∈ xs → But p H H' → Pool H' p q ns → Q v H') :
    sp_take [.ref p, .int m] (upd H l (.lst xs)) (fun y H2 => ∃ x x_1, y = V.int x_1 ∧ SqL K H2 l x ∧ ∃ x_2, atI x x_1 = some x_2 ∧ Q x_2 H2) E := by
  refine ⟨p, q, ns, m, rfl, hP.same (same_upd hl), hm0, hm1, fun r H1 r0 r1 hB hP1 => ?_⟩
  have hne : l ≠ p := by
    obtain ⟨_, _, _, _, hp, _⟩ := hP
    exact (ne_of_none hp hl).symm
  obtain ⟨v, hv, hm2⟩ := at_mem (xs := xs) r0 (by omega)
  exact ⟨_, r, rfl, SqL.of (hB l _ hne upd_same), v, hv, ok v H1 hm2 ((But.of (same_upd hl)).trans hB) hP1⟩
/-- a sign of a text drawn -/
theorem sign {H : Hp} {p q : Addr} {ns : List Int} {l : List Nat} {Q : Nat → Hp → Prop} {E : XK} (hP : Pool H p q ns) (m : Int) (hm : m = l.length) (hm0 : 0 < m) (hm1 : m < 10000) (ok : ∀ c H', c ∈ l → But p H H' → Pool H' p q ns → Q c H') :
    sp_take [.ref p, .int m] H (fun y H2 => ∃ x, y = V.int x ∧ l.length ≤ sizeLine ∧ ∃ c, atI l x = some c ∧ Q c H2) E := by
  refine ⟨p, q, ns, m, rfl, hP, hm0, by omega, fun r H1 r0 r1 hB hP1 => ?_⟩
  obtain ⟨v, hv, hm2⟩ := at_mem (xs := l) r0 (by omega)
  exact ⟨r, rfl, small (by omega), v, hv, ok v H1 hm2 hB hP1⟩
def sp_reserved : Sp := fun vs H Q _ => vs = [] ∧ ∀ p H', Same H H' → H p = none → H' p = some (.lst (RES.map vS)) → Q (.ref p) H'
theorem c__law_reserved {f : Addr} {fd : FuncData} (D : C8.Def K mg "_law_reserved" s__law_reserved f fd) (b : Binds K fd [] [])  : C8.Cal P w K mg base 1 "_law_reserved" sp_reserved [] := by
  refine C8.cal0 D b .nil sc__law_reserved (fun vs H Q E h => ?_) (fun cdv A outer s H vs Q E hr h => ?_)
  · obtain ⟨rfl, _⟩ := h
    rfl
  · obtain ⟨rfl, ok⟩ := h
    refine ⟨_, (pss_one (ps_ret (pe_lst (pa_cons pe_str (pa_cons pe_str (pa_cons pe_str (pa_cons pe_str (pa_cons pe_str pa_nil)))))))), ?_⟩
    walk_at "rd"
    refine ⟨by show 5 ≤ sizeLine; decide, fun p hp => ok p _ (same_upd hp) hp upd_same⟩
def sp_signs : Sp := fun vs H Q _ => vs = [] ∧ ∀ p H', Same H H' → H p = none → H' p = some (.lst (SGN.map vS)) → Q (.ref p) H'
theorem c__law_signs {f : Addr} {fd : FuncData} (D : C8.Def K mg "_law_signs" s__law_signs f fd) (b : Binds K fd [] [])  : C8.Cal P w K mg base 1 "_law_signs" sp_signs [] := by
  refine C8.cal0 D b .nil sc__law_signs (fun vs H Q E h => ?_) (fun cdv A outer s H vs Q E hr h => ?_)
  · obtain ⟨rfl, _⟩ := h
    rfl
  · obtain ⟨rfl, ok⟩ := h
    refine ⟨_, (pss_cons (ps_set (i := 0) sc__law_signs.nd rfl (by first | exact Or.inl rfl | exact Or.inr rfl) (pe_lst (pa_cons pe_str (pa_cons pe_str (pa_cons pe_str (pa_cons pe_str (pa_cons pe_str (pa_cons pe_str (pa_cons pe_str (pa_cons pe_str (pa_cons pe_str (pa_cons pe_str (pa_cons pe_str (pa_cons pe_str pa_nil)))))))))))))) (pss_one (ps_ret (pe_op op_cat (pv 0) (pe_lst (pa_cons pe_str (pa_cons pe_str (pa_cons pe_str (pa_cons pe_str (pa_cons pe_str (pa_cons pe_str (pa_cons pe_str (pa_cons pe_str (pa_cons pe_str (pa_cons pe_str (pa_cons pe_str (pa_cons pe_str pa_nil))))))))))))))))), ?_⟩
    walk_at "rd"
    refine ⟨by show 12 ≤ sizeLine; decide, fun p hp => ⟨by show 12 ≤ sizeLine; decide, fun r hr0 => ?_⟩⟩
    have nr : p ≠ r := ne_of_none upd_same hr0
    refine ⟨_, (by rw [upd_ne nr]; exact upd_same), _, upd_same, by show 24 ≤ sizeLine; decide, fun u hu => ?_⟩
    have hu0 : H u = none := ((same_upd hp).trans (same_upd hr0)).free hu
    exact ok u _ (((same_upd hp).trans (same_upd hr0)).trans (same_upd hu)) hu0 upd_same
def sp_name : Sp := fun vs H Q _ => ∃ (p q : Addr) (ns : List Int), vs = [.ref p] ∧ Pool H p q ns ∧ ∀ l H', GName l → But p H H' → Pool H' p q ns → Q (.str (S l)) H'
def NumL (L : List Int) : List V := L.map V.int
theorem c__law_name {f : Addr} {fd : FuncData} (D : C8.Def K mg "_law_name" s__law_name f fd) (b : Binds K fd ["pool"] []) (c__law_take : C8.Cal P w K mg base 2 "_law_take" sp_take []) (c__law_reserved : C8.Cal P w K mg base 1 "_law_reserved" sp_reserved []) (z_range : mg "range" = none) : C8.Cal P w K mg base 3 "_law_name" sp_name [] := by
  refine C8.cal0 D b .nil sc__law_name (fun vs H Q E h => ?_) (fun cdv A outer s H vs Q E hr h => ?_)
  · obtain ⟨_, _, _, rfl, _⟩ := h
    rfl
  · obtain ⟨p, q, ns, rfl, hP, ok⟩ := h
    refine ⟨_, (pss_cons (ps_set (i := 1) sc__law_name.nd rfl (by first | exact Or.inl rfl | exact Or.inr rfl) pe_str) (pss_cons (ps_set (i := 2) sc__law_name.nd rfl (by first | exact Or.inl rfl | exact Or.inr rfl) (pe_ix (ixL K) (pe_lst (pa_cons pe_str (pa_cons pe_str (pa_cons pe_str (pa_cons pe_str (pa_cons pe_str (pa_cons pe_str (pa_cons pe_str (pa_cons pe_str pa_nil))))))))) (C8.pe_c c__law_take hr (by decide) (by rfl) (pa_cons (pv 0) (pa_cons pe_int pa_nil))) (fun _ _ => rfl))) (C8.pss_cut (ps_if (pt_cmpR (op_eq) (C8.pe_c c__law_take hr (by decide) (by rfl) (pa_cons (pv 0) (pa_cons pe_int pa_nil))) pe_int (nomark _)) (pss_cons (ps_set (i := 2) sc__law_name.nd rfl (by first | exact Or.inl rfl | exact Or.inr rfl) (pe_ix ix_str (pv 1) (C8.pe_c c__law_take hr (by decide) (by rfl) (pa_cons (pv 0) (pa_cons pe_int pa_nil))) (fun _ _ => rfl))) (pss_one (ps_for PassesOwn.never rfl (pi_range1 (by rfl) z_range (pa_cons (pe_ix (ixL K) (pe_lst (pa_cons pe_int (pa_cons pe_int (pa_cons pe_int (pa_cons pe_int (pa_cons pe_int (pa_cons pe_int pa_nil))))))) (C8.pe_c c__law_take hr (by decide) (by rfl) (pa_cons (pv 0) (pa_cons pe_int pa_nil))) (fun _ _ => rfl)) pa_nil)) (pg_name (i := 3) sc__law_name.nd rfl (by first | exact Or.inl rfl | exact Or.inr rfl)) (pss_one (ps_set (i := 2) sc__law_name.nd rfl (by first | exact Or.inl rfl | exact Or.inr rfl) (pe_op op_add_str (pv 2) (pe_ix ix_str (pe_op op_add_str (pv 1) pe_str) (C8.pe_c c__law_take hr (by decide) (by rfl) (pa_cons (pv 0) (pa_cons pe_int pa_nil))) (fun _ _ => rfl)))))))) pss_nil) (C8.pss_cut (ps_if (pt_cmpR (inQ K) (pv 2) (pe_c0 c__law_reserved hr (by decide) (by rfl)) (by with_unfolding_all rfl)) (pss_one (ps_set (i := 2) sc__law_name.nd rfl (by first | exact Or.inl rfl | exact Or.inr rfl) (pe_op op_add_str (pv 2) pe_str))) pss_nil) (pss_one (ps_ret (pv 2))))))), ?_⟩
    walk_at "rd"
    refine ⟨by show 8 ≤ sizeLine; decide, fun l1 hl1 => menu hP hl1 8 rfl (by decide) (by decide) fun v H1 hv hB1 hP1 => ?_⟩
    obtain ⟨nm, hnm, rfl⟩ : ∃ nm ∈ NMS, vS (cs nm) = v := List.mem_map.mp (show v ∈ NMS.map fun s => vS (cs s) from hv)
    obtain ⟨M, hM⟩ : ∃ M : L2.St → Hp → Prop, M = fun σ' H' => ∃ (l : List Nat) (k : Option V), (∃ c r, l = c :: r ∧ c ∈ LOW) ∧ (∀ c ∈ l, c ∈ LOW ++ DIG) ∧ l.length ≤ 12 ∧ σ' = [some (.ref p), some (.str (S LOW)), some (.str (S l)), k] ∧ But p H H' ∧ Pool H' p q ns := ⟨_, rfl⟩
    refine ⟨M, ?_, fun σ' H' hm => ?_⟩
    · walk_at "rd"
      refine ⟨p, q, ns, 3, rfl, hP1, by decide, by decide, fun r H2 r0 r1 hB2 hP2 => ⟨rfl, ?_⟩⟩
      walk_at "rd"
      refine ite2 (fun _ => ?_) (fun _ => ?_)
      · refine sign hP2 26 (by exact congrArg Int.ofNat low_len.symm) (by decide) (by decide) (fun c H3 hc hB3 hP3 => ?_)
        refine ⟨by show 6 ≤ sizeLine; decide, fun l2 hl2 => menu hP3 hl2 6 rfl (by decide) (by decide) fun v H4 hv4 hB4 hP4 => ?_⟩
        obtain ⟨j, hj, rfl⟩ : ∃ j ∈ ([0, 1, 2, 3, 7, 11] : List Int), V.int j = v := List.mem_map.mp (show v ∈ ([0, 1, 2, 3, 7, 11] : List Int).map V.int from hv4)
        have hj2 : 0 ≤ j ∧ j ≤ 11 := by
          have : ∀ j ∈ ([0, 1, 2, 3, 7, 11] : List Int), 0 ≤ j ∧ j ≤ 11 := by decide
          exact this j hj
        refine ⟨j, rfl, by omega, by omega, ?_⟩
        have hBx : But p H H4 := ((hB1.trans hB2).trans hB3).trans hB4
        refine for_range (fun i σ H5 => ∃ (l : List Nat) (k : Option V), (∃ c r, l = c :: r ∧ c ∈ LOW) ∧ (∀ c ∈ l, c ∈ LOW ++ DIG) ∧ l.length = i + 1 ∧ σ = [some (.ref p), some (.str (S LOW)), some (.str (S l)), k] ∧ But p H H5 ∧ Pool H5 p q ns) ?_ ?_ ?_
        · exact ⟨[c], none, ⟨c, [], rfl, hc⟩, fun d hd => by rw [List.mem_singleton.mp hd]; exact List.mem_append_left _ hc, rfl, rfl, hBx, hP4⟩
        · rintro i σ H5 hi ⟨l, k, hd, al, le, rfl, hB5, hP5⟩
          have hle : l.length ≤ 11 := by omega
          walk_at "rd"
          refine ⟨by rw [low_len]; exact small (by decide), sign (l := LOW ++ DIG) hP5 36 (by rw [lowdig_len]; rfl) (by decide) (by decide) fun d H6 hd6 hB6 hP6 => ⟨small (by omega), l ++ [d], ?_, ?_, ?_, _, ⟨rfl, rfl⟩, hB5.trans hB6, hP6⟩⟩
          · obtain ⟨c0, r0', rfl, hc0⟩ := hd
            exact ⟨c0, r0' ++ [d], rfl, hc0⟩
          · intro x hx
            rcases List.mem_append.mp hx with hx | hx
            · exact al x hx
            · rw [List.mem_singleton.mp hx]
              exact hd6
          · rw [List.length_append, le]
            rfl
        · rintro σ H5 ⟨l, k, hd, al, le, rfl, hB5, hP5⟩
          rw [hM]
          exact ⟨l, k, hd, al, by omega, rfl, hB5, hP5⟩
      · rw [hM]
        obtain ⟨h1, h2, h3⟩ := nms_ok nm hnm
        exact ⟨cs nm, none, h1, h2, h3, rfl, hB1.trans hB2, hP2⟩
    · rw [hM] at hm
      obtain ⟨l, k, hd, al, le, rfl, hB, hP2⟩ := hm
      obtain ⟨M2, hM2⟩ : ∃ M : L2.St → Hp → Prop, M = fun σ' H' => ∃ (l : List Nat) (k : Option V), GName l ∧ σ' = [some (.ref p), some (.str (S LOW)), some (.str (S l)), k] ∧ But p H H' ∧ Pool H' p q ns := ⟨_, rfl⟩
      refine ⟨M2, ?_, fun σ' H' hm => ?_⟩
      · walk_at "rd"
        refine ⟨rfl, fun r1 H3 sm hr0 hr1 => ⟨r1, rfl, _, .inl (SqL.of hr1), rfl, flat_S RES, ?_⟩⟩
        obtain ⟨g1, g2⟩ := gname_of hd al le
        rw [inV_S]
        refine ite2 (fun h => ?_) (fun h => ?_)
        · have hm : l ∈ RES := of_decide_eq_true h
          refine ⟨small (by have := res_len l hm; have : (cs "0").length = 1 := by decide +kernel
                            omega), ?_⟩
          rw [hM2]
          exact ⟨l ++ cs "0", k, g1 hm, rfl, hB.trans (But.of sm), hP2.same sm⟩
        · have hm : l ∉ RES := fun e => h (decide_eq_true e)
          rw [hM2]
          exact ⟨l, k, g2 hm, rfl, hB.trans (But.of sm), hP2.same sm⟩
      · rw [hM2] at hm
        obtain ⟨l, k, hg, rfl, hB3, hP3⟩ := hm
        walk_at "rd"
        exact ok l _ hg hB3 hP3
def sp_word : Sp := fun vs H Q _ => ∃ (p q : Addr) (ns : List Int), vs = [.ref p] ∧ Pool H p q ns ∧ ∀ l H', GWord l → But p H H' → Pool H' p q ns → Q (.str (S l)) H'
theorem c__law_word {f : Addr} {fd : FuncData} (D : C8.Def K mg "_law_word" s__law_word f fd) (b : Binds K fd ["pool"] []) (c__law_take : C8.Cal P w K mg base 2 "_law_take" sp_take []) (z_range : mg "range" = none) : C8.Cal P w K mg base 3 "_law_word" sp_word [] := by
  refine C8.cal0 D b .nil sc__law_word (fun vs H Q E h => ?_) (fun cdv A outer s H vs Q E hr h => ?_)
  · obtain ⟨_, _, _, rfl, _⟩ := h
    rfl
  · obtain ⟨p, q, ns, rfl, hP, ok⟩ := h
    refine ⟨_, (pss_cons (ps_set (i := 1) sc__law_word.nd rfl (by first | exact Or.inl rfl | exact Or.inr rfl) pe_str) (pss_cons (ps_set (i := 2) sc__law_word.nd rfl (by first | exact Or.inl rfl | exact Or.inr rfl) (pe_ix ix_str (pv 1) (C8.pe_c c__law_take hr (by decide) (by rfl) (pa_cons (pv 0) (pa_cons pe_int pa_nil))) (fun _ _ => rfl))) (pss_cons (ps_for PassesOwn.never rfl (pi_range1 (by rfl) z_range (pa_cons (pe_ix (ixL K) (pe_lst (pa_cons pe_int (pa_cons pe_int (pa_cons pe_int (pa_cons pe_int pa_nil))))) (C8.pe_c c__law_take hr (by decide) (by rfl) (pa_cons (pv 0) (pa_cons pe_int pa_nil))) (fun _ _ => rfl)) pa_nil)) (pg_name (i := 3) sc__law_word.nd rfl (by first | exact Or.inl rfl | exact Or.inr rfl)) (pss_one (ps_set (i := 2) sc__law_word.nd rfl (by first | exact Or.inl rfl | exact Or.inr rfl) (pe_op op_add_str (pv 2) (pe_ix ix_str (pe_op op_add_str (pv 1) pe_str) (C8.pe_c c__law_take hr (by decide) (by rfl) (pa_cons (pv 0) (pa_cons pe_int pa_nil))) (fun _ _ => rfl)))))) (pss_one (ps_ret (pv 2)))))), ?_⟩
    walk_at "rd"
    refine sign hP 26 (by exact congrArg Int.ofNat upp_len.symm) (by decide) (by decide) (fun c H3 hc hB3 hP3 => ?_)
    refine ⟨by show 4 ≤ sizeLine; decide, fun l2 hl2 => menu hP3 hl2 4 rfl (by decide) (by decide) fun v H4 hv4 hB4 hP4 => ?_⟩
    obtain ⟨j, hj, rfl⟩ : ∃ j ∈ ([0, 1, 2, 11] : List Int), V.int j = v := List.mem_map.mp (show v ∈ ([0, 1, 2, 11] : List Int).map V.int from hv4)
    have hj2 : 0 ≤ j ∧ j ≤ 11 := by
      have : ∀ j ∈ ([0, 1, 2, 11] : List Int), 0 ≤ j ∧ j ≤ 11 := by decide
      exact this j hj
    refine ⟨j, rfl, by omega, by omega, ?_⟩
    refine for_range (fun i σ H5 => ∃ (l : List Nat) (k : Option V), (∃ c r, l = c :: r ∧ c ∈ UPP) ∧ (∀ c ∈ l, c ∈ UPP ++ DIG) ∧ l.length = i + 1 ∧ σ = [some (.ref p), some (.str (S UPP)), some (.str (S l)), k] ∧ But p H H5 ∧ Pool H5 p q ns) ?_ ?_ ?_
    · exact ⟨[c], none, ⟨c, [], rfl, hc⟩, fun d hd => by rw [List.mem_singleton.mp hd]; exact List.mem_append_left _ hc, rfl, rfl, hB3.trans hB4, hP4⟩
    · rintro i σ H5 hi ⟨l, k, hd, al, le, rfl, hB5, hP5⟩
      have hle : l.length ≤ 11 := by omega
      walk_at "rd"
      refine ⟨by rw [upp_len]; exact small (by decide), sign (l := UPP ++ DIG) hP5 36 (by rw [uppdig_len]; rfl) (by decide) (by decide) fun d H6 hd6 hB6 hP6 => ⟨small (by omega), l ++ [d], ?_, ?_, ?_, _, ⟨rfl, rfl⟩, hB5.trans hB6, hP6⟩⟩
      · obtain ⟨c0, r0', rfl, hc0⟩ := hd
        exact ⟨c0, r0' ++ [d], rfl, hc0⟩
      · intro x hx
        rcases List.mem_append.mp hx with hx | hx
        · exact al x hx
        · rw [List.mem_singleton.mp hx]
          exact hd6
      · rw [List.length_append, le]
        rfl
    · rintro σ H5 ⟨l, k, hd, al, le, rfl, hB5, hP5⟩
      walk_at "rd"
      exact ok l _ ⟨hd, al, by omega⟩ hB5 hP5
def sp_space : Sp := fun vs H Q _ => ∃ (p q : Addr) (ns : List Int) (nd : Bool), vs = [.ref p, .bl nd] ∧ Pool H p q ns ∧ ∀ l H', (∀ c ∈ l, c = 32 ∨ c = 10) → l.length ≤ 4 → (nd = true → l ≠ []) → But p H H' → Pool H' p q ns → Q (.str (S l)) H'
theorem c__law_space {f : Addr} {fd : FuncData} (D : C8.Def K mg "_law_space" s__law_space f fd) (b : Binds K fd ["pool", "needed"] []) (c__law_take : C8.Cal P w K mg base 2 "_law_take" sp_take []) : C8.Cal P w K mg base 3 "_law_space" sp_space [] := by
  refine C8.cal0 D b .nil sc__law_space (fun vs H Q E h => ?_) (fun cdv A outer s H vs Q E hr h => ?_)
  · obtain ⟨_, _, _, _, rfl, _⟩ := h
    rfl
  · obtain ⟨p, q, ns, nd, rfl, hP, ok⟩ := h
    refine ⟨_, (pss_cons (ps_set (i := 2) sc__law_space.nd rfl (by first | exact Or.inl rfl | exact Or.inr rfl) (pe_ix (ixL K) (pe_lst (pa_cons pe_str (pa_cons pe_str (pa_cons pe_str (pa_cons pe_str (pa_cons pe_str (pa_cons pe_str pa_nil))))))) (C8.pe_c c__law_take hr (by decide) (by rfl) (pa_cons (pv 0) (pa_cons pe_int pa_nil))) (fun _ _ => rfl))) (pss_cons (ps_if (PW.pt (pw_and (pt_val (pv 1)) (pw_and1 (pt_cmpR (op_eq) (pv 2) pe_str (nomark _))))) (pss_one (ps_ret pe_str)) pss_nil) (pss_one (ps_ret (pv 2))))), ?_⟩
    walk_at "rd"
    refine ⟨by show 6 ≤ sizeLine; decide, fun l1 hl1 => menu hP hl1 6 rfl (by decide) (by decide) fun v H1 hv hB1 hP1 => ?_⟩
    obtain ⟨nm, hnm, rfl⟩ : ∃ nm ∈ SPS, vS (cs nm) = v := List.mem_map.mp (show v ∈ SPS.map fun s => vS (cs s) from hv)
    obtain ⟨h1, h2⟩ := sps_ok nm hnm
    refine ite2 (fun hn => ⟨rfl, ite2 (fun he => ?_) (fun he => ?_)⟩) (fun hn => ?_)
    · exact ok _ _ (by decide +kernel) (by decide +kernel) (fun _ => by decide +kernel) hB1 hP1
    · refine ok _ _ h1 h2 (fun _ e0 => he ?_) hB1 hP1
      show V.str (S (cs nm)) = _
      rw [e0]
      rfl
    · exact ok _ _ h1 h2 (fun e => absurd e hn) hB1 hP1
def sp_joins : Sp := fun vs H Q _ => ∃ (a b : List Nat) (x y : Nat) (a' b' : List Nat), vs = [.str (S a), .str (S b)] ∧ a = a' ++ [x] ∧ b = y :: b' ∧ a.length ≤ 1000 ∧ b.length ≤ 1000 ∧ ∀ H', Same H H' → Q (.bl (joins a b)) H'
theorem c__law_joins {f : Addr} {fd : FuncData} (D : C8.Def K mg "_law_joins" s__law_joins f fd) (b : Binds K fd ["left", "right"] []) (c__law_signs : C8.Cal P w K mg base 1 "_law_signs" sp_signs []) (z_len : mg "len" = none) : C8.Cal P w K mg base 2 "_law_joins" sp_joins [] := by
  refine C8.cal0 D b .nil sc__law_joins (fun vs H Q E h => ?_) (fun cdv A outer s H vs Q E hr h => ?_)
  · obtain ⟨_, _, _, _, _, _, rfl, _⟩ := h
    rfl
  · obtain ⟨a, b, x, y, a', b', rfl, ea, eb, la, lb, ok⟩ := h
    refine ⟨_, (C8.pss_cut (ps_if (PW.pt (pw_and (pt_val (pe_m0 PySem.F.slot_str_isalnum PySem.F.type_str_isalnum mt_isalnum (pe_ix ix_str (pv 0) (pe_un un_neg pe_int) (fun _ _ => rfl)))) (pw_and1 (pt_val (pe_m0 PySem.F.slot_str_isalnum PySem.F.type_str_isalnum mt_isalnum (pe_ix ix_str (pv 1) pe_int (fun _ _ => rfl))))))) (pss_one (ps_ret pe_bl)) pss_nil) (pss_cons (ps_for PassesOwn.never rfl (pi_list (pe_c0 c__law_signs hr (by decide) (by rfl))) (pg_name (i := 2) sc__law_joins.nd rfl (by first | exact Or.inl rfl | exact Or.inr rfl)) (pss_one (ps_if (PW.pt (pw_and (pt_cmpR (op_gt) (pe_callB call_len_str (by rfl) z_len PySem.boot_len (pa_cons (pv 2) pa_nil)) (pe_callB call_len_str (by rfl) z_len PySem.boot_len (pa_cons (pv 0) pa_nil)) (nomark _)) (pw_and (pt_val (pe_m1 PySem.F.slot_str_startswith PySem.F.type_str_startswith mt_startswith (pv 2) (pv 0))) (pw_and1 (pt_val (pe_m1 PySem.F.slot_str_startswith PySem.F.type_str_startswith mt_startswith (pe_op op_add_str (pv 0) (pv 1)) (pv 2))))))) (pss_one (ps_ret pe_bl)) pss_nil))) (pss_one (ps_ret pe_bl)))), ?_⟩
    walk_at "rd"
    obtain ⟨M, hM⟩ : ∃ M : L2.St → Hp → Prop, M = fun σ' H' => (isAN x && isAN y) = false ∧ σ' = [some (.str (S a)), some (.str (S b)), none] ∧ H' = H := ⟨_, rfl⟩
    refine ⟨M, ?_, fun σ' H' hm => ?_⟩
    · walk_at "rd"
      have ea2 : atI a (-1) = some x := by rw [ea]; exact atI_last _ _
      have eb2 : atI b 0 = some y := by rw [eb]; exact atI_nat (j := 0) rfl
      refine ⟨small (by omega), x, ea2, ?_⟩
      refine ite2 (fun h1 => ⟨small (by omega), y, eb2, ?_⟩) (fun h1 => ?_)
      · refine ite2 (fun h2 => ?_) (fun h2 => ?_)
        · have ej : joins a b = true := by
            unfold joins
            rw [ea, eb]
            simp [h1, h2]
          rw [← ej]
          exact ok H (Same.refl H)
        · rw [hM]
          exact ⟨by simp [h1, h2], rfl, rfl⟩
      · rw [hM]
        exact ⟨by simp [h1], rfl, rfl⟩
    · rw [hM] at hm
      obtain ⟨han, rfl, rfl⟩ := hm
      walk_at "rd"
      refine ⟨rfl, fun r H1 sm hr0 hr1 => ⟨r, rfl, ⟨_, SqL.of hr1⟩, ?_⟩⟩
      obtain ⟨Pv, hPv⟩ : ∃ Pv : Nat → L2.St → Hp → Prop, Pv = fun i σ H2 => ∃ k, σ = [some (.str (S a)), some (.str (S b)), k] ∧ H1 = H2 ∧ (SGN.take i).any (fun s => decide (a.length < s.length) && pfx a s && pfx s (a ++ b)) = false := ⟨_, rfl⟩
      refine for_list (xs := SGN.map vS) Pv ?_ ?_ ?_ ?_
      · rw [hPv]
        exact ⟨none, rfl, rfl, rfl⟩
      · rw [hPv]
        rintro i σ H2 hi ⟨k, rfl, rfl, _⟩
        exact SqL.of hr1
      · intro i v σ H2 hv hp
        rw [hPv] at hp
        obtain ⟨k, rfl, rfl, hany⟩ := hp
        rw [List.getElem?_map] at hv
        obtain ⟨s, hs, rfl⟩ := Option.map_eq_some_iff.mp hv
        have hsm : s ∈ SGN := List.mem_of_getElem? hs
        have hsl : s.length ≤ 3 := sgn_len s hsm
        unfold vS
        walk_at "rd"
        have hnext : (decide (a.length < s.length) && pfx a s && pfx s (a ++ b)) = false → Pv (i + 1) [some (.str (S a)), some (.str (S b)), some (.str (S s))] H1 := by
          intro h
          rw [hPv]
          refine ⟨_, rfl, rfl, ?_⟩
          rw [List.take_add_one, hs, List.any_append, hany]
          simp [h]
        have hstop : (decide (a.length < s.length) && pfx a s && pfx s (a ++ b)) = true → Q (V.bl true) H1 := by
          intro h
          have ej : joins a b = true := by
            unfold joins
            rw [List.any_eq_true.mpr ⟨s, hsm, h⟩]
            simp
          rw [← ej]
          exact ok _ sm
        refine ⟨small (by omega), small (by omega), ite2 (fun h1 => ite2 (fun h2 => ⟨small (by omega), ite2 (fun h3 => hstop ?_) (fun h3 => hnext ?_)⟩) (fun h2 => hnext ?_)) (fun h1 => hnext ?_)⟩
        · have h1' : a.length < s.length := by omega
          simp [h1', h2, h3]
        · simp [h3]
        · simp [h2]
        · have h1' : ¬ a.length < s.length := by omega
          simp [h1']
      · intro σ H2 hp
        rw [hPv] at hp
        obtain ⟨k, rfl, rfl, hany⟩ := hp
        walk_at "rd"
        rw [List.length_map, List.take_length] at hany
        have ej : joins a b = false := by
          unfold joins
          rw [hany, ea, eb]
          simpa using han
        rw [← ej]
        exact ok _ sm
def sp_text (K : PySem.W.Frag) : Sp := fun vs H Q _ => ∃ (p q a : Addr) (ns : List Int) (ps : List (List Nat)), vs = [.ref p, .ref a] ∧ Pool H p q ns ∧ a ≠ p ∧ SqL K H a (ps.map vS) ∧ (∀ l ∈ ps, l ≠ [] ∧ l.length ≤ 100) ∧ ps.length ≤ 50 ∧
  ∀ (l0 : List Nat) (rows : List TRow) (r t : Addr) H', rows.map (·.1) = ps → Blank l0 → (∀ x ∈ rows, Blank x.2) → Sepd rows → But p H H' → Pool H' p q ns → H r = none → H t = none → r ≠ t →
    H' r = some (.lst [.str (S (l0 ++ flat rows)), .ref t]) → H' t = some (.lst (places l0.length rows)) → Q (.ref r) H'
theorem c__law_text {f : Addr} {fd : FuncData} (D : C8.Def K mg "_law_text" s__law_text f fd) (b : Binds K fd ["pool", "parts"] []) (c__law_space : C8.Cal P w K mg base 3 "_law_space" sp_space []) (c__law_joins : C8.Cal P w K mg base 2 "_law_joins" sp_joins []) (z_range : mg "range" = none) (z_len : mg "len" = none) (z_min : mg "min" = none) : C8.Cal P w K mg base 4 "_law_text" (sp_text K) [] := by
  refine C8.cal0 D b .nil sc__law_text (fun vs H Q E h => ?_) (fun cdv A outer s H vs Q E hr h => ?_)
  · obtain ⟨_, _, _, _, _, rfl, _⟩ := h
    rfl
  · obtain ⟨p, q, a, ns, ps, rfl, hP, hap, hA, hps, hpl, ok⟩ := h
    refine ⟨_, (pss_cons (ps_set (i := 2) sc__law_text.nd rfl (by first | exact Or.inl rfl | exact Or.inr rfl) (C8.pe_c c__law_space hr (by decide) (by rfl) (pa_cons (pv 0) (pa_cons pe_bl pa_nil)))) (pss_cons (ps_set (i := 3) sc__law_text.nd rfl (by first | exact Or.inl rfl | exact Or.inr rfl) (pe_lst pa_nil)) (pss_cons (ps_for PassesOwn.never rfl (pi_range1 (by rfl) z_range (pa_cons (pe_callB (lenS K) (by rfl) z_len PySem.boot_len (pa_cons (pv 1) pa_nil)) pa_nil)) (pg_name (i := 4) sc__law_text.nd rfl (by first | exact Or.inl rfl | exact Or.inr rfl)) (pss_cons (ps_expr (pe_bm PySem.F.plainAttrs_list PySem.F.slot_list_append PySem.F.type_list_append mt_append (pv 3) (pa_cons (pe_callB call_len_str (by rfl) z_len PySem.boot_len (pa_cons (pv 2) pa_nil)) pa_nil))) (pss_cons (ps_set (i := 2) sc__law_text.nd rfl (by first | exact Or.inl rfl | exact Or.inr rfl) (pe_op op_add_str (pv 2) (pe_ix (ixL K) (pv 1) (pv 4) (fun _ _ => rfl)))) (pss_one (ps_set (i := 2) sc__law_text.nd rfl (by first | exact Or.inl rfl | exact Or.inr rfl) (pe_op op_add_str (pv 2) (C8.pe_c c__law_space hr (by decide) (by rfl) (pa_cons (pv 0) (pa_cons (pe_and (pe_cmpR (op_lt) (pe_op op_add (pv 4) pe_int) (pe_callB (lenS K) (by rfl) z_len PySem.boot_len (pa_cons (pv 1) pa_nil)) (nomark _)) (pe_one (C8.pe_c c__law_joins hr (by decide) (by rfl) (pa_cons (pe_ix (ixL K) (pv 1) (pv 4) (fun _ _ => rfl)) (pa_cons (pe_ix (ixL K) (pv 1) (pe_callB (call_min2 rfl) (by rfl) z_min (by decide +kernel) (pa_cons (pe_op op_add (pv 4) pe_int) (pa_cons (pe_op op_sub (pe_callB (lenS K) (by rfl) z_len PySem.boot_len (pa_cons (pv 1) pa_nil)) pe_int) pa_nil))) (fun _ _ => rfl)) pa_nil))))) pa_nil))))))))) (pss_one (ps_ret (pe_lst (pa_cons (pv 2) (pa_cons (pv 3) pa_nil)))))))), ?_⟩
    walk_at "rd"
    refine ⟨p, q, ns, false, rfl, hP, fun l0 H1 bl0 bl1 _ hB1 hP1 => ⟨Nat.zero_le _, fun t ht1 => ⟨_, .inl ((same_upd ht1).seq (hB1.list hap hA)), ?_⟩⟩⟩
    have ht0 : H t = none := hB1.free hP1 ht1
    have htp : t ≠ p := hP1.ne ht1
    rw [List.length_map]
    refine ⟨by omega, by omega, ?_⟩
    rw [Int.toNat_natCast]
    obtain ⟨Pv, hPv⟩ : ∃ Pv : Nat → L2.St → Hp → Prop, Pv = fun i σ H2 => ∃ (rows : List TRow) (k : Option V), σ = [some (.ref p), some (.ref a), some (.str (S (l0 ++ flat rows))), some (.ref t), k] ∧ rows.map (·.1) = ps.take i ∧ (∀ x ∈ rows, Blank x.2) ∧
      (∀ (k : Nat) (x : TRow) (y : List Nat), rows[k]? = some x → ps[k + 1]? = some y → joins x.1 y = true → x.2 ≠ []) ∧ But p H H2 ∧ Pool H2 p q ns ∧ H2 t = some (.lst (places l0.length rows)) := ⟨_, rfl⟩
    refine for_range Pv ?_ ?_ ?_
    · rw [hPv]
      exact ⟨[], none, by simp [flat], rfl, (fun _ h => nomatch h), (fun _ _ _ h => by simp at h), hB1.trans (But.of (same_upd ht1)), hP1.same (same_upd ht1), upd_same⟩
    · intro i σ H2 hi hp
      rw [hPv] at hp
      obtain ⟨rows, k0, rfl, hfst, hbl, hsep, hB2, hP2, hT⟩ := hp
      have hrl : rows.length = i := by
        have := congrArg List.length hfst
        rw [List.length_map, List.length_take] at this
        omega
      have hA2 := hB2.list hap hA
      have hpi : ps[i]? = some ps[i] := List.getElem?_eq_getElem hi
      have hmem : ps[i] ∈ ps := List.getElem_mem hi
      have hrow : ∀ x ∈ rows, x.1.length ≤ 100 ∧ x.2.length ≤ 4 := fun x hx => by
        refine ⟨(hps x.1 ?_).2, (hbl x hx).2⟩
        have : x.1 ∈ rows.map (·.1) := List.mem_map_of_mem hx
        rw [hfst] at this
        exact List.mem_of_mem_take this
      have hfl := flat_len rows hrow
      have htx : (l0 ++ flat rows).length ≤ 6000 := by
        rw [List.length_append]
        omega
      have htq : t ≠ q := hP1.neq ht1
      have hpil := hps _ hmem
      have hA3 : ∀ o, SqL K (upd H2 t o) a (ps.map vS) := fun o => (hB2.new ht0).list hap hA
      have hplc : (places l0.length rows).length ≤ 100 := by
        rw [places_len]
        omega
      have fin : ∀ (sp : List Nat) (H3 : Hp), Blank sp → ((∀ y, ps[i + 1]? = some y → joins ps[i] y = true → sp ≠ [])) → But p (upd H2 t (.lst (places l0.length rows ++ [V.int ((l0 ++ flat rows).length : Nat)]))) H3 → Pool H3 p q ns →
          Pv (i + 1) [some (.ref p), some (.ref a), some (.str (S (l0 ++ flat rows ++ ps[i] ++ sp))), some (.ref t), some (.int i)] H3 := by
        intro sp H3 hb hs hB3 hP3
        rw [hPv]
        refine ⟨rows ++ [(ps[i], sp)], some (.int i), ?_, ?_, ?_, ?_, (hB2.new ht0).trans hB3, hP3, ?_⟩
        · rw [flat_snoc]
          simp only [List.append_assoc]
        · rw [List.map_append, hfst, List.take_add_one, hpi]
          rfl
        · intro x hx
          rcases List.mem_append.mp hx with h | h
          · exact hbl x h
          · rw [List.mem_singleton.mp h]
            exact hb
        · intro k x y hx hy hj
          by_cases hk : k < i
          · rw [List.getElem?_append_left (by omega)] at hx
            exact hsep k x y hx hy hj
          · rw [List.getElem?_append_right (by omega)] at hx
            have hk2 : k = i := by
              have : k - rows.length = 0 := by
                cases e : k - rows.length with
                | zero => rfl
                | succ n => rw [e] at hx; simp at hx
              omega
            subst hk2
            rw [hrl, Nat.sub_self] at hx
            obtain rfl : (ps[k], sp) = x := Option.some.inj hx
            exact hs y hy hj
        · refine (hB3 t _ htp upd_same).trans ?_
          rw [places_snoc, List.length_append]
      walk_at "rd"
      refine ⟨tyL hT, small (by omega), _, hT, smallt (by omega), _, hA3 _, _, at_map hpi, S ps[i], rfl, ?_⟩
      walk_at "rd"
      refine ⟨small (by omega), _, .inl (hA3 _), ?_⟩
      rw [List.length_map]
      refine ite2 (fun h1 => ?_) (fun h1 => ?_)
      · have hi2 : i + 1 < ps.length := by omega
        have hpi2 : ps[i + 1]? = some ps[i + 1] := List.getElem?_eq_getElem hi2
        have hm2 : ps[i + 1] ∈ ps := List.getElem_mem hi2
        refine ⟨_, hA3 _, _, at_map hpi, _, .inl (hA3 _), ((i + 1 : Nat) : Int), ((ps.length - 1 : Nat) : Int), ⟨by omega, by rw [List.length_map]; omega⟩, _, hA3 _, vS ps[i + 1], ?_, ?_⟩
        · have e : (if ((ps.length - 1 : Nat) : Int) < ((i + 1 : Nat) : Int) then ((ps.length - 1 : Nat) : Int) else ((i + 1 : Nat) : Int)) = ((i + 1 : Nat) : Int) := by
            split <;> omega
          rw [e]
          exact at_map hpi2
        · obtain ⟨a', x, ea⟩ := snoc_of hpil.1
          obtain ⟨y, b', eb⟩ := cons_of (hps _ hm2).1
          refine ⟨ps[i], ps[i + 1], x, y, a', b', rfl, ea, eb, by omega, by have := (hps _ hm2).2; omega, fun H3 sm => ?_⟩
          refine ⟨p, q, ns, _, rfl, (hP2.set htp htq).same sm, fun sp H4 b0 b1 hne hB4 hP4 => ⟨S sp, rfl, ?_, ?_⟩⟩
          · rw [len_S, List.length_append]
            exact small (by omega)
          · rw [S_cat]
            refine fin sp H4 ⟨b0, b1⟩ (fun y2 hy2 hj => ?_) ((But.of sm).trans hB4) hP4
            rw [hpi2] at hy2
            obtain rfl := Option.some.inj hy2
            exact hne hj
      · refine ⟨p, q, ns, false, rfl, hP2.set htp htq, fun sp H4 b0 b1 _ hB4 hP4 => ⟨S sp, rfl, ?_, ?_⟩⟩
        · rw [len_S, List.length_append]
          exact small (by omega)
        · rw [S_cat]
          refine fin sp H4 ⟨b0, b1⟩ (fun y2 hy2 hj => ?_) hB4 hP4
          rw [List.getElem?_eq_none (by omega)] at hy2
          cases hy2
    · intro σ H2 hp
      rw [hPv] at hp
      obtain ⟨rows, k0, rfl, hfst, hbl, hsep, hB2, hP2, hT⟩ := hp
      rw [List.take_length] at hfst
      walk_at "rd"
      refine ⟨by show 2 ≤ sizeLine; decide, fun r hr0 => ?_⟩
      have hrt : r ≠ t := (ne_of_none hT hr0).symm
      refine ok l0 rows r t _ hfst ⟨bl0, bl1⟩ hbl (fun k x y hx hy hj => ?_) (hB2.trans (But.of (same_upd hr0))) (hP2.same (same_upd hr0)) (hB2.free hP2 hr0) ht0 hrt upd_same ?_
      · refine hsep k x y.1 hx ?_ hj
        rw [← hfst, List.getElem?_map, hy]
        rfl
      · rw [upd_ne hrt.symm]
        exact hT
theorem badc_len : BADC.length = 13 := by decide +kernel
def sp_bad : Sp := fun vs H Q _ => ∃ (p q : Addr) (ns : List Int), vs = [.ref p] ∧ Pool H p q ns ∧ ∀ l H', Bad l → But p H H' → Pool H' p q ns → Q (.str (S l)) H'
theorem c__law_bad {f : Addr} {fd : FuncData} (D : C8.Def K mg "_law_bad" s__law_bad f fd) (b : Binds K fd ["pool"] []) (c__law_take : C8.Cal P w K mg base 2 "_law_take" sp_take []) (z_str : mg "str" = none) : C8.Cal P w K mg base 3 "_law_bad" sp_bad [] := by
  refine C8.cal0 D b .nil sc__law_bad (fun vs H Q E h => ?_) (fun cdv A outer s H vs Q E hr h => ?_)
  · obtain ⟨_, _, _, rfl, _⟩ := h
    rfl
  · obtain ⟨p, q, ns, rfl, hP, ok⟩ := h
    refine ⟨_, (pss_cons (ps_set (i := 1) sc__law_bad.nd rfl (by first | exact Or.inl rfl | exact Or.inr rfl) (C8.pe_c c__law_take hr (by decide) (by rfl) (pa_cons (pv 0) (pa_cons pe_int pa_nil)))) (pss_cons (ps_if (pt_cmpR (op_eq) (pv 1) pe_int (nomark _)) (pss_one (ps_ret (pe_ix ix_str pe_str (C8.pe_c c__law_take hr (by decide) (by rfl) (pa_cons (pv 0) (pa_cons pe_int pa_nil))) (fun _ _ => rfl)))) pss_nil) (pss_cons (ps_if (pt_cmpR (op_eq) (pv 1) pe_int (nomark _)) (pss_one (ps_ret (pe_op op_add_str (pe_ix (ixL K) (pe_lst (pa_cons pe_str (pa_cons pe_str pa_nil))) (C8.pe_c c__law_take hr (by decide) (by rfl) (pa_cons (pv 0) (pa_cons pe_int pa_nil))) (fun _ _ => rfl)) (pe_op op_mulS pe_str (pe_op op_add pe_int (C8.pe_c c__law_take hr (by decide) (by rfl) (pa_cons (pv 0) (pa_cons pe_int pa_nil)))))))) pss_nil) (pss_cons (ps_if (pt_cmpR (op_eq) (pv 1) pe_int (nomark _)) (pss_one (ps_ret (pe_ix (ixL K) (pe_lst (pa_cons pe_str (pa_cons pe_str (pa_cons pe_str (pa_cons pe_str pa_nil))))) (C8.pe_c c__law_take hr (by decide) (by rfl) (pa_cons (pv 0) (pa_cons pe_int pa_nil))) (fun _ _ => rfl)))) pss_nil) (pss_cons (ps_if (pt_cmpR (op_eq) (pv 1) pe_int (nomark _)) (pss_one (ps_ret (pe_callTy call_str_int (by rfl) z_str (by decide +kernel) (pa_cons (pe_op op_add pe_int (pe_op op_mul (C8.pe_c c__law_take hr (by decide) (by rfl) (pa_cons (pv 0) (pa_cons pe_int pa_nil))) (C8.pe_c c__law_take hr (by decide) (by rfl) (pa_cons (pv 0) (pa_cons pe_int pa_nil))))) pa_nil)))) pss_nil) (pss_cons (ps_if (pt_cmpR (op_eq) (pv 1) pe_int (nomark _)) (pss_one (ps_ret (pe_op op_add_str (pe_op op_mulS pe_str (pe_op op_add pe_int (C8.pe_c c__law_take hr (by decide) (by rfl) (pa_cons (pv 0) (pa_cons pe_int pa_nil))))) (pe_callTy call_str_int (by rfl) z_str (by decide +kernel) (pa_cons (C8.pe_c c__law_take hr (by decide) (by rfl) (pa_cons (pv 0) (pa_cons pe_int pa_nil))) pa_nil))))) pss_nil) (pss_one (ps_ret (pe_op op_add_str (pe_callTy call_str_int (by rfl) z_str (by decide +kernel) (pa_cons (C8.pe_c c__law_take hr (by decide) (by rfl) (pa_cons (pv 0) (pa_cons pe_int pa_nil))) pa_nil)) (pe_ix (ixL K) (pe_lst (pa_cons pe_str (pa_cons pe_str (pa_cons pe_str (pa_cons pe_str pa_nil))))) (C8.pe_c c__law_take hr (by decide) (by rfl) (pa_cons (pv 0) (pa_cons pe_int pa_nil))) (fun _ _ => rfl))))))))))), ?_⟩
    walk_at "rd"
    refine ⟨p, q, ns, 7, rfl, hP, by decide, by decide, fun c H1 c0 c1 hB1 hP1 => ⟨rfl, ?_⟩⟩
    walk_at "rd"
    refine ite2 (fun _ => ?_) (fun _ => ite2 (fun _ => ?_) (fun _ => ite2 (fun _ => ?_) (fun _ => ite2 (fun _ => ?_) (fun _ => ite2 (fun _ => ?_) (fun _ => ?_)))))
    · refine sign (l := BADC) hP1 13 (by rw [badc_len]; rfl) (by decide) (by decide) (fun c H3 hc hB3 hP3 => ?_)
      exact ok _ _ (.char hc) (hB1.trans hB3) hP3
    · refine ⟨by show 2 ≤ sizeLine; decide, fun l1 hl1 => menu hP1 hl1 2 rfl (by decide) (by decide) fun v H2 hv hB2 hP2 => ?_⟩
      refine ⟨p, q, ns, 5, rfl, hP2, by decide, by decide, fun d H3 d0 d1 hB3 hP3 => ?_⟩
      obtain ⟨k, rfl⟩ : ∃ k : Nat, d = (k : Int) := ⟨d.toNat, by omega⟩
      have hbb := long_bad (k := 12 + k) (by omega) (by omega)
      have hB13 := (hB1.trans hB2).trans hB3
      refine ⟨_, rfl, ?_⟩
      rw [show (12 : Int) + (k : Int) = ((12 + k : Nat) : Int) by omega, show cs "9" = [57] by decide +kernel, mul_S]
      refine ⟨mulOk_S _ _ (by omega), ?_⟩
      simp only [List.mem_cons, List.not_mem_nil, or_false] at hv
      rcases hv with h | h
      · refine ⟨_, h, ?_, ?_⟩
        · rw [len_S, len_S, List.length_replicate]
          exact small (by have : (cs "a").length = 1 := by decide +kernel
                          omega)
        · rw [S_cat]
          exact ok _ _ hbb.1 hB13 hP3
      · refine ⟨_, h, ?_, ?_⟩
        · rw [len_S, len_S, List.length_replicate]
          exact small (by have : (cs "Z").length = 1 := by decide +kernel
                          omega)
        · rw [S_cat]
          exact ok _ _ hbb.2 hB13 hP3
    · refine ⟨by show 4 ≤ sizeLine; decide, fun l1 hl1 => menu hP1 hl1 4 rfl (by decide) (by decide) fun v H2 hv hB2 hP2 => ?_⟩
      obtain ⟨m1, m2, m3, m4⟩ := mixed_bad
      have hB12 := hB1.trans hB2
      simp only [List.mem_cons, List.not_mem_nil, or_false] at hv
      rcases hv with h | h | h | h
      · rw [h]; exact ok _ _ m1 hB12 hP2
      · rw [h]; exact ok _ _ m2 hB12 hP2
      · rw [h]; exact ok _ _ m3 hB12 hP2
      · rw [h]; exact ok _ _ m4 hB12 hP2
    · refine ⟨p, q, ns, 1000, rfl, hP1, by decide, by decide, fun d H2 d0 d1 hB2 hP2 => ?_⟩
      refine ⟨p, q, ns, 9999, rfl, hP2, by decide, by decide, fun e H3 e0 e1 hB3 hP3 => ?_⟩
      obtain ⟨x, rfl⟩ : ∃ k : Nat, d = (k : Int) := ⟨d.toNat, by omega⟩
      obtain ⟨y, rfl⟩ : ∃ k : Nat, e = (k : Int) := ⟨e.toNat, by omega⟩
      have hxy : x * y ≤ 1000 * 9999 := Nat.mul_le_mul (by omega) (by omega)
      have e1 : (256 : Int) + (x : Int) * (y : Int) = ((256 + x * y : Nat) : Int) := by
        rw [Int.natCast_add, Int.natCast_mul]; rfl
      refine ⟨_, rfl, _, rfl, .inl ⟨by omega, by omega⟩, ?_⟩
      rw [e1]
      exact ⟨log_small (by omega), ok _ _ (big_bad (by omega) (by omega)) ((hB1.trans hB2).trans hB3) hP3⟩
    · refine ⟨p, q, ns, 3, rfl, hP1, by decide, by decide, fun d H2 d0 d1 hB2 hP2 => ?_⟩
      obtain ⟨x, rfl⟩ : ∃ k : Nat, d = (k : Int) := ⟨d.toNat, by omega⟩
      refine ⟨_, rfl, ?_⟩
      rw [show (1 : Int) + (x : Int) = ((1 + x : Nat) : Int) by omega, show cs "0" = [48] by decide +kernel, mul_S]
      refine ⟨mulOk_S _ _ (by omega), p, q, ns, 99, rfl, hP2, by decide, by decide, fun e H3 e0 e1 hB3 hP3 => ?_⟩
      obtain ⟨y, rfl⟩ : ∃ k : Nat, e = (k : Int) := ⟨e.toNat, by omega⟩
      refine ⟨_, rfl, log_small (by omega), ?_, ?_⟩
      · have h3 : (cs (toString (y : Int))).length ≤ 9 := (num_big (n := y) (by omega)).2.2.1
        rw [len_S, List.length_replicate]
        exact small (by omega)
      · rw [S_cat]
        exact ok _ _ (zeros_bad (k := 1 + x) (n := y) (by omega) (by omega) (by omega)) ((hB1.trans hB2).trans hB3) hP3
    · refine ⟨p, q, ns, 300, rfl, hP1, by decide, by decide, fun e H2 e0 e1 hB2 hP2 => ?_⟩
      obtain ⟨y, rfl⟩ : ∃ k : Nat, e = (k : Int) := ⟨e.toNat, by omega⟩
      refine ⟨_, rfl, log_small (by omega), by show 4 ≤ sizeLine; decide, fun l1 hl1 => menu hP2 hl1 4 rfl (by decide) (by decide) fun v H3 hv hB3 hP3 => ?_⟩
      have h3 : (cs (toString (y : Int))).length ≤ 9 := (num_big (n := y) (by omega)).2.2.1
      have hB13 := (hB1.trans hB2).trans hB3
      obtain ⟨sf, hsf, rfl⟩ : ∃ sf ∈ ["a", "x9", "Z", "all"], vS (cs sf) = v := List.mem_map.mp (show v ∈ ["a", "x9", "Z", "all"].map fun s => vS (cs s) from hv)
      refine ⟨_, rfl, ?_, ?_⟩
      · have := (lu_up sf hsf).2.1
        rw [len_S]
        exact small (by omega)
      · rw [S_cat]
        exact ok _ _ (letr_bad (n := y) (by omega) hsf) hB13 hP3
def sp_stands_at : Sp := fun vs H Q _ => ∃ (pre rest ch : List Nat), vs = [.str (S (pre ++ rest)), .int (pre.length : Nat), .str (S ch)] ∧ (pre ++ rest).length ≤ 10000 ∧ Q (.bl (hdIn ch rest)) H
theorem c_stands_at {f : Addr} {fd : FuncData} (D : C8.Def K mg "stands_at" s_stands_at f fd) (b : Binds K fd ["text", "at", "characters"] []) (z_len : mg "len" = none) : C8.Cal P w K mg base 1 "stands_at" sp_stands_at [] := by
  refine C8.cal0 D b .nil sc_stands_at (fun vs H Q E h => ?_) (fun cdv A outer s H vs Q E hr h => ?_)
  · obtain ⟨_, _, _, rfl, _⟩ := h
    rfl
  · obtain ⟨pre, rest, ch, rfl, hl, ok⟩ := h
    refine ⟨_, (pss_one (ps_ret (pe_and (pe_cmpR (op_lt) (pv 1) (pe_callB call_len_str (by rfl) z_len PySem.boot_len (pa_cons (pv 0) pa_nil)) (nomark _)) (pe_one (pe_cmpR (op_in_sign) (pe_ix ix_str (pv 0) (pv 1) (fun _ _ => rfl)) (pv 2) (by with_unfolding_all rfl)))))), ?_⟩
    walk_at "rd"
    refine ⟨small hl, ?_⟩
    cases rest with
    | nil =>
      rw [if_neg (by rw [List.append_nil]; omega)]
      exact ok
    | cons c r =>
      rw [if_pos (by rw [List.length_append, List.length_cons]; omega)]
      exact ⟨small hl, c, at_app, ok⟩
def sp_run_end : Sp := fun vs H Q _ => ∃ (pre l rest ch : List Nat), vs = [.str (S (pre ++ (l ++ rest))), .int (pre.length : Nat), .str (S ch)] ∧ (pre ++ (l ++ rest)).length ≤ 10000 ∧ (∀ c ∈ l, c ∈ ch) ∧ hdIn ch rest = false ∧ Q (.int ((pre.length + l.length : Nat) : Int)) H
theorem c_run_end {f : Addr} {fd : FuncData} (D : C8.Def K mg "run_end" s_run_end f fd) (b : Binds K fd ["text", "at", "characters"] []) (c_stands_at : C8.Cal P w K mg base 1 "stands_at" sp_stands_at []) : C8.Cal P w K mg base 2 "run_end" sp_run_end [] := by
  refine C8.cal0 D b .nil sc_run_end (fun vs H Q E h => ?_) (fun cdv A outer s H vs Q E hr h => ?_)
  · obtain ⟨_, _, _, _, rfl, _⟩ := h
    rfl
  · obtain ⟨pre, l, rest, ch, rfl, hl, hin, hout, ok⟩ := h
    refine ⟨_, (pss_cons (ps_while PassesOwn.never (pt_val (C8.pe_c c_stands_at hr (by decide) (by rfl) (pa_cons (pv 0) (pa_cons (pv 1) (pa_cons (pv 2) pa_nil))))) (pss_one (ps_aug (i := 1) sc_run_end.nd rfl (by first | exact Or.inl rfl | exact Or.inr rfl) pe_int ip_add))) (pss_one (ps_ret (pv 1)))), ?_⟩
    walk_at "rd"
    refine while_W (fun m σ H2 => ∃ l1 l2, l = l1 ++ l2 ∧ m = l2.length ∧ σ = [some (.str (S (pre ++ (l ++ rest)))), some (.int ((pre.length + l1.length : Nat) : Int)), some (.str (S ch))] ∧ H = H2) ⟨l.length, [], l, rfl, rfl, rfl, rfl⟩ ?_
    rintro m σ H2 ⟨l1, l2, rfl, rfl, rfl, rfl⟩
    walk_at "rd"
    refine ⟨pre ++ l1, l2 ++ rest, ch, by simp [List.append_assoc], by simpa [List.append_assoc] using hl, ?_⟩
    cases l2 with
    | nil =>
      refine ⟨_, rfl, ?_⟩
      rw [List.nil_append, hout, if_neg (by decide)]
      rw [List.append_nil] at ok
      exact ok
    | cons c r =>
      have hc : hdIn ch (c :: r ++ rest) = true := decide_eq_true (hin c (by simp))
      refine ⟨_, rfl, ?_⟩
      rw [hc, if_pos rfl]
      refine nxw_of fun N hN => ?_
      walk_at "rd"
      refine hN r.length _ _ (Nat.lt_succ_self _) ⟨l1 ++ [c], r, by simp, rfl, ?_, rfl⟩
      rw [List.length_append]
      congr 4
theorem regroup (pre l rest : List Nat) : pre ++ (l ++ rest) = (pre ++ l) ++ rest := (List.append_assoc _ _ _).symm
def sp_name_at (C : Addr) : Sp := fun vs H Q E => ∃ (pre l rest : List Nat), vs = [.str (S (pre ++ (l ++ rest))), .int (pre.length : Nat)] ∧ (pre ++ (l ++ rest)).length ≤ 10000 ∧ (∀ c ∈ l, c ∈ LOW ++ DIG) ∧ hdIn (LOW ++ DIG) rest = false ∧
  ((l.length ≤ 12 ∧ hdIn UPP rest = false ∧ ∀ t H', Same H H' → H t = none → H' t = some (.tup [.str (S (if l ∈ RES then cs "reserved" else cs "name")), .str (S l), .int ((pre.length + l.length : Nat) : Int)]) → Q (.ref t) H') ∨
   ((12 < l.length ∨ hdIn UPP rest = true) ∧ Rz C "at" (.int (pre.length : Nat)) H E))
theorem c_name_at {f : Addr} {fd : FuncData} (D : C8.Def K mg "name_at" s_name_at f fd) (b : Binds K fd ["text", "at"] []) (c_stands_at : C8.Cal P w K mg base 1 "stands_at" sp_stands_at []) (c_run_end : C8.Cal P w K mg base 2 "run_end" sp_run_end []) {CM : Addr} (x_Malformed : ExF P w K mg base "Malformed" CM "at") (g_LOWER : ∃ u, mg "LOWER" = some u ∧ RelV (.str (S LOW)) u) (g_UPPER : ∃ u, mg "UPPER" = some u ∧ RelV (.str (S UPP)) u) (g_DIGITS : ∃ u, mg "DIGITS" = some u ∧ RelV (.str (S DIG)) u) (g_LENGTH_LIMIT : ∃ u, mg "LENGTH_LIMIT" = some u ∧ RelV (.int 12) u) {aR : Addr} (g_RESERVED : ∃ u, mg "RESERVED" = some u ∧ RelV (.ref aR) u) (kR : ∀ H, SqT K H aR (RES.map vS)) : CalX P w K mg base 3 "name_at" (sp_name_at CM) := by
  refine calX0 D b sc_name_at (fun vs H Q E h => ?_) (fun cdv A outer s H vs Q E hr h => ?_)
  · obtain ⟨_, _, _, rfl, _⟩ := h
    rfl
  · obtain ⟨pre, l, rest, rfl, hlen, hin, h1, hc⟩ := h
    refine ⟨_, (pss_cons (ps_set (i := 2) sc_name_at.nd rfl (by first | exact Or.inl rfl | exact Or.inr rfl) (C8.pe_c c_run_end hr (by decide) (by rfl) (pa_cons (pv 0) (pa_cons (pv 1) (pa_cons (pe_op op_add_str (C8.pe_gc (by rfl) g_LOWER) (C8.pe_gc (by rfl) g_DIGITS)) pa_nil))))) (pss_cons (ps_if (PW.pt (pw_or (pt_cmpR (op_gt) (pe_op op_sub (pv 2) (pv 1)) (C8.pe_gc (by rfl) g_LENGTH_LIMIT) (nomark _)) (pw_or1 (pt_val (C8.pe_c c_stands_at hr (by decide) (by rfl) (pa_cons (pv 0) (pa_cons (pv 2) (pa_cons (C8.pe_gc (by rfl) g_UPPER) pa_nil)))))))) (pss_one (ps_raise rfl (takes_of rfl rfl rfl rfl) (pmk_ex x_Malformed hr (by decide) (by rfl) (pa_cons (pv 1) pa_nil)))) pss_nil) (pss_cons (ps_set (i := 3) sc_name_at.nd rfl (by first | exact Or.inl rfl | exact Or.inr rfl) (pe_slice C8.sl_txt (pv 0) (po_some (pv 1)) (po_some (pv 2)))) (pss_cons (ps_set (i := 4) sc_name_at.nd rfl (by first | exact Or.inl rfl | exact Or.inr rfl) (pe_ifExp (pt_cmpR (inQ K) (pv 3) (C8.pe_gc (by rfl) g_RESERVED) (by with_unfolding_all rfl)) pe_str pe_str)) (pss_one (ps_ret (pe_tup (pa_cons (pv 4) (pa_cons (pv 3) (pa_cons (pv 2) pa_nil)))))))))), ?_⟩
    walk_at "rd"
    refine ⟨by decide +kernel, pre, l, rest, LOW ++ DIG, rfl, hlen, hin, h1, ?_⟩
    walk_at "rd"
    rcases hc with ⟨hl12, h2, ok⟩ | ⟨hbad, hz⟩
    · rw [if_neg (by omega)]
      refine ⟨pre ++ l, rest, UPP, by rw [regroup, List.length_append], by rw [← regroup]; exact hlen, _, rfl, ?_⟩
      rw [h2, if_neg (by decide)]
      refine ⟨small hlen, _, .inr (kR _), rfl, flat_S RES, ?_⟩
      rw [cut_mid, inV_S]
      refine ite2 (fun h => ⟨by decide, fun t ht => ok t _ (same_upd ht) ht ?_⟩) (fun h => ⟨by decide, fun t ht => ok t _ (same_upd ht) ht ?_⟩)
      · rw [if_pos (of_decide_eq_true h)]
        exact upd_same
      · rw [if_neg (fun e => h (decide_eq_true e))]
        exact upd_same
    · by_cases hl : 12 < l.length
      · rw [if_pos (by omega)]
        exact ⟨by decide, fun a ha => raise_rz hz ha⟩
      · rw [if_neg (by omega)]
        have h2 : hdIn UPP rest = true := by
          rcases hbad with h | h
          · exact absurd h hl
          · exact h
        refine ⟨pre ++ l, rest, UPP, by rw [regroup, List.length_append], by rw [← regroup]; exact hlen, _, rfl, ?_⟩
        rw [h2, if_pos rfl]
        exact ⟨by decide, fun a ha => raise_rz hz ha⟩
def sp_word_at (C : Addr) : Sp := fun vs H Q E => ∃ (pre l rest : List Nat), vs = [.str (S (pre ++ (l ++ rest))), .int (pre.length : Nat)] ∧ (pre ++ (l ++ rest)).length ≤ 10000 ∧ (∀ c ∈ l, c ∈ UPP ++ DIG) ∧ hdIn (UPP ++ DIG) rest = false ∧
  ((l.length ≤ 12 ∧ hdIn LOW rest = false ∧ ∀ t H', Same H H' → H t = none → H' t = some (.tup [.str (S (cs "word")), .str (S l), .int ((pre.length + l.length : Nat) : Int)]) → Q (.ref t) H') ∨
   ((12 < l.length ∨ hdIn LOW rest = true) ∧ Rz C "at" (.int (pre.length : Nat)) H E))
theorem c_word_at {f : Addr} {fd : FuncData} (D : C8.Def K mg "word_at" s_word_at f fd) (b : Binds K fd ["text", "at"] []) (c_stands_at : C8.Cal P w K mg base 1 "stands_at" sp_stands_at []) (c_run_end : C8.Cal P w K mg base 2 "run_end" sp_run_end []) {CM : Addr} (x_Malformed : ExF P w K mg base "Malformed" CM "at") (g_LOWER : ∃ u, mg "LOWER" = some u ∧ RelV (.str (S LOW)) u) (g_UPPER : ∃ u, mg "UPPER" = some u ∧ RelV (.str (S UPP)) u) (g_DIGITS : ∃ u, mg "DIGITS" = some u ∧ RelV (.str (S DIG)) u) (g_LENGTH_LIMIT : ∃ u, mg "LENGTH_LIMIT" = some u ∧ RelV (.int 12) u) : CalX P w K mg base 3 "word_at" (sp_word_at CM) := by
  refine calX0 D b sc_word_at (fun vs H Q E h => ?_) (fun cdv A outer s H vs Q E hr h => ?_)
  · obtain ⟨_, _, _, rfl, _⟩ := h
    rfl
  · obtain ⟨pre, l, rest, rfl, hlen, hin, h1, hc⟩ := h
    refine ⟨_, (pss_cons (ps_set (i := 2) sc_word_at.nd rfl (by first | exact Or.inl rfl | exact Or.inr rfl) (C8.pe_c c_run_end hr (by decide) (by rfl) (pa_cons (pv 0) (pa_cons (pv 1) (pa_cons (pe_op op_add_str (C8.pe_gc (by rfl) g_UPPER) (C8.pe_gc (by rfl) g_DIGITS)) pa_nil))))) (pss_cons (ps_if (PW.pt (pw_or (pt_cmpR (op_gt) (pe_op op_sub (pv 2) (pv 1)) (C8.pe_gc (by rfl) g_LENGTH_LIMIT) (nomark _)) (pw_or1 (pt_val (C8.pe_c c_stands_at hr (by decide) (by rfl) (pa_cons (pv 0) (pa_cons (pv 2) (pa_cons (C8.pe_gc (by rfl) g_LOWER) pa_nil)))))))) (pss_one (ps_raise rfl (takes_of rfl rfl rfl rfl) (pmk_ex x_Malformed hr (by decide) (by rfl) (pa_cons (pv 1) pa_nil)))) pss_nil) (pss_one (ps_ret (pe_tup (pa_cons pe_str (pa_cons (pe_slice C8.sl_txt (pv 0) (po_some (pv 1)) (po_some (pv 2))) (pa_cons (pv 2) pa_nil)))))))), ?_⟩
    walk_at "rd"
    refine ⟨by decide +kernel, pre, l, rest, UPP ++ DIG, rfl, hlen, hin, h1, ?_⟩
    walk_at "rd"
    rcases hc with ⟨hl12, h2, ok⟩ | ⟨hbad, hz⟩
    · rw [if_neg (by omega)]
      refine ⟨pre ++ l, rest, LOW, by rw [regroup, List.length_append], by rw [← regroup]; exact hlen, _, rfl, ?_⟩
      rw [h2, if_neg (by decide)]
      refine ⟨small hlen, by decide, fun t ht => ok t _ (same_upd ht) ht ?_⟩
      rw [cut_mid]
      exact upd_same
    · by_cases hl : 12 < l.length
      · rw [if_pos (by omega)]
        exact ⟨by decide, fun a ha => raise_rz hz ha⟩
      · rw [if_neg (by omega)]
        have h2 : hdIn LOW rest = true := by
          rcases hbad with h | h
          · exact absurd h hl
          · exact h
        refine ⟨pre ++ l, rest, LOW, by rw [regroup, List.length_append], by rw [← regroup]; exact hlen, _, rfl, ?_⟩
        rw [h2, if_pos rfl]
        exact ⟨by decide, fun a ha => raise_rz hz ha⟩
def sp_number_at (C : Addr) : Sp := fun vs H Q E => ∃ (pre l rest : List Nat), vs = [.str (S (pre ++ (l ++ rest))), .int (pre.length : Nat)] ∧ (pre ++ (l ++ rest)).length ≤ 10000 ∧ l ≠ [] ∧ (∀ c ∈ l, c ∈ DIG) ∧ hdIn DIG rest = false ∧
  ((∃ n : Nat, l = num n ∧ n < 256 ∧ hdIn (LOW ++ UPP) rest = false ∧ ∀ t H', Same H H' → H t = none → H' t = some (.tup [.str (S (cs "number")), .int (n : Nat), .int ((pre.length + l.length : Nat) : Int)]) → Q (.ref t) H') ∨
   (((l.head? = some 48 ∧ 1 < l.length) ∨ hdIn (LOW ++ UPP) rest = true ∨ (l.length ≤ 640 ∧ ∃ n : Nat, intText? (S l) = some (n : Int) ∧ 255 < n)) ∧ Rz C "at" (.int (pre.length : Nat)) H E))
theorem c_number_at {f : Addr} {fd : FuncData} (D : C8.Def K mg "number_at" s_number_at f fd) (b : Binds K fd ["text", "at"] []) (c_stands_at : C8.Cal P w K mg base 1 "stands_at" sp_stands_at []) (c_run_end : C8.Cal P w K mg base 2 "run_end" sp_run_end []) {CM : Addr} (x_Malformed : ExF P w K mg base "Malformed" CM "at") (g_LOWER : ∃ u, mg "LOWER" = some u ∧ RelV (.str (S LOW)) u) (g_UPPER : ∃ u, mg "UPPER" = some u ∧ RelV (.str (S UPP)) u) (g_DIGITS : ∃ u, mg "DIGITS" = some u ∧ RelV (.str (S DIG)) u) (g_NUMBER_LIMIT : ∃ u, mg "NUMBER_LIMIT" = some u ∧ RelV (.int 255) u) (z_int : mg "int" = none) : CalX P w K mg base 3 "number_at" (sp_number_at CM) := by
  refine calX0 D b sc_number_at (fun vs H Q E h => ?_) (fun cdv A outer s H vs Q E hr h => ?_)
  · obtain ⟨_, _, _, rfl, _⟩ := h
    rfl
  · obtain ⟨pre, l, rest, rfl, hlen, hne, hdg, h1, hc⟩ := h
    obtain ⟨c, r, ec⟩ := cons_of hne
    have hat : atI (pre ++ (l ++ rest)) ((pre.length : Nat) : Int) = some c := by
      rw [ec]
      exact at_app
    have e48 : cs "0" = [48] := by decide +kernel
    refine ⟨_, (pss_cons (ps_set (i := 2) sc_number_at.nd rfl (by first | exact Or.inl rfl | exact Or.inr rfl) (C8.pe_c c_run_end hr (by decide) (by rfl) (pa_cons (pv 0) (pa_cons (pv 1) (pa_cons (C8.pe_gc (by rfl) g_DIGITS) pa_nil))))) (pss_cons (ps_set (i := 3) sc_number_at.nd rfl (by first | exact Or.inl rfl | exact Or.inr rfl) (pe_and (pe_cmpR (op_eq) (pe_ix ix_str (pv 0) (pv 1) (fun _ _ => rfl)) pe_str (nomark _)) (pe_one (pe_cmpR (op_gt) (pe_op op_sub (pv 2) (pv 1)) pe_int (nomark _))))) (pss_cons (ps_if (PW.pt (pw_or (pt_val (pv 3)) (pw_or (pt_val (C8.pe_c c_stands_at hr (by decide) (by rfl) (pa_cons (pv 0) (pa_cons (pv 2) (pa_cons (pe_op op_add_str (C8.pe_gc (by rfl) g_LOWER) (C8.pe_gc (by rfl) g_UPPER)) pa_nil))))) (pw_or1 (pt_cmpR (op_gt) (pe_callTy call_int_str (by rfl) z_int (by decide +kernel) (pa_cons (pe_slice C8.sl_txt (pv 0) (po_some (pv 1)) (po_some (pv 2))) pa_nil)) (C8.pe_gc (by rfl) g_NUMBER_LIMIT) (nomark _)))))) (pss_one (ps_raise rfl (takes_of rfl rfl rfl rfl) (pmk_ex x_Malformed hr (by decide) (by rfl) (pa_cons (pv 1) pa_nil)))) pss_nil) (pss_one (ps_ret (pe_tup (pa_cons pe_str (pa_cons (pe_callTy call_int_str (by rfl) z_int (by decide +kernel) (pa_cons (pe_slice C8.sl_txt (pv 0) (po_some (pv 1)) (po_some (pv 2))) pa_nil)) (pa_cons (pv 2) pa_nil))))))))), ?_⟩
    walk_at "rd"
    refine ⟨pre, l, rest, DIG, rfl, hlen, hdg, h1, ?_⟩
    walk_at "rd"
    refine ⟨small hlen, c, hat, ite2 (fun h => ?_) (fun h => ?_)⟩
    · rw [e48] at h
      have e0 : c = 48 := (List.cons.inj h).1
      by_cases hlong : 1 < l.length
      · rw [if_pos (by omega)]
        rcases hc with ⟨n, rfl, hn, h2, ok⟩ | ⟨hbad, hz⟩
        · have := (num_ok n hn).2.2.2.1 (by rw [ec, e0]; rfl)
          omega
        · exact ⟨by decide, fun a ha => raise_rz hz ha⟩
      rw [if_neg (by omega)]
      refine ⟨by decide +kernel, pre ++ l, rest, LOW ++ UPP, by rw [regroup, List.length_append], by rw [← regroup]; exact hlen, _, rfl, ?_⟩
      rcases hc with ⟨n, rfl, hn, h2, ok⟩ | ⟨hbad, hz⟩
      · have n3 := (num_ok n hn).2.2.1
        rw [h2, if_neg (by decide), cut_mid]
        refine ⟨small hlen, n, num_int hn, by rw [len_S]; omega, ?_⟩
        rw [if_neg (by omega)]
        exact ⟨small hlen, n, num_int hn, by rw [len_S]; omega, by decide, fun t ht => ok t _ (same_upd ht) ht upd_same⟩
      · by_cases h2 : hdIn (LOW ++ UPP) rest = true
        · rw [h2, if_pos rfl]
          exact ⟨by decide, fun a ha => raise_rz hz ha⟩
        · have h2' : hdIn (LOW ++ UPP) rest = false := by simpa using h2
          rcases hbad with ⟨b1, b2⟩ | h | ⟨b1, n, b2, b3⟩
          · exact (hlong b2).elim
          · exact absurd h h2
          · rw [h2', if_neg (by decide), cut_mid]
            refine ⟨small hlen, (n : Int), b2, by rw [len_S]; exact b1, ?_⟩
            rw [if_pos (by omega)]
            exact ⟨by decide, fun a ha => raise_rz hz ha⟩
    · have hnz : ∀ (b1 : l.head? = some 48) (b2 : 1 < l.length), False := fun b1 _ => by
        rw [ec] at b1
        rw [e48] at h
        exact h (by rw [Option.some.inj b1])
      refine ⟨by decide +kernel, pre ++ l, rest, LOW ++ UPP, by rw [regroup, List.length_append], by rw [← regroup]; exact hlen, _, rfl, ?_⟩
      rcases hc with ⟨n, rfl, hn, h2, ok⟩ | ⟨hbad, hz⟩
      · have n3 := (num_ok n hn).2.2.1
        rw [h2, if_neg (by decide), cut_mid]
        refine ⟨small hlen, n, num_int hn, by rw [len_S]; omega, ?_⟩
        rw [if_neg (by omega)]
        exact ⟨small hlen, n, num_int hn, by rw [len_S]; omega, by decide, fun t ht => ok t _ (same_upd ht) ht upd_same⟩
      · by_cases h2 : hdIn (LOW ++ UPP) rest = true
        · rw [h2, if_pos rfl]
          exact ⟨by decide, fun a ha => raise_rz hz ha⟩
        · have h2' : hdIn (LOW ++ UPP) rest = false := by simpa using h2
          rcases hbad with ⟨b1, b2⟩ | h | ⟨b1, n, b2, b3⟩
          · exact (hnz b1 b2).elim
          · exact absurd h h2
          · rw [h2', if_neg (by decide), cut_mid]
            refine ⟨small hlen, (n : Int), b2, by rw [len_S]; exact b1, ?_⟩
            rw [if_pos (by omega)]
            exact ⟨by decide, fun a ha => raise_rz hz ha⟩
def sp_sign_at (C : Addr) : Sp := fun vs H Q E => ∃ (pre l rest : List Nat), vs = [.str (S (pre ++ (l ++ rest))), .int (pre.length : Nat)] ∧ (pre ++ (l ++ rest)).length ≤ 10000 ∧
  ((l ∈ SGN ∧ (∀ s ∈ SGN, l.length < s.length → pfx l s = true → pfx s (l ++ rest) = false) ∧ ∀ t H', Same H H' → H t = none → H' t = some (.tup [.str (S (cs "sign")), .str (S l), .int ((pre.length + l.length : Nat) : Int)]) → Q (.ref t) H') ∨
   ((∀ s ∈ SGN, pfx s (l ++ rest) = false) ∧ Rz C "at" (.int (pre.length : Nat)) H E))
theorem c_sign_at {f : Addr} {fd : FuncData} (D : C8.Def K mg "sign_at" s_sign_at f fd) (b : Binds K fd ["text", "at"] []) {aS : Addr} (g_SIGNS : ∃ u, mg "SIGNS" = some u ∧ RelV (.ref aS) u) (kS : ∀ H, SqT K H aS (SGN.map vS)) {CM : Addr} (x_Malformed : ExF P w K mg base "Malformed" CM "at") (z_len : mg "len" = none) : CalX P w K mg base 3 "sign_at" (sp_sign_at CM) := by
  refine calX0 D b sc_sign_at (fun vs H Q E h => ?_) (fun cdv A outer s H vs Q E hr h => ?_)
  · obtain ⟨_, _, _, rfl, _⟩ := h
    rfl
  · obtain ⟨pre, l, rest, rfl, hlen, hc⟩ := h
    refine ⟨_, (pss_cons (ps_for (passes_of rfl) rfl (pi_tup (C8.pe_gc (by rfl) g_SIGNS)) (pg_name (i := 2) sc_sign_at.nd rfl (by first | exact Or.inl rfl | exact Or.inr rfl)) (pss_one (ps_if (pt_val (pe_bm PySem.F.plainAttrs_str PySem.F.slot_str_startswith PySem.F.type_str_startswith mt_startswith3 (pv 0) (pa_cons (pv 2) (pa_cons (pv 1) pa_nil)))) (pss_one (ps_ret (pe_tup (pa_cons pe_str (pa_cons (pv 2) (pa_cons (pe_op op_add (pv 1) (pe_callB call_len_str (by rfl) z_len PySem.boot_len (pa_cons (pv 2) pa_nil))) pa_nil)))))) pss_nil))) (pss_one (ps_raise rfl (takes_of rfl rfl rfl rfl) (pmk_ex x_Malformed hr (by decide) (by rfl) (pa_cons (pv 1) pa_nil))))), ?_⟩
    walk_at "rd"
    refine ⟨⟨_, kS H⟩, for_tupN (xs := SGN.map vS) (fun i σ H2 => (∃ k, σ = [some (V.str (S (pre ++ (l ++ rest)))), some (V.int (pre.length : Nat)), k]) ∧ H = H2 ∧ ∀ j, j < i → ∀ s, SGN[j]? = some s → pfx s (l ++ rest) = false) ?_ ?_ ?_ ?_⟩
    · exact ⟨⟨none, rfl⟩, rfl, fun j hj => absurd hj (Nat.not_lt_zero _)⟩
    · exact fun i σ H2 _ _ => kS H2
    · rintro i v σ H2 N hv ⟨⟨k, rfl⟩, rfl, hno⟩ hN
      rw [List.getElem?_map] at hv
      obtain ⟨s, hs, rfl⟩ := Option.map_eq_some_iff.mp hv
      have hsm : s ∈ SGN := List.mem_of_getElem? hs
      have hsl := sgn_len s hsm
      unfold vS
      walk_at "rd"
      refine ⟨_, _, ⟨rfl, rfl⟩, ?_⟩
      rw [sw3_S _ _ _ (by rw [List.length_append]; omega), List.drop_left]
      refine ite2 (fun h => ?_) (fun h => ?_)
      · rcases hc with ⟨hl, hsg, ok⟩ | ⟨hbad, hz⟩
        · obtain ⟨jl, hjl⟩ := List.getElem?_of_mem hl
          have hself : pfx l (l ++ rest) = true := pfx_iff.mpr ⟨rest, rfl⟩
          have e : s = l := by
            by_cases hij : jl < i
            · rw [hno jl hij l hjl] at hself
              cases hself
            · by_cases hij2 : i < jl
              · have h3 := sgn_before hij2 hs hjl
                by_cases hle : s.length ≤ l.length
                · rw [pfx_short h hle] at h3
                  cases h3
                · have := hsg s hsm (by omega) (pfx_two h (by omega))
                  rw [h] at this
                  cases this
              · have : i = jl := by omega
                subst this
                rw [hjl] at hs
                exact (Option.some.inj hs).symm
          subst e
          exact ⟨small (by omega), by decide, fun t ht => ok t _ (same_upd ht) ht upd_same⟩
        · rw [hbad s hsm] at h
          cases h
      · refine hN _ _ ⟨⟨_, rfl⟩, rfl, fun j hj s2 hs2 => ?_⟩
        by_cases hji : j < i
        · exact hno j hji s2 hs2
        · have : j = i := by omega
          subst this
          rw [hs] at hs2
          rw [← Option.some.inj hs2]
          exact Bool.eq_false_iff.mpr h
    · rintro σ H2 ⟨⟨k, rfl⟩, rfl, hno⟩
      walk_at "rd"
      rcases hc with ⟨hl, hsg, ok⟩ | ⟨hbad, hz⟩
      · obtain ⟨jl, hjl⟩ := List.getElem?_of_mem hl
        have hself : pfx l (l ++ rest) = true := pfx_iff.mpr ⟨rest, rfl⟩
        have hlt : jl < (SGN.map vS).length := by
          rw [List.length_map]
          exact (List.getElem?_eq_some_iff.mp hjl).1
        have := hno jl hlt l hjl
        rw [hself] at this
        cases this
      · exact ⟨by decide, fun a ha => raise_rz hz ha⟩
def sp_token_at (C : Addr) : Sp := fun vs H Q E => ∃ (pre l rest : List Nat), vs = [.str (S (pre ++ (l ++ rest))), .int (pre.length : Nat)] ∧ (pre ++ (l ++ rest)).length ≤ 10000 ∧ After l rest ∧
  ((∃ (k : List Nat) (v : V), Piece l k v ∧ ∀ t H', Same H H' → H t = none → H' t = some (.tup [.str (S k), v, .int ((pre.length + l.length : Nat) : Int)]) → Q (.ref t) H') ∨
   (Bad l ∧ hdIn [61] rest = false ∧ Rz C "at" (.int (pre.length : Nat)) H E))
theorem c_token_at {f : Addr} {fd : FuncData} (D : C8.Def K mg "token_at" s_token_at f fd) (b : Binds K fd ["text", "at"] []) {CM : Addr} (c_name_at : CalX P w K mg base 3 "name_at" (sp_name_at CM)) (c_word_at : CalX P w K mg base 3 "word_at" (sp_word_at CM)) (c_number_at : CalX P w K mg base 3 "number_at" (sp_number_at CM)) (c_sign_at : CalX P w K mg base 3 "sign_at" (sp_sign_at CM)) (g_LOWER : ∃ u, mg "LOWER" = some u ∧ RelV (.str (S LOW)) u) (g_UPPER : ∃ u, mg "UPPER" = some u ∧ RelV (.str (S UPP)) u) (g_DIGITS : ∃ u, mg "DIGITS" = some u ∧ RelV (.str (S DIG)) u) : CalX P w K mg base 4 "token_at" (sp_token_at CM) := by
  refine calX0 D b sc_token_at (fun vs H Q E h => ?_) (fun cdv A outer s H vs Q E hr h => ?_)
  · obtain ⟨_, _, _, rfl, _⟩ := h
    rfl
  · obtain ⟨pre, l, rest, rfl, hlen, ha, hc⟩ := h
    refine ⟨_, (pss_cons (ps_if (pt_cmpR (op_in_sign) (pe_ix ix_str (pv 0) (pv 1) (fun _ _ => rfl)) (C8.pe_gc (by rfl) g_LOWER) (by with_unfolding_all rfl)) (pss_one (ps_ret (pe_cx c_name_at hr (by decide) (passes_call (takes_of rfl rfl rfl rfl) (fun _ _ _ _ h => h)) (by rfl) (pa_cons (pv 0) (pa_cons (pv 1) pa_nil))))) pss_nil) (pss_cons (ps_if (pt_cmpR (op_in_sign) (pe_ix ix_str (pv 0) (pv 1) (fun _ _ => rfl)) (C8.pe_gc (by rfl) g_UPPER) (by with_unfolding_all rfl)) (pss_one (ps_ret (pe_cx c_word_at hr (by decide) (passes_call (takes_of rfl rfl rfl rfl) (fun _ _ _ _ h => h)) (by rfl) (pa_cons (pv 0) (pa_cons (pv 1) pa_nil))))) pss_nil) (pss_cons (ps_if (pt_cmpR (op_in_sign) (pe_ix ix_str (pv 0) (pv 1) (fun _ _ => rfl)) (C8.pe_gc (by rfl) g_DIGITS) (by with_unfolding_all rfl)) (pss_one (ps_ret (pe_cx c_number_at hr (by decide) (passes_call (takes_of rfl rfl rfl rfl) (fun _ _ _ _ h => h)) (by rfl) (pa_cons (pv 0) (pa_cons (pv 1) pa_nil))))) pss_nil) (pss_one (ps_ret (pe_cx c_sign_at hr (by decide) (passes_call (takes_of rfl rfl rfl rfl) (fun _ _ _ _ h => h)) (by rfl) (pa_cons (pv 0) (pa_cons (pv 1) pa_nil)))))))), ?_⟩
    walk_at "rd"
    have first : ∀ c r, l = c :: r → atI (pre ++ (l ++ rest)) ((pre.length : Nat) : Int) = some c := fun c r e => by
      rw [e]
      exact at_app
    have an3 : ∀ c ∈ LOW, isAN c = true := fun c hc => an_ld c (List.mem_append_left _ hc)
    have an4 : ∀ c ∈ UPP, isAN c = true := fun c hc => an_ud c (List.mem_append_left _ hc)
    have an5 : ∀ c ∈ DIG, isAN c = true := fun c hc => an_ud c (List.mem_append_right _ hc)
    have an6 : ∀ c ∈ LOW ++ UPP, isAN c = true := fun c hc => by
      rcases List.mem_append.mp hc with e | e
      · exact an3 c e
      · exact an4 c e
    refine ⟨small hlen, ?_⟩
    obtain ⟨G, hG⟩ : ∃ G : Prop, G = (∃ (c : Nat) (r : List Nat), l = c :: r ∧ ((c ∈ LOW ∧ sp_name_at CM [V.str (S (pre ++ (l ++ rest))), V.int (pre.length : Nat)] H Q E) ∨ (c ∈ UPP ∧ sp_word_at CM [V.str (S (pre ++ (l ++ rest))), V.int (pre.length : Nat)] H Q E) ∨
      (c ∈ DIG ∧ sp_number_at CM [V.str (S (pre ++ (l ++ rest))), V.int (pre.length : Nat)] H Q E) ∨ (c ∉ LOW ∧ c ∉ UPP ∧ c ∉ DIG ∧ sp_sign_at CM [V.str (S (pre ++ (l ++ rest))), V.int (pre.length : Nat)] H Q E))) := ⟨_, rfl⟩
    suffices hd : G by
      rw [hG] at hd
      obtain ⟨c, r, e, hd⟩ := hd
      refine ⟨c, first c r e, ?_⟩
      rcases hd with ⟨h1, q⟩ | ⟨h1, q⟩ | ⟨h1, q⟩ | ⟨h1, h2, h3, q⟩
      · rw [if_pos h1]
        exact q
      · rw [if_neg (upp_ok c h1).1]
        refine ⟨small hlen, c, first c r e, ?_⟩
        rw [if_pos h1]
        exact q
      · rw [if_neg (dig_ok c h1).1]
        refine ⟨small hlen, c, first c r e, ?_⟩
        rw [if_neg (dig_ok c h1).2.1]
        refine ⟨small hlen, c, first c r e, ?_⟩
        rw [if_pos h1]
        exact q
      · rw [if_neg h1]
        refine ⟨small hlen, c, first c r e, ?_⟩
        rw [if_neg h2]
        refine ⟨small hlen, c, first c r e, ?_⟩
        rw [if_neg h3]
        exact q
    have toName : ∀ {c : Nat} {r : List Nat}, l = c :: r → c ∈ LOW → sp_name_at CM [V.str (S (pre ++ (l ++ rest))), V.int (pre.length : Nat)] H Q E → G := fun {c r} e hc q => by rw [hG]; exact ⟨c, r, e, .inl ⟨hc, q⟩⟩
    have toWord : ∀ {c : Nat} {r : List Nat}, l = c :: r → c ∈ UPP → sp_word_at CM [V.str (S (pre ++ (l ++ rest))), V.int (pre.length : Nat)] H Q E → G := fun {c r} e hc q => by rw [hG]; exact ⟨c, r, e, .inr (.inl ⟨hc, q⟩)⟩
    have toNum : ∀ {c : Nat} {r : List Nat}, l = c :: r → c ∈ DIG → sp_number_at CM [V.str (S (pre ++ (l ++ rest))), V.int (pre.length : Nat)] H Q E → G := fun {c r} e hc q => by rw [hG]; exact ⟨c, r, e, .inr (.inr (.inl ⟨hc, q⟩))⟩
    have toSign : ∀ {c : Nat} {r : List Nat}, l = c :: r → c ∉ LOW → c ∉ UPP → c ∉ DIG → sp_sign_at CM [V.str (S (pre ++ (l ++ rest))), V.int (pre.length : Nat)] H Q E → G := fun {c r} e h2 h3 h4 q => by rw [hG]; exact ⟨c, r, e, .inr (.inr (.inr ⟨h2, h3, h4, q⟩))⟩
    have pick : ∀ {ch a : List Nat}, hdIn ch a = true → ∃ c r, a = c :: r ∧ c ∈ ch := fun {ch a} h => by
      cases a with
      | nil => cases h
      | cons c r => exact ⟨c, r, rfl, of_decide_eq_true h⟩
    rcases hc with ⟨k, v, hp, ok⟩ | ⟨hbad, h61, hz⟩
    · have named : (∃ c r, l = c :: r ∧ c ∈ LOW) → (∀ c ∈ l, c ∈ LOW ++ DIG) → l.length ≤ 12 → (if l ∈ RES then cs "reserved" else cs "name") = k → v = .str (S l) → G := by
        rintro ⟨c, r, e, hc⟩ al le hk hv
        have hne : l ≠ [] := by rw [e]; exact List.cons_ne_nil _ _
        refine toName e hc ⟨pre, l, rest, rfl, hlen, al, ha.hd hne (fun d hd => an_ld d (al d hd)) an_ld, .inl ⟨le, ha.hd hne (fun d hd => an_ld d (al d hd)) an4, ?_⟩⟩
        rw [hk, ← hv]
        exact ok
      cases hp with
      | res h =>
        obtain ⟨h1, h2, h3⟩ := res_ok l h
        exact named h1 h2 h3 (if_pos h) rfl
      | name h => exact named h.hd h.all h.le (if_neg h.nr) rfl
      | word h =>
        obtain ⟨c, r, e, hc⟩ := h.hd
        have hne : l ≠ [] := by rw [e]; exact List.cons_ne_nil _ _
        exact toWord e hc ⟨pre, l, rest, rfl, hlen, h.all, ha.hd hne (fun d hd => an_ud d (h.all d hd)) an_ud, .inl ⟨h.le, ha.hd hne (fun d hd => an_ud d (h.all d hd)) an3, ok⟩⟩
      | num n h =>
        obtain ⟨n1, n2, n3, n4, n5, n6⟩ := num_ok n h
        obtain ⟨c, r, e⟩ := cons_of n1
        exact toNum e (n2 c (by rw [e]; exact List.mem_cons_self)) ⟨pre, num n, rest, rfl, hlen, n1, n2, ha.hd n1 (fun d hd => an5 d (n2 d hd)) an5, .inl ⟨n, rfl, h, ha.hd n1 (fun d hd => an5 d (n2 d hd)) an6, ok⟩⟩
      | sign h =>
        obtain ⟨n1, n2, n3, n4, n5⟩ := sgn_ok l h
        obtain ⟨c, r, e⟩ := cons_of n1
        rw [e] at n2 n3 n4
        exact toSign e (of_decide_eq_false n2) (of_decide_eq_false n3) (of_decide_eq_false n4) ⟨pre, l, rest, rfl, hlen, .inl ⟨h, ha.sg, ok⟩⟩
    · cases hbad with
      | char h =>
        obtain ⟨b1, b2, b3, _⟩ := badc_ok _ h
        exact toSign rfl b1 b2 b3 ⟨pre, _, rest, rfl, hlen, .inr ⟨char_no h h61, hz⟩⟩
      | longN h0 h1 h2 h3 =>
        obtain ⟨c, r, e, hc⟩ := pick h0
        have hne : l ≠ [] := by rw [e]; exact List.cons_ne_nil _ _
        exact toName e hc ⟨pre, l, rest, rfl, hlen, h1, ha.hd hne (fun d hd => an_ld d (h1 d hd)) an_ld, .inr ⟨.inl h2, hz⟩⟩
      | longW h0 h1 h2 h3 =>
        obtain ⟨c, r, e, hc⟩ := pick h0
        have hne : l ≠ [] := by rw [e]; exact List.cons_ne_nil _ _
        exact toWord e hc ⟨pre, l, rest, rfl, hlen, h1, ha.hd hne (fun d hd => an_ud d (h1 d hd)) an_ud, .inr ⟨.inl h2, hz⟩⟩
      | @mixN a b h0 h1 h2 h3 h4 h5 =>
        obtain ⟨c, r, e, hc⟩ := pick h0
        refine toName (c := c) (r := r ++ b) (by rw [e]; rfl) hc ⟨pre, a, b ++ rest, by rw [List.append_assoc a], by rw [← List.append_assoc a]; exact hlen, h1, hdIn_no h2 ul_no, .inr ⟨.inr (hdIn_app h2), hz⟩⟩
      | @mixW a b h0 h1 h2 h3 h4 h5 =>
        obtain ⟨c, r, e, hc⟩ := pick h0
        refine toWord (c := c) (r := r ++ b) (by rw [e]; rfl) hc ⟨pre, a, b ++ rest, by rw [List.append_assoc a], by rw [← List.append_assoc a]; exact hlen, h1, hdIn_no h2 lu_no, .inr ⟨.inr (hdIn_app h2), hz⟩⟩
      | zeros h0 h1 h2 h3 =>
        have hne : l ≠ [] := by intro e; rw [e] at h2; exact absurd h2 (by decide)
        obtain ⟨c, r, e⟩ := cons_of hne
        exact toNum e (h1 c (by rw [e]; exact List.mem_cons_self)) ⟨pre, l, rest, rfl, hlen, hne, h1, ha.hd hne (fun d hd => an5 d (h1 d hd)) an5, .inr ⟨.inl ⟨h0, h2⟩, hz⟩⟩
      | big h0 h1 h2 n h3 h4 =>
        obtain ⟨c, r, e⟩ := cons_of h0
        exact toNum e (h1 c (by rw [e]; exact List.mem_cons_self)) ⟨pre, l, rest, rfl, hlen, h0, h1, ha.hd h0 (fun d hd => an5 d (h1 d hd)) an5, .inr ⟨.inr (.inr ⟨by omega, n, h3, h4⟩), hz⟩⟩
      | @letr a b h0 h1 h2 h3 h4 h5 =>
        obtain ⟨c, r, e⟩ := cons_of h0
        exact toNum (c := c) (r := r ++ b) (by rw [e]; rfl) (h1 c (by rw [e]; exact List.mem_cons_self)) ⟨pre, a, b ++ rest, by rw [List.append_assoc a], by rw [← List.append_assoc a]; exact hlen, h0, h1, hdIn_no h2 lud_no, .inr ⟨.inr (.inl (hdIn_app h2)), hz⟩⟩
def sp_tokens (CM CO : Addr) : Sp := fun vs H Q E => ∃ (txt : List Nat), vs = [.str (S txt)] ∧ txt.length ≤ 10000 ∧
  ((txt.length ≤ 4000 ∧ (∀ c ∈ txt, c = 32 ∨ c = 10) ∧ ∀ v H', Same H H' → Q v H') ∨
   (4000 < txt.length ∧ Rz CO "limit" (.str (S (cs "text"))) H E) ∨
   (∃ (l0 : List Nat) (is : List Itm) (lb tl : List Nat), txt = l0 ++ (iflat is ++ (lb ++ tl)) ∧ txt.length ≤ 4000 ∧ Blank l0 ∧ GoodsT (lb ++ tl) is ∧ Bad lb ∧ After lb tl ∧ hdIn [61] tl = false ∧ is.length ≤ 100 ∧ Rz CM "at" (.int ((l0 ++ iflat is).length : Nat)) H E))
theorem blank_cs : cs " \n" = [32, 10] := by decide +kernel
theorem c_tokens {f : Addr} {fd : FuncData} (D : C8.Def K mg "tokens" s_tokens f fd) (b : Binds K fd ["text"] []) {CO : Addr} (x_Oversized : ExF P w K mg base "Oversized" CO "limit") {CM : Addr} (c_token_at : CalX P w K mg base 4 "token_at" (sp_token_at CM)) (g_TEXT_LIMIT : ∃ u, mg "TEXT_LIMIT" = some u ∧ RelV (.int 4000) u) (z_len : mg "len" = none) : CalX P w K mg base 5 "tokens" (sp_tokens CM CO) := by
  refine calX0 D b sc_tokens (fun vs H Q E h => ?_) (fun cdv A outer s H vs Q E hr h => ?_)
  · obtain ⟨_, rfl, _⟩ := h
    rfl
  · obtain ⟨txt, rfl, hlen, hc⟩ := h
    refine ⟨_, (pss_cons (ps_if (pt_cmpR (op_gt) (pe_callB call_len_str (by rfl) z_len PySem.boot_len (pa_cons (pv 0) pa_nil)) (C8.pe_gc (by rfl) g_TEXT_LIMIT) (nomark _)) (pss_one (ps_raise rfl (takes_of rfl rfl rfl rfl) (pmk_ex x_Oversized hr (by decide) (by rfl) (pa_cons pe_str pa_nil)))) pss_nil) (pss_cons (ps_set (i := 1) sc_tokens.nd rfl (by first | exact Or.inl rfl | exact Or.inr rfl) (pe_lst pa_nil)) (pss_cons (ps_set (i := 2) sc_tokens.nd rfl (by first | exact Or.inl rfl | exact Or.inr rfl) pe_int) (pss_cons (ps_while (passes_of rfl) (pt_cmpR (op_lt) (pv 2) (pe_callB call_len_str (by rfl) z_len PySem.boot_len (pa_cons (pv 0) pa_nil)) (nomark _)) (pss_one (ps_if (pt_cmpR (op_in_sign) (pe_ix ix_str (pv 0) (pv 2) (fun _ _ => rfl)) pe_str (by with_unfolding_all rfl)) (pss_one (ps_aug (i := 2) sc_tokens.nd rfl (by first | exact Or.inl rfl | exact Or.inr rfl) pe_int ip_add)) (pss_cons (ps_asg (pe_cx c_token_at hr (by decide) (passes_call (takes_of rfl rfl rfl rfl) (fun _ _ _ _ h => h)) (by rfl) (pa_cons (pv 0) (pa_cons (pv 2) pa_nil))) (pg_tup rfl (pgs_cons (pg_name (i := 3) sc_tokens.nd rfl (by first | exact Or.inl rfl | exact Or.inr rfl)) (pgs_cons (pg_name (i := 4) sc_tokens.nd rfl (by first | exact Or.inl rfl | exact Or.inr rfl)) (pgs_cons (pg_name (i := 5) sc_tokens.nd rfl (by first | exact Or.inl rfl | exact Or.inr rfl)) pgs_nil))))) (pss_cons (ps_expr (pe_bm PySem.F.plainAttrs_list PySem.F.slot_list_append PySem.F.type_list_append mt_append (pv 1) (pa_cons (pe_tup (pa_cons (pv 3) (pa_cons (pv 4) (pa_cons (pv 2) pa_nil)))) pa_nil))) (pss_one (ps_set (i := 2) sc_tokens.nd rfl (by first | exact Or.inl rfl | exact Or.inr rfl) (pv 5)))))))) (pss_one (ps_ret (pv 1))))))), ?_⟩
    walk_at "rd"
    refine ⟨small (by omega), ?_⟩
    rcases hc with ⟨h4, hbl, ok⟩ | ⟨h4, hz⟩ | ⟨l0, is, lb, tl, htx0, h4, hb0, hg, hbad, haf0, h61, hil, hz⟩
    · rw [if_neg (by omega)]
      refine ⟨Nat.zero_le _, fun r hr0 => ?_⟩
      obtain ⟨W, hW⟩ : ∃ W : Nat → L2.St → Hp → Prop, W = fun m σ H2 => ∃ (pre b : List Nat), txt = pre ++ b ∧ m = b.length ∧ σ = [some (V.str (S txt)), some (.ref r), some (.int (pre.length : Nat)), none, none, none] ∧ upd H r (.lst []) = H2 := ⟨_, rfl⟩
      refine while_W W ?_ ?_
      · rw [hW]
        exact ⟨_, [], txt, rfl, rfl, rfl, rfl⟩
      intro m σ H2 hw
      rw [hW] at hw
      obtain ⟨pre, b, htx, rfl, rfl, rfl⟩ := hw
      walk_at "rd"
      refine ⟨small (by omega), ite2 (fun h1 => ?_) (fun h1 => ok _ _ (same_upd hr0))⟩
      refine nxw_of fun N hN => ?_
      walk_at "rd"
      refine ⟨small (by omega), ?_⟩
      rw [blank_cs]
      cases b with
      | nil =>
        rw [htx, List.append_nil] at h1
        omega
      | cons c b' =>
        rw [htx] at hbl
        refine ⟨c, by rw [htx]; exact at_app, ?_⟩
        rw [if_pos (by rcases hbl c (by simp) with e | e <;> simp [e])]
        refine hN b'.length _ _ (Nat.lt_succ_self _) ?_
        rw [hW]
        refine ⟨pre ++ [c], b', by rw [htx]; simp, rfl, ?_, rfl⟩
        simp
    · rw [if_pos (by omega)]
      exact ⟨by decide, fun a ha => raise_rz hz ha⟩
    · rw [if_neg (by omega)]
      refine ⟨Nat.zero_le _, fun r hr0 => ?_⟩
      obtain ⟨W, hW⟩ : ∃ W : Nat → L2.St → Hp → Prop, W = fun m σ H2 => ∃ (pre b : List Nat) (d rest : List Itm) (xs : List V) (x y z : Option V), is = d ++ rest ∧ txt = pre ++ (b ++ (iflat rest ++ (lb ++ tl))) ∧ m = (b ++ iflat rest).length ∧ (∀ c ∈ b, c = 32 ∨ c = 10) ∧
        pre.length + b.length = l0.length + (iflat d).length ∧ σ = [some (V.str (S txt)), some (.ref r), some (.int (pre.length : Nat)), x, y, z] ∧ Same H H2 ∧ H2 r = some (.lst xs) ∧ xs.length ≤ d.length := ⟨_, rfl⟩
      refine while_W W ?_ ?_
      · rw [hW]
        exact ⟨_, [], l0, [], is, [], none, none, none, rfl, htx0, rfl, hb0.1, by simp [iflat, flat], rfl, same_upd hr0, upd_same, Nat.le_refl _⟩
      intro m σ H2 hw
      rw [hW] at hw
      obtain ⟨pre, b, d, rest, xs, x, y, z, hds, htx, rfl, hbl, hpl, rfl, sm, hrr, hxs⟩ := hw
      walk_at "rd"
      obtain ⟨cb, rb, eb, hb32, hb10⟩ := bad_hd hbad
      refine ⟨small (by omega), ite2 (fun h1 => ?_) (fun h1 => ?_)⟩
      · refine nxw_of fun N hN => ?_
        walk_at "rd"
        refine ⟨small (by omega), ?_⟩
        rw [blank_cs]
        cases b with
        | cons c b' =>
          refine ⟨c, by rw [htx]; exact at_app, ?_⟩
          rw [if_pos (by rcases hbl c List.mem_cons_self with e | e <;> simp [e])]
          refine hN (b' ++ iflat rest).length _ _ (Nat.lt_succ_self _) ?_
          rw [hW]
          refine ⟨pre ++ [c], b', d, rest, xs, x, y, z, hds, by rw [htx]; simp, rfl, fun q hq => hbl q (List.mem_cons_of_mem _ hq), by simp at hpl ⊢; omega, ?_, sm, hrr, hxs⟩
          simp
        | nil =>
          rw [List.nil_append] at htx
          rw [List.length_nil, Nat.add_zero] at hpl
          cases rest with
          | nil =>
            rw [show iflat ([] : List Itm) = [] from rfl, List.nil_append] at htx
            rw [List.append_nil] at hds
            have hat : atI txt ((pre.length : Nat) : Int) = some cb := by
              rw [htx, eb]
              exact at_app
            refine ⟨cb, hat, ?_⟩
            rw [if_neg (by simp [hb32, hb10])]
            refine ⟨pre, lb, tl, by rw [htx], by rw [← htx]; omega, haf0, .inr ⟨hbad, h61, ?_⟩⟩
            have e : pre.length = (l0 ++ iflat is).length := by
              rw [List.length_append, hds]
              exact hpl
            rw [e]
            exact hz.same sm
          | cons it rest' =>
            obtain ⟨hp, hbsp, haf, hgr⟩ := GoodsT.append (a := d) (hds ▸ hg)
            obtain ⟨c, l', el, hc1, hc2⟩ := piece_hd hp
            have htx2 : txt = pre ++ (it.l ++ (it.sp ++ (iflat rest' ++ (lb ++ tl)))) := by
              rw [htx, iflat_cons]
              simp only [List.append_assoc]
            have hat : atI txt ((pre.length : Nat) : Int) = some c := by
              rw [htx2, el]
              exact at_app
            refine ⟨c, hat, ?_⟩
            rw [if_neg (by simp [hc1, hc2])]
            refine ⟨pre, it.l, it.sp ++ (iflat rest' ++ (lb ++ tl)), by rw [htx2], by rw [← htx2]; omega, haf, .inl ⟨it.k, it.v, hp, fun t H3 sm3 ht0 ht => ?_⟩⟩
            have hr3 := sm3 _ _ hrr
            have hdl : d.length ≤ 100 := by
              have := congrArg List.length hds
              rw [List.length_append] at this
              omega
            walk_at "rd"
            refine ⟨_, SqT.of ht, rfl, _, _, rfl, _, _, rfl, _, _, rfl, rfl, tyL hr3, by decide, fun p hp => ?_⟩
            have hrp : r ≠ p := ne_of_none hr3 hp
            have h5 : ∀ o, (upd H3 p o) r = some (.lst xs) := fun o => by
              rw [upd_ne hrp]
              exact hr3
            refine ⟨_, h5 _, smallt (by omega), ?_⟩
            refine hN (it.sp ++ iflat rest').length _ _ ?_ ?_
            · simp only [List.nil_append, iflat_cons, el, List.cons_append, List.length_cons, List.length_append]
              omega
            · rw [hW]
              refine ⟨pre ++ it.l, it.sp, d ++ [it], rest', xs ++ [.ref p], some (V.str (S it.k)), some it.v, some (V.int ((pre.length + it.l.length : Nat) : Int)), by rw [hds]; simp, by rw [htx2]; simp, rfl, hbsp.1, ?_, ?_, ?_, upd_same, ?_⟩
              · have e : iflat (d ++ [it]) = iflat d ++ (it.l ++ it.sp) := by simp [iflat, flat, irow]
                rw [e, List.length_append, List.length_append, List.length_append]
                omega
              · rw [List.length_append]
              · exact Dw.Same.new ((sm.trans sm3).trans (same_upd hp)) hr0
              · rw [List.length_append, List.length_append]
                exact Nat.succ_le_succ hxs
      · exfalso
        have : pre.length < txt.length := by
          rw [htx, List.length_append, List.length_append, List.length_append, List.length_append, eb, List.length_cons]
          omega
        omega
def sp_told : Sp := fun vs H Q _ => ∃ (txt : List Nat), vs = [.str (S txt)] ∧ txt.length ≤ 10000 ∧
  ((txt.length ≤ 4000 ∧ (∀ c ∈ txt, c = 32 ∨ c = 10) ∧ ∀ r H', Same H H' → H' r = some (.tup [.str (S (cs "fine")), .int 0]) → Q (.ref r) H') ∨
   (4000 < txt.length ∧ ∀ r H', Same H H' → H' r = some (.tup [.str (S (cs "oversized")), .str (S (cs "text"))]) → Q (.ref r) H') ∨
   (∃ (l0 : List Nat) (is : List Itm) (lb tl : List Nat), txt = l0 ++ (iflat is ++ (lb ++ tl)) ∧ txt.length ≤ 4000 ∧ Blank l0 ∧ GoodsT (lb ++ tl) is ∧ Bad lb ∧ After lb tl ∧ hdIn [61] tl = false ∧ is.length ≤ 100 ∧
    ∀ r H', Same H H' → H' r = some (.tup [.str (S (cs "malformed")), .int ((l0 ++ iflat is).length : Nat)]) → Q (.ref r) H'))
theorem c__law_told {f : Addr} {fd : FuncData} (D : C8.Def K mg "_law_told" s__law_told f fd) (b : Binds K fd ["text"] []) {CM : Addr} (x_Malformed : ExF P w K mg base "Malformed" CM "at") {CO : Addr} (x_Oversized : ExF P w K mg base "Oversized" CO "limit") (mm : PySem.W.exmOne K (.ref CM) (.ref CM) = some true) (om : PySem.W.exmOne K (.ref CO) (.ref CM) = some false) (oo : PySem.W.exmOne K (.ref CO) (.ref CO) = some true) (c_tokens : CalX P w K mg base 5 "tokens" (sp_tokens CM CO)) : C8.Cal P w K mg base 6 "_law_told" sp_told [] := by
  refine C8.cal0 D b .nil sc__law_told (fun vs H Q E h => ?_) (fun cdv A outer s H vs Q E hr h => ?_)
  · obtain ⟨_, rfl, _⟩ := h
    rfl
  · obtain ⟨txt, rfl, hlen, hc⟩ := h
    refine ⟨_, (pss_one (ps_try_named rfl rfl sc__law_told.nd takes0 (fun W pn xe tk _ => (pss_cons (ps_expr (pe_cs c_tokens hr (by decide) tk (by rfl) (pa_cons (pv 0) pa_nil))) (pss_one (ps_ret (pe_tup (pa_cons pe_str (pa_cons pe_int pa_nil)))))))
      (Named.more (i := 1) ⟨by rfl, by decide, .inl x_Malformed.g⟩ rfl rfl (fun a oe cls d pn hz hf => (pss_one (ps_ret (pe_tup (pa_cons pe_str (pa_cons (pe_xf x_Malformed.xf x_Malformed.nof hz hf (pv 1)) pa_nil)))))) (Named.more (i := 1) ⟨by rfl, by decide, .inl x_Oversized.g⟩ rfl rfl (fun a oe cls d pn hz hf => (pss_one (ps_ret (pe_tup (pa_cons pe_str (pa_cons (pe_xf x_Oversized.xf x_Oversized.nof hz hf (pv 1)) pa_nil)))))) Named.none)))), ?_⟩
    walk_at "rd"
    unfold tCallS
    simp only [WE, wNamed, tXf, unb]
    walk_at "rd"
    have fin : ∀ (C : Addr) (fl t : Str) (v : V) (d : Addr) (H1 : Hp) (a : Addr), H1 d = some (.xd [(fl, v)]) → (∀ r, H1 r = none → Q (.ref r) (upd H1 r (.tup [.str t, v]))) →
        tXf a (.ref C) (some d) C fl (tVar 1) (List.set [some (V.str (S txt)), none] 1 (some (V.ref a))) H1 fun x H1 => 2 ≤ sizeLine ∧ ∀ (p : Addr), H1 p = none → Q (V.ref p) (upd H1 p (HO.tup [V.str t, x])) := by
      intro C fl t v d H1 a hd ok
      unfold tXf
      walk_at "rd"
      refine ⟨_, hd, v, ?_, by decide, ok⟩
      show List.lookup fl [(fl, v)] = some v
      simp
    rcases hc with ⟨h4, hbl, ok⟩ | ⟨h4, ok⟩ | ⟨l0, is, lb, tl, htx, h4, hb0, hg, hbad, haf, h61, hil, ok⟩
    · exact ⟨txt, rfl, hlen, .inl ⟨h4, hbl, fun v H1 e => ⟨by decide, fun r hr0 => ok r _ (e.trans (same_upd hr0)) upd_same⟩⟩⟩
    · refine ⟨txt, rfl, hlen, .inr (.inl ⟨h4, fun d H1 e hd0 hx => ⟨false, om, (fun q => nomatch q), fun _ => ⟨true, oo, fun _ a ha => ?_, (fun q => nomatch q)⟩⟩⟩)⟩
      rw [← ofStr_S "limit"]
      exact fin CO _ _ _ d H1 a hx fun r hr0 => ok r _ (e.trans (same_upd hr0)) upd_same
    · refine ⟨txt, rfl, hlen, .inr (.inr ⟨l0, is, lb, tl, htx, h4, hb0, hg, hbad, haf, h61, hil, fun d H1 e hd0 hx => ⟨true, mm, fun _ a ha => ?_, (fun q => nomatch q)⟩⟩)⟩
      rw [← ofStr_S "at"]
      exact fin CM _ _ _ d H1 a hx fun r hr0 => ok r _ (e.trans (same_upd hr0)) upd_same
def spLaw (K : PySem.W.Frag) : Sp := fun vs H Q _ => ∃ (a : Addr) (ns : List Int), vs = [.ref a] ∧ SqL K H a (ns.map V.int) ∧ ns.length ≤ 63 ∧ ∀ H', Q (.bl true) H'
theorem f_law {f : Addr} {fd : FuncData} (D : C8.Def K mg "law" s_law f fd) (c__law_pool : C8.Cal P w K mg base 1 "_law_pool" (sp_pool K) []) (c__law_take : C8.Cal P w K mg base 2 "_law_take" sp_take []) (c__law_name : C8.Cal P w K mg base 3 "_law_name" sp_name []) (c__law_word : C8.Cal P w K mg base 3 "_law_word" sp_word []) (c__law_bad : C8.Cal P w K mg base 3 "_law_bad" sp_bad []) (c__law_text : C8.Cal P w K mg base 4 "_law_text" (sp_text K) []) (c__law_told : C8.Cal P w K mg base 6 "_law_told" sp_told []) (z_range : mg "range" = none) (z_len : mg "len" = none) (z_str : mg "str" = none) (z_isinstance : mg "isinstance" = none) (z_bool : mg "bool" = none) : FnOk P w K mg base C8.CX0 7 f fd ["script"] (spLaw K) := by
  refine C8.fn0 D.fn sc_law (fun vs H Q E h => ?_) (fun cdv A outer s H vs Q E hr h => ?_)
  · obtain ⟨_, _, rfl, _⟩ := h
    rfl
  · obtain ⟨a0, ns, rfl, hS, hns, ok⟩ := h
    refine ⟨_, (pss_cons (ps_set (i := 1) sc_law.nd rfl (by first | exact Or.inl rfl | exact Or.inr rfl) (C8.pe_c c__law_pool hr (by decide) (by rfl) (pa_cons (pv 0) pa_nil))) (pss_cons (ps_if (pt_cmpR (op_eq) (C8.pe_c c__law_take hr (by decide) (by rfl) (pa_cons (pv 1) (pa_cons pe_int pa_nil))) pe_int (nomark _)) (pss_cons (ps_set (i := 2) sc_law.nd rfl (by first | exact Or.inl rfl | exact Or.inr rfl) (pe_op op_add pe_int (C8.pe_c c__law_take hr (by decide) (by rfl) (pa_cons (pv 1) (pa_cons pe_int pa_nil))))) (pss_cons (ps_set (i := 3) sc_law.nd rfl (by first | exact Or.inl rfl | exact Or.inr rfl) (pe_tup (pa_cons pe_str (pa_cons pe_int pa_nil)))) (C8.pss_cut (ps_if (pt_cmpR (op_gt) (pv 2) pe_int (nomark _)) (pss_one (ps_set (i := 3) sc_law.nd rfl (by first | exact Or.inl rfl | exact Or.inr rfl) (pe_tup (pa_cons pe_str (pa_cons pe_str pa_nil))))) pss_nil) (pss_one (ps_ret (pe_cmpR (eqDK K (hu64 hr)) (C8.pe_c c__law_told hr (by decide) (by rfl) (pa_cons (pe_op op_mulS pe_str (pv 2)) pa_nil)) (pv 3) (nomark _))))))) pss_nil) (pss_cons (ps_set (i := 4) sc_law.nd rfl (by first | exact Or.inl rfl | exact Or.inr rfl) (pe_lst pa_nil)) (pss_cons (ps_for PassesOwn.never rfl (pi_range1 (by rfl) z_range (pa_cons (C8.pe_c c__law_take hr (by decide) (by rfl) (pa_cons (pv 1) (pa_cons pe_int pa_nil))) pa_nil)) (pg_name (i := 5) sc_law.nd rfl (by first | exact Or.inl rfl | exact Or.inr rfl)) (pss_one (ps_expr (pe_bm PySem.F.plainAttrs_list PySem.F.slot_list_append PySem.F.type_list_append mt_append (pv 4) (pa_cons (pe_ix (ixL K) (pe_lst (pa_cons (C8.pe_c c__law_name hr (by decide) (by rfl) (pa_cons (pv 1) pa_nil)) (pa_cons (C8.pe_c c__law_word hr (by decide) (by rfl) (pa_cons (pv 1) pa_nil)) (pa_cons (pe_callTy call_str_int (by rfl) z_str (by decide +kernel) (pa_cons (C8.pe_c c__law_take hr (by decide) (by rfl) (pa_cons (pv 1) (pa_cons pe_int pa_nil))) pa_nil)) (pa_cons pe_str (pa_cons pe_str (pa_cons pe_str pa_nil))))))) (C8.pe_c c__law_take hr (by decide) (by rfl) (pa_cons (pv 1) (pa_cons pe_int pa_nil))) (fun _ _ => rfl)) pa_nil))))) (pss_cons (ps_set (i := 6) sc_law.nd rfl (by first | exact Or.inl rfl | exact Or.inr rfl) (pe_callB (lenS K) (by rfl) z_len PySem.boot_len (pa_cons (pv 4) pa_nil))) (pss_cons (ps_expr (pe_bm PySem.F.plainAttrs_list PySem.F.slot_list_append PySem.F.type_list_append mt_append (pv 4) (pa_cons (C8.pe_c c__law_bad hr (by decide) (by rfl) (pa_cons (pv 1) pa_nil)) pa_nil))) (pss_cons (ps_for PassesOwn.never rfl (pi_range1 (by rfl) z_range (pa_cons (C8.pe_c c__law_take hr (by decide) (by rfl) (pa_cons (pv 1) (pa_cons pe_int pa_nil))) pa_nil)) (pg_name (i := 5) sc_law.nd rfl (by first | exact Or.inl rfl | exact Or.inr rfl)) (pss_one (ps_expr (pe_bm PySem.F.plainAttrs_list PySem.F.slot_list_append PySem.F.type_list_append mt_append (pv 4) (pa_cons (pe_ix (ixL K) (pe_lst (pa_cons (C8.pe_c c__law_name hr (by decide) (by rfl) (pa_cons (pv 1) pa_nil)) (pa_cons pe_str (pa_cons pe_str pa_nil)))) (C8.pe_c c__law_take hr (by decide) (by rfl) (pa_cons (pv 1) (pa_cons pe_int pa_nil))) (fun _ _ => rfl)) pa_nil))))) (pss_cons (ps_set (i := 7) sc_law.nd rfl (by first | exact Or.inl rfl | exact Or.inr rfl) (C8.pe_c c__law_text hr (by decide) (by rfl) (pa_cons (pv 1) (pa_cons (pv 4) pa_nil)))) (pss_cons (ps_set (i := 8) sc_law.nd rfl (by first | exact Or.inl rfl | exact Or.inr rfl) (C8.pe_c c__law_told hr (by decide) (by rfl) (pa_cons (pe_ix (ixL K) (pv 7) pe_int (fun _ _ => rfl)) pa_nil))) (pss_one (ps_ret (pe_and (pe_cmpR (eqDK K (hu64 hr)) (pv 8) (pe_tup (pa_cons pe_str (pa_cons (pe_ix (ixL K) (pe_ix (ixL K) (pv 7) pe_int (fun _ _ => rfl)) (pv 6) (fun _ _ => rfl)) pa_nil))) (nomark _)) (pe_one (pe_not (pe_callB (isiK K) (by rfl) z_isinstance (by decide +kernel) (pa_cons (pe_ix (ixT K) (pv 8) pe_int (fun _ _ => rfl)) (pa_cons (pe_bltn (by rfl) z_bool (by decide +kernel) (v := .ty "bool") rfl) pa_nil))))))))))))))))), ?_⟩
    walk_at "rd"
    refine ⟨a0, ns, rfl, hS, fun p q H1 sm1 hp0 hq0 hP1 => ?_⟩
    walk_at "rd"
    refine ⟨p, q, ns, 40, rfl, hP1, by decide, by decide, fun n H2 n0 n1 hB2 hP2 => ⟨rfl, ite2 (fun h1 => ?_) (fun h1 => ?_)⟩⟩
    · refine ⟨p, q, ns, 4, rfl, hP2, by decide, by decide, fun d H3 d0 d1 hB3 hP3 => ?_⟩
      obtain ⟨m, rfl⟩ : ∃ k : Nat, d = (k : Int) := ⟨d.toNat, by omega⟩
      walk_at "rd"
      refine ⟨by decide, fun T hT => ?_⟩
      obtain ⟨M, hM⟩ : ∃ M : L2.St → Hp → Prop, M = fun σ' H' => ∃ T2 : Addr, σ' = [some (V.ref a0), some (V.ref p), some (V.int (3999 + (m : Int))), some (V.ref T2), none, none, none, none, none] ∧
        ((m ≤ 1 ∧ H' T2 = some (.tup [V.str (S (cs "fine")), V.int 0])) ∨ (1 < m ∧ H' T2 = some (.tup [V.str (S (cs "oversized")), V.str (S (cs "text"))]))) := ⟨_, rfl⟩
      refine ⟨M, ?_, fun σ' H' hm => ?_⟩
      · walk_at "rd"
        refine ite2 (fun h2 => ?_) (fun h2 => ?_)
        · refine ⟨by decide, fun T2 hT2 => ?_⟩
          rw [hM]
          exact ⟨T2, rfl, .inr ⟨by omega, upd_same⟩⟩
        · rw [hM]
          exact ⟨T, rfl, .inl ⟨by omega, upd_same⟩⟩
      · rw [hM] at hm
        obtain ⟨T2, rfl, hc⟩ := hm
        walk_at "rd"
        rw [show (3999 : Int) + (m : Int) = ((3999 + m : Nat) : Int) by omega, show cs " " = [32] by decide +kernel, mul_S]
        refine ⟨mulOk_S _ _ (by omega), _, rfl, by rw [List.length_replicate]; omega, ?_⟩
        rw [List.length_replicate]
        rcases hc with ⟨h2, hT2⟩ | ⟨h2, hT2⟩
        · refine .inl ⟨by omega, fun c hc => .inl (List.mem_replicate.mp hc).2, fun r H5 s5 hr5 => ?_⟩
          have sh := pair_shaped (cs "fine") 0 (kinds2_128 "fine" (by simp))
          refine ⟨_, .tup (SqT.of hr5) (.cons (.str _) (.cons (.int _) .nil)), _, .tup (SqT.of (s5 _ _ hT2)) (.cons (.str _) (.cons (.int _) .nil)), sh, sh, ?_⟩
          rw [shaped_refl sh]
          exact ok _
        · refine .inr (.inl ⟨by omega, fun r H5 s5 hr5 => ?_⟩)
          have sh := pair_shapedS (cs "oversized") (cs "text") (kinds2_128 "oversized" (by simp)) (kinds2_128 "text" (by simp))
          refine ⟨_, .tup (SqT.of hr5) (.cons (.str _) (.cons (.str _) .nil)), _, .tup (SqT.of (s5 _ _ hT2)) (.cons (.str _) (.cons (.str _) .nil)), sh, sh, ?_⟩
          rw [shaped_refl sh]
          exact ok _
    · refine ⟨Nat.zero_le _, fun L hL => ?_⟩
      have hLp : L ≠ p := hP2.ne hL
      have hLq : L ≠ q := hP2.neq hL
      refine ⟨p, q, ns, 13, rfl, hP2.same (same_upd hL), by decide, by decide, fun u H3 u0 u1 hB3 hP3 => ⟨_, rfl, by omega, by omega, ?_⟩⟩
      refine for_rangeN (fun i σ H4 => ∃ (gs : List (List Nat)) (k : Option V), gs.length = i ∧ (∀ l ∈ gs, ∃ kk v, Piece l kk v) ∧ σ = [some (V.ref a0), some (V.ref p), none, none, some (V.ref L), k, none, none, none] ∧ H4 L = some (.lst (gs.map vS)) ∧ Pool H4 p q ns) ?_ ?_ ?_
      · exact ⟨[], none, rfl, (fun _ h => nomatch h), rfl, hB3 L _ hLp upd_same, hP3⟩
      · rintro i σ H4 N hi ⟨gs, k, hgl, hgp, rfl, h4, hP4⟩ hN
        walk_at "rd"
        refine ⟨tyL h4, p, q, ns, rfl, hP4, fun l1 H5 hg1 hB5 hP5 => ⟨p, q, ns, rfl, hP5, fun l2 H6 hg2 hB6 hP6 => ⟨p, q, ns, 256, rfl, hP6, by decide, by decide, fun d H7 d0 d1 hB7 hP7 => ?_⟩⟩⟩
        obtain ⟨y, rfl⟩ : ∃ k : Nat, d = (k : Int) := ⟨d.toNat, by omega⟩
        refine ⟨_, rfl, log_small (by omega), by show 6 ≤ sizeLine; decide, fun l3 hl3 => menu hP7 hl3 6 rfl (by decide) (by decide) fun v H8 hv hB8 hP8 => ?_⟩
        have h8 := hB8 L _ hLp (hB7 L _ hLp (hB6 L _ hLp (hB5 L _ hLp h4)))
        obtain ⟨l, kk, vv, rfl, hpc⟩ : ∃ (l : List Nat) (kk : List Nat) (vv : V), v = vS l ∧ Piece l kk vv := by
          obtain ⟨g1, g2, g3⟩ := sgn_in
          simp only [List.mem_cons, List.not_mem_nil, or_false] at hv
          rcases hv with h | h | h | h | h | h
          · exact ⟨_, _, _, h, .name hg1⟩
          · exact ⟨_, _, _, h, .word hg2⟩
          · exact ⟨num y, _, _, h, .num y (by omega)⟩
          · exact ⟨_, _, _, h, .sign g1⟩
          · exact ⟨_, _, _, h, .sign g2⟩
          · exact ⟨_, _, _, h, .sign g3⟩
        refine ⟨_, h8, smallt (by rw [List.length_map]; omega), hN _ _ ⟨gs ++ [l], _, by rw [List.length_append, hgl]; rfl, fun l' hl' => ?_, rfl, ?_, hP8.set hLp hLq⟩⟩
        · rcases List.mem_append.mp hl' with h | h
          · exact hgp l' h
          · rw [List.mem_singleton.mp h]
            exact ⟨kk, vv, hpc⟩
        · rw [upd_same, List.map_append]
          rfl
      · rintro σ H4 ⟨gs, k, hgl, hgp, rfl, h4, hP4⟩
        walk_at "rd"
        refine ⟨_, .inl (SqL.of h4), tyL h4, p, q, ns, rfl, hP4, fun lb H5 hbad hB5 hP5 => ⟨_, hB5 L _ hLp h4, smallt (by rw [List.length_map]; omega), ?_⟩⟩
        refine ⟨p, q, ns, 3, rfl, hP5.set hLp hLq, by decide, by decide, fun w H6 w0 w1 hB6 hP6 => ⟨_, rfl, by omega, by omega, ?_⟩⟩
        rw [List.length_map]
        refine for_rangeN (fun i σ H7 => ∃ (ms : List (List Nat)) (k : Option V), ms.length = i ∧ (∀ l ∈ ms, l ≠ [] ∧ hdIn [61] l = false ∧ l.length ≤ 100) ∧ σ = [some (V.ref a0), some (V.ref p), none, none, some (V.ref L), k, some (V.int ((gs.length : Nat) : Int)), none, none] ∧ H7 L = some (.lst ((gs ++ lb :: ms).map vS)) ∧ Pool H7 p q ns) ?_ ?_ ?_
        · refine ⟨[], _, rfl, (fun _ h => nomatch h), rfl, ?_, hP6⟩
          refine (hB6 L _ hLp upd_same).trans ?_
          rw [List.map_append]
          rfl
        · rintro i σ H7 N hi ⟨ms, k, hml, hmp, rfl, h7, hP7⟩ hN
          walk_at "rd"
          refine ⟨tyL h7, p, q, ns, rfl, hP7, fun l1 H8 hg1 hB8 hP8 => ⟨by show 3 ≤ sizeLine; decide, fun l3 hl3 => menu hP8 hl3 3 rfl (by decide) (by decide) fun v H9 hv hB9 hP9 => ?_⟩⟩
          have h9 := hB9 L _ hLp (hB8 L _ hLp h7)
          obtain ⟨l, rfl, hl⟩ : ∃ (l : List Nat), v = vS l ∧ l ≠ [] ∧ hdIn [61] l = false ∧ l.length ≤ 100 := by
            simp only [List.mem_cons, List.not_mem_nil, or_false] at hv
            rcases hv with h | h | h
            · exact ⟨_, h, name_61 hg1⟩
            · exact ⟨_, h, more_61 "(" (by simp)⟩
            · exact ⟨_, h, more_61 "07" (by simp)⟩
          refine ⟨_, h9, smallt (by rw [List.length_map, List.length_append, List.length_cons]; omega), hN _ _ ⟨ms ++ [l], _, by rw [List.length_append, hml]; rfl, fun l' hl' => ?_, rfl, ?_, hP9.set hLp hLq⟩⟩
          · rcases List.mem_append.mp hl' with h | h
            · exact hmp l' h
            · rw [List.mem_singleton.mp h]
              exact hl
          · rw [upd_same, List.map_append, List.map_cons, List.map_append, List.map_cons, List.map_append]
            simp
        · rintro σ H7 ⟨ms, k, hml, hmp, rfl, h7, hP7⟩
          walk_at "rd"
          refine ⟨p, q, L, ns, gs ++ lb :: ms, rfl, hP7, hLp, SqL.of h7, ?_, by rw [List.length_append, List.length_cons]; omega, fun l0 rows r t H8 hfst hbl hbls hsep hB8 hP8 hr0 ht0 hrt hr8 ht8 => ?_⟩
          · intro l hl
            rcases List.mem_append.mp hl with h | h
            · obtain ⟨kk, vv, hpc⟩ := hgp l h
              exact ⟨piece_ne hpc, by have := piece_len hpc; omega⟩
            · rcases List.mem_cons.mp h with e | e
              · rw [e]; exact bad_lt hbad
              · exact ⟨(hmp l e).1, (hmp l e).2.2⟩
          obtain ⟨rg, rest0, rfl, hrg, hrest0⟩ := List.map_eq_append_iff.mp hfst
          obtain ⟨x, rm, rfl, hx, hrm⟩ := List.map_eq_cons_iff.mp hrest0
          obtain ⟨lb', sp⟩ := x
          obtain rfl : lb' = lb := hx
          have hmm : ∀ y ∈ rm, y.1 ≠ [] ∧ hdIn [61] y.1 = false ∧ y.1.length ≤ 100 := fun y hy => hmp y.1 (by rw [← hrm]; exact List.mem_map_of_mem hy)
          have hgg : ∀ y ∈ rg, ∃ kk v, Piece y.1 kk v := fun y hy => hgp y.1 (by rw [← hrg]; exact List.mem_map_of_mem hy)
          have hrgl : rg.length = gs.length := by rw [← hrg, List.length_map]
          have hrml : rm.length = ms.length := by rw [← hrm, List.length_map]
          have hbsp : Blank sp := hbls (lb', sp) (by simp)
          obtain ⟨is, his, hgood⟩ := goodsT_of rg ((lb', sp) :: rm) hgg (fun y hy => hbls y (List.mem_append_left _ hy)) (fun y hy => by
            rcases List.mem_cons.mp hy with e | e
            · rw [e]; exact (bad_lt hbad).1
            · exact (hmm y e).1) hsep
          have hifl : iflat is = flat rg := by
            show flat (is.map irow) = _
            rw [his]
          have hisl : is.length = gs.length := by rw [← hrgl, ← his, List.length_map]
          have htxt : l0 ++ flat (rg ++ (lb', sp) :: rm) = l0 ++ (iflat is ++ (lb' ++ (sp ++ flat rm))) := by
            rw [flat_append, flat_cons, hifl]
          have hlen4 : (l0 ++ flat (rg ++ (lb', sp) :: rm)).length ≤ 4000 := by
            have h1 := flat_len (rg ++ (lb', sp) :: rm) (fun y hy => ⟨by
              rcases List.mem_append.mp hy with h | h
              · obtain ⟨kk, vv, hpc⟩ := hgg y h
                have := piece_len hpc
                omega
              · rcases List.mem_cons.mp h with e | e
                · rw [e]; exact (bad_lt hbad).2
                · exact (hmm y e).2.2, (hbls y hy).2⟩)
            have h2 := hbl.2
            rw [List.length_append] at h1 ⊢
            rw [List.length_cons] at h1
            omega
          have haf : After lb' (sp ++ flat rm) := after_row (x := (lb', sp)) (sepd_drop hsep) hbsp (bad_lt hbad).1 (fun y hy => (hmm y hy).1)
          have h61 : hdIn [61] (sp ++ flat rm) = false := head_no hbsp (fun y hy => ⟨(hmm y hy).1, (hmm y hy).2.1⟩)
          rw [flat_cons] at hgood
          walk_at "rd"
          refine ⟨_, SqL.of hr8, _, atI_nat (j := 0) rfl, _, rfl, by omega, .inr (.inr ⟨l0, is, lb', sp ++ flat rm, htxt, hlen4, hbl, hgood, hbad, haf, h61, by omega, fun r1 H9 s9 hr9 => ?_⟩)⟩
          walk_at "rd"
          have hpl : (places l0.length (rg ++ (lb', sp) :: rm))[gs.length]? = some (.int ((l0 ++ iflat is).length : Nat)) := by
            rw [places_get _ _ _ (by rw [List.length_append, List.length_cons]; omega), List.take_append_of_le_length (by omega), List.take_of_length_le (by omega), hifl, List.length_append]
          refine ⟨_, SqL.of (s9 _ _ hr8), .ref t, atI_nat (j := 1) rfl, t, rfl, _, SqL.of (s9 _ _ ht8), _, atI_nat hpl, by decide, fun T hT => ?_⟩
          have sh := pair_shaped (cs "malformed") ((l0 ++ iflat is).length : Nat) (kinds2_128 "malformed" (by simp))
          have hr10 := (same_upd (o := .tup [V.str (S (cs "malformed")), V.int ((l0 ++ iflat is).length : Nat)]) hT) _ _ hr9
          refine ⟨_, .tup (SqT.of hr10) (.cons (.str _) (.cons (.int _) .nil)), _, .tup (SqT.of upd_same) (.cons (.str _) (.cons (.int _) .nil)), sh, sh, ?_⟩
          rw [if_pos (shaped_refl sh)]
          refine ⟨_, SqT.of hr10, _, atI_nat (j := 1) rfl, ?_⟩
          exact isi_of (.base (.int _)) (kit_ty (by decide +kernel)) ⟨false, rfl, ok _⟩

end
abbrev si_Malformed : Stmt := (C8.clsBody (topS 2)).getD 0 (.Pass ⟨0, 0, 0, 0⟩)
theorem sci_Malformed : FnScope ["self", "at"] ["self", "at"] (C8.fnScope si_Malformed) := C8.fnScope_by (by decide +kernel)
theorem f_ini_Malformed {P : Program} {w : World} {K : PySem.W.Frag} {mg : Str → Option Value} {base : Heap} {C fI : Addr} {fd : FuncData} (T : OexC K C) (nof : PySem.W.findIn K (.ref C) "at" = some none) (F : C8.Fun K "__init__" "Malformed.__init__" si_Malformed fI fd) : FnOk P w K mg base C8.CX0 1 fI fd ["self", "at"] (sp_init C "at") := by
  refine C8.fn0 F sci_Malformed (fun vs H Q E h => ?_) (fun cdv A outer s H vs Q E hr h => ?_)
  · obtain ⟨_, _, rfl, _⟩ := h
    rfl
  · obtain ⟨a, v, rfl, ha, ok⟩ := h
    exact ⟨_, pss_one (ps_ost (pv 0) (pv 1)), v, rfl, .ref a, rfl, a, C, rfl, T, nof, .inl ⟨ha, ok⟩⟩
abbrev si_Oversized : Stmt := (C8.clsBody (topS 3)).getD 0 (.Pass ⟨0, 0, 0, 0⟩)
theorem sci_Oversized : FnScope ["self", "limit"] ["self", "limit"] (C8.fnScope si_Oversized) := C8.fnScope_by (by decide +kernel)
theorem f_ini_Oversized {P : Program} {w : World} {K : PySem.W.Frag} {mg : Str → Option Value} {base : Heap} {C fI : Addr} {fd : FuncData} (T : OexC K C) (nof : PySem.W.findIn K (.ref C) "limit" = some none) (F : C8.Fun K "__init__" "Oversized.__init__" si_Oversized fI fd) : FnOk P w K mg base C8.CX0 1 fI fd ["self", "limit"] (sp_init C "limit") := by
  refine C8.fn0 F sci_Oversized (fun vs H Q E h => ?_) (fun cdv A outer s H vs Q E hr h => ?_)
  · obtain ⟨_, _, rfl, _⟩ := h
    rfl
  · obtain ⟨a, v, rfl, ha, ok⟩ := h
    exact ⟨_, pss_one (ps_ost (pv 0) (pv 1)), v, rfl, .ref a, rfl, a, C, rfl, T, nof, .inl ⟨ha, ok⟩⟩
theorem all_mk {l : PySem.W.OpenLaw} {w : World} {K : PySem.W.Frag} {h : Heap} {mg : Str → Option Value} {fa : Addr} (X : K.In h) (G : h.Ns mainGlobals mg) (hfa : mg "law" = some (.ref fa))
    {f0 : Addr} {od0 an0 : Option Addr} {sl0 : Array (Option Value)} {oc0 kV0 dc0 pm0 cd0 ct0 : Value}
    {f1 : Addr} {od1 an1 : Option Addr} {sl1 : Array (Option Value)} {oc1 kV1 dc1 pm1 cd1 ct1 : Value}
    {f2 : Addr} {od2 an2 : Option Addr} {sl2 : Array (Option Value)} {oc2 kV2 dc2 pm2 cd2 ct2 : Value}
    {f3 : Addr} {od3 an3 : Option Addr} {sl3 : Array (Option Value)} {oc3 kV3 dc3 pm3 cd3 ct3 : Value}
    {f4 : Addr} {od4 an4 : Option Addr} {sl4 : Array (Option Value)} {oc4 kV4 dc4 pm4 cd4 ct4 : Value}
    {f5 : Addr} {od5 an5 : Option Addr} {sl5 : Array (Option Value)} {oc5 kV5 dc5 pm5 cd5 ct5 : Value}
    {f6 : Addr} {od6 an6 : Option Addr} {sl6 : Array (Option Value)} {oc6 kV6 dc6 pm6 cd6 ct6 : Value}
    {f7 : Addr} {od7 an7 : Option Addr} {sl7 : Array (Option Value)} {oc7 kV7 dc7 pm7 cd7 ct7 : Value}
    {f8 : Addr} {od8 an8 : Option Addr} {sl8 : Array (Option Value)} {oc8 kV8 dc8 pm8 cd8 ct8 : Value}
    {f9 : Addr} {od9 an9 : Option Addr} {sl9 : Array (Option Value)} {oc9 kV9 dc9 pm9 cd9 ct9 : Value}
    {f10 : Addr} {od10 an10 : Option Addr} {sl10 : Array (Option Value)} {oc10 kV10 dc10 pm10 cd10 ct10 : Value}
    {f11 : Addr} {od11 an11 : Option Addr} {sl11 : Array (Option Value)} {oc11 kV11 dc11 pm11 cd11 ct11 : Value}
    {f12 : Addr} {od12 an12 : Option Addr} {sl12 : Array (Option Value)} {oc12 kV12 dc12 pm12 cd12 ct12 : Value}
    {f13 : Addr} {od13 an13 : Option Addr} {sl13 : Array (Option Value)} {oc13 kV13 dc13 pm13 cd13 ct13 : Value}
    {f14 : Addr} {od14 an14 : Option Addr} {sl14 : Array (Option Value)} {oc14 kV14 dc14 pm14 cd14 ct14 : Value}
    {f15 : Addr} {od15 an15 : Option Addr} {sl15 : Array (Option Value)} {oc15 kV15 dc15 pm15 cd15 ct15 : Value}
    {f16 : Addr} {od16 an16 : Option Addr} {sl16 : Array (Option Value)} {oc16 kV16 dc16 pm16 cd16 ct16 : Value}
    {f17 : Addr} {od17 an17 : Option Addr} {sl17 : Array (Option Value)} {oc17 kV17 dc17 pm17 cd17 ct17 : Value}
    {f18 : Addr} {od18 an18 : Option Addr} {sl18 : Array (Option Value)} {oc18 kV18 dc18 pm18 cd18 ct18 : Value}
    {f19 : Addr} {od19 an19 : Option Addr} {sl19 : Array (Option Value)} {oc19 kV19 dc19 pm19 cd19 ct19 : Value}
    {f20 : Addr} {od20 an20 : Option Addr} {sl20 : Array (Option Value)} {oc20 kV20 dc20 pm20 cd20 ct20 : Value}
    {t_LOWER : Tok}
    {t_UPPER : Tok}
    {t_DIGITS : Tok}
    {t_LENGTH_LIMIT : Tok}
    {t_NUMBER_LIMIT : Tok}
    {t_TEXT_LIMIT : Tok}
    {A_RESERVED : Addr} {dd_RESERVED : Option Addr} {its_RESERVED : Array Value} {n_RESERVED : Nat} {sl_RESERVED : Array (Option Value)}
    {A_SIGNS : Addr} {dd_SIGNS : Option Addr} {its_SIGNS : Array Value} {n_SIGNS : Nat} {sl_SIGNS : Array (Option Value)}
    {CM fI_Malformed : Addr} {nm_Malformed q_Malformed : Str} {N_Malformed : Addr} {bs_Malformed bm_Malformed : List Value} {sn_Malformed : List Str} {sub_Malformed : List Value} {ab_Malformed : Bool} {col_Malformed : Option Bool} {dd_Malformed : Option Addr} {m0_Malformed m1_Malformed m2_Malformed m3_Malformed m5_Malformed : Option Value} {odi_Malformed ani_Malformed : Option Addr} {sli_Malformed : Array (Option Value)} {oci_Malformed kVi_Malformed dci_Malformed pmi_Malformed cdi_Malformed cti_Malformed : Value}
    {CO fI_Oversized : Addr} {nm_Oversized q_Oversized : Str} {N_Oversized : Addr} {bs_Oversized bm_Oversized : List Value} {sn_Oversized : List Str} {sub_Oversized : List Value} {ab_Oversized : Bool} {col_Oversized : Option Bool} {dd_Oversized : Option Addr} {m0_Oversized m1_Oversized m2_Oversized m3_Oversized m5_Oversized : Option Value} {odi_Oversized ani_Oversized : Option Addr} {sli_Oversized : Array (Option Value)} {oci_Oversized kVi_Oversized dci_Oversized pmi_Oversized cdi_Oversized cti_Oversized : Value}
    (a0 : PySem.W.nsIn K mainGlobals "_law_wide" = some (some (.ref f0))) (l0 : K.lookup f0 = some ⟨oc0, od0, .func (PySem.W.fnOf "_law_wide" "_law_wide" (C8.fnArgs s__law_wide) (C8.fnBody s__law_wide) (C8.fnScope s__law_wide) .none kV0 dc0 pm0 an0 cd0 ct0), sl0⟩) (c0 : PySem.W.codeIn K cd0 "_law_wide" = true) (k0 : PySem.W.keepIn K (.ref f0) = true)
    (a1 : PySem.W.nsIn K mainGlobals "_law_take" = some (some (.ref f1))) (l1 : K.lookup f1 = some ⟨oc1, od1, .func (PySem.W.fnOf "_law_take" "_law_take" (C8.fnArgs s__law_take) (C8.fnBody s__law_take) (C8.fnScope s__law_take) .none kV1 dc1 pm1 an1 cd1 ct1), sl1⟩) (c1 : PySem.W.codeIn K cd1 "_law_take" = true) (k1 : PySem.W.keepIn K (.ref f1) = true)
    (a2 : PySem.W.nsIn K mainGlobals "_law_pool" = some (some (.ref f2))) (l2 : K.lookup f2 = some ⟨oc2, od2, .func (PySem.W.fnOf "_law_pool" "_law_pool" (C8.fnArgs s__law_pool) (C8.fnBody s__law_pool) (C8.fnScope s__law_pool) .none kV2 dc2 pm2 an2 cd2 ct2), sl2⟩) (c2 : PySem.W.codeIn K cd2 "_law_pool" = true) (k2 : PySem.W.keepIn K (.ref f2) = true)
    (a3 : PySem.W.nsIn K mainGlobals "_law_reserved" = some (some (.ref f3))) (l3 : K.lookup f3 = some ⟨oc3, od3, .func (PySem.W.fnOf "_law_reserved" "_law_reserved" (C8.fnArgs s__law_reserved) (C8.fnBody s__law_reserved) (C8.fnScope s__law_reserved) .none kV3 dc3 pm3 an3 cd3 ct3), sl3⟩) (c3 : PySem.W.codeIn K cd3 "_law_reserved" = true) (k3 : PySem.W.keepIn K (.ref f3) = true)
    (a4 : PySem.W.nsIn K mainGlobals "_law_signs" = some (some (.ref f4))) (l4 : K.lookup f4 = some ⟨oc4, od4, .func (PySem.W.fnOf "_law_signs" "_law_signs" (C8.fnArgs s__law_signs) (C8.fnBody s__law_signs) (C8.fnScope s__law_signs) .none kV4 dc4 pm4 an4 cd4 ct4), sl4⟩) (c4 : PySem.W.codeIn K cd4 "_law_signs" = true) (k4 : PySem.W.keepIn K (.ref f4) = true)
    (a5 : PySem.W.nsIn K mainGlobals "_law_name" = some (some (.ref f5))) (l5 : K.lookup f5 = some ⟨oc5, od5, .func (PySem.W.fnOf "_law_name" "_law_name" (C8.fnArgs s__law_name) (C8.fnBody s__law_name) (C8.fnScope s__law_name) .none kV5 dc5 pm5 an5 cd5 ct5), sl5⟩) (c5 : PySem.W.codeIn K cd5 "_law_name" = true) (k5 : PySem.W.keepIn K (.ref f5) = true)
    (a6 : PySem.W.nsIn K mainGlobals "_law_word" = some (some (.ref f6))) (l6 : K.lookup f6 = some ⟨oc6, od6, .func (PySem.W.fnOf "_law_word" "_law_word" (C8.fnArgs s__law_word) (C8.fnBody s__law_word) (C8.fnScope s__law_word) .none kV6 dc6 pm6 an6 cd6 ct6), sl6⟩) (c6 : PySem.W.codeIn K cd6 "_law_word" = true) (k6 : PySem.W.keepIn K (.ref f6) = true)
    (a7 : PySem.W.nsIn K mainGlobals "_law_space" = some (some (.ref f7))) (l7 : K.lookup f7 = some ⟨oc7, od7, .func (PySem.W.fnOf "_law_space" "_law_space" (C8.fnArgs s__law_space) (C8.fnBody s__law_space) (C8.fnScope s__law_space) .none kV7 dc7 pm7 an7 cd7 ct7), sl7⟩) (c7 : PySem.W.codeIn K cd7 "_law_space" = true) (k7 : PySem.W.keepIn K (.ref f7) = true)
    (a8 : PySem.W.nsIn K mainGlobals "_law_joins" = some (some (.ref f8))) (l8 : K.lookup f8 = some ⟨oc8, od8, .func (PySem.W.fnOf "_law_joins" "_law_joins" (C8.fnArgs s__law_joins) (C8.fnBody s__law_joins) (C8.fnScope s__law_joins) .none kV8 dc8 pm8 an8 cd8 ct8), sl8⟩) (c8 : PySem.W.codeIn K cd8 "_law_joins" = true) (k8 : PySem.W.keepIn K (.ref f8) = true)
    (a9 : PySem.W.nsIn K mainGlobals "_law_text" = some (some (.ref f9))) (l9 : K.lookup f9 = some ⟨oc9, od9, .func (PySem.W.fnOf "_law_text" "_law_text" (C8.fnArgs s__law_text) (C8.fnBody s__law_text) (C8.fnScope s__law_text) .none kV9 dc9 pm9 an9 cd9 ct9), sl9⟩) (c9 : PySem.W.codeIn K cd9 "_law_text" = true) (k9 : PySem.W.keepIn K (.ref f9) = true)
    (a10 : PySem.W.nsIn K mainGlobals "_law_bad" = some (some (.ref f10))) (l10 : K.lookup f10 = some ⟨oc10, od10, .func (PySem.W.fnOf "_law_bad" "_law_bad" (C8.fnArgs s__law_bad) (C8.fnBody s__law_bad) (C8.fnScope s__law_bad) .none kV10 dc10 pm10 an10 cd10 ct10), sl10⟩) (c10 : PySem.W.codeIn K cd10 "_law_bad" = true) (k10 : PySem.W.keepIn K (.ref f10) = true)
    (a11 : PySem.W.nsIn K mainGlobals "stands_at" = some (some (.ref f11))) (l11 : K.lookup f11 = some ⟨oc11, od11, .func (PySem.W.fnOf "stands_at" "stands_at" (C8.fnArgs s_stands_at) (C8.fnBody s_stands_at) (C8.fnScope s_stands_at) .none kV11 dc11 pm11 an11 cd11 ct11), sl11⟩) (c11 : PySem.W.codeIn K cd11 "stands_at" = true) (k11 : PySem.W.keepIn K (.ref f11) = true)
    (a12 : PySem.W.nsIn K mainGlobals "run_end" = some (some (.ref f12))) (l12 : K.lookup f12 = some ⟨oc12, od12, .func (PySem.W.fnOf "run_end" "run_end" (C8.fnArgs s_run_end) (C8.fnBody s_run_end) (C8.fnScope s_run_end) .none kV12 dc12 pm12 an12 cd12 ct12), sl12⟩) (c12 : PySem.W.codeIn K cd12 "run_end" = true) (k12 : PySem.W.keepIn K (.ref f12) = true)
    (a13 : PySem.W.nsIn K mainGlobals "name_at" = some (some (.ref f13))) (l13 : K.lookup f13 = some ⟨oc13, od13, .func (PySem.W.fnOf "name_at" "name_at" (C8.fnArgs s_name_at) (C8.fnBody s_name_at) (C8.fnScope s_name_at) .none kV13 dc13 pm13 an13 cd13 ct13), sl13⟩) (c13 : PySem.W.codeIn K cd13 "name_at" = true) (k13 : PySem.W.keepIn K (.ref f13) = true)
    (a14 : PySem.W.nsIn K mainGlobals "word_at" = some (some (.ref f14))) (l14 : K.lookup f14 = some ⟨oc14, od14, .func (PySem.W.fnOf "word_at" "word_at" (C8.fnArgs s_word_at) (C8.fnBody s_word_at) (C8.fnScope s_word_at) .none kV14 dc14 pm14 an14 cd14 ct14), sl14⟩) (c14 : PySem.W.codeIn K cd14 "word_at" = true) (k14 : PySem.W.keepIn K (.ref f14) = true)
    (a15 : PySem.W.nsIn K mainGlobals "number_at" = some (some (.ref f15))) (l15 : K.lookup f15 = some ⟨oc15, od15, .func (PySem.W.fnOf "number_at" "number_at" (C8.fnArgs s_number_at) (C8.fnBody s_number_at) (C8.fnScope s_number_at) .none kV15 dc15 pm15 an15 cd15 ct15), sl15⟩) (c15 : PySem.W.codeIn K cd15 "number_at" = true) (k15 : PySem.W.keepIn K (.ref f15) = true)
    (a16 : PySem.W.nsIn K mainGlobals "sign_at" = some (some (.ref f16))) (l16 : K.lookup f16 = some ⟨oc16, od16, .func (PySem.W.fnOf "sign_at" "sign_at" (C8.fnArgs s_sign_at) (C8.fnBody s_sign_at) (C8.fnScope s_sign_at) .none kV16 dc16 pm16 an16 cd16 ct16), sl16⟩) (c16 : PySem.W.codeIn K cd16 "sign_at" = true) (k16 : PySem.W.keepIn K (.ref f16) = true)
    (a17 : PySem.W.nsIn K mainGlobals "token_at" = some (some (.ref f17))) (l17 : K.lookup f17 = some ⟨oc17, od17, .func (PySem.W.fnOf "token_at" "token_at" (C8.fnArgs s_token_at) (C8.fnBody s_token_at) (C8.fnScope s_token_at) .none kV17 dc17 pm17 an17 cd17 ct17), sl17⟩) (c17 : PySem.W.codeIn K cd17 "token_at" = true) (k17 : PySem.W.keepIn K (.ref f17) = true)
    (a18 : PySem.W.nsIn K mainGlobals "tokens" = some (some (.ref f18))) (l18 : K.lookup f18 = some ⟨oc18, od18, .func (PySem.W.fnOf "tokens" "tokens" (C8.fnArgs s_tokens) (C8.fnBody s_tokens) (C8.fnScope s_tokens) .none kV18 dc18 pm18 an18 cd18 ct18), sl18⟩) (c18 : PySem.W.codeIn K cd18 "tokens" = true) (k18 : PySem.W.keepIn K (.ref f18) = true)
    (a19 : PySem.W.nsIn K mainGlobals "_law_told" = some (some (.ref f19))) (l19 : K.lookup f19 = some ⟨oc19, od19, .func (PySem.W.fnOf "_law_told" "_law_told" (C8.fnArgs s__law_told) (C8.fnBody s__law_told) (C8.fnScope s__law_told) .none kV19 dc19 pm19 an19 cd19 ct19), sl19⟩) (c19 : PySem.W.codeIn K cd19 "_law_told" = true) (k19 : PySem.W.keepIn K (.ref f19) = true)
    (a20 : PySem.W.nsIn K mainGlobals "law" = some (some (.ref f20))) (l20 : K.lookup f20 = some ⟨oc20, od20, .func (PySem.W.fnOf "law" "law" (C8.fnArgs s_law) (C8.fnBody s_law) (C8.fnScope s_law) .none kV20 dc20 pm20 an20 cd20 ct20), sl20⟩) (c20 : PySem.W.codeIn K cd20 "law" = true) (k20 : PySem.W.keepIn K (.ref f20) = true)
    (zz_len : PySem.W.nsIn K mainGlobals "len" = some none)
    (zz_abs : PySem.W.nsIn K mainGlobals "abs" = some none)
    (zz_int : PySem.W.nsIn K mainGlobals "int" = some none)
    (zz_list : PySem.W.nsIn K mainGlobals "list" = some none)
    (zz_range : PySem.W.nsIn K mainGlobals "range" = some none)
    (zz_min : PySem.W.nsIn K mainGlobals "min" = some none)
    (zz_str : PySem.W.nsIn K mainGlobals "str" = some none)
    (zz_isinstance : PySem.W.nsIn K mainGlobals "isinstance" = some none)
    (zz_bool : PySem.W.nsIn K mainGlobals "bool" = some none)
    (gg_LOWER : PySem.W.nsIn K mainGlobals "LOWER" = some (some (.str (S LOW) t_LOWER)))
    (gg_UPPER : PySem.W.nsIn K mainGlobals "UPPER" = some (some (.str (S UPP) t_UPPER)))
    (gg_DIGITS : PySem.W.nsIn K mainGlobals "DIGITS" = some (some (.str (S DIG) t_DIGITS)))
    (gg_LENGTH_LIMIT : PySem.W.nsIn K mainGlobals "LENGTH_LIMIT" = some (some (.int 12 t_LENGTH_LIMIT)))
    (gg_NUMBER_LIMIT : PySem.W.nsIn K mainGlobals "NUMBER_LIMIT" = some (some (.int 255 t_NUMBER_LIMIT)))
    (gg_TEXT_LIMIT : PySem.W.nsIn K mainGlobals "TEXT_LIMIT" = some (some (.int 4000 t_TEXT_LIMIT)))
    (gg_RESERVED : PySem.W.nsIn K mainGlobals "RESERVED" = some (some (.ref A_RESERVED))) (gl_RESERVED : K.lookup A_RESERVED = some ⟨.type "tuple", dd_RESERVED, .seq its_RESERVED n_RESERVED, sl_RESERVED⟩) (gv_RESERVED : Vals (RES.map vS) its_RESERVED.toList) (gz_RESERVED : its_RESERVED.size ≤ sizeLine)
    (gg_SIGNS : PySem.W.nsIn K mainGlobals "SIGNS" = some (some (.ref A_SIGNS))) (gl_SIGNS : K.lookup A_SIGNS = some ⟨.type "tuple", dd_SIGNS, .seq its_SIGNS n_SIGNS, sl_SIGNS⟩) (gv_SIGNS : Vals (SGN.map vS) its_SIGNS.toList) (gz_SIGNS : its_SIGNS.size ≤ sizeLine)
    (xa_Malformed : PySem.W.nsIn K mainGlobals "Malformed" = some (some (.ref CM))) (xc_Malformed : K.lookup CM = some (excClassObj nm_Malformed q_Malformed CM N_Malformed bs_Malformed bm_Malformed true sn_Malformed sub_Malformed ab_Malformed col_Malformed dd_Malformed m0_Malformed m1_Malformed m2_Malformed m3_Malformed m5_Malformed "ValueError.__new__")) (xr_Malformed : PySem.HandSPX.refsVE bm_Malformed = true) (xs_Malformed : PySem.W.findIn K (.ref CM) "__setattr__" = some (some (.builtin "object.__setattr__"))) (xg_Malformed : PySem.W.findIn K (.ref CM) "__getattribute__" = some (some (.builtin "BaseException.__getattribute__"))) (xh_Malformed : PySem.W.findIn K (.ref CM) "__getattr__" = some none) (xn_Malformed : PySem.W.findIn K (.ref CM) "at" = some none) (xi_Malformed : PySem.W.findIn K (.ref CM) "__init__" = some (some (.ref fI_Malformed))) (xt_Malformed : PySem.W.typeIn K (.ref fI_Malformed) = some (.type "function")) (xl_Malformed : K.lookup fI_Malformed = some ⟨oci_Malformed, odi_Malformed, .func (PySem.W.fnOf "__init__" "Malformed.__init__" (C8.fnArgs si_Malformed) (C8.fnBody si_Malformed) (C8.fnScope si_Malformed) .none kVi_Malformed dci_Malformed pmi_Malformed ani_Malformed cdi_Malformed cti_Malformed), sli_Malformed⟩) (xq_Malformed : PySem.W.codeIn K cdi_Malformed "Malformed.__init__" = true) (xk_Malformed : PySem.W.keepIn K (.ref CM) = true) (xe_Malformed : PySem.W.subIn K (.ref CM) (.type "BaseException") = some true) (xy_Malformed : PySem.W.typeIn K (.ref CM) = some (.type "type")) (xd_Malformed : PySem.W.hasDictIn K CM = true) (xz_Malformed : PySem.W.isClsIn K CM = true)
    (xa_Oversized : PySem.W.nsIn K mainGlobals "Oversized" = some (some (.ref CO))) (xc_Oversized : K.lookup CO = some (excClassObj nm_Oversized q_Oversized CO N_Oversized bs_Oversized bm_Oversized true sn_Oversized sub_Oversized ab_Oversized col_Oversized dd_Oversized m0_Oversized m1_Oversized m2_Oversized m3_Oversized m5_Oversized "ValueError.__new__")) (xr_Oversized : PySem.HandSPX.refsVE bm_Oversized = true) (xs_Oversized : PySem.W.findIn K (.ref CO) "__setattr__" = some (some (.builtin "object.__setattr__"))) (xg_Oversized : PySem.W.findIn K (.ref CO) "__getattribute__" = some (some (.builtin "BaseException.__getattribute__"))) (xh_Oversized : PySem.W.findIn K (.ref CO) "__getattr__" = some none) (xn_Oversized : PySem.W.findIn K (.ref CO) "limit" = some none) (xi_Oversized : PySem.W.findIn K (.ref CO) "__init__" = some (some (.ref fI_Oversized))) (xt_Oversized : PySem.W.typeIn K (.ref fI_Oversized) = some (.type "function")) (xl_Oversized : K.lookup fI_Oversized = some ⟨oci_Oversized, odi_Oversized, .func (PySem.W.fnOf "__init__" "Oversized.__init__" (C8.fnArgs si_Oversized) (C8.fnBody si_Oversized) (C8.fnScope si_Oversized) .none kVi_Oversized dci_Oversized pmi_Oversized ani_Oversized cdi_Oversized cti_Oversized), sli_Oversized⟩) (xq_Oversized : PySem.W.codeIn K cdi_Oversized "Oversized.__init__" = true) (xk_Oversized : PySem.W.keepIn K (.ref CO) = true) (xe_Oversized : PySem.W.subIn K (.ref CO) (.type "BaseException") = some true) (xy_Oversized : PySem.W.typeIn K (.ref CO) = some (.type "type")) (xd_Oversized : PySem.W.hasDictIn K CO = true) (xz_Oversized : PySem.W.isClsIn K CO = true)
    (ss_CMCM : PySem.W.subIn K (.ref CM) (.ref CM) = some true)
    (ss_COCM : PySem.W.subIn K (.ref CO) (.ref CM) = some false)
    (ss_COCO : PySem.W.subIn K (.ref CO) (.ref CO) = some true) :
    ∃ fd : FuncData, (∀ (s : Shared) (v : Value), BindsTo s fd ⟨[v], []⟩ [("script", v)]) ∧ ∀ base : Heap, K.In base → base.Ns mainGlobals mg → FnOk l.prog w K mg base C8.CX0 7 fa fd ["script"] (spLaw K) := by
  have e := hfa.symm.trans (PySem.W.mg_of X G a20)
  cases e
  have D0 : C8.Def K mg "_law_wide" s__law_wide f0 _ := ⟨⟨_, _, _, _, _, _, _, _, _, _, rfl, l0, c0⟩, PySem.W.mg_of X G a0, k0⟩
  have b0 := C8.Fun.binds D0.fn rfl (ps := ["script", "k"]) fun _ _ _ _ _ _ us hl => match us, hl with | [_, _], _ => rfl
  have D1 : C8.Def K mg "_law_take" s__law_take f1 _ := ⟨⟨_, _, _, _, _, _, _, _, _, _, rfl, l1, c1⟩, PySem.W.mg_of X G a1, k1⟩
  have b1 := C8.Fun.binds D1.fn rfl (ps := ["pool", "most"]) fun _ _ _ _ _ _ us hl => match us, hl with | [_, _], _ => rfl
  have D2 : C8.Def K mg "_law_pool" s__law_pool f2 _ := ⟨⟨_, _, _, _, _, _, _, _, _, _, rfl, l2, c2⟩, PySem.W.mg_of X G a2, k2⟩
  have b2 := C8.Fun.binds D2.fn rfl (ps := ["script"]) fun _ _ _ _ _ _ us hl => match us, hl with | [_], _ => rfl
  have D3 : C8.Def K mg "_law_reserved" s__law_reserved f3 _ := ⟨⟨_, _, _, _, _, _, _, _, _, _, rfl, l3, c3⟩, PySem.W.mg_of X G a3, k3⟩
  have b3 := C8.Fun.binds D3.fn rfl (ps := []) fun _ _ _ _ _ _ us hl => match us, hl with | [], _ => rfl
  have D4 : C8.Def K mg "_law_signs" s__law_signs f4 _ := ⟨⟨_, _, _, _, _, _, _, _, _, _, rfl, l4, c4⟩, PySem.W.mg_of X G a4, k4⟩
  have b4 := C8.Fun.binds D4.fn rfl (ps := []) fun _ _ _ _ _ _ us hl => match us, hl with | [], _ => rfl
  have D5 : C8.Def K mg "_law_name" s__law_name f5 _ := ⟨⟨_, _, _, _, _, _, _, _, _, _, rfl, l5, c5⟩, PySem.W.mg_of X G a5, k5⟩
  have b5 := C8.Fun.binds D5.fn rfl (ps := ["pool"]) fun _ _ _ _ _ _ us hl => match us, hl with | [_], _ => rfl
  have D6 : C8.Def K mg "_law_word" s__law_word f6 _ := ⟨⟨_, _, _, _, _, _, _, _, _, _, rfl, l6, c6⟩, PySem.W.mg_of X G a6, k6⟩
  have b6 := C8.Fun.binds D6.fn rfl (ps := ["pool"]) fun _ _ _ _ _ _ us hl => match us, hl with | [_], _ => rfl
  have D7 : C8.Def K mg "_law_space" s__law_space f7 _ := ⟨⟨_, _, _, _, _, _, _, _, _, _, rfl, l7, c7⟩, PySem.W.mg_of X G a7, k7⟩
  have b7 := C8.Fun.binds D7.fn rfl (ps := ["pool", "needed"]) fun _ _ _ _ _ _ us hl => match us, hl with | [_, _], _ => rfl
  have D8 : C8.Def K mg "_law_joins" s__law_joins f8 _ := ⟨⟨_, _, _, _, _, _, _, _, _, _, rfl, l8, c8⟩, PySem.W.mg_of X G a8, k8⟩
  have b8 := C8.Fun.binds D8.fn rfl (ps := ["left", "right"]) fun _ _ _ _ _ _ us hl => match us, hl with | [_, _], _ => rfl
  have D9 : C8.Def K mg "_law_text" s__law_text f9 _ := ⟨⟨_, _, _, _, _, _, _, _, _, _, rfl, l9, c9⟩, PySem.W.mg_of X G a9, k9⟩
  have b9 := C8.Fun.binds D9.fn rfl (ps := ["pool", "parts"]) fun _ _ _ _ _ _ us hl => match us, hl with | [_, _], _ => rfl
  have D10 : C8.Def K mg "_law_bad" s__law_bad f10 _ := ⟨⟨_, _, _, _, _, _, _, _, _, _, rfl, l10, c10⟩, PySem.W.mg_of X G a10, k10⟩
  have b10 := C8.Fun.binds D10.fn rfl (ps := ["pool"]) fun _ _ _ _ _ _ us hl => match us, hl with | [_], _ => rfl
  have D11 : C8.Def K mg "stands_at" s_stands_at f11 _ := ⟨⟨_, _, _, _, _, _, _, _, _, _, rfl, l11, c11⟩, PySem.W.mg_of X G a11, k11⟩
  have b11 := C8.Fun.binds D11.fn rfl (ps := ["text", "at", "characters"]) fun _ _ _ _ _ _ us hl => match us, hl with | [_, _, _], _ => rfl
  have D12 : C8.Def K mg "run_end" s_run_end f12 _ := ⟨⟨_, _, _, _, _, _, _, _, _, _, rfl, l12, c12⟩, PySem.W.mg_of X G a12, k12⟩
  have b12 := C8.Fun.binds D12.fn rfl (ps := ["text", "at", "characters"]) fun _ _ _ _ _ _ us hl => match us, hl with | [_, _, _], _ => rfl
  have D13 : C8.Def K mg "name_at" s_name_at f13 _ := ⟨⟨_, _, _, _, _, _, _, _, _, _, rfl, l13, c13⟩, PySem.W.mg_of X G a13, k13⟩
  have b13 := C8.Fun.binds D13.fn rfl (ps := ["text", "at"]) fun _ _ _ _ _ _ us hl => match us, hl with | [_, _], _ => rfl
  have D14 : C8.Def K mg "word_at" s_word_at f14 _ := ⟨⟨_, _, _, _, _, _, _, _, _, _, rfl, l14, c14⟩, PySem.W.mg_of X G a14, k14⟩
  have b14 := C8.Fun.binds D14.fn rfl (ps := ["text", "at"]) fun _ _ _ _ _ _ us hl => match us, hl with | [_, _], _ => rfl
  have D15 : C8.Def K mg "number_at" s_number_at f15 _ := ⟨⟨_, _, _, _, _, _, _, _, _, _, rfl, l15, c15⟩, PySem.W.mg_of X G a15, k15⟩
  have b15 := C8.Fun.binds D15.fn rfl (ps := ["text", "at"]) fun _ _ _ _ _ _ us hl => match us, hl with | [_, _], _ => rfl
  have D16 : C8.Def K mg "sign_at" s_sign_at f16 _ := ⟨⟨_, _, _, _, _, _, _, _, _, _, rfl, l16, c16⟩, PySem.W.mg_of X G a16, k16⟩
  have b16 := C8.Fun.binds D16.fn rfl (ps := ["text", "at"]) fun _ _ _ _ _ _ us hl => match us, hl with | [_, _], _ => rfl
  have D17 : C8.Def K mg "token_at" s_token_at f17 _ := ⟨⟨_, _, _, _, _, _, _, _, _, _, rfl, l17, c17⟩, PySem.W.mg_of X G a17, k17⟩
  have b17 := C8.Fun.binds D17.fn rfl (ps := ["text", "at"]) fun _ _ _ _ _ _ us hl => match us, hl with | [_, _], _ => rfl
  have D18 : C8.Def K mg "tokens" s_tokens f18 _ := ⟨⟨_, _, _, _, _, _, _, _, _, _, rfl, l18, c18⟩, PySem.W.mg_of X G a18, k18⟩
  have b18 := C8.Fun.binds D18.fn rfl (ps := ["text"]) fun _ _ _ _ _ _ us hl => match us, hl with | [_], _ => rfl
  have D19 : C8.Def K mg "_law_told" s__law_told f19 _ := ⟨⟨_, _, _, _, _, _, _, _, _, _, rfl, l19, c19⟩, PySem.W.mg_of X G a19, k19⟩
  have b19 := C8.Fun.binds D19.fn rfl (ps := ["text"]) fun _ _ _ _ _ _ us hl => match us, hl with | [_], _ => rfl
  have D20 : C8.Def K mg "law" s_law fa _ := ⟨⟨_, _, _, _, _, _, _, _, _, _, rfl, l20, c20⟩, PySem.W.mg_of X G a20, k20⟩
  have z_len := PySem.W.mg_none_of X G zz_len
  have z_abs := PySem.W.mg_none_of X G zz_abs
  have z_int := PySem.W.mg_none_of X G zz_int
  have z_list := PySem.W.mg_none_of X G zz_list
  have z_range := PySem.W.mg_none_of X G zz_range
  have z_min := PySem.W.mg_none_of X G zz_min
  have z_str := PySem.W.mg_none_of X G zz_str
  have z_isinstance := PySem.W.mg_none_of X G zz_isinstance
  have z_bool := PySem.W.mg_none_of X G zz_bool
  have g_LOWER : ∃ u, mg "LOWER" = some u ∧ RelV (.str (S LOW)) u := ⟨_, PySem.W.mg_of X G gg_LOWER, _, rfl⟩
  have g_UPPER : ∃ u, mg "UPPER" = some u ∧ RelV (.str (S UPP)) u := ⟨_, PySem.W.mg_of X G gg_UPPER, _, rfl⟩
  have g_DIGITS : ∃ u, mg "DIGITS" = some u ∧ RelV (.str (S DIG)) u := ⟨_, PySem.W.mg_of X G gg_DIGITS, _, rfl⟩
  have g_LENGTH_LIMIT : ∃ u, mg "LENGTH_LIMIT" = some u ∧ RelV (.int 12) u := ⟨_, PySem.W.mg_of X G gg_LENGTH_LIMIT, _, rfl⟩
  have g_NUMBER_LIMIT : ∃ u, mg "NUMBER_LIMIT" = some u ∧ RelV (.int 255) u := ⟨_, PySem.W.mg_of X G gg_NUMBER_LIMIT, _, rfl⟩
  have g_TEXT_LIMIT : ∃ u, mg "TEXT_LIMIT" = some u ∧ RelV (.int 4000) u := ⟨_, PySem.W.mg_of X G gg_TEXT_LIMIT, _, rfl⟩
  have g_RESERVED : ∃ u, mg "RESERVED" = some u ∧ RelV (.ref A_RESERVED) u := ⟨_, PySem.W.mg_of X G gg_RESERVED, rfl⟩
  have q_RESERVED : ∀ H, SqT K H A_RESERVED (RES.map vS) := fun H => .inr ⟨_, its_RESERVED, n_RESERVED, gl_RESERVED, rfl, rfl, gz_RESERVED, gv_RESERVED⟩
  have g_SIGNS : ∃ u, mg "SIGNS" = some u ∧ RelV (.ref A_SIGNS) u := ⟨_, PySem.W.mg_of X G gg_SIGNS, rfl⟩
  have q_SIGNS : ∀ H, SqT K H A_SIGNS (SGN.map vS) := fun H => .inr ⟨_, its_SIGNS, n_SIGNS, gl_SIGNS, rfl, rfl, gz_SIGNS, gv_SIGNS⟩
  have T_Malformed : OexC K CM := ⟨⟨_, _, _, _, _, _, _, _, _, _, _, _, _, _, _, xc_Malformed, xr_Malformed⟩, xs_Malformed, xe_Malformed, xy_Malformed, xk_Malformed⟩
  have F_Malformed : C8.Fun K "__init__" "Malformed.__init__" si_Malformed fI_Malformed _ := ⟨_, _, _, _, _, _, _, _, _, _, rfl, xl_Malformed, xq_Malformed⟩
  have bb_Malformed := C8.Fun.binds F_Malformed rfl (ps := ["self", "at"]) fun _ _ _ _ _ _ us hl => match us, hl with | [_, _], _ => rfl
  have T_Oversized : OexC K CO := ⟨⟨_, _, _, _, _, _, _, _, _, _, _, _, _, _, _, xc_Oversized, xr_Oversized⟩, xs_Oversized, xe_Oversized, xy_Oversized, xk_Oversized⟩
  have F_Oversized : C8.Fun K "__init__" "Oversized.__init__" si_Oversized fI_Oversized _ := ⟨_, _, _, _, _, _, _, _, _, _, rfl, xl_Oversized, xq_Oversized⟩
  have bb_Oversized := C8.Fun.binds F_Oversized rfl (ps := ["self", "limit"]) fun _ _ _ _ _ _ us hl => match us, hl with | [_, _], _ => rfl
  have ex_CMCM := exm_of xe_Malformed xz_Malformed xy_Malformed ss_CMCM
  have ex_COCM := exm_of xe_Malformed xz_Malformed xy_Malformed ss_COCM
  have ex_COCO := exm_of xe_Oversized xz_Oversized xy_Oversized ss_COCO
  refine ⟨PySem.W.fnOf "law" "law" (C8.fnArgs s_law) (C8.fnBody s_law) (C8.fnScope s_law) .none kV20 dc20 pm20 an20 cd20 ct20, fun s v => .of_eq rfl, fun base _ _ => ?_⟩
  have x_Malformed : ExF l.prog w K mg base "Malformed" CM "at" := ⟨T_Malformed, PySem.W.mg_of X G xa_Malformed, ⟨xg_Malformed, xh_Malformed, xe_Malformed, xd_Malformed⟩, xn_Malformed, _, _, xi_Malformed, xt_Malformed, f_ini_Malformed T_Malformed xn_Malformed F_Malformed, bb_Malformed⟩
  have x_Oversized : ExF l.prog w K mg base "Oversized" CO "limit" := ⟨T_Oversized, PySem.W.mg_of X G xa_Oversized, ⟨xg_Oversized, xh_Oversized, xe_Oversized, xd_Oversized⟩, xn_Oversized, _, _, xi_Oversized, xt_Oversized, f_ini_Oversized T_Oversized xn_Oversized F_Oversized, bb_Oversized⟩
  have c__law_wide := c__law_wide (P := l.prog) (w := w) (base := base) D0 b0 z_len z_abs z_int
  have c__law_take := c__law_take (P := l.prog) (w := w) (base := base) D1 b1 z_int c__law_wide
  have c__law_pool := c__law_pool (P := l.prog) (w := w) (base := base) D2 b2 z_list
  have c__law_reserved := c__law_reserved (P := l.prog) (w := w) (base := base) D3 b3 
  have c__law_signs := c__law_signs (P := l.prog) (w := w) (base := base) D4 b4 
  have c__law_name := c__law_name (P := l.prog) (w := w) (base := base) D5 b5 c__law_take c__law_reserved z_range
  have c__law_word := c__law_word (P := l.prog) (w := w) (base := base) D6 b6 c__law_take z_range
  have c__law_space := c__law_space (P := l.prog) (w := w) (base := base) D7 b7 c__law_take
  have c__law_joins := c__law_joins (P := l.prog) (w := w) (base := base) D8 b8 c__law_signs z_len
  have c__law_text := c__law_text (P := l.prog) (w := w) (base := base) D9 b9 c__law_space c__law_joins z_range z_len z_min
  have c__law_bad := c__law_bad (P := l.prog) (w := w) (base := base) D10 b10 c__law_take z_str
  have c_stands_at := c_stands_at (P := l.prog) (w := w) (base := base) D11 b11 z_len
  have c_run_end := c_run_end (P := l.prog) (w := w) (base := base) D12 b12 c_stands_at
  have c_name_at := c_name_at (P := l.prog) (w := w) (base := base) D13 b13 c_stands_at c_run_end x_Malformed g_LOWER g_UPPER g_DIGITS g_LENGTH_LIMIT g_RESERVED q_RESERVED
  have c_word_at := c_word_at (P := l.prog) (w := w) (base := base) D14 b14 c_stands_at c_run_end x_Malformed g_LOWER g_UPPER g_DIGITS g_LENGTH_LIMIT
  have c_number_at := c_number_at (P := l.prog) (w := w) (base := base) D15 b15 c_stands_at c_run_end x_Malformed g_LOWER g_UPPER g_DIGITS g_NUMBER_LIMIT z_int
  have c_sign_at := c_sign_at (P := l.prog) (w := w) (base := base) D16 b16 g_SIGNS q_SIGNS x_Malformed z_len
  have c_token_at := c_token_at (P := l.prog) (w := w) (base := base) D17 b17 c_name_at c_word_at c_number_at c_sign_at g_LOWER g_UPPER g_DIGITS
  have c_tokens := c_tokens (P := l.prog) (w := w) (base := base) D18 b18 x_Oversized c_token_at g_TEXT_LIMIT z_len
  have c__law_told := c__law_told (P := l.prog) (w := w) (base := base) D19 b19 x_Malformed x_Oversized ex_CMCM ex_COCM ex_COCO c_tokens
  exact f_law D20 c__law_pool c__law_take c__law_name c__law_word c__law_bad c__law_text c__law_told z_range z_len z_str z_isinstance z_bool
end K01
open PySem PySem.W PyProof.Rows
set_option maxRecDepth 100000 in
set_option maxHeartbeats 0 in
theorem PySem.Challenge.cw_digitwise_k01_refused_texts_holds : PySem.Challenge.rw_digitwise_k01_refused_texts.Holds := by
  w_on; o_law; k_head; (case hw => w_witness2)
  k_fill
  refine L2.walk_of (l := PySem.Challenge.rw_digitwise_k01_refused_texts) (n := 63) (k := 7) (x := "script") (CX := fun _ => C8.CX0) (sp := fun w => K01.spLaw _) rfl (by decide) rfl ⟨rfl, by decide, by decide⟩ (fun w h Y => PySem.W.kIn_of Y) ?F (fun _ _ a ns hl _ hS => ⟨a, ns, rfl, hS, hl, fun _ => rfl⟩) (fun _ _ _ _ _ h => h)
  case F =>
    intro w mg fa h KX G hmg
    refine' K01.all_mk KX G hmg ?a0 ?l0 ?c0 ?k0 ?a1 ?l1 ?c1 ?k1 ?a2 ?l2 ?c2 ?k2 ?a3 ?l3 ?c3 ?k3 ?a4 ?l4 ?c4 ?k4 ?a5 ?l5 ?c5 ?k5 ?a6 ?l6 ?c6 ?k6 ?a7 ?l7 ?c7 ?k7 ?a8 ?l8 ?c8 ?k8 ?a9 ?l9 ?c9 ?k9 ?a10 ?l10 ?c10 ?k10 ?a11 ?l11 ?c11 ?k11 ?a12 ?l12 ?c12 ?k12 ?a13 ?l13 ?c13 ?k13 ?a14 ?l14 ?c14 ?k14 ?a15 ?l15 ?c15 ?k15 ?a16 ?l16 ?c16 ?k16 ?a17 ?l17 ?c17 ?k17 ?a18 ?l18 ?c18 ?k18 ?a19 ?l19 ?c19 ?k19 ?a20 ?l20 ?c20 ?k20 ?zz_len ?zz_abs ?zz_int ?zz_list ?zz_range ?zz_min ?zz_str ?zz_isinstance ?zz_bool ?gg_LOWER ?gg_UPPER ?gg_DIGITS ?gg_LENGTH_LIMIT ?gg_NUMBER_LIMIT ?gg_TEXT_LIMIT ?gg_RESERVED ?gl_RESERVED ?gv_RESERVED ?gz_RESERVED ?gg_SIGNS ?gl_SIGNS ?gv_SIGNS ?gz_SIGNS ?xa_Malformed ?xc_Malformed ?xr_Malformed ?xs_Malformed ?xg_Malformed ?xh_Malformed ?xn_Malformed ?xi_Malformed ?xt_Malformed ?xl_Malformed ?xq_Malformed ?xk_Malformed ?xe_Malformed ?xy_Malformed ?xd_Malformed ?xz_Malformed ?xa_Oversized ?xc_Oversized ?xr_Oversized ?xs_Oversized ?xg_Oversized ?xh_Oversized ?xn_Oversized ?xi_Oversized ?xt_Oversized ?xl_Oversized ?xq_Oversized ?xk_Oversized ?xe_Oversized ?xy_Oversized ?xd_Oversized ?xz_Oversized ?ss_CMCM ?ss_COCM ?ss_COCO
    (case a0 => k_is)
    (case l0 => k_is)
    (case c0 => k_is)
    (case k0 => k_is)
    (case a1 => k_is)
    (case l1 => k_is)
    (case c1 => k_is)
    (case k1 => k_is)
    (case a2 => k_is)
    (case l2 => k_is)
    (case c2 => k_is)
    (case k2 => k_is)
    (case a3 => k_is)
    (case l3 => k_is)
    (case c3 => k_is)
    (case k3 => k_is)
    (case a4 => k_is)
    (case l4 => k_is)
    (case c4 => k_is)
    (case k4 => k_is)
    (case a5 => k_is)
    (case l5 => k_is)
    (case c5 => k_is)
    (case k5 => k_is)
    (case a6 => k_is)
    (case l6 => k_is)
    (case c6 => k_is)
    (case k6 => k_is)
    (case a7 => k_is)
    (case l7 => k_is)
    (case c7 => k_is)
    (case k7 => k_is)
    (case a8 => k_is)
    (case l8 => k_is)
    (case c8 => k_is)
    (case k8 => k_is)
    (case a9 => k_is)
    (case l9 => k_is)
    (case c9 => k_is)
    (case k9 => k_is)
    (case a10 => k_is)
    (case l10 => k_is)
    (case c10 => k_is)
    (case k10 => k_is)
    (case a11 => k_is)
    (case l11 => k_is)
    (case c11 => k_is)
    (case k11 => k_is)
    (case a12 => k_is)
    (case l12 => k_is)
    (case c12 => k_is)
    (case k12 => k_is)
    (case a13 => k_is)
    (case l13 => k_is)
    (case c13 => k_is)
    (case k13 => k_is)
    (case a14 => k_is)
    (case l14 => k_is)
    (case c14 => k_is)
    (case k14 => k_is)
    (case a15 => k_is)
    (case l15 => k_is)
    (case c15 => k_is)
    (case k15 => k_is)
    (case a16 => k_is)
    (case l16 => k_is)
    (case c16 => k_is)
    (case k16 => k_is)
    (case a17 => k_is)
    (case l17 => k_is)
    (case c17 => k_is)
    (case k17 => k_is)
    (case a18 => k_is)
    (case l18 => k_is)
    (case c18 => k_is)
    (case k18 => k_is)
    (case a19 => k_is)
    (case l19 => k_is)
    (case c19 => k_is)
    (case k19 => k_is)
    (case a20 => k_is)
    (case l20 => k_is)
    (case c20 => k_is)
    (case k20 => k_is)
    (case zz_len => k_is)
    (case zz_abs => k_is)
    (case zz_int => k_is)
    (case zz_list => k_is)
    (case zz_range => k_is)
    (case zz_min => k_is)
    (case zz_str => k_is)
    (case zz_isinstance => k_is)
    (case zz_bool => k_is)
    (case gg_LOWER => k_is)
    (case gg_UPPER => k_is)
    (case gg_DIGITS => k_is)
    (case gg_LENGTH_LIMIT => k_is)
    (case gg_NUMBER_LIMIT => k_is)
    (case gg_TEXT_LIMIT => k_is)
    (case gg_RESERVED => k_is)
    (case gl_RESERVED => k_is)
    (case gv_RESERVED => repeat (first | exact Paired.nil | refine Paired.cons ⟨_, rfl⟩ ?_))
    (case gz_RESERVED => decide +kernel)
    (case gg_SIGNS => k_is)
    (case gl_SIGNS => k_is)
    (case gv_SIGNS => repeat (first | exact Paired.nil | refine Paired.cons ⟨_, rfl⟩ ?_))
    (case gz_SIGNS => decide +kernel)
    (case xa_Malformed => k_is)
    (case xc_Malformed => k_is)
    (case xr_Malformed => decide +kernel)
    (case xs_Malformed => k_is)
    (case xg_Malformed => k_is)
    (case xh_Malformed => k_is)
    (case xn_Malformed => k_is)
    (case xi_Malformed => k_is)
    (case xt_Malformed => k_is)
    (case xl_Malformed => k_is)
    (case xq_Malformed => k_is)
    (case xk_Malformed => k_is)
    (case xe_Malformed => k_is)
    (case xy_Malformed => k_is)
    (case xd_Malformed => k_is)
    (case xz_Malformed => k_is)
    (case xa_Oversized => k_is)
    (case xc_Oversized => k_is)
    (case xr_Oversized => decide +kernel)
    (case xs_Oversized => k_is)
    (case xg_Oversized => k_is)
    (case xh_Oversized => k_is)
    (case xn_Oversized => k_is)
    (case xi_Oversized => k_is)
    (case xt_Oversized => k_is)
    (case xl_Oversized => k_is)
    (case xq_Oversized => k_is)
    (case xk_Oversized => k_is)
    (case xe_Oversized => k_is)
    (case xy_Oversized => k_is)
    (case xd_Oversized => k_is)
    (case xz_Oversized => k_is)
    (case ss_CMCM => first | rfl | k_is)
    (case ss_COCM => first | rfl | k_is)
    (case ss_COCO => first | rfl | k_is)
