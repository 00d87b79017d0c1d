/-
  SHA-256 as a plain function on lists; the words are those that a walk leaves.
-/
import Derived.WalkKit
namespace Go.Proofs.YthegllpmefilkaaDoor
/-- A word turned to the right. -/
def rorI (x n : Int) : Int := bits .or .u32 (x / 2 ^ n.toNat) (x * 2 ^ (32 - n).toNat % 4294967296)
def chI (x y z : Int) : Int := bits .xor .u32 (bits .and .u32 x y) (bits .and .u32 (bits .xor .u32 IntKind.u32.max x) z)
def mjI (x y z : Int) : Int := bits .xor .u32 (bits .xor .u32 (bits .and .u32 x y) (bits .and .u32 x z)) (bits .and .u32 y z)
def sg0 (x : Int) : Int := bits .xor .u32 (bits .xor .u32 (rorI x 7) (rorI x 18)) (x / 8)
def sg1 (x : Int) : Int := bits .xor .u32 (bits .xor .u32 (rorI x 17) (rorI x 19)) (x / 1024)
def sgA (x : Int) : Int := bits .xor .u32 (bits .xor .u32 (rorI x 2) (rorI x 13)) (rorI x 22)
def sgE (x : Int) : Int := bits .xor .u32 (bits .xor .u32 (rorI x 6) (rorI x 11)) (rorI x 25)
def tabK : List Int := [
  0x428a2f98, 0x71374491, 0xb5c0fbcf, 0xe9b5dba5, 0x3956c25b, 0x59f111f1, 0x923f82a4, 0xab1c5ed5,
  0xd807aa98, 0x12835b01, 0x243185be, 0x550c7dc3, 0x72be5d74, 0x80deb1fe, 0x9bdc06a7, 0xc19bf174,
  0xe49b69c1, 0xefbe4786, 0x0fc19dc6, 0x240ca1cc, 0x2de92c6f, 0x4a7484aa, 0x5cb0a9dc, 0x76f988da,
  0x983e5152, 0xa831c66d, 0xb00327c8, 0xbf597fc7, 0xc6e00bf3, 0xd5a79147, 0x06ca6351, 0x14292967,
  0x27b70a85, 0x2e1b2138, 0x4d2c6dfc, 0x53380d13, 0x650a7354, 0x766a0abb, 0x81c2c92e, 0x92722c85,
  0xa2bfe8a1, 0xa81a664b, 0xc24b8b70, 0xc76c51a3, 0xd192e819, 0xd6990624, 0xf40e3585, 0x106aa070,
  0x19a4c116, 0x1e376c08, 0x2748774c, 0x34b0bcb5, 0x391c0cb3, 0x4ed8aa4a, 0x5b9cca4f, 0x682e6ff3,
  0x748f82ee, 0x78a5636f, 0x84c87814, 0x8cc70208, 0x90befffa, 0xa4506ceb, 0xbef9a3f7, 0xc67178f2]
def kK (i : Nat) : Int := tabK.getD i 0
/-- A state: eight words. -/
structure St where
  a : Int
  b : Int
  c : Int
  d : Int
  e : Int
  f : Int
  g : Int
  h : Int
def St.l (s : St) : List Int := [s.a, s.b, s.c, s.d, s.e, s.f, s.g, s.h]
def st0 : St := ⟨0x6a09e667, 0xbb67ae85, 0x3c6ef372, 0xa54ff53a, 0x510e527f, 0x9b05688c, 0x1f83d9ab, 0x5be0cd19⟩
/-- A block's word: four bytes, the highest first. -/
def wordI (b : List UInt8) (i : Nat) : Int :=
  bits .or .u32 (bits .or .u32 (bits .or .u32 (((b.getD (4 * i) 0).toNat : Int) * 16777216) (((b.getD (4 * i + 1) 0).toNat : Int) * 65536)) (((b.getD (4 * i + 2) 0).toNat : Int) * 256)) ((b.getD (4 * i + 3) 0).toNat : Int)
/-- The words of a block, the first n of them: 16 as they stand, the others out of those ahead. -/
def nextW (l : List Int) (i : Nat) : Int := (l.getD (i - 16) 0 + sg0 (l.getD (i - 15) 0) + l.getD (i - 7) 0 + sg1 (l.getD (i - 2) 0)) % 4294967296
def schN (b : List UInt8) : Nat → List Int
  | 0 => []
  | n + 1 => schN b n ++ [if n < 16 then wordI b n else nextW (schN b n) n]
def sch (b : List UInt8) : List Int := schN b 64
def t1 (s : St) (k w : Int) : Int := (s.h + sgE s.e + chI s.e s.f s.g + k + w) % 4294967296
def t2 (s : St) : Int := (sgA s.a + mjI s.a s.b s.c) % 4294967296
def rnd (s : St) (k w : Int) : St := ⟨(t1 s k w + t2 s) % 4294967296, s.a, s.b, s.c, (s.d + t1 s k w) % 4294967296, s.e, s.f, s.g⟩
/-- The state behind n rounds. -/
def rnds (s : St) (ws : List Int) : Nat → St
  | 0 => s
  | n + 1 => rnd (rnds s ws n) (kK n) (ws.getD n 0)
def St.add (s t : St) : St := ⟨(s.a + t.a) % 4294967296, (s.b + t.b) % 4294967296, (s.c + t.c) % 4294967296, (s.d + t.d) % 4294967296, (s.e + t.e) % 4294967296, (s.f + t.f) % 4294967296, (s.g + t.g) % 4294967296, (s.h + t.h) % 4294967296⟩
def mixS (s : St) (b : List UInt8) : St := s.add (rnds s (sch b) 64)
/-- n blocks, one behind the other. -/
def mixN (s : St) (b : List UInt8) : Nat → St
  | 0 => s
  | n + 1 => mixS (mixN s b n) ((b.drop (64 * n)).take 64)
def byteI (x : Int) : UInt8 := UInt8.ofNat (x % 256).toNat
def wordB (x : Int) : List UInt8 := [byteI (x / 16777216), byteI (x / 65536), byteI (x / 256), byteI x]
def outB (l : List Int) : List UInt8 := (l.map wordB).flatten
/-- How many noughts stand behind the byte 128. -/
def padZ (n : Nat) : Nat := (119 - n % 64) % 64
def lenB (n : Nat) : List UInt8 := (List.range 8).map fun i => byteI ((n : Int) * 8 / 2 ^ (56 - 8 * i))
def padded (m : List UInt8) : List UInt8 := m ++ [128] ++ List.replicate (padZ m.length) 0 ++ lenB m.length
def shaB (m : List UInt8) : List UInt8 := outB (mixN st0 (padded m) ((padded m).length / 64)).l
end Go.Proofs.YthegllpmefilkaaDoor
