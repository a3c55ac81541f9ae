// Package serve_test holds the calls of all layers against what their chapters list: serve is the layer that stands on all others.
package serve_test

import (
	"testing"

	"tansy/api"
	"tansy/coder"
	"tansy/crc"
	"tansy/derive"
	"tansy/disk"
	"tansy/envelope"
	"tansy/extent"
	"tansy/match"
	"tansy/model"
	"tansy/name"
	"tansy/open"
	"tansy/perm"
	"tansy/pins"
	"tansy/press"
	"tansy/prob"
	"tansy/rank"
	"tansy/root"
	"tansy/serve"
	"tansy/solid"
	"tansy/space"
	"tansy/stage"
	"tansy/table"
	"tansy/valid"
	"tansy/vault"
	"tansy/wire"
)

// TestCalls passes as soon as this file compiles: a call that is not there, or has another signature, does not.
func TestCalls(t *testing.T) {}

// Layer 1.
var (
	_ func(int) (api.Disk, api.Errno)                   = disk.New
	_ func(api.Disk) api.Errno                          = disk.Check
	_ func(api.Disk, int, []byte) (api.Disk, api.Errno) = disk.Write
	_ func(api.Disk, int) ([]byte, api.Errno)           = disk.Read
	_ func(api.Disk) (api.Disk, api.Errno)              = disk.Sync
	_ func(api.Disk, []byte) (api.Disk, api.Errno)      = disk.Crash
	_ func(api.Disk, int) (api.Disk, api.Errno)         = disk.Limit
	_ func(api.Disk, api.Disk) bool                     = disk.Same
)

// Layer 2.
var (
	_ func(int) (api.Extents, api.Errno)                          = extent.New
	_ func(api.Extents) api.Errno                                 = extent.Check
	_ func(api.Extents, int) (api.Extent, api.Extents, api.Errno) = extent.Take
	_ func(api.Extents, api.Extent) (api.Extents, api.Errno)      = extent.Keep
	_ func(api.Extents, api.Extent) (api.Extents, api.Errno)      = extent.Give
	_ func(api.Extents) (int, api.Errno)                          = extent.Room
	_ func(api.Extents, api.Extents) bool                         = extent.Same
)

// Layer 3.
var (
	_ func([]byte) uint32                           = crc.Sum
	_ func(uint32, []byte) uint32                   = crc.Step
	_ func(uint32, uint32, int) (uint32, api.Errno) = crc.Join
	_ func([]byte) []byte                           = crc.Seal
	_ func([]byte) ([]byte, api.Errno)              = crc.Open
)

// Layer 4.
var (
	_ func([]byte, int) (api.Token, api.Errno)   = match.Find
	_ func([]byte) ([]api.Token, api.Errno)      = match.Tokens
	_ func([]api.Token, int) ([]byte, api.Errno) = match.Text
	_ func([]api.Token) api.Errno                = match.Check
	_ func([]api.Token) (int, api.Errno)         = match.Long
)

// Layer 5.
var (
	_ func(int, bool) (int, api.Errno)          = prob.Learn
	_ func(int) ([]int, api.Errno)              = prob.New
	_ func([]int) api.Errno                     = prob.Check
	_ func([]int, []api.Bit) ([]int, api.Errno) = prob.All
	_ func(uint32, int) (uint32, api.Errno)     = prob.Split
)

// Layer 6.
var (
	_ func(int, []api.Bit) ([]byte, api.Errno)          = coder.Encode
	_ func(int, []byte, []int) ([]bool, int, api.Errno) = coder.Decode
	_ func(int, []byte) (*coder.Reader, api.Errno)      = coder.NewReader
	_ func(*coder.Reader, int) (bool, api.Errno)        = (*coder.Reader).Next
	_ func(*coder.Reader) int                           = (*coder.Reader).Used
)

// Layer 7.
var (
	_ func([]api.Token) ([]api.Bit, api.Errno) = press.Bits
	_ func([]byte) ([]byte, api.Errno)         = press.Pack
	_ func([]byte) (int, api.Errno)            = press.Long
	_ func([]byte, int) ([]byte, api.Errno)    = press.Unpack
)

// Layer 8.
var (
	_ func(api.Words) api.Words                      = perm.Perm
	_ func(api.Words) api.Words                      = perm.Back
	_ func(api.Words, []byte) (api.Words, api.Errno) = perm.Absorb
	_ func(api.Words, int) ([]byte, api.Errno)       = perm.Squeeze
	_ func(api.Words) []byte                         = perm.Octets
	_ func([]byte) (api.Words, api.Errno)            = perm.Of
)

// Layer 9.
var (
	_ func(api.Words, uint64, int) ([]byte, api.Errno)       = envelope.Stream
	_ func(api.Words, uint64, []byte) (api.Words, api.Errno) = envelope.Tag
	_ func(api.Ring, []byte) (api.Box, api.Ring, api.Errno)  = envelope.Seal
	_ func(api.Words, api.Box) ([]byte, api.Errno)           = envelope.Open
	_ func(api.Box) ([]byte, api.Errno)                      = envelope.Bytes
	_ func([]byte) (api.Box, api.Errno)                      = envelope.From
	_ func(api.Box, api.Box) bool                            = envelope.Same
)

// Layer 10.
var (
	_ func([]byte, []byte) (api.Words, api.Errno)         = derive.Start
	_ func(api.Words, []byte, int) (api.Words, api.Errno) = derive.Go
	_ func([]byte, []byte, int) (api.Words, api.Errno)    = derive.Key
	_ func(api.Words) uint32                              = derive.Mark
)

// Layer 11.
var (
	_ func(string) (string, api.Errno)         = name.Clean
	_ func(string) api.Errno                   = name.Check
	_ func(string, string) (string, api.Errno) = name.Join
	_ func(string) (string, string, api.Errno) = name.Split
	_ func(string, string) (bool, api.Errno)   = name.Within
	_ func(string, string) (int, api.Errno)    = name.Cmp
)

// Layer 12.
var (
	_ func(float64) uint64              = rank.Key
	_ func(uint64) (float64, api.Errno) = rank.Of
	_ func(float64, float64) int        = rank.Cmp
	_ func(float64, float64) bool       = rank.Same
	_ func(float64, float64) float64    = rank.Mid
	_ func([]float64) []float64         = rank.Order
)

// Layer 13.
var (
	_ func([]api.File) api.Errno                               = table.Check
	_ func([]api.File, string) (api.File, api.Errno)           = table.Get
	_ func([]api.File, api.File) ([]api.File, api.Errno)       = table.Put
	_ func([]api.File, string) ([]api.File, api.Errno)         = table.Del
	_ func([]api.File, string, string) ([]api.File, api.Errno) = table.Move
	_ func([]api.File, string) ([]api.File, api.Errno)         = table.Within
	_ func([]api.File) ([]api.File, api.Errno)                 = table.Best
	_ func([]api.File, []api.File) bool                        = table.Same
)

// Layer 14.
var (
	_ func([]api.File) ([]byte, api.Errno) = wire.Bytes
	_ func([]byte) ([]api.File, api.Errno) = wire.From
	_ func(api.File) ([]byte, api.Errno)   = wire.One
	_ func([]api.File) (int, api.Errno)    = wire.Long
)

// Layer 15.
var (
	_ func(api.Ring, []byte) ([]byte, api.Ring, api.Errno)                = solid.Seal
	_ func(api.Words, []byte) ([]byte, api.Errno)                         = solid.Open
	_ func(api.Ring, [][]byte) ([]byte, []api.Piece, api.Ring, api.Errno) = solid.Build
	_ func([]byte, api.Piece) ([]byte, api.Errno)                         = solid.Cut
	_ func(api.Words, []byte, []api.Piece) api.Errno                      = solid.Test
)

// Layer 16.
var (
	_ func(api.Root) api.Errno                       = root.Check
	_ func(api.Root) ([]byte, api.Errno)             = root.Octets
	_ func([]byte) (api.Root, api.Errno)             = root.Of
	_ func(api.Disk, api.Root) (api.Disk, api.Errno) = root.Write
	_ func(api.Disk) (api.Root, api.Errno)           = root.Find
)

// Layer 17.
var (
	_ func([]api.Pin) api.Errno                      = pins.Check
	_ func([]api.Pin, uint64) ([]api.Pin, api.Errno) = pins.Open
	_ func([]api.Pin, uint64) ([]api.Pin, api.Errno) = pins.Close
	_ func([]api.Pin, uint64) (int, api.Errno)       = pins.Many
	_ func([]api.Pin) (uint64, api.Errno)            = pins.Least
	_ func([]api.Pin, []api.Pin) bool                = pins.Same
)

// Layer 18.
var (
	_ func(int) (api.Space, api.Errno)                             = space.New
	_ func(api.Space) api.Errno                                    = space.Check
	_ func(api.Space, int) (api.Extent, api.Space, api.Errno)      = space.Take
	_ func(api.Space, api.Extent) (api.Space, api.Errno)           = space.Drop
	_ func(api.Space, uint64, []api.Extent) (api.Space, api.Errno) = space.Commit
	_ func(api.Space, uint64) (api.Space, api.Errno)               = space.Pin
	_ func(api.Space, uint64) (api.Space, api.Errno)               = space.Unpin
	_ func(api.Space) (api.Space, api.Errno)                       = space.Step
	_ func(api.Space) (int, api.Errno)                             = space.Used
	_ func(api.Space, api.Space) bool                              = space.Same
)

// Layer 19.
var (
	_ func([]api.Done) api.Errno                                 = valid.Check
	_ func(api.Reads) api.Errno                                  = valid.May
	_ func([]api.Done, uint64, []string) ([]api.Done, api.Errno) = valid.Add
	_ func([]api.Done, uint64) ([]api.Done, api.Errno)           = valid.Trim
	_ func(api.Reads, []string) (bool, api.Errno)                = valid.Touch
	_ func([]api.Done, uint64, api.Reads) (uint64, api.Errno)    = valid.Clash
	_ func([]api.Done, []api.Done) bool                          = valid.Same
)

// Layer 20.
var (
	_ func([]api.File, uint64) (api.Stage, api.Errno)                   = stage.Begin
	_ func(api.Stage) api.Errno                                         = stage.Check
	_ func(api.Stage, string) (api.Edit, api.Stage, api.Errno)          = stage.See
	_ func(api.Stage, string) ([]string, api.Stage, api.Errno)          = stage.List
	_ func(api.Stage, string, float64, []byte) (api.Stage, api.Errno)   = stage.Put
	_ func(api.Stage, string) (api.Errno, api.Stage, api.Errno)         = stage.Del
	_ func(api.Stage, string, string) (api.Errno, api.Stage, api.Errno) = stage.Move
	_ func(api.Stage) ([]string, api.Errno)                             = stage.Writes
	_ func(api.Stage, api.Stage) bool                                   = stage.Same
)

// Layer 21.
var (
	_ func(int, api.Words) (api.Vault, api.Errno)              = vault.New
	_ func(api.Vault) api.Errno                                = vault.Check
	_ func(api.Vault) uint64                                   = vault.Gen
	_ func(int) (int, api.Errno)                               = vault.Need
	_ func(api.Disk, api.Extent, []byte) (api.Disk, api.Errno) = vault.Store
	_ func(api.Disk, int) ([]byte, api.Errno)                  = vault.Load
	_ func(api.Vault, api.File) ([]byte, api.Errno)            = vault.Data
	_ func(api.Vault, api.Stage) (api.Vault, api.Errno)        = vault.Commit
	_ func(api.Vault, api.Vault) bool                          = vault.Same
)

// Layer 22.
var (
	_ func(api.Disk, api.Words) (api.Vault, api.Errno)     = open.Open
	_ func(api.Disk, []api.File) ([]api.Extent, api.Errno) = open.Blocks
	_ func(api.Vault) (int, api.Errno)                     = open.Test
	_ func(api.Vault) (api.Vault, api.Errno)               = open.Rest
)

// Layer 23.
var (
	_ func() api.Model                                           = model.New
	_ func(api.Model) api.Errno                                  = model.Check
	_ func(api.Model, api.Act) (api.Model, api.Reply, api.Errno) = model.Do
	_ func(api.Model, api.Model) bool                            = model.Same
	_ func(api.Reply, api.Reply) bool                            = model.SameReply
)

// Layer 24.
var (
	_ func(int, api.Words) (api.Server, api.Errno)                     = serve.New
	_ func(api.Server) api.Errno                                       = serve.Check
	_ func(api.Server, api.Act) (api.Server, api.Reply, api.Errno)     = serve.Do
	_ func(api.Server, []api.Act) (api.Server, []api.Reply, api.Errno) = serve.Run
	_ func(api.Server, []byte) (api.Server, api.Errno)                 = serve.Recover
	_ func(api.Server, api.Server) bool                                = serve.Same
)
