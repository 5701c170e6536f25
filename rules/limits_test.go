package rules

import (
	"strconv"
	"strings"
	"testing"

	"polder/api"
)

func TestLimits(t *testing.T) {
	for _, c := range []struct {
		name      string
		got, want int
	}{
		{"SectorSize", api.SectorSize, 256},
		{"BodySize", api.BodySize, 240},
		{"BlockSize", api.BlockSize, 64},
		{"MaxSectors", api.MaxSectors, 4096},
		{"MinPages", api.MinPages, 16},
		{"MaxPages", api.MaxPages, 1024},
		{"PerCounts", api.PerCounts, 120},
		{"MaxCount", api.MaxCount, 1000},
		{"MinLog", api.MinLog, 64},
		{"MaxImages", api.MaxImages, 40},
		{"MaxNumber", api.MaxNumber, 1099511627776},
		{"MaxKeys", api.MaxKeys, 8},
		{"MinKeys", api.MinKeys, 4},
		{"MaxVolumes", api.MaxVolumes, 8},
		{"MaxBlocks", api.MaxBlocks, 1048576},
		{"MaxStack", api.MaxStack, 8},
		{"MaxID", api.MaxID, 1073741824},
		{"MaxSpan", api.MaxSpan, 8},
		{"MaxData", api.MaxData, 1024},
		{"MaxWindow", api.MaxWindow, 8},
		{"MaxSessions", api.MaxSessions, 4},
		{"MaxConns", api.MaxConns, 4},
		{"MaxSteps", api.MaxSteps, 256},
		{"MaxScript", api.MaxScript, 65536},
	} {
		if c.got != c.want {
			t.Errorf("%s = %d, not %d", c.name, c.got, c.want)
		}
	}
}

func TestErrors(t *testing.T) {
	for _, c := range []struct {
		name string
		got  api.Errno
		want int
	}{
		{"OK", api.OK, 0},
		{"ErrArg", api.ErrArg, 1},
		{"ErrRange", api.ErrRange, 2},
		{"ErrRead", api.ErrRead, 10},
		{"ErrWrite", api.ErrWrite, 11},
		{"ErrFlush", api.ErrFlush, 12},
		{"ErrSum", api.ErrSum, 13},
		{"ErrImage", api.ErrImage, 14},
		{"ErrFull", api.ErrFull, 15},
		{"ErrTooBig", api.ErrTooBig, 16},
		{"ErrBusy", api.ErrBusy, 17},
		{"ErrIdle", api.ErrIdle, 18},
		{"ErrSpace", api.ErrSpace, 20},
		{"ErrCount", api.ErrCount, 21},
		{"ErrNode", api.ErrNode, 22},
		{"ErrQuota", api.ErrQuota, 30},
		{"ErrVolume", api.ErrVolume, 31},
		{"ErrVolumes", api.ErrVolumes, 32},
		{"ErrInUse", api.ErrInUse, 33},
		{"ErrBlock", api.ErrBlock, 34},
		{"ErrHeader", api.ErrHeader, 40},
		{"ErrDigest", api.ErrDigest, 41},
		{"ErrLong", api.ErrLong, 42},
		{"ErrKeys", api.ErrKeys, 43},
		{"ErrLogin", api.ErrLogin, 44},
		{"ErrWindow", api.ErrWindow, 45},
		{"ErrTask", api.ErrTask, 46},
		{"ErrSession", api.ErrSession, 47},
		{"ErrConn", api.ErrConn, 48},
		{"ErrOp", api.ErrOp, 50},
		{"ErrLine", api.ErrLine, 51},
		{"ErrScript", api.ErrScript, 52},
	} {
		if int(c.got) != c.want {
			t.Errorf("%s = %d, not %d", c.name, int(c.got), c.want)
		}
		if text := c.got.Error(); !strings.Contains(text, strconv.Itoa(c.want)) {
			t.Errorf("%s tells %q, not its number", c.name, text)
		}
	}
}
