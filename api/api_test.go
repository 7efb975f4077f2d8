package api

import (
	"errors"
	"testing"
)

func TestErrnoIsAnError(t *testing.T) { // P5
	var err error = ErrDead
	if !errors.Is(err, ErrDead) || errors.Is(err, ErrFull) {
		t.Error("errors.Is does not tell the numbers apart")
	}
	if err.Error() != "tocsin: error 41" {
		t.Errorf("it tells %q", err.Error())
	}
}

func TestFaultWrapsItsNumber(t *testing.T) { // P5
	var err error = &Fault{At: 19, Err: ErrNumber}
	if !errors.Is(err, ErrNumber) || errors.Is(err, ErrSyntax) {
		t.Error("errors.Is does not find the number")
	}
	var number Errno
	if !errors.As(err, &number) || number != ErrNumber {
		t.Errorf("errors.As finds the number %d", number)
	}
	var fault *Fault
	if !errors.As(err, &fault) || fault.At != 19 {
		t.Error("errors.As does not find the place")
	}
	if err.Error() != "tocsin: error 23 at 19" {
		t.Errorf("it tells %q", err.Error())
	}
}

func TestErrorsAreAsGiven(t *testing.T) { // P5
	for _, c := range []struct{ got, want Errno }{
		{OK, 0}, {ErrArg, 1}, {ErrState, 2}, {ErrUTF8, 10},
		{ErrSyntax, 20}, {ErrDepth, 21}, {ErrSize, 22}, {ErrNumber, 23}, {ErrTwice, 24}, {ErrPath, 25},
		{ErrPattern, 30}, {ErrBlock, 40}, {ErrDead, 41}, {ErrFormat, 50}, {ErrFull, 51}, {ErrRecord, 52},
		{ErrWire, 60}, {ErrCond, 70},
		{ErrKind, 80}, {ErrRule, 81}, {ErrNoRule, 82}, {ErrMany, 83}, {ErrDefault, 84}, {ErrPlace, 85},
		{ErrEvent, 90}, {ErrForeign, 91}, {ErrID, 92}, {ErrUsers, 93},
		{ErrKnown, 110}, {ErrStream, 111}, {ErrUnknown, 112},
		{ErrPusher, 130}, {ErrNoPusher, 131}, {ErrAttempt, 132},
		{ErrCommand, 140}, {ErrTime, 141}, {ErrRooms, 142}, {ErrPeople, 143},
		{ErrBroken, 150}, {ErrDone, 151}, {ErrText, 160},
		{ErrToken, 170}, {ErrExpired, 171}, {ErrRevoked, 172}, {ErrRate, 173},
		{ErrRequest, 180}, {ErrHead, 181}, {ErrBody, 182}, {ErrCoding, 183}, {ErrVersion, 184},
		{ErrRoute, 190}, {ErrMethod, 191}, {ErrSince, 200},
		{ErrLeader, 210}, {ErrBusy, 211}, {ErrLetter, 212}, {ErrConn, 220},
	} {
		if c.got != c.want {
			t.Errorf("error %d is %d", c.want, c.got)
		}
	}
}

func TestLimitsAreAsGiven(t *testing.T) { // P5
	for _, c := range []struct {
		name      string
		got, want int
	}{
		{"MaxJSON", MaxJSON, 4096}, {"MaxDepth", MaxDepth, 10}, {"MaxItems", MaxItems, 64}, {"MaxInt", MaxInt, 1<<53 - 1},
		{"MaxPath", MaxPath, 200}, {"MaxPattern", MaxPattern, 100},
		{"BlockSize", BlockSize, 64}, {"MaxBlocks", MaxBlocks, 4096}, {"MinBlocks", MinBlocks, 8}, {"MaxRecord", MaxRecord, 6000},
		{"MaxRules", MaxRules, 40}, {"MaxConds", MaxConds, 10}, {"MaxID", MaxID, 60}, {"MaxLevel", MaxLevel, 1000},
		{"MaxUsers", MaxUsers, 60}, {"MaxRooms", MaxRooms, 20}, {"MaxPeople", MaxPeople, 200}, {"MaxEvents", MaxEvents, 5000},
		{"MaxCount", MaxCount, 99}, {"MaxQueue", MaxQueue, 8}, {"MaxPushers", MaxPushers, 4},
		{"BaseDelay", BaseDelay, 2}, {"MaxDelay", MaxDelay, 60}, {"MaxTime", MaxTime, 1000000000},
		{"MaxLife", MaxLife, 1000000}, {"MaxBurst", MaxBurst, 100},
		{"MaxHead", MaxHead, 2048}, {"MaxHeaders", MaxHeaders, 32}, {"MaxTarget", MaxTarget, 512}, {"MaxBody", MaxBody, 6000},
		{"MaxHistory", MaxHistory, 50}, {"Houses", Houses, 3}, {"MaxEntries", MaxEntries, 400}, {"MaxPack", MaxPack, 8},
		{"Patience", Patience, 10}, {"Beat", Beat, 3}, {"MaxConns", MaxConns, 8},
		{"HouseLife", HouseLife, 1000}, {"HouseBurst", HouseBurst, 20}, {"HouseRate", HouseRate, 2},
		{"MinKey", MinKey, 16}, {"MaxKey", MaxKey, 64},
		{"Ask", Ask, 1}, {"Vote", Vote, 2}, {"Append", Append, 3}, {"Answer", Answer, 4},
	} {
		if c.got != c.want {
			t.Errorf("%s is %d, not %d", c.name, c.got, c.want)
		}
	}
	if Home != "home" {
		t.Errorf("Home is %q", Home)
	}
}
