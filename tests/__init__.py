"""The tests of callmelt."""
