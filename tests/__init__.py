"""The tests of wheneverclear."""
