"""Tests of Beatlamps."""
