"""Pastenough: how much branch history a predictor needs."""
