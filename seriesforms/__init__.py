"""Seriesforms: formulas of time series with gaps, decided for all series."""
